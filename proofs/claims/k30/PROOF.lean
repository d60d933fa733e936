import PyProof.Rows.All
import Wide.All
import OpenK.AllK
import Wide.FinOn
import Lean
import PyProof.EqAt
import PyProof.EqKinds
import PyProof.TupleCall
import PyProof.ListRange
import PyProof.TupleOfSeq
import PyProof.ConsumeWalk
import PyProof.WalksMore
import PyProof.Draws
import PyProof.EnumMake
import PyProof.ZipIter
import PyProof.Rows.EnumRows
import PyProof.Rows.FactsT2
import PyProof.MeetsSeq3
import PyProof.DictRoadsH
import PyProof.Rows.TupTab
import PyProof.Rows.SortWalk
import PyProof.Rows.SeqCalls
import PyProof.ListMulRoad
import KE.KDictLaws
import OpenK.KRaise
import KE.KLam
import KE.KNestM
import PyProof.IsRules
import PySem.Challenge.RW_guisery_k30_whole_orders
set_option Elab.async false
set_option linter.all false
set_option maxRecDepth 100000
set_option maxHeartbeats 4000000
namespace L2
open PySem PySem.Spec PyProof.Rows
abbrev Key:=Sum Int Str
def za9:Key→Value→Bool
 | .inl k,v=>Value.isInt k v
 | .inr x,v=>Value.isStrOf x v
def zi3 (w:World):Key→Int
 | .inl k=>hashInt k
 | .inr x=>hashStr w x
theorem z1b:∀ {k:Key} {v:Value},za9 k v=true→(∃ i t,k=Sum.inl i∧v=Value.int i t)∨(∃ x t,k=Sum.inr x∧v=Value.str x t)
 | .inl i,v,h=>by
  obtain ⟨t,e⟩:=Value.isInt_shape (k:=i) (v:=v) h
  exact .inl ⟨i,t,rfl,e⟩
 | .inr x,v,h=>by
  obtain ⟨t,e⟩:=Value.isStrOf_shape (x:=x) (v:=v) h
  exact .inr ⟨x,t,rfl,e⟩
theorem zch (i:Int) (t:Tok):za9 (.inl i) (.int i t)=true:=by simp [za9,Value.isInt]
theorem zbs (x:Str) (t:Tok):za9 (.inr x) (.str x t)=true:=by simp [za9,Value.isStrOf]
theorem zfs (a b:Int):decide ((Sum.inl a:Key)=Sum.inl b)=(a == b):=by
 by_cases e:a=b
 ·subst e;simp
 ·have h:¬ (Sum.inl a:Key)=Sum.inl b:=fun q=>e (Sum.inl.inj q)
  rw [decide_eq_false h]
  exact (beq_eq_false_iff_ne.mpr e).symm
theorem zgd (a b:Str):decide ((Sum.inr a:Key)=Sum.inr b)=decide (a=b):=by
 by_cases e:a=b
 ·subst e;simp
 ·have h:¬ (Sum.inr a:Key)=Sum.inr b:=fun q=>e (Sum.inr.inj q)
  rw [decide_eq_false h,decide_eq_false e]
theorem zfO (a:Int) (b:Str):decide ((Sum.inl a:Key)=Sum.inr b)=false:=decide_eq_false (fun q=>nomatch q)
theorem zgi (a:Str) (b:Int):decide ((Sum.inr a:Key)=Sum.inl b)=false:=decide_eq_false (fun q=>nomatch q)
def z1x (prog:Program) (w:World):PySem.KeyKind prog w Key where
 is:=za9
 hash:=zi3 w
 inj:=fun v a b ha hb=>by
  rcases z1b ha with ⟨i,t,rfl,rfl⟩ | ⟨x,t,rfl,rfl⟩
  ·rcases z1b hb with ⟨j,u,rfl,e⟩ | ⟨y,u,rfl,e⟩
   ·injection e with e1 _;rw [e1]
   ·exact nomatch e
  ·rcases z1b hb with ⟨j,u,rfl,e⟩ | ⟨y,u,rfl,e⟩
   ·exact nomatch e
   ·injection e with e1 _;rw [e1]
 byValue:=fun k v h=>by
  rcases z1b h with ⟨i,t,rfl,rfl⟩ | ⟨x,t,rfl,rfl⟩<;>rfl
 pyHash:=fun hv h=>by
  rcases z1b hv with ⟨i,t,rfl,rfl⟩ | ⟨x,t,rfl,rfl⟩
  ·exact wpAny_pyHash_int h
  ·exact wpAny_pyHash_str h
 eqBool:=fun hu hv h=>by
  rcases z1b hu with ⟨i,t,rfl,rfl⟩ | ⟨x,t,rfl,rfl⟩
  ·rcases z1b hv with ⟨j,u,rfl,rfl⟩ | ⟨y,u,rfl,rfl⟩
   ·rw [zfs] at h;exact wpAny_eqBool_int h
   ·rw [zfO] at h;exact SeqAt.EqAt.int_str i t y u _ _ _ _ h
  ·rcases z1b hv with ⟨j,u,rfl,rfl⟩ | ⟨y,u,rfl,rfl⟩
   ·rw [zgi] at h;exact SeqAt.EqAt.str_int x t j u _ _ _ _ h
   ·rw [zgd] at h;exact wpAny_eqBool_str h
 «strs»:=fun k x t v h=>by
  rcases z1b h with ⟨i,u,rfl,e⟩ | ⟨y,u,rfl,e⟩
  ·exact nomatch e
  ·injection e with e1 _
   subst e1
   cases v<;>rfl
theorem z8K (prog:Program) (w:World) (i:Int) (t:Tok):(z1x prog w).is (.inl i) (.int i t)=true:=zch i t
theorem z8O (prog:Program) (w:World) (x:Str) (t:Tok):(z1x prog w).is (.inr x) (.str x t)=true:=zbs x t
inductive V where
 | non | bl (b:Bool) | int (i:Int) | str (x:Str) | byt (b:Array UInt8) | flt (b:UInt64) | ref (a:Addr) | ty (n:String)
 deriving DecidableEq
def z1n:V→Value→Prop
 | .non,u=>u=Value.none
 | .bl b,u=>u=Value.bool b
 | .int i,u=>∃ t,u=Value.int i t
 | .str x,u=>∃ t,u=Value.str x t
 | .byt b,u=>∃ t,u=Value.bytes b t
 | .flt b,u=>∃ t,u=Value.float b t
 | .ref a,u=>u=Value.ref a
 | .ty n,u=>u=Value.type n
abbrev z1i:List V→List Value→Prop:=Paired z1n
theorem z1i.length {xs:List V} {us:List Value} (r:z1i xs us):xs.length=us.length:=Paired.length r
theorem z1i.get:∀ {xs:List V} {us:List Value} {i:Nat} {x:V},z1i xs us→xs[i]?=some x→∃ u,us[i]?=some u∧z1n x u
 | _,_,_,_,.nil,e=>by simp at e
 | _,_,0,_,.cons r _,e=>by simp at e;subst e;exact ⟨_,rfl,r⟩
 | _,_,i+1,x,.cons _ t,e=>by
  obtain ⟨u,h1,h2⟩:=z1i.get (i:=i) (x:=x) t (by simpa using e)
  exact ⟨u,by simpa using h1,h2⟩
theorem z1i.set {x:V} {u:Value} (r:z1n x u):∀ {xs:List V} {us:List Value} (i:Nat),z1i xs us→z1i (xs.set i x) (us.set i u)
 | _,_,_,.nil=>.nil
 | _,_,0,.cons _ t=>.cons r t
 | _,_,i+1,.cons q t=>.cons q (z1i.set r i t)
theorem z1i.append:∀ {xs ys:List V} {us ws:List Value},z1i xs us→z1i ys ws→z1i (xs++ys) (us++ws)
 | _,_,_,_,.nil,s=>s
 | _,_,_,_,.cons r t,s=>.cons r (z1i.append t s)
theorem z1i.take:∀ {xs:List V} {us:List Value} (n:Nat),z1i xs us→z1i (xs.take n) (us.take n)
 | _,_,0,_=>.nil
 | _,_,_+1,.nil=>.nil
 | _,_,n+1,.cons r t=>.cons r (z1i.take n t)
theorem z1i.drop:∀ {xs:List V} {us:List Value} (n:Nat),z1i xs us→z1i (xs.drop n) (us.drop n)
 | _,_,0,r=>r
 | _,_,_+1,.nil=>.nil
 | _,_,n+1,.cons _ t=>z1i.drop n t
def z8T:Option V→Option Value→Prop
 | some v,some u=>z1n v u
 | none,none=>True
 | _,_=>False
def KV {κ:Type}:List (κ × V)→List (κ × Value)→Prop:=Paired fun (p:κ × V) (q:κ × Value)=>p.1=q.1∧z1n p.2 q.2
def kV:Key→V
 | .inl i=>.int i
 | .inr x=>.str x
inductive HO where
  | lst (xs:List V)
  | tup (xs:List V)
  | dK (kvs:List (Key × V)) | dT (kvs:List (List Key × V))
  | set (S:Int→Bool) (n:Nat)
  | ins (C dx:Addr) (fs:List (Str × V))
  | own (x:Addr)
  | xd (fs:List (Str × V))
  | met (f x:Addr)
  | rng (lo hi:Int)
  | frz (o:Obj) (u:HO)
  | tbl (ps:Array Value)
  | ext (φ:Heap→Prop)
abbrev Hp:=Addr→Option HO
def upd (H:Hp) (a:Addr) (o:HO):Hp:=fun b=>if b=a then some o else H b
theorem z04 {H:Hp} {a:Addr} {o:HO}:upd H a o a=some o:=by unfold upd;rw [if_pos rfl]
theorem z09 {H:Hp} {a b:Addr} {o:HO} (h:b≠a):upd H a o b=H b:=by unfold upd;rw [if_neg h]
theorem z4b {H:Hp} {a b:Addr} {o u:HO} (h:H a=some o) (h':H b=some u) (d:o≠u):a≠b:=by
 intro e;subst e;rw [h] at h';exact d (Option.some.inj h')
theorem z0f {H:Hp} {a b:Addr} {o:HO} (h:H a=some o) (h':H b=none):a≠b:=by
 intro e;subst e;rw [h] at h';cases h'
section
variable (P:Program) (w:World)
def z22 (H:Hp) (h:Heap) (a:Addr):HO→Prop
 | .lst xs=>xs.length≤sizeLine∧∃ (its:List Value) (n:Nat),z1i xs its∧h.get? a=some { cls:=.type "list",data:=.seq its.toArray n }
 | .tup xs=>xs.length≤sizeLine∧∃ (its:List Value) (n:Nat),z1i xs its∧h.get? a=some { cls:=.type "tuple",data:=.seq its.toArray n }
 | .dK kvs=>kvs.length≤sizeLine∧(a == sysModules)=false∧∃ vs,KV kvs vs∧h.DictOf (z1x P w) a vs
 | .dT kvs=>kvs.length≤sizeLine∧(a == sysModules)=false∧∃ xs:List (List Key × Addr × Value),
   Paired (fun (p:List Key × V) (q:List Key × Addr × Value)=>p.1=q.1∧H q.2.1=some (.tup (p.1.map kV))∧z1n p.2 q.2.2) kvs xs ∧
   ∃ o es ep,h.get? a=some o∧o.ExactDict∧o.data=.dict es ep∧es.toList=xs.map (entryOfKey (tupleKind (z1x P w)))∧(xs.map (·.1)).Nodup
 | .set S n=>h.SetOf (intKind P w) a S n
 | .ins C dx fs=>H dx=some (.own a)∧fs.length≤1000∧dx≠a∧h.get? a=some (PySem.W.instObj C dx) ∧
   ∃ mA,h.Ns1 dx mA∧(∀ f,z8T (fs.lookup f) (mA f))∧PySem.Within mA (fs.map (·.1))
 | .own _=>∃ o,h.get? a=some o
 | .xd fs=>∃ mA,h.Ns1 a mA∧∀ f,z8T (fs.lookup f) (mA f)
 | .rng lo hi=>∃ t u v,h.get? a=some { cls:=.type "range",data:=.fields #[.int lo t,.int hi u,.int 1 v] }
 | .frz o u=>h.get? a=some o∧z22 H h a u
 | .tbl ps=>h.get? a=some { cls:=.none,data:=.fields ps }
 | .met f x=>h.get? a=some (PySem.W.methodObj (.ref f) (.ref x))
 | .ext φ=>φ h∧(∃ o,h.get? a=some o)∧∀ h1 h2:Heap,φ h1→(∀ o,h1.get? a=some o→h2.get? a=some o)→φ h2
def HOk (H:Hp) (h:Heap):Prop:=∀ a o,H a=some o→z22 P w H h a o
end
section
variable {P:Program} {w:World} {H H':Hp} {h h':Heap} {a:Addr} {o:HO}
theorem z22.lt (x:z22 P w H h a o):a < h.objs.size:=by
 cases o with
 | lst xs=>obtain ⟨_,_,_,_,e⟩:=x;exact Heap.lt_size e
 | tup xs=>obtain ⟨_,_,_,_,e⟩:=x;exact Heap.lt_size e
 | dK kvs=>obtain ⟨_,_,_,_,o,_,_,e,_⟩:=x;exact Heap.lt_size e
 | dT kvs=>obtain ⟨_,_,_,_,o,_,_,e,_⟩:=x;exact Heap.lt_size e
 | set S n=>obtain ⟨o,_,_,_,e,_⟩:=x;exact Heap.lt_size e
 | ins C dx fs=>obtain ⟨_,_,_,e,_⟩:=x;exact Heap.lt_size e
 | own y=>obtain ⟨_,e⟩:=x;exact Heap.lt_size e
 | xd fs=>obtain ⟨_,⟨_,_,_,e,_⟩,_⟩:=x;exact Heap.lt_size e
 | rng lo hi=>obtain ⟨_,_,_,e⟩:=x;exact Heap.lt_size e
 | frz ob u=>obtain ⟨e,_⟩:=x;exact Heap.lt_size e
 | tbl ps=>exact Heap.lt_size (show h.get? a=some _ from x)
 | met f y=>exact Heap.lt_size (show h.get? a=some _ from x)
 | ext φ=>obtain ⟨_,⟨_,e⟩,_⟩:=x;exact Heap.lt_size e
theorem Paired.mapP {α β:Type} {F G:α→β→Prop}:∀ {l₁:List α} {l₂:List β},Paired F l₁ l₂→(∀ a b,F a b→G a b)→Paired G l₁ l₂
 | _,_,.nil,_=>.nil
 | _,_,.cons r t,f=>.cons (f _ _ r) (Paired.mapP t f)
theorem z22.stay (x:z22 P w H h a o) (k:∀ b u,(b=a∨H b=some (.own a))→h.get? b=some u→h'.get? b=some u)
  (ho:∀ b,H b=some (.own a)→H' b=some (.own a)) (ht:∀ b xs,H b=some (.tup xs)→H' b=some (.tup xs)):z22 P w H' h' a o:=by
 induction o with
 | lst xs=>obtain ⟨z,its,n,r,e⟩:=x;exact ⟨z,its,n,r,k _ _ (.inl rfl) e⟩
 | tup xs=>obtain ⟨z,its,n,r,e⟩:=x;exact ⟨z,its,n,r,k _ _ (.inl rfl) e⟩
 | dK kvs=>obtain ⟨z,y,vs,r,ob,es,ep,e,c⟩:=x;exact ⟨z,y,vs,r,ob,es,ep,k _ _ (.inl rfl) e,c⟩
 | dT kvs =>
  obtain ⟨z,y,xs,r,ob,es,ep,e,c⟩:=x
  exact ⟨z,y,xs,Paired.mapP r fun p q z=>⟨z.1,ht _ _ z.2.1,z.2.2⟩,ob,es,ep,k _ _ (.inl rfl) e,c⟩
 | set S n=>obtain ⟨ob,es,ep,t,e,c⟩:=x;exact ⟨ob,es,ep,t,k _ _ (.inl rfl) e,c⟩
 | ins C dx fs =>
  obtain ⟨d,z,ne,e,mA,⟨od,es,ep,e2,c⟩,r⟩:=x
  exact ⟨ho _ d,z,ne,k _ _ (.inl rfl) e,mA,⟨od,es,ep,k _ _ (.inr d) e2,c⟩,r⟩
 | own y=>obtain ⟨ob,e⟩:=x;exact ⟨ob,k _ _ (.inl rfl) e⟩
 | xd fs=>obtain ⟨mA,⟨od,es,ep,e,c⟩,r⟩:=x;exact ⟨mA,⟨od,es,ep,k _ _ (.inl rfl) e,c⟩,r⟩
 | rng lo hi=>obtain ⟨t,u,v,e⟩:=x;exact ⟨t,u,v,k _ _ (.inl rfl) e⟩
 | frz ob u ih=>obtain ⟨e,q⟩:=x;exact ⟨k _ _ (.inl rfl) e,ih q⟩
 | tbl ps =>
  have e:h.get? a=some { cls:=.none,data:=.fields ps }:=x
  show h'.get? a=some { cls:=.none,data:=.fields ps }
  exact k a _ (.inl rfl) e
 | met f y =>
  have e:h.get? a=some (PySem.W.methodObj (.ref f) (.ref y)):=x
  show h'.get? a=some (PySem.W.methodObj (.ref f) (.ref y))
  exact k a _ (.inl rfl) e
 | ext φ=>obtain ⟨p,⟨o,e⟩,st⟩:=x;exact ⟨st _ _ p fun o q=>k _ _ (.inl rfl) q,⟨o,k _ _ (.inl rfl) e⟩,st⟩
theorem HOk.lt (x:HOk P w H h) (e:H a=some o):a < h.objs.size:=(x a o e).lt
theorem HOk.fresh (x:HOk P w H h) (e:h.objs.size≤a):H a=none:=by
 cases q:H a with
 | none=>rfl
 | some u=>exact absurd (Nat.lt_of_lt_of_le (x.lt q) e) (Nat.lt_irrefl _)
theorem HOk.kept (x:HOk P w H h) (k:∀ b u,h.get? b=some u→h'.get? b=some u):HOk P w H h':=fun a o e =>
 (x a o e).stay (fun b u _ q=>k b u q) (fun _ q=>q) fun _ _ q=>q
theorem HOk.laid (x:HOk P w H h) (k:∀ b u,h.get? b=some u→h'.get? b=some u) (hp:h.objs.size≤a) (new:z22 P w (upd H a o) h' a o):HOk P w (upd H a o) h':=fun b u e=>by
 have hn:=x.fresh hp
 by_cases hb:b=a
 ·subst hb;rw [z04] at e;cases e;exact new
 ·rw [z09 hb] at e
  exact (x b u e).stay (fun c v _ q=>k c v q) (fun c q=>by rw [z09 (z0f q hn)];exact q) fun c xs q=>by rw [z09 (z0f q hn)];exact q
end
def Rd (H:Hp) (a:Addr) (u:HO):Prop:=H a=some u∨∃ o,H a=some (.frz o u)
theorem Rd.ok {P:Program} {w:World} {H:Hp} {h:Heap} {a:Addr} {u:HO} (r:Rd H a u) (x:HOk P w H h):z22 P w H h a u:=by
 rcases r with r | ⟨o,r⟩
 ·exact x a u r
 ·obtain ⟨_,q⟩:=x a _ r
  exact q
def Mut:Option HO→Prop
 | some (.lst _)=>True
 | some (.dK _)=>True
 | some (.dT _)=>True
 | some (.set _ _)=>True
 | some (.ins _ _ _)=>True
 | some (.ext _)=>True
 | _=>False
section
variable {P:Program} {w:World} {H:Hp} {h h':Heap} {x e:Addr} {o':HO}
theorem HOk.write (ok:HOk P w H h) (mu:Mut (H x)) (he:e=x∨H e=some (.own x)) (k:∀ b u,b≠e→h.get? b=some u→h'.get? b=some u) (heo:∃ u,h'.get? e=some u)
  (new:z22 P w (upd H x o') h' x o'):HOk P w (upd H x o') h':=fun b u q=>by
 have nown:∀ c y,H c=some (.own y)→c≠x:=fun c y r z=>by subst z;rw [r] at mu;exact mu
 have ntup:∀ c xs,H c=some (.tup xs)→c≠x:=fun c xs r z=>by subst z;rw [r] at mu;exact mu
 by_cases hb:b=x
 ·subst hb;rw [z04] at q;cases q;exact new
 ·rw [z09 hb] at q
  by_cases hbe:b=e
  ·have q':H b=some (.own x):=by
    rcases he with z | z
    ·exact absurd (hbe.trans z) hb
    ·rw [hbe];exact z
   rw [q] at q';cases q'
   obtain ⟨v,hv⟩:=heo
   exact ⟨v,by rw [hbe];exact hv⟩
  ·refine (ok b u q).stay (fun c v hc r=>k c v ?_ r) (fun c r=>by rw [z09 (nown c b r)];exact r) fun c xs r=>by rw [z09 (ntup c xs r)];exact r
   rcases hc with rfl | hc
   ·exact hbe
   ·rintro rfl
    rcases he with z | z
    ·exact nown c b hc z
    ·rw [hc] at z;cases z;exact hb rfl
end
structure Un (fs ex:List Addr) (H H':Hp) (h h':Heap):Prop where
 keep:∀ b o,h.get? b=some o→H b=none→b∉fs→b∉ex→h'.get? b=some o
 slot:∀ b o,h.get? b=some o→H b=none→b∈fs→b∉ex→∃ sl,h'.get? b=some { o with slots:=sl }
 free:∀ b o,h.get? b=some o→H b=none→b∉ex→H' b=none
 there:∀ b o,h.get? b=some o→b∉ex→∃ o',h'.get? b=some o'
 tups:∀ b xs,H b=some (.tup xs)→H' b=some (.tup xs)
 frzs:∀ b o u,H b=some (.frz o u)→H' b=some (.frz o u)
 tbls:∀ b ps,H b=some (.tbl ps)→∃ more,H' b=some (.tbl (ps++more))
section
variable {fs fs' ex ex':List Addr} {H H1 H2:Hp} {h h1 h2 h':Heap} {a x e:Addr} {o:HO}
theorem Un.any (u:Un fs ex H H1 h h1) {b:Addr} {ob:Obj} (q:h.get? b=some ob) (n:H b=none) (hx:b∉ex):∃ sl,h1.get? b=some { ob with slots:=sl }:=by
 by_cases hb:b∈fs
 ·exact u.slot b ob q n hb hx
 ·exact ⟨ob.slots,u.keep b ob q n hb hx⟩
theorem Un.kept (k:∀ b u,h.get? b=some u→h'.get? b=some u):Un fs ex H H h h' :=
 ⟨fun b ob q _ _ _=>k b ob q,fun b ob q _ _ _=>⟨ob.slots,k b ob q⟩,fun _ _ _ n _=>n,fun b ob q _=>⟨ob,k b ob q⟩,fun _ _ q=>q,fun _ _ _ q=>q,fun _ ps q=>⟨#[],by rw [q];simp⟩⟩
theorem Un.refl:Un fs ex H H h h:=Un.kept fun _ _ q=>q
theorem Un.laid (k:∀ b u,h.get? b=some u→h'.get? b=some u) (hp:h.objs.size≤a) (hn:H a=none):Un fs ex H (upd H a o) h h' where
 keep:=fun b u q _ _ _=>k b u q
 slot:=fun b u q _ _ _=>⟨u.slots,k b u q⟩
 free:=fun b u q n _=>by rw [z09 (Nat.ne_of_lt (Nat.lt_of_lt_of_le (Heap.lt_size q) hp))];exact n
 there:=fun b u q _=>⟨u,k b u q⟩
 tups:=fun b xs q=>by rw [z09 (z0f q hn)];exact q
 frzs:=fun b u xs q=>by rw [z09 (z0f q hn)];exact q
 tbls:=fun b ps q=>⟨#[],by rw [z09 (z0f q hn),q];simp⟩
theorem Un.write (mu:Mut (H x)) (he:e=x∨H e=some (.own x)) (k:∀ b u,b≠e→h.get? b=some u→h'.get? b=some u) (heo:∃ u,h'.get? e=some u):Un fs ex H (upd H x o) h h':=by
 have hx:∀ b,H b=none→b≠x:=fun b n z=>by subst z;rw [n] at mu;exact mu
 have hb:∀ b,H b=none→b≠e:=fun b n z=>by
  subst z
  rcases he with r | r
  ·exact hx b n r
  ·rw [n] at r;cases r
 have hm:∀ b u,H b=some u→¬ Mut (some u)→b≠x:=fun b u q nm z=>by subst z;rw [q] at mu;exact nm mu
 refine ⟨fun b u q n _ _=>k b u (hb b n) q,fun b u q n _ _=>⟨u.slots,k b u (hb b n) q⟩,fun b u q n _=>by rw [z09 (hx b n)];exact n,fun b u q _=>?_,
  fun b xs q=>by rw [z09 (hm b _ q fun z=>z)];exact q,fun b u xs q=>by rw [z09 (hm b _ q fun z=>z)];exact q,fun b ps q=>⟨#[],by rw [z09 (hm b _ q fun z=>z),q];simp⟩⟩
 by_cases hbe:b=e
 ·subst hbe;exact heo
 ·exact ⟨u,k b u hbe q⟩
end
def trk (h:Heap) (H:Hp):List Addr:=(List.range h.objs.size).filter fun a=>(H a).isSome
def zcn (h:Heap) (H:Hp):Heap:=PySem.W.hideAll h (trk h H)
theorem zbB (h:Heap) (H:Hp):(zcn h H).objs.size=h.objs.size:=PySem.W.hideAll_size _ _
theorem zcz {h:Heap} {H:Hp} {b:Addr} {o:Obj} (e:h.get? b=some o) (n:H b=none):(zcn h H).get? b=some o :=
 PySem.W.hideAll_get _ e fun hm=>by
  have q:(H b).isSome=true:=(List.mem_filter.mp hm).2
  rw [n] at q;simp at q
theorem zez {h:Heap} {H:Hp} {b:Addr} {o:Obj} (e:(zcn h H).get? b=some o):h.get? b=some o∧H b=none:=by
 have e':h.get? b=some o:=PySem.W.of_hideAll (trk h H) e
 refine ⟨e',?_⟩
 cases q:H b with
 | none=>rfl
 | some x =>
  have hm:b∈trk h H:=List.mem_filter.mpr ⟨List.mem_range.mpr (Heap.lt_size e'),by simp [q]⟩
  have z:(zcn h H).get? b=none:=PySem.W.hideAll_none (trk h H) hm
  rw [z] at e;cases e
def zeZ (g h:Heap) (L:Addr):List (Addr × Obj):=(List.range h.objs.size).filterMap fun a=>if a=L∨(g.get? a).isSome=true then none else (h.get? a).map fun o=>(a,o)
def z5D (g h:Heap) (L d:Addr):List (Addr × Obj):=(zeZ g h L).filter fun p=>decide (p.1≠d)
structure Mod (K:PySem.W.Frag) (mg:Str→Option Value) (base:Heap):Prop where
 kin:K.In base
 glob:base.Ns mainGlobals mg
 blt:∃ mb,base.Ns builtinsNs mb∧∀ x:Str,x≠"__name__"→mb x=bootBuiltins x
 nolimit:base.NoLimit
structure Cx where
 prog:Program
 w:World
 K:PySem.W.Frag
 mg:Str→Option Value
 base:Heap
 A:Around
 N:List Str
 s₀:Shared
 H₀:Hp
 env:Env
 outer:List Env
 stack:List Env
 ex:List Addr
 fn:Str→Bool
 calm:Bool
 pn:List (Addr × Obj)
 xe:Value→Shared→Prop
def frs (l:List Env):List Addr:=l.filterMap (·.frame)
abbrev Cx.fs (X:Cx):List Addr:=frs X.outer
def Vis (sc:Scope) (x:Str):Prop:=sc.names.lookup x=some .local∨sc.names.lookup x=some .cell∨sc.names.lookup x=some .free
def Loc (sc:Scope) (x:Str):Prop:=sc.names.lookup x=some .local∨sc.names.lookup x=some .cell
def zhP (env:Env) (h:Heap) (m:Str→Option Value) (x:Str) (u:Value):Prop :=
 (env.kindOf x=some .local∧m x=some u)∨((env.kindOf x=some .cell∨env.kindOf x=some .free)∧∃ c,env.cells.lookup x=some c∧h.IsCell c (some u))
structure Cx.Ok (X:Cx):Prop where
 mod:Mod X.K X.mg X.base
 kind:X.env.scope.kind=.function
 glob:X.env.globals=mainGlobals
 blt:X.env.builtins=builtinsNs
 above:X.s₀.heap.objs.size≤X.env.locals
 inj:∀ x y c,X.env.cells.lookup x=some c→X.env.cells.lookup y=some c→x=y
 has:∀ x,(X.env.kindOf x=some .cell∨X.env.kindOf x=some .free)→∃ c,X.env.cells.lookup x=some c
 cab:∀ x c,X.fn x=true→X.env.cells.lookup x=some c→X.s₀.heap.objs.size≤c
 hd:X.calm=true→X.A.handled=none
 frames:X.A.frames=some X.stack
 stk:X.stack=X.outer∨(X.stack=X.env::X.outer∧X.env.frame=some X.env.locals)
 exf:∀ b∈X.ex,b≠X.env.locals∧∀ x c,X.env.cells.lookup x=some c→c≠b
 bs:∀ b o,X.base.get? b=some o→X.s₀.heap.get? b=some o∧X.H₀ b=none
 bsz:X.base.objs.size≤X.s₀.heap.objs.size
 noex:∀ b o,X.base.get? b=some o→b∉X.ex
 exfs:∀ b∈X.ex,b∉X.fs
 funs:X.s₀.heap.FunFrames X.base X.outer
 frf:∀ b∈X.fs,X.H₀ b=none
structure Inv (X:Cx) (pins:List (Addr × Obj)) (σ:List (Option V)) (H:Hp) (s:Shared):Prop where
 ok:X.Ok
 os:s.os=X.s₀.os
 bare:AllBare s.gens
 base:Un X.fs X.ex X.H₀ H X.s₀.heap s.heap
 loc:∃ m,s.heap.Ns X.env.locals m∧∀ (i:Nat) (x:Str) (v:V),X.N[i]?=some x→σ[i]?=some (some v)→Vis X.env.scope x→∃ u,z1n v u∧zhP X.env s.heap m x u
 cell:∀ x c,X.env.cells.lookup x=some c→∃ v,s.heap.IsCell c v
 free:H X.env.locals=none
 freeC:∀ x c,X.env.cells.lookup x=some c→H c=none
 pin:∀ p∈X.pn++pins,s.heap.get? p.1=some p.2∧H p.1=none∧p.1≠X.env.locals∧p.1∉X.fs∧∀ v,p.2.data≠.cell v
 hok:HOk X.prog X.w H s.heap
 len:σ.length=X.N.length
section
variable {X:Cx} {pins:List (Addr × Obj)} {σ:List (Option V)} {H H':Hp} {s:Shared} {h':Heap}
theorem Cx.Ok.nofr (ok:X.Ok) {b:Addr} {o:Obj} (e:X.base.get? b=some o):b∉X.fs:=fun hb=>by
 have:=(ok.funs.mem hb).1
 rw [e] at this;cases this
theorem Inv.bs (I:Inv X pins σ H s):∀ b o,X.base.get? b=some o→s.heap.get? b=some o∧H b=none:=fun b o e =>
 ⟨I.base.keep b o (I.ok.bs b o e).1 (I.ok.bs b o e).2 (I.ok.nofr e) (I.ok.noex b o e),I.base.free b o (I.ok.bs b o e).1 (I.ok.bs b o e).2 (I.ok.noex b o e)⟩
theorem Inv.bk (I:Inv X pins σ H s):∀ b o,X.base.get? b=some o→s.heap.get? b=some o:=fun b o e=>(I.bs b o e).1
theorem Inv.mod (I:Inv X pins σ H s):Mod X.K X.mg X.base:=I.ok.mod
theorem Inv.kIn (I:Inv X pins σ H s):X.K.In s.heap:=I.ok.mod.kin.keeps I.bk
theorem Inv.lt (I:Inv X pins σ H s):X.env.locals < s.heap.objs.size:=let ⟨_,hn,_⟩:=I.loc;hn.lt
theorem Inv.sz (I:Inv X pins σ H s):X.s₀.heap.objs.size≤s.heap.objs.size:=Nat.le_trans I.ok.above (Nat.le_of_lt I.lt)
theorem Inv.nofs (I:Inv X pins σ H s) {a:Addr} (h:s.heap.objs.size≤a):a∉X.fs:=fun hb=>by
 obtain ⟨_,o,ho,_⟩:=I.ok.funs.mem hb
 exact absurd (Nat.lt_of_lt_of_le (Heap.lt_size ho) (Nat.le_trans I.sz h)) (Nat.lt_irrefl _)
theorem Inv.cne (I:Inv X pins σ H s):∀ x c,X.env.cells.lookup x=some c→c≠X.env.locals:=fun x c e z=>by
 obtain ⟨v,o,ho,hd⟩:=I.cell x c e
 obtain ⟨m,⟨o',es,ep,ho',hd',_⟩,_⟩:=I.loc
 rw [z,ho'] at ho;cases ho;rw [hd'] at hd;cases hd
theorem Inv.funs (I:Inv X pins σ H s):s.heap.FunFrames X.base X.outer:=by
 have all:∀ (l:List Env),(∀ b∈frs l,b∈X.fs)→X.s₀.heap.FunFrames X.base l→s.heap.FunFrames X.base l:=by
  intro l
  induction l with
  | nil=>intro _ _;trivial
  | cons env r ih =>
   intro hs hl
   obtain ⟨hk,⟨L,o,hf,hn,ho,hd⟩,hr⟩:=hl
   have hL:L∈X.fs:=hs L (by unfold frs;rw [List.filterMap_cons,hf];exact List.mem_cons_self)
   obtain ⟨sl,e⟩:=I.base.slot L o ho (I.ok.frf L hL) hL fun z=>I.ok.exfs L z hL
   exact ⟨hk,⟨L,_,hf,hn,e,hd⟩,ih (fun b hb=>hs b (by unfold frs;rw [List.filterMap_cons,hf];exact List.mem_cons_of_mem _ hb)) hr⟩
 exact all X.outer (fun _ hb=>hb) I.ok.funs
theorem Inv.stack (I:Inv X pins σ H s):s.heap.FunFrames X.base X.stack:=by
 rcases I.ok.stk with e | ⟨e,hf⟩
 ·rw [e];exact I.funs
 ·rw [e]
  obtain ⟨m,hn,_⟩:=I.loc
  refine .cons (by rw [I.ok.kind];decide) hf hn ?_ I.funs
  exact Heap.get?_none_of_le (Nat.le_trans I.ok.bsz I.ok.above)
theorem Inv.stkSub (I:Inv X pins σ H s):∀ b∈frs X.stack,b∈X.env.locals::X.fs:=fun b hb=>by
 rcases I.ok.stk with e | ⟨e,hf⟩
 ·rw [e] at hb;exact List.mem_cons_of_mem _ hb
 ·rw [e] at hb
  unfold frs at hb
  rw [List.filterMap_cons,hf] at hb
  exact hb
theorem Inv.stkFree (I:Inv X pins σ H s):∀ b∈frs X.stack,H b=none:=fun b hb=>by
 rcases List.mem_cons.mp (I.stkSub b hb) with e | hb
 ·rw [e];exact I.free
 ·obtain ⟨_,o,ho,_⟩:=I.ok.funs.mem hb
  exact I.base.free b o ho (I.ok.frf b hb) fun z=>I.ok.exfs b z hb
theorem Inv.step {g':Array GenState} {t':Nat} {d':Drawn} {ch:List Addr} (I:Inv X pins σ H s)
  (hch:∀ b∈ch,(b∈X.ex∨X.s₀.heap.objs.size≤b)∧b≠X.env.locals∧(∀ x c,X.env.cells.lookup x=some c→c≠b)∧∀ p∈X.pn++pins,p.1≠b)
  (keep:∀ b o,b≠X.env.locals→b∉X.fs→b∉ch→s.heap.get? b=some o→H b=none→h'.get? b=some o)
  (slot:∀ b o,b≠X.env.locals→b∈X.fs→b∉ch→s.heap.get? b=some o→H b=none→∃ sl,h'.get? b=some { o with slots:=sl }) (free:∀ b o,b∉ch→s.heap.get? b=some o→H b=none→H' b=none)
  (there:∀ b o,b∉ch→s.heap.get? b=some o→∃ o',h'.get? b=some o')
  (tups:∀ b xs,H b=some (.tup xs)→H' b=some (.tup xs)) (frzs:∀ b o u,H b=some (.frz o u)→H' b=some (.frz o u)) (tbls:∀ b ps,H b=some (.tbl ps)→∃ more,H' b=some (.tbl (ps++more)))
  (ns:∀ m,s.heap.Ns X.env.locals m→h'.Ns X.env.locals m) (hok:HOk X.prog X.w H' h') (hg:AllBare g') :
  Inv X pins σ H' { s with heap:=h',gens:=g',drawn:=d',toks:=t' }:=by
 have neL:∀ b o,X.s₀.heap.get? b=some o→b≠X.env.locals:=fun b o e=>Nat.ne_of_lt (Nat.lt_of_lt_of_le (Heap.lt_size e) I.ok.above)
 have neC:∀ b o,X.s₀.heap.get? b=some o→b∉X.ex→b∉ch:=fun b o e hx hb=>by
  rcases (hch b hb).1 with z | z
  ·exact hx z
  ·exact absurd (Nat.lt_of_lt_of_le (Heap.lt_size e) z) (Nat.lt_irrefl _)
 have cellK:∀ x c,X.env.cells.lookup x=some c→∀ v,s.heap.IsCell c v→h'.IsCell c v:=fun x c e v ⟨o,ho,hd⟩=>by
  have nch:c∉ch:=fun z=>(hch c z).2.2.1 x c e rfl
  by_cases hc:c∈X.fs
  ·obtain ⟨sl,q⟩:=slot c o (I.cne x c e) hc nch ho (I.freeC x c e)
   exact ⟨_,q,hd⟩
  ·exact ⟨o,keep c o (I.cne x c e) hc nch ho (I.freeC x c e),hd⟩
 refine ⟨I.ok,I.os,hg,⟨fun b o e n hb hx=>?_,fun b o e n hb hx=>?_,fun b o e n hx=>?_,fun b o e hx=>?_,fun b xs e=>tups b xs (I.base.tups b xs e),fun b o xs e=>frzs b o xs (I.base.frzs b o xs e),fun b ps e=>?_⟩,?_,fun x c e=>?_,?_,fun x c e=>?_,fun p hp=>?_,hok,I.len⟩
 ·exact keep b o (neL b o e) hb (neC b o e hx) (I.base.keep b o e n hb hx) (I.base.free b o e n hx)
 ·obtain ⟨sl,e1⟩:=I.base.slot b o e n hb hx
  obtain ⟨sl',e2⟩:=slot b _ (neL b o e) hb (neC b o e hx) e1 (I.base.free b o e n hx)
  exact ⟨sl',e2⟩
 ·obtain ⟨o',e1⟩:=I.base.there b o e hx
  exact free b o' (neC b o e hx) e1 (I.base.free b o e n hx)
 ·obtain ⟨o',e1⟩:=I.base.there b o e hx
  exact there b o' (neC b o e hx) e1
 ·obtain ⟨m1,e1⟩:=I.base.tbls b ps e
  obtain ⟨m2,e2⟩:=tbls b _ e1
  exact ⟨m1++m2,by rw [e2,Array.append_assoc]⟩
 ·obtain ⟨m,hn,hl⟩:=I.loc
  refine ⟨m,ns m hn,fun i x v e1 e2 e3=>?_⟩
  obtain ⟨u,r,l⟩:=hl i x v e1 e2 e3
  refine ⟨u,r,?_⟩
  rcases l with l | ⟨k,c,e,z⟩
  ·exact .inl l
  ·exact .inr ⟨k,c,e,cellK x c e _ z⟩
 ·obtain ⟨v,z⟩:=I.cell x c e
  exact ⟨v,cellK x c e v z⟩
 ·obtain ⟨m,⟨o,_,_,ho,_⟩,_⟩:=I.loc
  exact free _ o (fun z=>(hch _ z).2.1 rfl) ho I.free
 ·obtain ⟨v,o,ho,hd⟩:=I.cell x c e
  exact free c o (fun z=>(hch c z).2.2.1 x c e rfl) ho (I.freeC x c e)
 ·obtain ⟨e,n,ne,nf,d⟩:=I.pin p hp
  have nch:p.1∉ch:=fun z=>(hch p.1 z).2.2.2 p hp rfl
  exact ⟨keep p.1 p.2 ne nf nch e n,free p.1 p.2 nch e n,ne,nf,d⟩
theorem Inv.un {t':Nat} (I:Inv X pins σ H s) (u:Un X.fs [] H H' s.heap h') (hok:HOk X.prog X.w H' h'):Inv X pins σ H' { s with heap:=h',toks:=t' }:=by
 obtain ⟨m,⟨o,es,ep,ho,r⟩,_⟩:=id I.loc
 obtain ⟨sl,hL⟩:=u.any ho I.free (by simp)
 exact I.step (g':=s.gens) (d':=s.drawn) (ch:=[]) (fun _ z=>nomatch z) (fun b o _ hb _ e n=>u.keep b o e n hb (by simp)) (fun b o _ hb _ e n=>u.slot b o e n hb (by simp)) (fun b o _ e n=>u.free b o e n (by simp)) (fun b o _ e=>u.there b o e (by simp)) u.tups u.frzs u.tbls (fun m' hm=>by
  obtain ⟨o',es',ep',ho',r'⟩:=hm
  rw [ho] at ho';cases ho'
  exact ⟨_,es',ep',hL,r'⟩) hok I.bare
theorem Inv.call {g':Array GenState} {t':Nat} {d':Drawn} {ch:List Addr} (I:Inv X pins σ H s) (u:Un (frs X.stack) ch H H' s.heap h') (hok:HOk X.prog X.w H' h') (hg:AllBare g')
  (hch:∀ b∈ch,(b∈X.ex∨X.s₀.heap.objs.size≤b)∧b≠X.env.locals∧(∀ x c,X.env.cells.lookup x=some c→c≠b)∧∀ p∈X.pn++pins,p.1≠b) :
  Inv X pins σ H' { s with heap:=h',gens:=g',drawn:=d',toks:=t' }:=by
 obtain ⟨m,⟨o,es,ep,ho,r⟩,_⟩:=id I.loc
 obtain ⟨sl,hL⟩:=u.any ho I.free fun z=>(hch _ z).2.1 rfl
 exact I.step (ch:=ch) hch (fun b o hL hb hc e n=>u.keep b o e n (fun z=>(List.mem_cons.mp (I.stkSub b z)).elim hL hb) hc) (fun b o _ _ hc e n=>u.any e n hc) (fun b o hc e n=>u.free b o e n hc) (fun b o hc e=>u.there b o e hc) u.tups u.frzs u.tbls (fun m' hm=>by
  obtain ⟨o',es',ep',ho',r'⟩:=hm
  rw [ho] at ho';cases ho'
  exact ⟨_,es',ep',hL,r'⟩) hok hg
theorem Inv.turned {t':Nat} {it:Addr} (I:Inv X pins σ H s) (k:∀ b o,b≠it→s.heap.get? b=some o→h'.get? b=some o) (hn:H it=none) (hL:it≠X.env.locals)
  (h1:it∈X.ex∨X.s₀.heap.objs.size≤it) (h2:∀ x c,X.env.cells.lookup x=some c→c≠it) (h3:∀ p∈X.pn++pins,p.1≠it):Inv X pins σ H { s with heap:=h',toks:=t' }:=by
 have nit:∀ b u,H b=some u→b≠it:=fun b u e z=>by rw [z,hn] at e;cases e
 refine I.step (g':=s.gens) (d':=s.drawn) (ch:=[it]) (fun b hb=>?_) (fun b o _ _ hc e _=>k b o (fun z=>hc (by simp [z])) e) (fun b o _ _ hc e _=>⟨o.slots,k b o (fun z=>hc (by simp [z])) e⟩) (fun _ _ _ _ n=>n)
  (fun b o hc e=>⟨o,k b o (fun z=>hc (by simp [z])) e⟩) (fun _ _ e=>e) (fun _ _ _ e=>e) (fun b ps e=>⟨#[],by rw [e];simp⟩) (fun m hm=>?_) (fun b u e=>?_) I.bare
 ·have e:b=it:=by simpa using hb
  subst e
  exact ⟨h1,hL,h2,h3⟩
 ·obtain ⟨o,es,ep,ho,r⟩:=hm
  exact ⟨o,es,ep,k _ o (Ne.symm hL) ho,r⟩
 ·refine (I.hok b u e).stay (fun c v hc q=>k c v ?_ q) (fun _ q=>q) fun _ _ q=>q
  rcases hc with z | z
  ·rw [z];exact nit b u e
  ·exact nit c _ z
theorem Inv.tok (I:Inv X pins σ H s) (t:Nat):Inv X pins σ H { s with toks:=t }:=I.un (h':=s.heap) (t':=t) Un.refl I.hok
theorem Inv.kept {t':Nat} (I:Inv X pins σ H s) (k:∀ b u,s.heap.get? b=some u→h'.get? b=some u):Inv X pins σ H { s with heap:=h',toks:=t' }:=I.un (Un.kept k) (I.hok.kept k)
theorem Inv.laid {a:Addr} {o:HO} {t':Nat} (I:Inv X pins σ H s) (k:∀ b u,s.heap.get? b=some u→h'.get? b=some u) (hp:s.heap.objs.size≤a) (new:z22 X.prog X.w (upd H a o) h' a o) :
  Inv X pins σ (upd H a o) { s with heap:=h',toks:=t' }:=I.un (Un.laid k hp (I.hok.fresh hp)) (I.hok.laid k hp new)
theorem Inv.write {x e:Addr} {o:HO} {t':Nat} (I:Inv X pins σ H s) (mu:Mut (H x)) (he:e=x∨H e=some (.own x)) (k:∀ b u,b≠e→s.heap.get? b=some u→h'.get? b=some u) (heo:∃ u,h'.get? e=some u)
  (new:z22 X.prog X.w (upd H x o) h' x o):Inv X pins σ (upd H x o) { s with heap:=h',toks:=t' }:=I.un (Un.write mu he k heo) (I.hok.write mu he k heo new)
theorem Inv.pins_of {pins':List (Addr × Obj)} (I:Inv X pins σ H s) (h:∀ p∈pins',s.heap.get? p.1=some p.2∧H p.1=none∧p.1≠X.env.locals∧p.1∉X.fs∧∀ v,p.2.data≠.cell v):Inv X pins' σ H s :=
 ⟨I.ok,I.os,I.bare,I.base,I.loc,I.cell,I.free,I.freeC,fun p hp=>(List.mem_append.mp hp).elim (fun z=>I.pin p (List.mem_append_left _ z)) (h p),I.hok,I.len⟩
theorem z6J {N:List Str} (hN:N.Nodup) {i j:Nat} {x:Str} (a:N[i]?=some x) (b:N[j]?=some x):i=j:=by
 obtain ⟨h1,e1⟩:=List.getElem?_eq_some_iff.mp a
 obtain ⟨h2,e2⟩:=List.getElem?_eq_some_iff.mp b
 exact (List.getElem_inj hN).mp (e1.trans e2.symm)
theorem z7q {M:Model} {A:Around} {E:Value→Shared→Prop} {i:Nat} {x:Str} {v:V} {u:Value} {Q:Unit→Shared→Prop} (I:Inv X pins σ H s) (hN:X.N.Nodup) (hi:X.N[i]?=some x) (hx:Loc X.env.scope x) (r:z1n v u)
  (h:∀ s',Inv X pins (σ.set i (some v)) H s'→(∃ a,Heap.SameBut a s.heap s'.heap∧(a=X.env.locals∨X.env.cells.lookup x=some a))→Q () s') (hf:X.fn x=true∨X.env.scope.names.lookup x=some .local:=by first | exact .inl rfl | exact .inr rfl | assumption):wpAny M A (storeName X.env x u) Q E s:=by
 obtain ⟨m,hn,hl⟩:=id I.loc
 have hcls:(X.env.scope.kind == .class || (X.env.scope.kind == .module && X.env.locals != X.env.globals))=false:=by rw [I.ok.kind];rfl
 have hiσ:i < σ.length:=by rw [I.len];exact (List.getElem?_eq_some_iff.mp hi).1
 have cne:=I.cne
 have tracked:∀ {a:Addr} {h':Heap},(∃ o,s.heap.get? a=some o∧H a=none)→Heap.SameBut a s.heap h'→HOk X.prog X.w H h':=fun {a h'} ha hs b ob e=>by
  obtain ⟨_,_,hfree⟩:=ha
  refine (I.hok b ob e).stay (fun c w' hc q=>(hs.2 c ?_).trans q) (fun _ q=>q) fun _ _ q=>q
  rintro rfl
  rcases hc with rfl | hc
  ·rw [hfree] at e;cases e
  ·rw [hfree] at hc;cases hc
 rcases hx with hk | hk
 ·refine wpAny_storeName_local hk hn (fun h' hn' hs=>?_) hcls
  obtain ⟨oL,_,_,hoL,_⟩:=id hn
  refine h _ ⟨I.ok,I.os,I.bare,⟨fun b o e n hb hx=>?_,fun b o e n hb hx=>?_,I.base.free,fun b o e hx=>?_,I.base.tups,I.base.frzs,I.base.tbls⟩,⟨_,hn',fun j y v' e1 e2 e3=>?_⟩,fun y c e=>?_,I.free,I.freeC,fun p hp=>?_,tracked ⟨oL,hoL,I.free⟩ hs,by simpa using I.len⟩ ⟨_,hs,.inl rfl⟩
  ·exact (hs.2 b (Nat.ne_of_lt (Nat.lt_of_lt_of_le (Heap.lt_size e) I.ok.above))).trans (I.base.keep b o e n hb hx)
  ·obtain ⟨sl,e1⟩:=I.base.slot b o e n hb hx
   exact ⟨sl,(hs.2 b (Nat.ne_of_lt (Nat.lt_of_lt_of_le (Heap.lt_size e) I.ok.above))).trans e1⟩
  ·obtain ⟨o',e1⟩:=I.base.there b o e hx
   exact ⟨o',(hs.2 b (Nat.ne_of_lt (Nat.lt_of_lt_of_le (Heap.lt_size e) I.ok.above))).trans e1⟩
  ·by_cases hj:j=i
   ·subst hj
    rw [hi] at e1;cases e1
    rw [List.getElem?_set_self hiσ] at e2
    cases e2
    exact ⟨u,r,.inl ⟨hk,by simp⟩⟩
   ·rw [List.getElem?_set_ne (Ne.symm hj)] at e2
    obtain ⟨u',r',q⟩:=hl j y v' e1 e2 e3
    refine ⟨u',r',?_⟩
    rcases q with ⟨k,e⟩ | ⟨k,c,e,z⟩
    ·refine .inl ⟨k,?_⟩
     have:y≠x:=fun e=>hj (z6J hN e1 (e ▸ hi))
     simp [this,e]
    ·exact .inr ⟨k,c,e,z.sameBut hs (cne y c e)⟩
  ·obtain ⟨w',z⟩:=I.cell y c e
   exact ⟨w',z.sameBut hs (cne y c e)⟩
  ·obtain ⟨e,n,ne,nf,d⟩:=I.pin p hp
   exact ⟨(hs.2 p.1 ne).trans e,n,ne,nf,d⟩
 ·have hfn:X.fn x=true:=by
   rcases hf with z | z
   ·exact z
   ·rw [z] at hk;cases hk
  obtain ⟨c,hc⟩:=I.ok.has x (.inl hk)
  obtain ⟨w',z⟩:=I.cell x c hc
  refine wpAny_storeName_cell I.ok.kind hk hc z (fun h' hc' hs=>?_)
  obtain ⟨oc,hoc,hocd⟩:=id z
  refine h { s with heap:=h' } ⟨I.ok,I.os,I.bare,⟨fun b o e n hb hx=>?_,fun b o e n hb hx=>?_,I.base.free,fun b o e hx=>?_,I.base.tups,I.base.frzs,I.base.tbls⟩,⟨m,hn.sameBut hs (Ne.symm (cne x c hc)),fun j y v' e1 e2 e3=>?_⟩,fun y c' e=>?_,I.free,I.freeC,fun p hp=>?_,tracked ⟨oc,hoc,I.freeC x c hc⟩ hs,by simpa using I.len⟩ ⟨c,hs,.inr hc⟩
  ·exact (hs.2 b (Nat.ne_of_lt (Nat.lt_of_lt_of_le (Heap.lt_size e) (I.ok.cab x c hfn hc)))).trans (I.base.keep b o e n hb hx)
  ·obtain ⟨sl,e1⟩:=I.base.slot b o e n hb hx
   exact ⟨sl,(hs.2 b (Nat.ne_of_lt (Nat.lt_of_lt_of_le (Heap.lt_size e) (I.ok.cab x c hfn hc)))).trans e1⟩
  ·obtain ⟨o',e1⟩:=I.base.there b o e hx
   exact ⟨o',(hs.2 b (Nat.ne_of_lt (Nat.lt_of_lt_of_le (Heap.lt_size e) (I.ok.cab x c hfn hc)))).trans e1⟩
  ·by_cases hj:j=i
   ·subst hj
    rw [hi] at e1;cases e1
    rw [List.getElem?_set_self hiσ] at e2
    cases e2
    exact ⟨u,r,.inr ⟨.inl hk,c,hc,hc'⟩⟩
   ·rw [List.getElem?_set_ne (Ne.symm hj)] at e2
    obtain ⟨u',r',q⟩:=hl j y v' e1 e2 e3
    refine ⟨u',r',?_⟩
    rcases q with q | ⟨k,c',e,z'⟩
    ·exact .inl q
    ·refine .inr ⟨k,c',e,z'.sameBut hs ?_⟩
     rintro rfl
     exact hj (z6J hN e1 (I.ok.inj _ _ _ e hc ▸ hi))
  ·by_cases hcc:c'=c
   ·subst hcc;exact ⟨_,hc'⟩
   ·obtain ⟨w2,z2⟩:=I.cell y c' e
    exact ⟨w2,z2.sameBut hs hcc⟩
  ·obtain ⟨e,n,ne,nf,d⟩:=I.pin p hp
   refine ⟨(hs.2 p.1 ?_).trans e,n,ne,nf,d⟩
   intro q
   rw [q,hoc] at e
   have q':oc=p.2:=Option.some.inj e
   exact d w' (by rw [←q'];exact hocd)
theorem z7e {M:Model} {A:Around} {E:Value→Shared→Prop} {i:Nat} {x:Str} {v:V} {u:Value} {Q:Unit→Shared→Prop} (I:Inv X pins σ H s) (hN:X.N.Nodup) (hi:X.N[i]?=some x) (hx:Loc X.env.scope x) (r:z1n v u)
  (h:∀ s',Inv X pins (σ.set i (some v)) H s'→Q () s') (hf:X.fn x=true∨X.env.scope.names.lookup x=some .local:=by first | exact .inl rfl | exact .inr rfl | assumption):wpAny M A (storeName X.env x u) Q E s :=
 z7q I hN hi hx r (fun s' I' _=>h s' I') hf
theorem Inv.call' {s':Shared} {ch:List Addr} (I:Inv X pins σ H s) (ho:s'.os=s.os) (u:Un (frs X.stack) ch H H' s.heap s'.heap) (hok:HOk X.prog X.w H' s'.heap) (hg:AllBare s'.gens)
  (hch:∀ b∈ch,(b∈X.ex∨X.s₀.heap.objs.size≤b)∧b≠X.env.locals∧(∀ x c,X.env.cells.lookup x=some c→c≠b)∧∀ p∈X.pn++pins,p.1≠b):Inv X pins σ H' s':=by
 obtain ⟨h',g',d',t',o'⟩:=s'
 have e:o'=s.os:=ho
 subst e
 exact I.call (g':=g') (t':=t') (d':=d') u hok hg hch
end
abbrev XK:=Value→Option Addr→Hp→Prop
abbrev St:=List (Option V)
abbrev VK:=V→Hp→Prop
abbrev TE:=St→Hp→VK→Prop
abbrev TT:=St→Hp→(Bool→Hp→Prop)→Prop
abbrev TA:=St→Hp→(List V→Hp→Prop)→Prop
structure z3Z where
 nx:St→Hp→Prop
 rt:VK
 bk:St→Hp→Prop:=fun _ _=>False
 ct:St→Hp→Prop:=fun _ _=>False
abbrev TS:=z3Z→St→Hp→Prop
def EP (X:Cx) (pins:List (Addr × Obj)) (σ:St) (Q:VK) (u:Value) (s':Shared):Prop:=∃ v H',Inv X pins σ H' s'∧z1n v u∧Q v H'
def TP (X:Cx) (pins:List (Addr × Obj)) (σ:St) (Q:Bool→Hp→Prop) (b:Bool) (s':Shared):Prop:=∃ H',Inv X pins σ H' s'∧Q b H'
def AP (X:Cx) (pins:List (Addr × Obj)) (σ:St) (Q:List V→Hp→Prop) (us:List Value) (s':Shared):Prop:=∃ vs H',Inv X pins σ H' s'∧z1i vs us∧Q vs H'
def SP (X:Cx) (pins:List (Addr × Obj)) (D:z3Z) (f:Flow) (s':Shared):Prop :=
 match f with
 | .next=>∃ σ' H',Inv X pins σ' H' s'∧D.nx σ' H'
 | .brk=>∃ σ' H',Inv X pins σ' H' s'∧D.bk σ' H'
 | .cont=>∃ σ' H',Inv X pins σ' H' s'∧D.ct σ' H'
 | .ret u=>∃ v σ' H',Inv X pins σ' H' s'∧z1n v u∧D.rt v H'
def PE (X:Cx) (e:Expr) (t:TE):Prop :=
 ∀ (pins:List (Addr × Obj)) (s:Shared) (σ:St) (H:Hp) (Q:VK),Inv X pins σ H s→t σ H Q→wpAny (model X.prog X.w) X.A (eval e X.env) (EP X pins σ Q) X.xe s
def PT (X:Cx) (e:Expr) (t:TT):Prop :=
 ∀ (pins:List (Addr × Obj)) (s:Shared) (σ:St) (H:Hp) (Q:Bool→Hp→Prop),Inv X pins σ H s→t σ H Q→wpAny (model X.prog X.w) X.A (isTrue e X.env (eval e X.env)) (TP X pins σ Q) X.xe s
def PW (X:Cx) (e:Expr) (t:TT):Prop :=
 ∀ (whole:Sem Value) (pins:List (Addr × Obj)) (s:Shared) (σ:St) (H:Hp) (Q:Bool→Hp→Prop),Inv X pins σ H s→t σ H Q→wpAny (model X.prog X.w) X.A (isTrue e X.env whole) (TP X pins σ Q) X.xe s
theorem PW.pt {X:Cx} {e:Expr} {t:TT} (h:PW X e t):PT X e t:=h _
def PA (X:Cx) (es:List Expr) (t:TA):Prop :=
 ∀ (pos:Pos) (pins:List (Addr × Obj)) (s:Shared) (σ:St) (H:Hp) (Q:List V→Hp→Prop),Inv X pins σ H s→t σ H Q→wpAny (model X.prog X.w) X.A (spliced (backTo pos (starEach es X.env))) (AP X pins σ Q) X.xe s
def PS (X:Cx) (st:Stmt) (t:TS):Prop :=
 ∀ (pins:List (Addr × Obj)) (s:Shared) (σ:St) (H:Hp) (D:z3Z),Inv X pins σ H s→t D σ H→wpAny (model X.prog X.w) X.A (exec st X.env) (SP X pins D) X.xe s
def PSs (X:Cx) (st:List Stmt) (t:TS):Prop :=
 ∀ (pins:List (Addr × Obj)) (s:Shared) (σ:St) (H:Hp) (D:z3Z),Inv X pins σ H s→t D σ H→wpAny (model X.prog X.w) X.A (execs st X.env) (SP X pins D) X.xe s
theorem thn {α:Type} {t:Sem α} {Q Q':α→Shared→Prop} {M:Model} {A:Around} {E:Value→Shared→Prop} {s:Shared} (h:wpAny M A t Q E s) (hQ:∀ a s,Q a s→Q' a s):wpAny M A t Q' E s:=wpAny_mono h hQ fun _ _ x=>x
theorem exA {α:Sort _} {f g:α→Prop} {a:α} (h:f a) (k:g a):∃ x,f x∧g x:=⟨a,h,k⟩
theorem exB {α β:Sort _} {f g:α→β→Prop} {a:α} {b:β} (h:f a b) (k:g a b):∃ x y,f x y∧g x y:=⟨a,b,h,k⟩
theorem exC {α β:Sort _} {f f' g:α→β→Prop} {a:α} {b:β} (h:f a b) (h':f' a b) (k:g a b):∃ x y,f x y∧f' x y∧g x y:=⟨a,b,h,h',k⟩
theorem exD {α β γ δ:Sort _} {f1 f2 f3 f4 g:α→β→γ→δ→Prop} (a:α) (b:β) (c:γ) (d:δ) (h1:f1 a b c d) (h2:f2 a b c d) (h3:f3 a b c d) (h4:f4 a b c d) (k:g a b c d):∃ x y z w,f1 x y z w∧f2 x y z w∧f3 x y z w∧f4 x y z w∧g x y z w:=⟨a,b,c,d,h1,h2,h3,h4,k⟩
theorem exF {α β:Sort _} {f1 f2 f3 g:α→β→Prop} (a:α) {b:β} (h1:f1 a b) (h2:f2 a b) (h3:f3 a b) (k:g a b):∃ x y,f1 x y∧f2 x y∧f3 x y∧g x y:=⟨a,b,h1,h2,h3,k⟩
theorem exG {α β:Sort _} {f1 f2 g:α→β→Prop} (a:α) {b:β} (h1:f1 a b) (h2:f2 a b) (k:g a b):∃ x y,f1 x y∧f2 x y∧g x y:=⟨a,b,h1,h2,k⟩
theorem z23 {X:Cx} {pins:List (Addr × Obj)} {σ:St} {Q:VK} {t:Sem Value} {R:Value→Shared→Prop} {s:Shared} (h:wpAny (model X.prog X.w) X.A t (EP X pins σ Q) X.xe s) (k:∀ u s1 x H1,Inv X pins σ H1 s1→z1n x u→Q x H1→R u s1):wpAny (model X.prog X.w) X.A t R X.xe s:=thn h fun u s1 z=>by
 obtain ⟨x,H1,I1,r,q⟩:=z
 exact k u s1 x H1 I1 r q
end L2
namespace L2
open PySem PySem.Spec PyProof.Rows
section
variable {X:Cx}
theorem bin {a b:Expr} {ta tb:TE} (ha:PE X a ta) (hb:PE X b tb) {pins:List (Addr × Obj)} {s:Shared} {σ:St} {H:Hp} {R:V→V→Hp→Prop} (I:Inv X pins σ H s) (h:ta σ H fun x H1=>tb σ H1 fun y H2=>R x y H2)
  {α:Type} {Q:α→Shared→Prop} {f:Value→Value→Sem α}
  (hf:∀ v u s2 x y H2,Inv X pins σ H2 s2→z1n x v→z1n y u→R x y H2→wpAny (model X.prog X.w) X.A (f v u) Q X.xe s2) :
  wpAny (model X.prog X.w) X.A (eval a X.env) (fun v s₁=>wpAny (model X.prog X.w) X.A (eval b X.env) (fun u s₂=>wpAny (model X.prog X.w) X.A (f v u) Q X.xe s₂) X.xe s₁) X.xe s:=by
 refine z23 (ha pins s σ H _ I h) fun v s1 x H1 I1 r1 q1=>?_
 refine z23 (hb pins s1 σ H1 _ I1 q1) fun u s2 y H2 I2 r2 q2=>?_
 exact hf v u s2 x y H2 I2 r1 r2 q2
def zgx (i:Nat):TE:=fun σ H Q=>∃ v,σ[i]?=some (some v)∧Q v H
def tC (v:V):TE:=fun _ H Q=>Q v H
theorem zdK {i:Nat} {x:Str} {pos:Pos} (hN:X.N[i]?=some x) (hv:Vis X.env.scope x) (hd:(x == ("__debug__":Str))=false:=by decide) (hcd:(x == ("__classdict__":Str))=false:=by decide):PE X (.Name x pos) (zgx i):=by
 intro pins s σ H Q I h
 obtain ⟨v,e,h⟩:=h
 obtain ⟨m,hn,hl⟩:=I.loc
 obtain ⟨u,r,l⟩:=hl i x v hN e hv
 have fin:EP X pins σ Q u s:=⟨v,H,I,r,h⟩
 rcases l with ⟨hk,hm⟩ | ⟨hk,c,hc,hcell⟩
 ·exact wpAny_Name (wpAny_loadName_local I.ok.kind hk hn hm fin) hd
 ·rcases hk with hk | hk
  ·exact wpAny_Name (wpAny_loadName_cell I.ok.kind hk hc hcell fin) hd
  ·exact wpAny_Name (wpAny_loadName_free I.ok.kind hk hc hcell fin hcd) hd
theorem z07 {i j pos}:PE X (.Constant (.int i) j pos) (tC (.int i)):=fun _ _ _ H _ I h=>wpAny_Constant_int ⟨.int i,H,I.tok _,⟨_,rfl⟩,h⟩
theorem zaM {b j pos}:PE X (.Constant (.bool b) j pos) (tC (.bl b)):=fun _ _ _ H _ I h=>Constant_bool ⟨.bl b,H,I,rfl,h⟩
theorem z9t {j pos}:PE X (.Constant .none j pos) (tC .non):=fun _ _ _ H _ I h=>Constant_none ⟨.non,H,I,rfl,h⟩
theorem z5g {x j pos}:PE X (.Constant (.str x) j pos) (tC (.str x)):=fun _ _ _ H _ I h=>Calls.Constant_str ⟨.str x,H,I.tok _,⟨_,rfl⟩,h⟩
def Gl (X:Cx) (x:Str):Prop:=X.env.kindOf x=some .globalImplicit
theorem z58 {E:Value→Shared→Prop} {pins:List (Addr × Obj)} {s:Shared} {σ:St} {H:Hp} {x:Str} {u:Value} {pos:Pos} {Q:Value→Shared→Prop} (I:Inv X pins σ H s) (hg:Gl X x) (hm:X.mg x=some u) (h:Q u s)
  (hd:(x == ("__debug__":Str))=false:=by decide):wpAny (model X.prog X.w) X.A (eval (.Name x pos) X.env) Q E s :=
 Calls.Name_function_global I.ok.kind hg (Calls.loadGlobal_global (by rw [I.ok.glob];exact I.mod.glob.keeps I.bk) hm h) hd
theorem z5n {E:Value→Shared→Prop} {pins:List (Addr × Obj)} {s:Shared} {σ:St} {H:Hp} {x:Str} {u:Value} {pos:Pos} {Q:Value→Shared→Prop} (I:Inv X pins σ H s) (hg:Gl X x) (hm:X.mg x=none) (hv:bootBuiltins x=some u) (h:Q u s)
  (hn:x≠"__name__":=by decide) (hd:(x == ("__debug__":Str))=false:=by decide):wpAny (model X.prog X.w) X.A (eval (.Name x pos) X.env) Q E s:=by
 obtain ⟨mb,h1,h2⟩:=I.mod.blt
 exact Calls.Name_function_global I.ok.kind hg (Calls.loadGlobal_builtin (by rw [I.ok.glob];exact I.mod.glob.keeps I.bk) hm (by rw [I.ok.blt];exact h1.keeps I.bk) ((h2 x hn).trans hv) h) hd
theorem z4F {x:Str} {v:V} {u:Value} {pos:Pos} (hg:Gl X x) (hm:X.mg x=some u) (r:z1n v u) (hd:(x == ("__debug__":Str))=false:=by decide):PE X (.Name x pos) (tC v) :=
 fun _ _ _ H _ I h=>z58 I hg hm ⟨v,H,I,r,h⟩ hd
def t2I (ta tb:TE) (k:Int→Int→Hp→Prop):St→Hp→Prop:=fun σ H=>ta σ H fun x H1=>tb σ H1 fun y H2=>∃ i j,x=.int i∧y=.int j∧k i j H2
variable {a b:Expr} {ta tb:TE} {pos:Pos}
def PC (X:Cx) (op:CmpOp) (a b:Expr) (t:TE):Prop :=
 ∀ (pins:List (Addr × Obj)) (s:Shared) (σ:St) (H:Hp) (Q:VK),Inv X pins σ H s→t σ H Q →
  wpAny (model X.prog X.w) X.A (eval a X.env) (fun v s₁=>wpAny (model X.prog X.w) X.A (eval b X.env) (fun u s₂=>wpAny (model X.prog X.w) X.A (compareOp op v u) (EP X pins σ Q) X.xe s₂) X.xe s₁) X.xe s
theorem zdb (b:Expr) {op:CmpOp} (h:op≠.In) (h2:op≠.NotIn):behindInMarks op b=false:=by
 have e1:(op == CmpOp.In)=false:=by cases op<;>first | rfl | exact absurd rfl h
 have e2:(op == CmpOp.NotIn)=false:=by cases op<;>first | rfl | exact absurd rfl h2
 cases b<;>simp [behindInMarks,e1,e2]
def zhh (p:Int→Int→Bool) (ta tb:TE):TE:=fun σ H Q=>t2I ta tb (fun i j H2=>Q (.bl (p i j)) H2) σ H
abbrev zi0:TE→TE→TE:=zhh fun i j=>decide (i=j)
abbrev ziq:TE→TE→TE:=zhh fun i j=>!decide (i=j)
theorem ze9 {op:CmpOp} {p:Int→Int→Bool} (ha:PE X a ta) (hb:PE X b tb)
  (rule:∀ (i j:Int) (t u:Tok) (Q:Value→Shared→Prop) (s:Shared),Q (.bool (p i j)) s→wpAny (model X.prog X.w) X.A (compareOp op (.int i t) (.int j u)) Q X.xe s):PC X op a b (zhh p ta tb):=by
 intro pins s σ H Q I h
 refine bin ha hb I h fun v u s2 x y H2 I2 rx ry q=>?_
 obtain ⟨i,j,rfl,rfl,q⟩:=q
 obtain ⟨t,rfl⟩:=rx
 obtain ⟨t',rfl⟩:=ry
 exact rule i j t t' _ s2 ⟨.bl _,H2,I2,rfl,q⟩
theorem z2R (ha:PE X a ta) (hb:PE X b tb):PC X .Eq a b (zi0 ta tb):=ze9 ha hb fun _ _ _ _ _ _ h=>eq_int (by rw [Bool.beq_eq_decide_eq];exact h)
theorem ze6 (ha:PE X a ta) (hb:PE X b tb):PC X .NotEq a b (ziq ta tb):=ze9 ha hb fun _ _ _ _ _ _ h=>ne_int (by rw [bne,Bool.beq_eq_decide_eq];exact h)
def tB (t:TE):TT:=fun σ H Q=>t σ H fun x H1=>∃ c,x=.bl c∧Q c H1
theorem z1A {op:CmpOp} {t:TE} (h:PC X op a b t) (h1:behindInMarks op b=false:=by first | exact zdb _ (by decide) (by decide) | rfl):PT X (.Compare a [op] [b] pos) (tB t):=by
 intro pins s σ H Q I hw
 refine wpAny_isTrue_Compare1 (thn (h pins s σ H _ I hw) fun v s1 h1=>thn h1 fun u s2 h2=>thn h2 fun c s3 hz8=>?_) h1
 obtain ⟨x,H1,I1,r1,q1⟩:=hz8
 obtain ⟨d,rfl,q⟩:=q1
 cases r1
 exact wpAny_truthy_bool ⟨H1,I1,q⟩
theorem ze8 {e:Expr} {t:TE} (h:PE X e t) (he:∀ whole,isTrue e X.env whole=(do let v ←whole;standAt e.pos;holding [v] (truthy v)):=by intro _;rfl):PT X e (tB t):=by
 intro pins s σ H Q I hw
 refine isTrue_plain (z23 (h pins s σ H _ I hw) fun v s1 x H1 I1 r1 q1=>?_) (he _)
 obtain ⟨d,rfl,q⟩:=q1
 cases r1
 exact wpAny_truthy_bool ⟨H1,I1,q⟩
variable {tA tB':TT} {z5D:List Expr}
def zig (t u:TT):TT:=fun σ H Q=>t σ H fun c H1=>if c=true then u σ H1 Q else Q false H1
def tOr (t u:TT):TT:=fun σ H Q=>t σ H fun c H1=>if c=true then Q true H1 else u σ H1 Q
def zhU (t:TT):TT:=fun σ H Q=>t σ H fun c H1=>Q (!c) H1
theorem z51 (ha:PT X a tA):PW X (.BoolOp .And [a] pos) tA:=by
 intro wh pins s σ H Q I h
 refine isTrue_and (thn (ha pins s σ H Q I h) fun c s1 e=>?_)
 cases c with
 | true=>exact isTrue_and_nil e
 | false=>exact e
theorem zei (ha:PT X a tA):PW X (.BoolOp .Or [a] pos) tA:=by
 intro wh pins s σ H Q I h
 refine isTrue_or (thn (ha pins s σ H Q I h) fun c s1 e=>?_)
 cases c with
 | false=>exact isTrue_or_nil e
 | true=>exact e
theorem z7v (ha:PT X a tA) (hb:PW X (.BoolOp .And (b::z5D) pos) tB'):PW X (.BoolOp .And (a::b::z5D) pos) (zig tA tB'):=by
 intro wh pins s σ H Q I h
 refine isTrue_and (thn (ha pins s σ H _ I h) fun c s1 hz8=>?_)
 obtain ⟨H1,I1,q1⟩:=hz8
 cases c with
 | true=>exact hb wh pins s1 σ H1 Q I1 q1
 | false=>exact ⟨H1,I1,q1⟩
theorem zfL (ha:PT X a tA) (hb:PW X (.BoolOp .Or (b::z5D) pos) tB'):PW X (.BoolOp .Or (a::b::z5D) pos) (tOr tA tB'):=by
 intro wh pins s σ H Q I h
 refine isTrue_or (thn (ha pins s σ H _ I h) fun c s1 hz8=>?_)
 obtain ⟨H1,I1,q1⟩:=hz8
 cases c with
 | true=>exact ⟨H1,I1,q1⟩
 | false=>exact hb wh pins s1 σ H1 Q I1 q1
theorem zdU (ha:PT X a tA):PT X (.UnaryOp .Not a pos) (zhU tA):=by
 intro pins s σ H Q I h
 exact isTrue_not (ha pins s σ H (fun c H1=>Q (!c) H1) I h)
def zil (ta tb:TE):TE:=fun σ H Q=>ta σ H fun x H1=>∃ c,x=.bl c∧if c=true then Q (.bl true) H1 else tb σ H1 Q
def zgI (ta:TE):TE:=fun σ H Q=>ta σ H fun x H1=>∃ c,x=.bl c∧Q (.bl (!c)) H1
theorem zg1 {op} {t:TE} (h:PE X a t):PE X (.BoolOp op [a] pos) t:=fun pins s σ H Q I hw=>BoolOp_one (h pins s σ H Q I hw)
theorem zgG (ha:PE X a ta) (hb:PE X (.BoolOp .Or (b::z5D) pos) tb):PE X (.BoolOp .Or (a::b::z5D) pos) (zil ta tb):=by
 intro pins s σ H Q I h
 refine BoolOp_or (z23 (ha pins s σ H _ I h) fun v s1 x H1 I1 r1 q1=>?_)
 obtain ⟨c,rfl,q1⟩:=q1
 cases r1
 refine wpAny_truthy_bool ?_
 cases c with
 | false=>exact hb pins s1 σ H1 Q I1 q1
 | true=>exact ⟨.bl true,H1,I1,rfl,q1⟩
theorem zdW (ha:PE X a ta):PE X (.UnaryOp .Not a pos) (zgI ta):=by
 intro pins s σ H Q I h
 refine UnaryOp_ (z23 (ha pins s σ H _ I h) fun v s1 x H1 I1 r1 q1=>?_)
 obtain ⟨c,rfl,q1⟩:=q1
 cases r1
 exact not_of (wpAny_truthy_bool ⟨.bl (!c),H1,I1,rfl,q1⟩)
def tIf (t:TT) (ta tb:TE):TE:=fun σ H Q=>t σ H fun c H1=>if c=true then ta σ H1 Q else tb σ H1 Q
theorem z9J {c:Expr} (hc:PT X c tA) (ha:PE X a ta) (hb:PE X b tb):PE X (.IfExp c a b pos) (tIf tA ta tb):=by
 intro pins s σ H Q I h
 refine wpAny_IfExp (thn (hc pins s σ H _ I h) fun d s1 hz8=>?_)
 obtain ⟨H1,I1,q1⟩:=hz8
 cases d with
 | true=>exact ha pins s1 σ H1 Q I1 q1
 | false=>exact hb pins s1 σ H1 Q I1 q1
end
end L2
namespace L2
open PySem PySem.Spec PyProof.Rows
def SqL (K:PySem.W.Frag) (H:Hp) (a:Addr) (xs:List V):Prop :=
 Rd H a (.lst xs) ∨
  ∃ (o:Obj) (its:Array Value) (n:Nat),K.lookup a=some o∧o.cls=.type "list"∧o.dict=none∧o.data=.seq its n∧its.size≤sizeLine∧z1i xs its.toList
def SqT (K:PySem.W.Frag) (H:Hp) (a:Addr) (xs:List V):Prop :=
 Rd H a (.tup xs) ∨
  ∃ (o:Obj) (its:Array Value) (n:Nat),K.lookup a=some o∧o.cls=.type "tuple"∧o.data=.seq its n∧its.size≤sizeLine∧z1i xs its.toList
def zic:Value→Option V
 | .none=>some .non
 | .bool b=>some (.bl b)
 | .int i _=>some (.int i)
 | .str x _=>some (.str x)
 | .bytes b _=>some (.byt b)
 | .float b _=>some (.flt b)
 | .ref a=>some (.ref a)
 | .type n=>some (.ty n)
 | _=>none
theorem z1n.abs {x:V} {u:Value} (r:z1n x u):zic u=some x:=by
 cases x with
 | non=>cases r;rfl
 | bl _=>cases r;rfl
 | int _=>obtain ⟨t,rfl⟩:=r;rfl
 | str _=>obtain ⟨t,rfl⟩:=r;rfl
 | byt _=>obtain ⟨t,rfl⟩:=r;rfl
 | flt _=>obtain ⟨t,rfl⟩:=r;rfl
 | ref _=>cases r;rfl
 | ty _=>cases r;rfl
theorem z1n.inj {x y:V} {u:Value} (r:z1n x u) (q:z1n y u):x=y:=Option.some.inj (r.abs.symm.trans q.abs)
theorem z1i.inj:∀ {xs ys:List V} {us:List Value},z1i xs us→z1i ys us→xs=ys
 | _,_,_,.nil,.nil=>rfl
 | _,_,_,.cons r t,.cons r' t'=>by rw [r.inj r',z1i.inj t t']
section
variable {X:Cx} {pins:List (Addr × Obj)} {σ:St} {H:Hp} {s:Shared} {a:Addr} {xs ys:List V}
theorem SqL.of {K:PySem.W.Frag} (h:H a=some (.lst xs)):SqL K H a xs:=.inl (.inl h)
theorem SqT.of {K:PySem.W.Frag} (h:H a=some (.tup xs)):SqT K H a xs:=.inl (.inl h)
theorem Inv.list (I:Inv X pins σ H s) (h:SqL X.K H a xs):∃ its:List Value,z1i xs its∧PlainL s.heap a its.toArray∧xs.length≤sizeLine:=by
 rcases h with h | ⟨o,its,n,hk,hc,hd,hs,hz,r⟩
 ·obtain ⟨z,its,n,r,e⟩:=h.ok I.hok
  exact ⟨its,r,⟨_,n,e,rfl,rfl,rfl⟩,z⟩
 ·refine ⟨its.toList,r,⟨o,n,I.kIn a o hk,hc,hd,by simpa using hs⟩,?_⟩
  have e:=r.length
  simp only [Array.length_toList] at e
  lia
theorem Inv.tuple (I:Inv X pins σ H s) (h:SqT X.K H a xs):∃ its:List Value,z1i xs its∧IsTup s.heap a its.toArray∧xs.length≤sizeLine:=by
 rcases h with h | ⟨o,its,n,hk,hc,hs,hz,r⟩
 ·obtain ⟨z,its,n,r,e⟩:=h.ok I.hok
  exact ⟨its,r,⟨_,e,rfl,n,rfl⟩,z⟩
 ·refine ⟨its.toList,r,⟨o,I.kIn a o hk,hc,n,by simpa using hs⟩,?_⟩
  have e:=r.length
  simp only [Array.length_toList] at e
  lia
theorem Inv.list_inj (I:Inv X pins σ H s) (h:SqL X.K H a xs) (h':SqL X.K H a ys):xs=ys:=by
 obtain ⟨its,r,⟨o,n,e,_,_,d⟩,_⟩:=I.list h
 obtain ⟨its',r',⟨o',n',e',_,_,d'⟩,_⟩:=I.list h'
 rw [e] at e';cases e'
 rw [d] at d'
 injection d' with d1 _
 have:its=its':=by simpa using congrArg Array.toList d1
 subst this
 exact r.inj r'
theorem Inv.tuple_inj (I:Inv X pins σ H s) (h:SqT X.K H a xs) (h':SqT X.K H a ys):xs=ys:=by
 obtain ⟨its,r,⟨o,e,_,n,d⟩,_⟩:=I.tuple h
 obtain ⟨its',r',⟨o',e',_,n',d'⟩,_⟩:=I.tuple h'
 rw [e] at e';cases e'
 rw [d] at d'
 injection d' with d1 _
 have:its=its':=by simpa using congrArg Array.toList d1
 subst this
 exact r.inj r'
end
abbrev Cx.wish (X:Cx) (E:Value→Shared→Prop):Cx:={ X with xe:=E }
abbrev Cx.nox (X:Cx):Cx:=X.wish fun _ _=>False
theorem Cx.Ok.wish {X:Cx} (ok:X.Ok) (E:Value→Shared→Prop):(X.wish E).Ok :=
 ⟨ok.mod,ok.kind,ok.glob,ok.blt,ok.above,ok.inj,ok.has,ok.cab,ok.hd,ok.frames,ok.stk,ok.exf,ok.bs,ok.bsz,ok.noex,ok.exfs,ok.funs,ok.frf⟩
theorem Cx.Ok.unwish {X:Cx} {E:Value→Shared→Prop} (ok:(X.wish E).Ok):X.Ok :=
 ⟨ok.mod,ok.kind,ok.glob,ok.blt,ok.above,ok.inj,ok.has,ok.cab,ok.hd,ok.frames,ok.stk,ok.exf,ok.bs,ok.bsz,ok.noex,ok.exfs,ok.funs,ok.frf⟩
section
variable {X:Cx} {pins:List (Addr × Obj)} {σ:St} {H:Hp} {s:Shared} {E:Value→Shared→Prop}
theorem Inv.wish (I:Inv X pins σ H s) (E:Value→Shared→Prop):Inv (X.wish E) pins σ H s:=⟨I.ok.wish E,I.os,I.bare,I.base,I.loc,I.cell,I.free,I.freeC,I.pin,I.hok,I.len⟩
theorem Inv.unwish (I:Inv (X.wish E) pins σ H s):Inv X pins σ H s:=⟨I.ok.unwish,I.os,I.bare,I.base,I.loc,I.cell,I.free,I.freeC,I.pin,I.hok,I.len⟩
theorem SP.unwish {D:z3Z} {f:Flow} {s':Shared} (h:SP (X.wish E) pins D f s'):SP X pins D f s':=by
 cases f with
 | next=>obtain ⟨σ',H',I,q⟩:=h;exact ⟨σ',H',I.unwish,q⟩
 | brk=>obtain ⟨σ',H',I,q⟩:=h;exact ⟨σ',H',I.unwish,q⟩
 | cont=>obtain ⟨σ',H',I,q⟩:=h;exact ⟨σ',H',I.unwish,q⟩
 | ret u=>obtain ⟨v,σ',H',I,r,q⟩:=h;exact ⟨v,σ',H',I.unwish,r,q⟩
theorem PSs.nox {st:List Stmt} {t:TS} (h:PSs X.nox st t):PSs X st t:=fun pins s σ H D I hw =>
 wpAny_mono (h pins s σ H D (I.wish _) hw) (fun _ _ q=>q.unwish) fun _ _ z=>False.elim z
end
section
variable {X:Cx} {st:Stmt} {z5D:List Stmt} {t u:TS} {e:Expr} {te:TE} {pos:Pos}
def zhe:TS:=fun D σ H=>D.nx σ H
def zgE (t u:TS):TS:=fun D σ H=>t { D with nx:=u D } σ H
theorem z0G:PSs X [] zhe:=fun _ _ σ H _ I h=>wpAny_execs_nil ⟨σ,H,I,h⟩
theorem z03 (h1:PS X st t) (h2:PSs X z5D u):PSs X (st::z5D) (zgE t u):=by
 intro pins s σ H D I h
 refine wpAny_execs_cons (thn (h1 pins s σ H { D with nx:=u D } I h) fun f s1 q=>?_)
 cases f with
 | next =>
  obtain ⟨σ',H',I',q⟩:=q
  exact h2 pins s1 σ' H' D I' q
 | ret v=>exact q
 | brk=>exact q
 | cont=>exact q
theorem z08 (h1:PS X st t):PSs X [st] t:=by
 intro pins s σ H D I h
 refine wpAny_execs_cons (thn (h1 pins s σ H D I h) fun f s1 q=>?_)
 cases f with
 | next=>exact wpAny_execs_nil q
 | ret v=>exact q
 | brk=>exact q
 | cont=>exact q
theorem Inv.quiet {pins:List (Addr × Obj)} {σ:St} {H:Hp} {s:Shared} (I:Inv X pins σ H s):interactive X.env=false:=by simp [interactive,I.ok.kind]
def zhg (te:TE):TS:=fun D σ H=>te σ H fun _ H1=>D.nx σ H1
theorem z0X (he:PE X e te) (hs:swapsWith e none pos.line X.env=pure false:=by rfl):PS X (.Expr e pos) (zhg te):=by
 intro pins s σ H D I h
 exact wpAny_Expr_any (z23 (he pins s σ H _ I h) fun v s1 x H1 I1 r1 q1=>⟨σ,H1,I1,q1⟩) I.quiet hs
def zhL (te:TE):TS:=fun D σ H=>te σ H D.rt
theorem z0v (he:PE X e te):PS X (.Return (some e) pos) (zhL te):=by
 intro pins s σ H D I h
 exact wpAny_Return_some (z23 (he pins s σ H _ I h) fun v s1 x H1 I1 r1 q1=>⟨x,σ,H1,I1,r1,q1⟩)
def zio (c:TT) (t u:TS):TS:=fun D σ H=>c σ H fun b H1=>if b=true then t D σ H1 else u D σ H1
theorem z1J {c:Expr} {a b:List Stmt} {tc:TT} (hc:PT X c tc) (ha:PSs X a t) (hb:PSs X b u):PS X (.If c a b pos) (zio tc t u):=by
 intro pins s σ H D I h
 refine wpAny_If (thn (hc pins s σ H _ I h) fun d s1 hz8=>?_)
 obtain ⟨H1,I1,q1⟩:=hz8
 cases d with
 | true=>exact ha pins s1 σ H1 D I1 q1
 | false=>exact hb pins s1 σ H1 D I1 q1
end
abbrev TG:=V→St→Hp→(St→Hp→Prop)→Prop
abbrev TGs:=List V→St→Hp→(St→Hp→Prop)→Prop
def PG (X:Cx) (target:Expr) (t:TG):Prop :=
 ∀ (pins:List (Addr × Obj)) (s:Shared) (σ:St) (H:Hp) (v:V) (u:Value) (Q:St→Hp→Prop),Inv X pins σ H s→z1n v u→t v σ H Q →
  wpAny (model X.prog X.w) X.A (assign target X.env u) (fun _ s'=>∃ σ' H',Inv X pins σ' H' s'∧Q σ' H') X.xe s
def PGs (X:Cx) (ts:List Expr) (t:TGs):Prop :=
 ∀ (pins:List (Addr × Obj)) (s:Shared) (σ:St) (H:Hp) (vs:List V) (us:List Value) (Q:St→Hp→Prop),Inv X pins σ H s→z1i vs us→t vs σ H Q →
  wpAny (model X.prog X.w) X.A (assignInOrder ((assignEach ts X.env).map (·.2)) us) (fun _ s'=>∃ σ' H',Inv X pins σ' H' s'∧Q σ' H') X.xe s
abbrev zh4:=V→V→V→Hp→(Hp→Prop)→Prop
def zhI (X:Cx) (t:zh4):Prop :=
 ∀ (pins:List (Addr × Obj)) (s:Shared) (σ:St) (H:Hp) (o i v:V) (ov iv u:Value) (Q:Hp→Prop),Inv X pins σ H s→z1n o ov→z1n i iv→z1n v u→t o i v H Q →
  wpAny (model X.prog X.w) X.A (setItem ov iv u) (fun _ s'=>∃ H',Inv X pins σ H' s'∧Q H') X.xe s
abbrev TIp:=V→V→Hp→VK→Prop
def PIp (X:Cx) (op:Operator) (t:TIp):Prop :=
 ∀ (pins:List (Addr × Obj)) (s:Shared) (σ:St) (H:Hp) (x y:V) (v u:Value) (Q:VK),Inv X pins σ H s→z1n x v→z1n y u→t x y H Q →
  wpAny (model X.prog X.w) X.A (inplaceOp op v u) (EP X pins σ Q) X.xe s
section
variable {X:Cx} {pos:Pos}
def zdi (i:Nat):TG:=fun v σ H Q=>Q (σ.set i (some v)) H
theorem z0b {i:Nat} {x:Str} (hN:X.N.Nodup) (hi:X.N[i]?=some x) (hx:Loc X.env.scope x) (hf:X.fn x=true∨X.env.scope.names.lookup x=some .local:=by first | exact .inl rfl | exact .inr rfl | assumption):PG X (.Name x pos) (zdi i):=by
 intro pins s σ H v u Q I r h
 exact wpAny_assign_Name (z7e I hN hi hx r (fun s' I'=>⟨_,H,I',h⟩) hf)
def zhZ:TGs:=fun vs σ H Q=>vs=[]∧Q σ H
def zhi (t:TG) (u:TGs):TGs:=fun vs σ H Q=>∃ v r,vs=v::r∧t v σ H fun σ' H'=>u r σ' H' Q
theorem z17:PGs X [] zhZ:=by
 intro pins s σ H vs us Q I r h
 obtain ⟨e,h⟩:=h
 subst e
 cases r
 exact assignInOrder_nil ⟨σ,H,I,h⟩
theorem z0l {e:Expr} {es:List Expr} {t:TG} {u:TGs} (h1:PG X e t) (h2:PGs X es u)
  (hs:(assignEach (e::es) X.env).map (·.2)=assign e X.env::(assignEach es X.env).map (·.2):=by rfl):PGs X (e::es) (zhi t u):=by
 intro pins s σ H vs us Q I r h
 obtain ⟨v,vr,e1,h⟩:=h
 subst e1
 cases r with
 | cons r rr =>
  rw [hs]
  refine assignInOrder_cons (thn (h1 pins s σ H _ _ _ I r h) fun _ s1 hz8=>?_)
  obtain ⟨σ1,H1,I1,q1⟩:=hz8
  exact h2 pins s1 σ1 H1 _ _ Q I1 rr q1
def zhH (K:PySem.W.Frag) (n:Nat) (t:TGs):TG:=fun v σ H Q=>∃ a xs,v=.ref a∧SqT K H a xs∧xs.length=n∧t xs σ H Q
theorem z1R {es:List Expr} {k:Nat} {t:TGs} {n:Nat} (hc:X.calm=true) (h:PGs X es t)
  (hn:(assignEach es X.env).length=n:=by rfl) (hst:(assignEach es X.env).findIdx? (·.1)=none:=by rfl):PG X (.Tuple es k pos) (zhH X.K n t):=by
 intro pins s σ H v u Q I r hw
 obtain ⟨a,xs,e1,hq,hl,hw⟩:=hw
 subst e1
 cases r
 obtain ⟨its,rv,ht,hz⟩:=I.tuple hq
 refine assign_Tuple_tuple (I.ok.hd hc) ht (by simp [hn,←hl,rv.length]) hst fun h' hx=>?_
 have I1:Inv X pins σ H { s with heap:=h' }:=I.kept (t':=s.toks) fun b o e=>hx b o (Nat.ne_of_lt (Heap.lt_size e)) e
 exact h pins _ σ H xs _ Q I1 (by simpa using rv) hw
def zia (to ti:TE) (t:zh4):TG:=fun v σ H Q=>to σ H fun o H1=>ti σ H1 fun i H2=>t o i v H2 fun H3=>Q σ H3
theorem zfp {o i:Expr} {to ti:TE} {t:zh4} (ho:PE X o to) (hi:PE X i ti) (hs:zhI X t)
  (ha:∀ v,assign (.Subscript o i pos) X.env v=(do
   let ov ←holding [v] (eval o X.env)
   let iv ←holding [v,ov] (eval i X.env)
   standAt pos
   holding [v,ov,iv] (setItem ov iv v)
   release [v,ov,iv] []):=by intro _;rfl):PG X (.Subscript o i pos) (zia to ti t):=by
 intro pins s σ H v u Q I r h
 rw [ha]
 refine wpAny_bind (wpAny_holding (z23 (ho pins s σ H _ I h) fun ov s1 x H1 I1 r1 q1=>?_))
 refine wpAny_bind (wpAny_holding (z23 (hi pins s1 σ H1 _ I1 q1) fun iv s2 y H2 I2 r2 q2=>?_))
 refine wpAny_bind (wpAny_standAt (wpAny_bind (wpAny_holding (thn (hs pins s2 σ H2 x y v ov iv u _ I2 r1 r2 r q2) fun _ s3 hz8=>?_))))
 obtain ⟨H3,I3,q3⟩:=hz8
 exact wpAny_release ⟨σ,H3,I3,q3⟩
def zh2 (te:TE) (g:TG):TS:=fun D σ H=>te σ H fun x H1=>g x σ H1 D.nx
theorem z2m {tg e:Expr} {te:TE} {g:TG} (he:PE X e te) (hg:PG X tg g) (hs:swapsWithSole [tg] e pos.line X.env=pure false:=by rfl) (hw:swappedStores [tg] e X.env=pure none:=by rfl)
  (h1:(assignEach [tg] X.env).map (·.2)=[assign tg X.env]:=by rfl):PS X (.Assign [tg] e pos) (zh2 te g):=by
 intro pins s σ H D I h
 refine wpAny_Assign_stores (z23 (he pins s σ H _ I h) fun v s1 x H1 I1 r1 q1=>?_) hs hw
 rw [h1]
 exact thn (hg pins s1 σ H1 x v _ I1 r1 q1) fun _ s2 q=>q
theorem z0e {i:Nat} {x:Str} {e:Expr} {te:TE} {pos':Pos} (hN:X.N.Nodup) (hi:X.N[i]?=some x) (hx:Loc X.env.scope x) (he:PE X e te) (hs:swapsWith e (some (.Name x pos')) pos.line X.env=pure false:=by rfl) (hf:X.fn x=true∨X.env.scope.names.lookup x=some .local:=by first | exact .inl rfl | exact .inr rfl | assumption) :
  PS X (.Assign [.Name x pos'] e pos) (zh2 te (zdi i)):=by
 intro pins s σ H D I h
 refine wpAny_Assign_Name (z23 (he pins s σ H _ I h) fun v s1 y H1 I1 r1 q1=>?_) hs
 exact z7e I1 hN hi hx r1 (fun s2 I2=>⟨_,H1,I2,q1⟩) hf
def zib (i:Nat) (te:TE) (ti:TIp):TS:=fun D σ H=>∃ x,σ[i]?=some (some x)∧te σ H fun y H1=>ti x y H1 fun z H2=>D.nx (σ.set i (some z)) H2
theorem z9z {i:Nat} {x:Str} {e:Expr} {te:TE} {op:Operator} {ti:TIp} {pos':Pos} (hN:X.N.Nodup) (hi:X.N[i]?=some x) (hx:Loc X.env.scope x) (he:PE X e te) (ho:PIp X op ti) (hf:X.fn x=true∨X.env.scope.names.lookup x=some .local:=by first | exact .inl rfl | exact .inr rfl | assumption) :
  PS X (.AugAssign (.Name x pos') op e pos) (zib i te ti):=by
 intro pins s σ H D I h
 obtain ⟨v,e1,h⟩:=h
 obtain ⟨m,hn,hl⟩:=I.loc
 have vis:Vis X.env.scope x:=by rcases hx with k | k;exact .inl k;exact .inr (.inl k)
 obtain ⟨u,r,l⟩:=hl i x v hi e1 vis
 refine wpAny_AugAssign_Name ?_
 have go:wpAny (model X.prog X.w) X.A (eval e X.env) (fun w s₂=>wpAny (model X.prog X.w) X.A (inplaceOp op u w) (fun r s₃=>wpAny (model X.prog X.w) X.A (storeName X.env x r) (fun _=>SP X pins D .next) X.xe s₃) X.xe s₂) X.xe s:=by
  refine z23 (he pins s σ H _ I h) fun w s1 y H1 I1 r1 q1=>?_
  refine z23 (ho pins s1 σ H1 v y u w _ I1 r r1 q1) fun z s2 zv H2 I2 r2 q2=>?_
  exact z7e I2 hN hi hx r2 (fun s3 I3=>⟨_,H2,I3,q2⟩) hf
 rcases l with ⟨hk,hm⟩ | ⟨hk,c,hc,hcell⟩
 ·exact wpAny_loadName_local I.ok.kind hk hn hm go
 ·rcases hk with hk | hk
  ·exact wpAny_loadName_cell I.ok.kind hk hc hcell go
  ·rcases hx with k | k
   ·have:X.env.scope.names.lookup x=some .free:=hk
    rw [k] at this;cases this
   ·have:X.env.scope.names.lookup x=some .free:=hk
    rw [k] at this;cases this
def ipI (f:Int→Int→Int):TIp:=fun x y H Q=>∃ i j,x=.int i∧y=.int j∧Q (.int (f i j)) H
theorem z8S:PIp X .Add (ipI fun i j=>i+j):=by
 intro pins s σ H x y v u Q I r1 r2 h
 obtain ⟨i,j,e1,e2,q⟩:=h
 subst e1;subst e2
 obtain ⟨t,rfl⟩:=r1
 obtain ⟨t',rfl⟩:=r2
 exact iadd_int ⟨.int _,H,I.tok _,⟨_,rfl⟩,q⟩
end
section
variable {X:Cx} {pos:Pos}
def z8e (c:TT) (tb:TS):TS:=fun D σ H=>∃ W:Nat→St→Hp→Prop,(∃ m,W m σ H)∧∀ m σ H,W m σ H →
 c σ H fun b H1=>if b=true then ∃ N:St→Hp→Prop,(∀ σ' H',N σ' H'→∃ m',m' < m∧W m' σ' H')∧tb { D with nx:=N,ct:=N,bk:=D.nx } σ H1 else D.nx σ H1
theorem z1D {c:Expr} {body:List Stmt} {tc:TT} {tb:TS} (hp:PassesOwn (model X.prog X.w) X.A X.env X.xe) (hc:PT X c tc) (hb:PSs X body tb):PS X (.While c body [] pos) (z8e tc tb):=by
 intro pins s σ H D I h
 obtain ⟨W,⟨m0,w0⟩,z1L⟩:=h
 refine wpAny_While (codeAny_whileLoop (fun n s'=>∃ σ' H',Inv X pins σ' H' s'∧W n σ' H') ?_ m0 ⟨σ,H,I,w0⟩)
 rintro n s1 ⟨σ1,H1,I1,w1⟩
 refine wpAny_passesOwn hp (thn (hc pins s1 σ1 H1 _ I1 (z1L n σ1 H1 w1)) fun b s2 hz8=>?_)
 obtain ⟨H2,I2,q2⟩:=hz8
 cases b with
 | true =>
  obtain ⟨N,hN,q2⟩:=q2
  rw [if_pos rfl]
  refine wpAny_passesOwn hp (thn (hb pins s2 σ1 H2 _ I2 q2) fun f s3 q3=>?_)
  cases f with
  | next =>
   obtain ⟨σ3,H3,I3,n3⟩:=q3
   obtain ⟨m',hm,w3⟩:=hN σ3 H3 n3
   exact ⟨m',hm,σ3,H3,I3,w3⟩
  | cont =>
   obtain ⟨σ3,H3,I3,n3⟩:=q3
   obtain ⟨m',hm,w3⟩:=hN σ3 H3 n3
   exact ⟨m',hm,σ3,H3,I3,w3⟩
  | brk=>exact q3
  | ret v=>exact q3
 | false =>
  rw [if_neg Bool.false_ne_true]
  exact wpAny_execs_nil ⟨σ1,H2,I2,q2⟩
end
structure It where
 go:Nat→Hp→Prop
 yld:Nat→Hp→V→Hp→Prop
 stop:Nat→Hp→Prop
def z6i (X:Cx) (pins:List (Addr × Obj)) (H:Hp) (b:Addr):Prop :=
 H b=none∧b≠X.env.locals∧b∉X.fs∧(b∈X.ex∨X.s₀.heap.objs.size≤b)∧(∀ x c,X.env.cells.lookup x=some c→c≠b)∧∀ p∈X.pn++pins,p.1≠b
theorem Inv.fpOk {X:Cx} {pins:List (Addr × Obj)} {σ:St} {H H':Hp} {s:Shared} {b:Addr} (I:Inv X pins σ H s) (hb:s.heap.objs.size≤b) (hn:H' b=none):z6i X pins H' b:=by
 refine ⟨hn,Nat.ne_of_gt (Nat.lt_of_lt_of_le I.lt hb),I.nofs hb,.inr (Nat.le_trans I.sz hb),fun x c e z=>?_,fun p hp z=>?_⟩
 ·obtain ⟨v,q⟩:=I.cell x c e
  exact absurd (Nat.lt_of_lt_of_le q.lt (by rw [z];exact hb)) (Nat.lt_irrefl _)
 ·exact absurd (Nat.lt_of_lt_of_le (Heap.lt_size (I.pin p hp).1) (by rw [z];exact hb)) (Nat.lt_irrefl _)
structure zcr (P:Program) (w:World) (K:PySem.W.Frag) (tg:Expr) (J:It) (fp:List Addr) (it:Addr) (tn:Nat→Heap→Prop):Prop where
 mem:it∈fp
 obj:∀ i h,tn i h→∀ b∈fp,∃ o,h.get? b=some o∧∀ v,o.data≠.cell v
 keep:∀ i h h',tn i h→(∀ b∈fp,∀ o,h.get? b=some o→h'.get? b=some o)→tn i h'
 item:∀ (X:Cx),X.prog=P→X.w=w→X.K=K→X.calm=true→∀ (i:Nat) (pins:List (Addr × Obj)) (s:Shared) (σ:St) (H:Hp) (E:Value→Shared→Prop),Inv X pins σ H s→(∀ b∈fp,z6i X pins H b)→tn i s.heap→J.go i H →
  wpAny (model P w) X.A (pyNext (.ref it)) (fun r s1=>∃ u,r=some u ∧
   wpAny (model P w) X.A (letOwnedTupleGo tg (.ref it) u) (fun _ s2=>∃ x H',Inv X pins σ H' s2∧z1n x u∧J.yld i H x H'∧tn (i+1) s2.heap∧∀ b∈fp,H' b=none) E s1) E s
 done:∀ (X:Cx),X.prog=P→X.w=w→X.K=K→X.calm=true→∀ (i:Nat) (pins:List (Addr × Obj)) (s:Shared) (σ:St) (H:Hp) (E:Value→Shared→Prop),Inv X pins σ H s→(∀ b∈fp,z6i X pins H b)→tn i s.heap→J.stop i H →
  wpAny (model P w) X.A (pyNext (.ref it)) (fun r s1=>r=none∧Inv X pins σ H s1) E s
 self:∀ (A:Around) (i:Nat) (s:Shared) (Q:Value→Shared→Prop) (E:Value→Shared→Prop),tn i s.heap→Q (.ref it) s→wpAny (model P w) A (pyIter (.ref it)) Q E s
abbrev TI:=St→Hp→(It→Hp→Prop)→Prop
def PIE (X:Cx) (pins:List (Addr × Obj)) (σ:St) (tg:Expr) (R:It→Hp→Prop) (itv:Value) (s2:Shared):Prop :=
 ∃ (it:Addr) (fp:List Addr) (tn:Nat→Heap→Prop) (J:It) (H':Hp),itv=.ref it∧Inv X pins σ H' s2∧zcr X.prog X.w X.K tg J fp it tn∧tn 0 s2.heap∧(∀ b∈fp,z6i X pins H' b)∧R J H'
def PI (X:Cx) (tg iter:Expr) (wi:TI):Prop :=
 ∀ (pins:List (Addr × Obj)) (s:Shared) (σ:St) (H:Hp) (R:It→Hp→Prop),Inv X pins σ H s→wi σ H R →
  wpAny (model X.prog X.w) X.A (eval iter X.env) (fun v s1=>wpAny (model X.prog X.w) X.A (pyIter v) (PIE X pins σ tg R) X.xe s1) X.xe s
theorem zf6 {M:Model} {A:Around} {E:Value→Shared→Prop} {s:Shared} {tg:Expr} {it:Addr} {u:Value} {o:Obj} {n:String} {vs:Array Value} {Q:Unit→Shared→Prop} (ho:s.heap.get? it=some o) (hc:o.cls=.type n) (hd:o.data=.fields vs)
  (hn:["enumerate","zip","dict_itemiterator","dict_reverseitemiterator","odict_iterator","itertools.zip_longest","itertools.pairwise"].contains n=false) (hQ:Q () s):wpAny M A (letOwnedTupleGo tg (.ref it) u) Q E s:=by
 unfold letOwnedTupleGo
 cases tg<;>first
  | exact wpAny_pure hQ
  | (cases u<;>first
    | exact wpAny_pure hQ
    | (refine wpAny_bind (wpAny_load ho ?_)
       rw [hc,hd]
       show wpAny M A (if (["enumerate","zip","dict_itemiterator","dict_reverseitemiterator","odict_iterator","itertools.zip_longest","itertools.pairwise"].contains n && vs[0]? == some (rawInt _))=true then _ else _) Q E s
       rw [if_neg (by intro h;rw [hn,Bool.false_and] at h;cases h)]
       exact wpAny_pure hQ))
def Itl (K:PySem.W.Frag) (a:Addr):It :=
 ⟨fun i H=>∃ xs x,SqL K H a xs∧xs[i]?=some x,fun i H x H'=>H'=H∧∀ xs,SqL K H a xs→xs[i]?=some x,fun i H=>∃ xs,SqL K H a xs∧xs.length≤i⟩
def Itt (K:PySem.W.Frag) (a:Addr):It :=
 ⟨fun i H=>∃ xs x,SqT K H a xs∧xs[i]?=some x,fun i H x H'=>H'=H∧∀ xs,SqT K H a xs→xs[i]?=some x,fun i H=>∃ xs,SqT K H a xs∧xs.length≤i⟩
def Itr (lo:Int) (n:Nat):It:=⟨fun i _=>i < n,fun i H x H'=>H'=H∧x=.int (lo+i),fun i _=>n≤i⟩
theorem zb5 {P:Program} {w:World} {K:PySem.W.Frag} {tg:Expr} (a it:Addr):zcr P w K tg (Itl K a) [it] it (fun i h=>h.IsListIter it a i) where
 mem:=by simp
 obj:=fun i h st b hb=>by
  have e:b=it:=by simpa using hb
  subst e
  obtain ⟨o,e,c,d⟩:=st
  exact ⟨o,e,fun v z=>by rw [d] at z;cases z⟩
 keep:=fun i h h' st k=>st.at fun o e=>k it (by simp) o e
 item:=by
  intro X hP hw hK hc i pins s σ H E I hf st hg
  subst hP hw hK
  obtain ⟨xs,x,hq,hx⟩:=hg
  obtain ⟨its,rv,p,hz⟩:=I.list hq
  obtain ⟨u,hu,ru⟩:=rv.get hx
  obtain ⟨f0,f1,f2,f3,f4,f5⟩:=hf it (by simp)
  refine wpAny_pyNext_list_item st p.isList (x:=u) (by simpa using hu) fun h' st' sb=>?_
  have I1:Inv X pins σ H { s with heap:=h' }:=I.turned (t':=s.toks) (fun b o hb e=>(sb.2 b hb).trans e) f0 f1 f3 f4 f5
  obtain ⟨o,e,c,d⟩:=id st'
  exact ⟨u,rfl,zf6 (s:={ s with heap:=h' }) e c d (by decide) ⟨x,H,I1,ru,⟨rfl,fun ys hy=>by rw [I.list_inj hy hq];exact hx⟩,st',fun b hb=>(hf b hb).1⟩⟩
 done:=by
  intro X hP hw hK hc i pins s σ H E I hf st hg
  subst hP hw hK
  obtain ⟨xs,hq,hx⟩:=hg
  obtain ⟨its,rv,p,hz⟩:=I.list hq
  obtain ⟨f0,f1,f2,f3,f4,f5⟩:=hf it (by simp)
  have hl:=rv.length
  exact wpAny_pyNext_list_end (I.ok.hd hc) st p.isList (by simp;lia) fun h' eb=>⟨rfl,I.turned (t':=s.toks) (fun b o hb e=>eb b o hb e) f0 f1 f3 f4 f5⟩
 self:=fun _ _ _ _ _ st h=>wpAny_pyIter_listiter st h
theorem z9T {P:Program} {w:World} {K:PySem.W.Frag} {tg:Expr} (a it:Addr):zcr P w K tg (Itt K a) [it] it (fun i h=>h.IsTupleIter it a i) where
 mem:=by simp
 obj:=fun i h st b hb=>by
  have e:b=it:=by simpa using hb
  subst e
  obtain ⟨o,e,c,d⟩:=st
  exact ⟨o,e,fun v z=>by rw [d] at z;cases z⟩
 keep:=fun i h h' st k=>st.at fun o e=>k it (by simp) o e
 item:=by
  intro X hP hw hK hc i pins s σ H E I hf st hg
  subst hP hw hK
  obtain ⟨xs,x,hq,hx⟩:=hg
  obtain ⟨its,rv,p,hz⟩:=I.tuple hq
  obtain ⟨u,hu,ru⟩:=rv.get hx
  obtain ⟨f0,f1,f2,f3,f4,f5⟩:=hf it (by simp)
  refine wpAny_pyNext_tuple_item st (show s.heap.IsTuple a its.toArray from p) (x:=u) (by simpa using hu) fun h' st' sb=>?_
  have I1:Inv X pins σ H { s with heap:=h' }:=I.turned (t':=s.toks) (fun b o hb e=>(sb.2 b hb).trans e) f0 f1 f3 f4 f5
  obtain ⟨o,e,c,d⟩:=id st'
  exact ⟨u,rfl,zf6 (s:={ s with heap:=h' }) e c d (by decide) ⟨x,H,I1,ru,⟨rfl,fun ys hy=>by rw [I.tuple_inj hy hq];exact hx⟩,st',fun b hb=>(hf b hb).1⟩⟩
 done:=by
  intro X hP hw hK hc i pins s σ H E I hf st hg
  subst hP hw hK
  obtain ⟨xs,hq,hx⟩:=hg
  obtain ⟨its,rv,p,hz⟩:=I.tuple hq
  obtain ⟨f0,f1,f2,f3,f4,f5⟩:=hf it (by simp)
  have hl:=rv.length
  exact wpAny_pyNext_tuple_end (I.ok.hd hc) st (show s.heap.IsTuple a its.toArray from p) (by simp;lia) fun h' eb=>⟨rfl,I.turned (t':=s.toks) (fun b o hb e=>eb b o hb e) f0 f1 f3 f4 f5⟩
 self:=fun _ _ _ _ _ st h=>wpAny_pyIter_tupleiter st h
theorem zab {P:Program} {w:World} {K:PySem.W.Frag} {tg:Expr} (it:Addr) (lo:Int) (n:Nat):zcr P w K tg (Itr lo n) [it] it (fun i h=>IsRangeIter h it (lo+(i:Nat)*1) ((n:Int) - (i:Nat)) 1) where
 mem:=by simp
 obj:=fun i h st b hb=>by
  have e:b=it:=by simpa using hb
  subst e
  exact ⟨_,st,fun v z=>by
   have z':Data.fields _=Data.cell v:=z
   cases z'⟩
 keep:=fun i h h' st k=>k it (by simp) _ st
 item:=by
  intro X hP hw hK hc i pins s σ H E I hf st hg
  subst hP hw hK
  obtain ⟨f0,f1,f2,f3,f4,f5⟩:=hf it (by simp)
  have W:=Walks.range (prog:=X.prog) (w:=X.w) (I.ok.hd hc) it lo 1 n
  refine W.item i s _ _ hg st fun v h' tk hv st' kk=>?_
  obtain ⟨t,rfl⟩:=hv
  have I1:Inv X pins σ H { s with heap:=h',toks:=tk }:=I.turned (fun b o hb e=>kk b o (by simpa using hb) e) f0 f1 f3 f4 f5
  refine ⟨_,rfl,zf6 (s:={ s with heap:=h',toks:=tk }) (n:="range_iterator") st' rfl rfl (by decide) ⟨.int (lo+i),H,I1,⟨t,?_⟩,⟨rfl,rfl⟩,st',fun b hb=>(hf b hb).1⟩⟩
  rw [Int.mul_one]
 done:=by
  intro X hP hw hK hc i pins s σ H E I hf st hg
  subst hP hw hK
  obtain ⟨f0,f1,f2,f3,f4,f5⟩:=hf it (by simp)
  exact wpAny_pyNext_range_end (I.ok.hd hc) st (by have:n≤i:=hg;lia) fun h' eb=>⟨rfl,I.turned (t':=s.toks) (fun b o hb e=>eb b o hb e) f0 f1 f3 f4 f5⟩
 self:=fun _ _ _ _ _ st h=>wpAny_pyIter_rangeiter st h
end L2
namespace L2
open PySem PySem.Spec PyProof.Rows
section
variable {X:Cx} {tg:Expr}
def zgO (K:PySem.W.Frag) (tl:TE):TI:=fun σ H R=>tl σ H fun x H1=>∃ a,x=.ref a∧(∃ xs,SqL K H1 a xs)∧R (Itl K a) H1
def zhF (K:PySem.W.Frag) (tl:TE):TI:=fun σ H R=>tl σ H fun x H1=>∃ a,x=.ref a∧(∃ xs,SqT K H1 a xs)∧R (Itt K a) H1
theorem z2c {l:Expr} {tl:TE} (hl:PE X l tl):PI X tg l (zgO X.K tl):=by
 intro pins s σ H R I h
 refine z23 (hl pins s σ H _ I h) fun v s1 x H1 I1 r1 q1=>?_
 obtain ⟨a,e,⟨xs,hq⟩,q⟩:=q1
 subst e
 cases r1
 obtain ⟨its,rv,p,hz⟩:=I1.list hq
 refine wpAny_pyIter_list p.isList ?_
 refine ⟨s1.heap.objs.size,[s1.heap.objs.size],_,_,H1,rfl,I1.kept (t':=s1.toks) fun b o e=>Heap.get?_push_of_some _ e,zb5 a _,⟨_,Heap.get?_push_size _ rfl,rfl,rfl⟩,fun b hb=>?_,q⟩
 have e:b=s1.heap.objs.size:=by simpa using hb
 subst e
 exact I1.fpOk (Nat.le_refl _) (I1.hok.fresh (Nat.le_refl _))
theorem z2Q {l:Expr} {tl:TE} (hl:PE X l tl):PI X tg l (zhF X.K tl):=by
 intro pins s σ H R I h
 refine z23 (hl pins s σ H _ I h) fun v s1 x H1 I1 r1 q1=>?_
 obtain ⟨a,e,⟨xs,hq⟩,q⟩:=q1
 subst e
 cases r1
 obtain ⟨its,rv,p,hz⟩:=I1.tuple hq
 refine wpAny_pyIter_tuple (show s1.heap.IsTuple a its.toArray from p) ?_
 refine ⟨s1.heap.objs.size,[s1.heap.objs.size],_,_,H1,rfl,I1.kept (t':=s1.toks) fun b o e=>Heap.get?_push_of_some _ e,z9T a _,⟨_,Heap.get?_push_size _ rfl,rfl,rfl⟩,fun b hb=>?_,q⟩
 have e:b=s1.heap.objs.size:=by simpa using hb
 subst e
 exact I1.fpOk (Nat.le_refl _) (I1.hok.fresh (Nat.le_refl _))
theorem z9C {pins:List (Addr × Obj)} {σ:St} {H:Hp} {s:Shared} {R:It→Hp→Prop} {E:Value→Shared→Prop} {lo hi:Int} {t u v:Tok} {tk:Nat} (I:Inv X pins σ H s) (h1:-(2 ^ 62)≤lo) (h2:lo < 2 ^ 62) (h3:-(2 ^ 62)≤hi) (h4:hi < 2 ^ 62)
  (q:R (Itr lo (hi - lo).toNat) H):wpAny (model X.prog X.w) X.A (pyIter (.ref s.heap.objs.size)) (PIE X pins σ tg R) E { s with heap:=s.heap.push { cls:=.type "range",data:=.fields #[.int lo t,.int hi u,.int 1 v] },toks:=tk }:=by
 refine wpAny_pyIter_range (IsRange.new ..) (small_one h1 h2 h3 h4) ?_
 have I1:Inv X pins σ H { s with heap:=s.heap.push { cls:=.type "range",data:=.fields #[.int lo t,.int hi u,.int 1 v] },toks:=tk }:=I.kept fun b o e=>Heap.get?_push_of_some _ e
 refine ⟨(s.heap.push { cls:=.type "range",data:=.fields #[.int lo t,.int hi u,.int 1 v] }).objs.size,[(s.heap.push { cls:=.type "range",data:=.fields #[.int lo t,.int hi u,.int 1 v] }).objs.size],_,_,H,rfl,
  I1.kept (t':=tk) fun b o e=>Heap.get?_push_of_some _ e,zab _ lo (hi - lo).toNat,?_,fun b hb=>?_,q⟩
 ·have e1:lo+((0:Nat):Int)*1=lo:=by simp
  have e2:(((hi - lo).toNat:Nat):Int) - ((0:Nat):Int)=Builtin.Range.rangeSize lo hi 1:=by rw [rangeSize_one];split<;>lia
  show IsRangeIter _ _ (lo+((0:Nat):Int)*1) ((((hi - lo).toNat:Nat):Int) - ((0:Nat):Int)) 1
  rw [e1,e2]
  exact Heap.get?_push_size _ rfl
 ·have e:b=(s.heap.push { cls:=.type "range",data:=.fields #[.int lo t,.int hi u,.int 1 v] }).objs.size:=by simpa using hb
  subst e
  exact I1.fpOk (Nat.le_refl _) (I1.hok.fresh (Nat.le_refl _))
def zgS (ta:TA):TI:=fun σ H R=>ta σ H fun vs H1=>∃ j:Int,vs=[.int j]∧-(2 ^ 62)≤j∧j < 2 ^ 62∧R (Itr 0 j.toNat) H1
def zgZ (ta:TA):TI:=fun σ H R=>ta σ H fun vs H1=>∃ i j:Int,vs=[.int i,.int j]∧(-(2 ^ 62)≤i∧i < 2 ^ 62∧-(2 ^ 62)≤j∧j < 2 ^ 62)∧R (Itr i (j - i).toNat) H1
theorem z28 {a:Expr} {ta:TA} {p pos:Pos} (hg:Gl X "range") (hm:X.mg "range"=none) (ha:PA X [a] ta) (hs:starEach [a] X.env=[(false,eval a X.env)]:=by rfl):PI X tg (.Call (.Name "range" p) [a] [] pos) (zgS ta):=by
 intro pins s σ H R I h
 refine Call_ (z5n I hg hm boot_range (PyProof.Rows.callWith_type1 (thn (ha pos pins s σ H _ I h) fun us s1 hz8=>?_) hs rfl))
 obtain ⟨vs,H1,I1,r1,q1⟩:=hz8
 obtain ⟨j,e,q1,q2,q⟩:=q1
 subst e
 cases r1 with
 | cons r rr =>
  cases rr
  obtain ⟨t,rfl⟩:=r
  exact call_range_1 (z9C I1 (by lia) (by lia) q1 q2 (by simpa using q))
theorem z7r {a b:Expr} {ta:TA} {p pos:Pos} (hg:Gl X "range") (hm:X.mg "range"=none) (ha:PA X [a,b] ta) (hs:starEach [a,b] X.env=[(false,eval a X.env),(false,eval b X.env)]:=by rfl) (hs2:starEach [b] X.env=[(false,eval b X.env)]:=by rfl) :
  PI X tg (.Call (.Name "range" p) [a,b] [] pos) (zgZ ta):=by
 intro pins s σ H R I h
 refine Call_ (z5n I hg hm boot_range (PyProof.Rows.callWith_type1 (thn (ha pos pins s σ H _ I h) fun us s1 hz8=>?_) (by rw [hs,hs2]) (by rw [hs2];rfl)))
 obtain ⟨vs,H1,I1,r1,q1⟩:=hz8
 obtain ⟨i,j,e,⟨q1,q2,q3,q4⟩,q⟩:=q1
 subst e
 cases r1 with
 | cons r rr =>
  cases rr with
  | cons r' rr =>
   cases rr
   obtain ⟨t,rfl⟩:=r
   obtain ⟨t',rfl⟩:=r'
   exact call_range_2 (z9C I1 q1 q2 q3 q4 q)
def zir (wi:TI) (g:TG) (tb:TS):TS:=fun D σ H=>wi σ H fun J H1=>∃ W:Nat→Nat→St→Hp→Prop,(∃ m,W 0 m σ H1)∧∀ i m σ H,W i m σ H →
 (J.stop i H∧D.nx σ H)∨(J.go i H∧∃ N:St→Hp→Prop,(∀ σ' H',N σ' H'→∃ m',m' < m∧W (i+1) m' σ' H')∧∀ x H',J.yld i H x H'→g x σ H' fun σ2 H2=>tb { D with nx:=N,ct:=N,bk:=D.nx } σ2 H2)
def z9m (fp:List Addr) (h:Heap):List (Addr × Obj):=fp.filterMap fun b=>(h.get? b).map fun o=>(b,o)
theorem z1B {fp:List Addr} {h:Heap} {b:Addr} {o:Obj} (hb:b∈fp) (e:h.get? b=some o):(b,o)∈z9m fp h:=List.mem_filterMap.mpr ⟨b,hb,by rw [e];rfl⟩
theorem zax {fp:List Addr} {h:Heap} {p:Addr × Obj} (hp:p∈z9m fp h):p.1∈fp∧h.get? p.1=some p.2:=by
 obtain ⟨b,hb,e⟩:=List.mem_filterMap.mp hp
 cases q:h.get? b with
 | none=>rw [q] at e;cases e
 | some o =>
  rw [q] at e
  have e':(b,o)=p:=Option.some.inj e
  subst e'
  exact ⟨hb,q⟩
theorem Inv.pinned {pins:List (Addr × Obj)} {σ:St} {H:Hp} {s:Shared} {fp:List Addr} (I:Inv X pins σ H s) (hf:∀ b∈fp,z6i X pins H b) (ho:∀ b∈fp,∃ o,s.heap.get? b=some o∧∀ v,o.data≠.cell v):Inv X (pins++z9m fp s.heap) σ H s :=
 I.pins_of fun p hp=>(List.mem_append.mp hp).elim (fun z=>I.pin p (List.mem_append_right _ z)) fun z=>by
  obtain ⟨hb,e⟩:=zax z
  obtain ⟨f0,f1,f2,_⟩:=hf p.1 hb
  obtain ⟨o,e',d⟩:=ho p.1 hb
  rw [e] at e';cases e'
  exact ⟨e,f0,f1,f2,d⟩
theorem Inv.unpinned {pins pl:List (Addr × Obj)} {σ:St} {H:Hp} {s:Shared} (I:Inv X (pins++pl) σ H s):Inv X pins σ H s:=I.pins_of fun p hp=>I.pin p (List.mem_append_right _ (List.mem_append_left _ hp))
theorem z20 {iter:Expr} {body:List Stmt} {wi:TI} {g:TG} {tb:TS} {pos:Pos} (hp:PassesOwn (model X.prog X.w) X.A X.env X.xe) (hc:X.calm=true) (hi:PI X tg iter wi) (hg:PG X tg g) (hb:PSs X body tb)
  (hs:∀ x,foldedSetIterable iter X.env x=pure x:=by intro _;rfl):PS X (.For tg iter body [] pos) (zir wi g tb):=by
 intro pins s σ H D I h
 refine wpAny_For (thn (hi pins s σ H _ I h) fun v s1 h1=>thn h1 fun itv s2 h2=>?_) hs
 obtain ⟨it,fp,tn,J,H2,e,I2,T,st2,f2,W,⟨m0,w0⟩,z1L⟩:=h2
 subst e
 have stat:∀ {H':Hp},(∀ b∈fp,H' b=none)→∀ b∈fp,z6i X pins H' b:=fun hn b hb=>⟨hn b hb,(f2 b hb).2⟩
 refine codeAny_forLoop_any (fun n s'=>∃ i σ' H',Inv X pins σ' H' s'∧tn i s'.heap∧(∀ b∈fp,H' b=none)∧W i n σ' H') ?_ m0 ⟨0,σ,H2,I2,st2,fun b hb=>(f2 b hb).1,w0⟩
 rintro n s3 ⟨i,σ3,H3,I3,st3,fr3,w3⟩
 rcases z1L i n σ3 H3 w3 with ⟨stop,qn⟩ | ⟨go,N,hN,step⟩
 ·refine wpAny_passesOwn hp (thn (T.done X rfl rfl rfl hc i pins s3 σ3 H3 X.xe I3 (stat fr3) st3 stop) fun r s4 hz8=>?_)
  obtain ⟨hr,I4⟩:=hz8
  subst hr
  exact wpAny_execs_nil ⟨σ3,H3,I4,qn⟩
 ·refine wpAny_passesOwn hp (thn (T.item X rfl rfl rfl hc i pins s3 σ3 H3 X.xe I3 (stat fr3) st3 go) fun r s4 hz8=>?_)
  obtain ⟨u,hr,h4⟩:=hz8
  subst hr
  refine wpAny_passesOwn hp (thn h4 fun _ s5 hz8=>?_)
  obtain ⟨x,H5,I5,r5,y5,st5,fr5⟩:=hz8
  have I5':=I5.pinned (stat fr5) (T.obj _ _ st5)
  refine wpAny_passesOwn hp (thn (hg _ s5 σ3 H5 x u _ I5' r5 (step x H5 y5)) fun _ s6 hz8=>?_)
  obtain ⟨σ6,H6,I6,q6⟩:=hz8
  refine wpAny_passesOwn hp (thn (hb _ s6 σ6 H6 _ I6 q6) fun f s7 q7=>?_)
  have again:∀ {σ7:St} {H7:Hp},Inv X (pins++z9m fp s5.heap) σ7 H7 s7→N σ7 H7→∃ m,m < n∧∃ i σ' H',Inv X pins σ' H' s7∧tn i s7.heap∧(∀ b∈fp,H' b=none)∧W i m σ' H':=fun {σ7 H7} I7 n7=>by
   obtain ⟨m',hm,w7⟩:=hN σ7 H7 n7
   refine ⟨m',hm,i+1,σ7,H7,I7.unpinned,T.keep _ _ _ st5 fun b hb o e=>(I7.pin (b,o) (List.mem_append_right _ (List.mem_append_right _ (z1B hb e)))).1,fun b hb=>?_,w7⟩
   obtain ⟨o,e,d⟩:=T.obj _ _ st5 b hb
   exact (I7.pin (b,o) (List.mem_append_right _ (List.mem_append_right _ (z1B hb e)))).2.1
  cases f with
  | next=>obtain ⟨σ7,H7,I7,n7⟩:=q7;exact again I7 n7
  | cont=>obtain ⟨σ7,H7,I7,n7⟩:=q7;exact again I7 n7
  | brk=>obtain ⟨σ7,H7,I7,q7⟩:=q7;exact ⟨σ7,H7,I7.unpinned,q7⟩
  | ret v=>obtain ⟨x7,σ7,H7,I7,r7,q7⟩:=q7;exact ⟨x7,σ7,H7,I7.unpinned,r7,q7⟩
end
theorem zcH {K:PySem.W.Frag} {a:Addr} {xs:List V} {g:TG} {tb:TS} {D:z3Z} {σ:St} {H:Hp} (Pv:Nat→St→Hp→Prop) (h0:Pv 0 σ H) (hl:∀ i σ H,i≤xs.length→Pv i σ H→SqL K H a xs)
  (hs:∀ i x σ H,xs[i]?=some x→Pv i σ H→g x σ H fun σ2 H2=>tb { D with nx:=Pv (i+1),ct:=Pv (i+1),bk:=D.nx } σ2 H2) (hd:∀ σ H,Pv xs.length σ H→D.nx σ H) :
  ∃ W:Nat→Nat→St→Hp→Prop,(∃ m,W 0 m σ H)∧∀ i m σ H,W i m σ H →
   ((Itl K a).stop i H∧D.nx σ H)∨((Itl K a).go i H∧∃ N:St→Hp→Prop,(∀ σ' H',N σ' H'→∃ m',m' < m∧W (i+1) m' σ' H')∧∀ x H',(Itl K a).yld i H x H'→g x σ H' fun σ2 H2=>tb { D with nx:=N,ct:=N,bk:=D.nx } σ2 H2):=by
 refine ⟨fun i m σ H=>m=xs.length - i∧i≤xs.length∧Pv i σ H,⟨xs.length,by simp,Nat.zero_le _,h0⟩,?_⟩
 rintro i m σ H ⟨rfl,hi,p⟩
 have q:=hl i σ H hi p
 by_cases hlt:i < xs.length
 ·refine .inr ⟨⟨xs,xs[i],q,by simp [hlt]⟩,Pv (i+1),fun σ' H' p'=>⟨xs.length - (i+1),by lia,rfl,hlt,p'⟩,fun x H' y=>?_⟩
  obtain ⟨e,y⟩:=y
  subst e
  exact hs i x σ _ (y xs q) p
 ·have e:i=xs.length:=by lia
  subst e
  exact .inl ⟨⟨xs,q,Nat.le_refl _⟩,hd σ H p⟩
theorem zc5 {K:PySem.W.Frag} {a:Addr} {xs:List V} {g:TG} {tb:TS} {D:z3Z} {σ:St} {H:Hp} (Pv:Nat→St→Hp→Prop) (h0:Pv 0 σ H) (hl:∀ i σ H,i≤xs.length→Pv i σ H→SqT K H a xs)
  (hs:∀ i x σ H,xs[i]?=some x→Pv i σ H→g x σ H fun σ2 H2=>tb { D with nx:=Pv (i+1),ct:=Pv (i+1),bk:=D.nx } σ2 H2) (hd:∀ σ H,Pv xs.length σ H→D.nx σ H) :
  ∃ W:Nat→Nat→St→Hp→Prop,(∃ m,W 0 m σ H)∧∀ i m σ H,W i m σ H →
   ((Itt K a).stop i H∧D.nx σ H)∨((Itt K a).go i H∧∃ N:St→Hp→Prop,(∀ σ' H',N σ' H'→∃ m',m' < m∧W (i+1) m' σ' H')∧∀ x H',(Itt K a).yld i H x H'→g x σ H' fun σ2 H2=>tb { D with nx:=N,ct:=N,bk:=D.nx } σ2 H2):=by
 refine ⟨fun i m σ H=>m=xs.length - i∧i≤xs.length∧Pv i σ H,⟨xs.length,by simp,Nat.zero_le _,h0⟩,?_⟩
 rintro i m σ H ⟨rfl,hi,p⟩
 have q:=hl i σ H hi p
 by_cases hlt:i < xs.length
 ·refine .inr ⟨⟨xs,xs[i],q,by simp [hlt]⟩,Pv (i+1),fun σ' H' p'=>⟨xs.length - (i+1),by lia,rfl,hlt,p'⟩,fun x H' y=>?_⟩
  obtain ⟨e,y⟩:=y
  subst e
  exact hs i x σ _ (y xs q) p
 ·have e:i=xs.length:=by lia
  subst e
  exact .inl ⟨⟨xs,q,Nat.le_refl _⟩,hd σ H p⟩
theorem z4J {lo:Int} {n:Nat} {g:TG} {tb:TS} {D:z3Z} {σ:St} {H:Hp} (Pv:Nat→St→Hp→Prop) (h0:Pv 0 σ H)
  (hs:∀ i σ H,i < n→Pv i σ H→g (.int (lo+i)) σ H fun σ2 H2=>tb { D with nx:=Pv (i+1),ct:=Pv (i+1),bk:=D.nx } σ2 H2) (hd:∀ σ H,Pv n σ H→D.nx σ H) :
  ∃ W:Nat→Nat→St→Hp→Prop,(∃ m,W 0 m σ H)∧∀ i m σ H,W i m σ H →
   ((Itr lo n).stop i H∧D.nx σ H)∨((Itr lo n).go i H∧∃ N:St→Hp→Prop,(∀ σ' H',N σ' H'→∃ m',m' < m∧W (i+1) m' σ' H')∧∀ x H',(Itr lo n).yld i H x H'→g x σ H' fun σ2 H2=>tb { D with nx:=N,ct:=N,bk:=D.nx } σ2 H2):=by
 refine ⟨fun i m σ H=>m=n - i∧i≤n∧Pv i σ H,⟨n,by simp,Nat.zero_le _,h0⟩,?_⟩
 rintro i m σ H ⟨rfl,hi,p⟩
 by_cases hlt:i < n
 ·refine .inr ⟨hlt,Pv (i+1),fun σ' H' p'=>⟨n - (i+1),by lia,rfl,hlt,p'⟩,fun x H' y=>?_⟩
  obtain ⟨e,y⟩:=y
  subst e y
  exact hs i σ _ hlt p
 ·have e:i=n:=by lia
  subst e
  exact .inl ⟨Nat.le_refl _,hd σ H p⟩
end L2
namespace L2
open PySem PySem.Spec PyProof.Rows
abbrev R2:=V→V→Hp→VK→Prop
def OpR (X:Cx) (f:Value→Value→Sem Value) (r:R2):Prop :=
 ∀ (pins:List (Addr × Obj)) (s:Shared) (σ:St) (H:Hp) (x y:V) (v u:Value) (Q:VK),Inv X pins σ H s→z1n x v→z1n y u→r x y H Q →
  wpAny (model X.prog X.w) X.A (f v u) (EP X pins σ Q) X.xe s
def UnR (X:Cx) (f:Value→Sem Value) (r:V→Hp→VK→Prop):Prop :=
 ∀ (pins:List (Addr × Obj)) (s:Shared) (σ:St) (H:Hp) (x:V) (v:Value) (Q:VK),Inv X pins σ H s→z1n x v→r x H Q →
  wpAny (model X.prog X.w) X.A (f v) (EP X pins σ Q) X.xe s
def z3s (X:Cx) (f:Value) (r:List V→Hp→VK→Prop):Prop :=
 ∀ (pins:List (Addr × Obj)) (s:Shared) (σ:St) (H:Hp) (xs:List V) (us:List Value) (Q:VK),Inv X pins σ H s→z1i xs us→r xs H Q →
  wpAny (model X.prog X.w) X.A (call f us) (EP X pins σ Q) X.xe s
def tOp (r:R2) (ta tb:TE):TE:=fun σ H Q=>ta σ H fun x H1=>tb σ H1 fun y H2=>r x y H2 Q
def tUn (r:V→Hp→VK→Prop) (ta:TE):TE:=fun σ H Q=>ta σ H fun x H1=>r x H1 Q
def rI (C:Int→Int→Prop) (g:Int→Int→V):R2:=fun x y H Q=>∃ i j,x=.int i∧y=.int j∧C i j∧Q (g i j) H
def rI0 (g:Int→Int→V):R2:=fun x y H Q=>∃ i j,x=.int i∧y=.int j∧Q (g i j) H
def rU (g:Int→V):V→Hp→VK→Prop:=fun x H Q=>∃ i,x=.int i∧Q (g i) H
section
variable {X:Cx} {a b c:Expr} {ta tb tc:TE} {pos:Pos}
theorem zgK (ha:PE X a ta) (hb:PE X b tb) {pins:List (Addr × Obj)} {s:Shared} {σ:St} {H:Hp} {R:V→V→Hp→Prop} (I:Inv X pins σ H s)
  (h:ta σ H fun x H1=>tb σ H1 fun y H2=>R x y H2) {Q:Value→Shared→Prop} {f:Value→Value→Sem Value}
  (hf:∀ v u s2 x y H2,Inv X pins σ H2 s2→z1n x v→z1n y u→R x y H2→wpAny (model X.prog X.w) X.A (f v u) Q X.xe s2) :
  wpAny (model X.prog X.w) X.A (eval a X.env) (fun v s₁=>wpAny (model X.prog X.w) X.A (eval b X.env) (fun u s₂=>wpAny (model X.prog X.w) X.A (f v u) Q X.xe s₂) X.xe s₁) X.xe s:=by
 refine z23 (ha pins s σ H _ I h) fun v s1 x H1 I1 r1 q1=>?_
 refine z23 (hb pins s1 σ H1 _ I1 q1) fun u s2 y H2 I2 r2 q2=>?_
 exact hf v u s2 x y H2 I2 r1 r2 q2
theorem z0r {op:Operator} {r:R2} (ho:OpR X (binaryOp op) r) (ha:PE X a ta) (hb:PE X b tb):PE X (.BinOp a op b pos) (tOp r ta tb):=by
 intro pins s σ H Q I h
 exact wpAny_BinOp (zgK ha hb I h fun v u s2 x y H2 I2 rx ry q=>ho pins s2 σ H2 x y v u Q I2 rx ry q)
theorem zdJ {op:UnaryOp} {r:V→Hp→VK→Prop} (ho:UnR X (unaryOp op) r) (ha:PE X a ta):PE X (.UnaryOp op a pos) (tUn r ta):=by
 intro pins s σ H Q I h
 exact UnaryOp_ (z23 (ha pins s σ H _ I h) fun v s1 x H1 I1 r1 q1=>ho pins s1 σ H1 x v Q I1 r1 q1)
theorem opI {f:Value→Value→Sem Value} {C:Int→Int→Prop} {g:Int→Int→Int}
  (rule:∀ (i j:Int) (t u:Tok) (s:Shared) (Q:Value→Shared→Prop) (E:Value→Shared→Prop),C i j→Q (.int (g i j) s.toks) { s with toks:=s.toks+1 }→wpAny (model X.prog X.w) X.A (f (.int i t) (.int j u)) Q E s) :
  OpR X f (rI C fun i j=>.int (g i j)):=by
 intro pins s σ H x y v u Q I rx ry h
 obtain ⟨i,j,rfl,rfl,hc,q⟩:=h
 obtain ⟨t,rfl⟩:=rx
 obtain ⟨t',rfl⟩:=ry
 exact rule i j t t' s _ _ hc ⟨.int (g i j),H,I.tok _,⟨_,rfl⟩,q⟩
theorem zhv {f:Value→Value→Sem Value} {g:Int→Int→Int}
  (rule:∀ (i j:Int) (t u:Tok) (s:Shared) (Q:Value→Shared→Prop) (E:Value→Shared→Prop),Q (.int (g i j) s.toks) { s with toks:=s.toks+1 }→wpAny (model X.prog X.w) X.A (f (.int i t) (.int j u)) Q E s) :
  OpR X f (rI0 fun i j=>.int (g i j)):=by
 intro pins s σ H x y v u Q I rx ry h
 obtain ⟨i,j,rfl,rfl,q⟩:=h
 obtain ⟨t,rfl⟩:=rx
 obtain ⟨t',rfl⟩:=ry
 exact rule i j t t' s _ _ ⟨.int (g i j),H,I.tok _,⟨_,rfl⟩,q⟩
theorem zgX {f:Value→Value→Sem Value} {g:Int→Int→Bool}
  (rule:∀ (i j:Int) (t u:Tok) (s:Shared) (Q:Value→Shared→Prop) (E:Value→Shared→Prop),Q (.bool (g i j)) s→wpAny (model X.prog X.w) X.A (f (.int i t) (.int j u)) Q E s) :
  OpR X f (rI0 fun i j=>.bl (g i j)):=by
 intro pins s σ H x y v u Q I rx ry h
 obtain ⟨i,j,rfl,rfl,q⟩:=h
 obtain ⟨t,rfl⟩:=rx
 obtain ⟨t',rfl⟩:=ry
 exact rule i j t t' s _ _ ⟨.bl (g i j),H,I,rfl,q⟩
def zi9 (i j:Int):Prop:=0 < j∧j < 1073741824
def zi6 (i j:Int):Prop:=0≤j∧j≤1000000∧i.natAbs < 2 ^ 64
def zgF (i j:Int):Prop:=(-(2 ^ 64) < i∧i < 2 ^ 64)∨(-(2 ^ 64) < j∧j < 2 ^ 64)
theorem zgF.ok {i j:Int} (h:zgF i j):IntMulOk i j:=by
 rcases h with ⟨h1,h2⟩ | ⟨h1,h2⟩
 ·exact .of_left (intBits_le_64 h1 h2)
 ·exact .of_right (intBits_le_64 h1 h2)
theorem z1g:OpR X (binaryOp .Add) (rI0 fun i j=>.int (i+j)):=zhv fun _ _ _ _ _ _ _ q=>add_int q
theorem z2T:OpR X (binaryOp .Sub) (rI0 fun i j=>.int (i - j)):=zhv fun _ _ _ _ _ _ _ q=>sub_int q
theorem z3t:OpR X (binaryOp .Mult) (rI zgF fun i j=>.int (i*j)):=opI fun _ _ _ _ _ _ _ hc q=>mul_int q hc.ok
theorem z2F:OpR X (binaryOp .FloorDiv) (rI zi9 fun i j=>.int (i / j)):=opI fun i j _ _ _ _ _ hc q=>by
 have h1:(0:Int) < j:=hc.1
 have h2:j < 1073741824:=hc.2
 exact floordiv_int (by lia) (by rw [Int.fdiv_eq_ediv_of_nonneg i (by lia)];exact q) (.inl (PyProof.noPylong_small (by lia)))
theorem z0V:OpR X (binaryOp .Mod) (rI (fun _ j=>0 < j) fun i j=>.int (i % j)):=opI fun i j _ _ _ _ _ hc q=>by
 have h1:(0:Int) < j:=hc
 exact mod_int' (by lia) (by rw [Int.fmod_eq_emod_of_nonneg i (by lia)];exact q)
theorem zgm:OpR X (binaryOp .Pow) (rI zi6 fun i j=>.int (i ^ j.toNat)):=opI fun _ _ _ _ _ _ _ hc q=>pow_int_small hc.1 hc.2.1 hc.2.2 q
theorem unI {f:Value→Sem Value} {g:Int→Int}
  (rule:∀ (i:Int) (t:Tok) (s:Shared) (Q:Value→Shared→Prop) (E:Value→Shared→Prop),Q (.int (g i) s.toks) { s with toks:=s.toks+1 }→wpAny (model X.prog X.w) X.A (f (.int i t)) Q E s) :
  UnR X f (rU fun i=>.int (g i)):=by
 intro pins s σ H x v Q I rx h
 obtain ⟨i,rfl,q⟩:=h
 obtain ⟨t,rfl⟩:=rx
 exact rule i t s _ _ ⟨.int (g i),H,I.tok _,⟨_,rfl⟩,q⟩
theorem z90:UnR X (unaryOp .USub) (rU fun i=>.int (-i)):=unI fun _ _ _ _ _ q=>neg_int q
end
def zhW:V→V→Bool
 | .non,.non=>true | .non,.int _=>true | .int _,.non=>true | .non,.bl _=>true | .bl _,.non=>true | .non,.str _=>true | .str _,.non=>true
 | .int _,.int _=>true | .bl _,.bl _=>true | .str _,.str _=>true | .byt _,.byt _=>true
 | .int _,.str _=>true | .str _,.int _=>true | .bl _,.str _=>true | .str _,.bl _=>true
 | _,_=>false
def rEq:R2:=fun x y H Q=>zhW x y=true∧Q (.bl (decide (x=y))) H
theorem zeY {i j:Int}:decide (V.int i=V.int j)=(i == j):=by
 rw [Bool.eq_iff_iff]
 simp
theorem zg8 {i j:Bool}:decide (V.bl i=V.bl j)=(i == j):=by
 rw [Bool.eq_iff_iff]
 simp
theorem zeL {i j:Str}:decide (V.str i=V.str j)=(i == j):=by
 rw [Bool.eq_iff_iff]
 simp
theorem zfg {i j:Array UInt8}:decide (V.byt i=V.byt j)=(i.toList == j.toList):=by
 rw [Bool.eq_iff_iff]
 cases i
 cases j
 simp
section
variable {X:Cx} {a b c:Expr} {ta tb tc:TE} {pos:Pos}
theorem z21 {pins:List (Addr × Obj)} {σ:St} {H:Hp} {s:Shared} {Q:VK} {k k':Bool} (I:Inv X pins σ H s) (q:Q (.bl k) H) (e:k=k'):EP X pins σ Q (.bool k') s:=by
 subst e
 exact ⟨.bl k,H,I,rfl,q⟩
theorem zf5:OpR X (compareOp .Eq) rEq:=by
 intro pins s σ H x y v u Q I rx ry h
 obtain ⟨hs,q⟩:=h
 cases x with
 | non =>
  cases rx
  cases y with
  | non=>cases ry;exact PySem.EqNone.eq_none_none (z21 I q (by simp))
  | bl j=>cases ry;exact PySem.EqNone.eq_none_bool (z21 I q (by simp))
  | int j=>obtain ⟨t',rfl⟩:=ry;exact PySem.EqNone.eq_none_int (z21 I q (by simp))
  | str j=>obtain ⟨t',rfl⟩:=ry;exact PySem.EqNone.eq_none_str (z21 I q (by simp))
  | _=>exact absurd (show false=true from hs) Bool.false_ne_true
 | bl i =>
  cases rx
  cases y with
  | non=>cases ry;exact PySem.EqNone.eq_bool_none (z21 I q (by simp))
  | bl j=>cases ry;exact eq_bool (z21 I q zg8)
  | str j=>obtain ⟨t',rfl⟩:=ry;exact PySem.EqMixed.eq_bool_str (z21 I q (by simp))
  | _=>exact absurd (show false=true from hs) Bool.false_ne_true
 | int i =>
  obtain ⟨t,rfl⟩:=rx
  cases y with
  | non=>cases ry;exact PySem.EqNone.eq_int_none (z21 I q (by simp))
  | int j=>obtain ⟨t',rfl⟩:=ry;exact eq_int (z21 I q zeY)
  | str j=>obtain ⟨t',rfl⟩:=ry;exact PySem.EqMixed.eq_int_str (z21 I q (by simp))
  | _=>exact absurd (show false=true from hs) Bool.false_ne_true
 | str i =>
  obtain ⟨t,rfl⟩:=rx
  cases y with
  | non=>cases ry;exact PySem.EqNone.eq_str_none (z21 I q (by simp))
  | bl j=>cases ry;exact PySem.EqMixed.eq_str_bool (z21 I q (by simp))
  | int j=>obtain ⟨t',rfl⟩:=ry;exact PySem.EqMixed.eq_str_int (z21 I q (by simp))
  | str j=>obtain ⟨t',rfl⟩:=ry;exact eq_str (z21 I q zeL)
  | _=>exact absurd (show false=true from hs) Bool.false_ne_true
 | byt i =>
  obtain ⟨t,rfl⟩:=rx
  cases y with
  | byt j=>obtain ⟨t',rfl⟩:=ry;exact PySem.W.eq_bytes (z21 I q zfg)
  | _=>exact absurd (show false=true from hs) Bool.false_ne_true
 | _=>cases y<;>exact absurd (show false=true from hs) Bool.false_ne_true
theorem z5o:OpR X (compareOp .Lt) (rI0 fun i j=>.bl (decide (i < j))):=zgX fun _ _ _ _ _ _ _ q=>lt_int q
theorem z6X:OpR X (compareOp .LtE) (rI0 fun i j=>.bl (decide (i≤j))):=zgX fun _ _ _ _ _ _ _ q=>le_int q
theorem zcR:OpR X (compareOp .Gt) (rI0 fun i j=>.bl (decide (j < i))):=zgX fun _ _ _ _ _ _ _ q=>gt_int q
theorem zfz:OpR X (compareOp .Is) (fun x y H Q=>y=.non∧Q (.bl (decide (x=.non))) H):=by
 intro pins s σ H x y v u Q I rx ry h
 obtain ⟨rfl,q⟩:=h
 cases ry
 refine is_none_gen (z21 I q ?_)
 cases x<;>first
  | (cases rx;rfl)
  | (obtain ⟨t,rfl⟩:=rx;rfl)
theorem z1d (b:Expr) {op:CmpOp} (h:op≠.In:=by decide) (h2:op≠.NotIn:=by decide):behindInMarks op b=false:=by
 have e1:(op == CmpOp.In)=false:=by cases op<;>first | rfl | exact absurd rfl h
 have e2:(op == CmpOp.NotIn)=false:=by cases op<;>first | rfl | exact absurd rfl h2
 cases b<;>simp [behindInMarks,e1,e2]
theorem z6s {op:CmpOp} {r:R2} (ho:OpR X (compareOp op) r) (ha:PE X a ta) (hb:PE X b tb) (hm:behindInMarks op b=false):PE X (.Compare a [op] [b] pos) (tOp r ta tb):=by
 intro pins s σ H Q I h
 exact wpAny_Compare1 (zgK ha hb I h fun v u s2 x y H2 I2 rx ry q=>ho pins s2 σ H2 x y v u Q I2 rx ry q) hm
def zfW (t:TE):TT:=fun σ H Q=>t σ H fun x H'=>∃ k,x=.bl k∧Q k H'
theorem z0W {op:CmpOp} {r:R2} (ho:OpR X (compareOp op) r) (ha:PE X a ta) (hb:PE X b tb) (hm:behindInMarks op b=false):PT X (.Compare a [op] [b] pos) (zfW (tOp r ta tb)):=by
 intro pins s σ H Q I h
 refine wpAny_isTrue_Compare1 (z23 (ha pins s σ H _ I h) fun v s1 x H1 I1 r1 q1=>z23 (hb pins s1 σ H1 _ I1 q1) fun u s2 y H2 I2 r2 q2 =>
  thn (ho pins s2 σ H2 x y v u _ I2 r1 r2 q2) fun c s3 ⟨z,H3,I3,r3,k,e,q3⟩=>?_) hm
 subst e
 cases r3
 exact wpAny_truthy_bool ⟨H3,I3,q3⟩
def zej (r r':R2) (ta tb tc:TE):TE:=fun σ H Q=>ta σ H fun x H1=>tb σ H1 fun y H2=>r x y H2 fun z H3=>∃ k,z=.bl k ∧
 (if k=true then tc σ H3 fun w' H4=>r' y w' H4 Q else Q (.bl false) H3)
theorem zdF {op op':CmpOp} {r r':R2} (ho:OpR X (compareOp op) r) (ho':OpR X (compareOp op') r') (ha:PE X a ta) (hb:PE X b tb) (hc:PE X c tc)
  (hm:lastMarks [op,op'] [b,c]=false:=by with_unfolding_all rfl):PE X (.Compare a [op,op'] [b,c] pos) (zej r r' ta tb tc):=by
 intro pins s σ H Q I h
 refine Compare_chain (z23 (ha pins s σ H _ I h) fun v s1 x H1 I1 r1 q1=>chain_link (z23 (hb pins s1 σ H1 _ I1 q1) fun u s2 y H2 I2 r2 q2 =>
  thn (ho pins s2 σ H2 x y v u _ I2 r1 r2 q2) fun d s3 ⟨z,H3,I3,r3,k,e,q3⟩=>?_)) hm
 subst e
 cases r3
 refine wpAny_truthy_bool ?_
 cases k with
 | false=>exact ite_ff ⟨.bl false,H3,I3,rfl,q3⟩
 | true=>exact ite_tt (chain_last (thn (hc pins s3 σ H3 _ I3 q3) fun w' s4 ⟨z',H4,I4,r4,q4⟩=>ho' pins s4 σ H4 y z' u w' Q I4 r2 r4 q4))
theorem z4r {op op':CmpOp} {r r':R2} (ho:OpR X (compareOp op) r) (ho':OpR X (compareOp op') r') (ha:PE X a ta) (hb:PE X b tb) (hc:PE X c tc)
  (hm:lastMarks [op,op'] [b,c]=false:=by with_unfolding_all rfl):PT X (.Compare a [op,op'] [b,c] pos) (zfW (zej r r' ta tb tc)):=by
 intro pins s σ H Q I h
 refine isTrue_chain (z23 (ha pins s σ H _ I h) fun v s1 x H1 I1 r1 q1=>test_link (z23 (hb pins s1 σ H1 _ I1 q1) fun u s2 y H2 I2 r2 q2 =>
  thn (ho pins s2 σ H2 x y v u _ I2 r1 r2 q2) fun d s3 ⟨z,H3,I3,r3,k,e,q3⟩=>?_)) hm
 subst e
 cases r3
 refine wpAny_truthy_bool ?_
 cases k with
 | false =>
  obtain ⟨k',e',q'⟩:=q3
  cases e'
  exact ite_ff ⟨H3,I3,q'⟩
 | true =>
  refine ite_tt (test_last (z23 (hc pins s3 σ H3 _ I3 q3) fun w' s4 z' H4 I4 r4 q4=>z23 (ho' pins s4 σ H4 y z' u w' _ I4 r2 r4 q4) fun d' s5 z2 H5 I5 r5 hz9=>?_))
  obtain ⟨k2,e2,q5⟩:=hz9
  subst e2
  cases r5
  exact wpAny_truthy_bool ⟨H5,I5,q5⟩
theorem z7t:(sizeLine:Nat) < 2 ^ 63:=by rw [sizeLine_eq];decide
theorem z5J {x:V} {us:List Value} (r:z1i [x] us):∃ u,us=[u]∧z1n x u:=by
 cases r with
 | cons r1 r2=>cases r2;exact ⟨_,rfl,r1⟩
theorem zeG {x y:V} {us:List Value} (r:z1i [x,y] us):∃ u w',us=[u,w']∧z1n x u∧z1n y w':=by
 cases r with
 | cons r1 r2 =>
  cases r2 with
  | cons r3 r4=>cases r4;exact ⟨_,_,rfl,r1,r3⟩
theorem zcN:z3s X (.builtin "abs") (fun xs H Q=>∃ i,xs=[.int i]∧Q (.int (if i < 0 then -i else i)) H):=by
 intro pins s σ H xs us Q I r h
 obtain ⟨i,rfl,q⟩:=h
 obtain ⟨u,rfl,t,rfl⟩:=z5J r
 exact call_abs_int fun u tk=>⟨.int (if i < 0 then -i else i),H,I.tok _,⟨_,rfl⟩,q⟩
theorem zbh (hc:X.calm=true):z3s X (.builtin "min") (fun xs H Q=>∃ i j,xs=[.int i,.int j]∧Q (.int (if j < i then j else i)) H):=by
 intro pins s σ H xs us Q I r h
 obtain ⟨i,j,rfl,q⟩:=h
 obtain ⟨u,w',rfl,⟨t,rfl⟩,⟨t',rfl⟩⟩:=zeG r
 refine min_two_ints (I.ok.hd hc) fun h' tk k=>⟨_,H,I.kept k,?_,q⟩
 by_cases hj:j < i
 ·rw [if_pos hj,if_pos hj];exact ⟨_,rfl⟩
 ·rw [if_neg hj,if_neg hj];exact ⟨_,rfl⟩
end
end L2
namespace L2
open PySem PySem.Spec PyProof.Rows
section
variable {prog:Program} {w:World} {A:Around} {E:Value→Shared→Prop} {s:Shared} {K:PySem.W.Frag} {x dx C f:Addr} {mA:Str→Option Value} {name:Str} {v:Value}
end
theorem z8T.some_of {v:V} {o:Option Value} (r:z8T (some v) o):∃ u,o=some u∧z1n v u:=by
 cases o with
 | none=>exact (show False from r).elim
 | some u=>exact ⟨u,rfl,r⟩
section
variable {P:Program} {w:World} {H H':Hp} {h h':Heap} {a C dx:Addr} {fs fs':List (Str × V)}
end
section
variable {X:Cx} {pins:List (Addr × Obj)} {σ:St} {H:Hp} {s:Shared} {a C dx:Addr} {fs:List (Str × V)} {f:Str} {v:V} {A:Around} {E:Value→Shared→Prop}
end
section
variable {X:Cx} {o e value:Expr} {f:Str} {pos pos' tpos:Pos} {ta tv:TE}
end
section
variable {X:Cx} {pins:List (Addr × Obj)} {σ:St} {H:Hp} {s:Shared} {A:Around} {E:Value→Shared→Prop} {Q:Value→Shared→Prop} {c:Value} {b:Bool}
end
end L2
namespace L2
open PySem PySem.Spec PyProof.Rows
structure z3X (k:Nat) (A:Around):Prop where
 hd:A.handled=none
 dp:A.depth+3*k+5 < recursionLimit
 un:A.units+16*k+200 < cLine
theorem z3X.mono {j k:Nat} {A:Around} (r:z3X k A) (h:j≤k):z3X j A:=⟨r.hd,by have:=r.dp;lia,by have:=r.un;lia⟩
theorem z3X.deeper {k:Nat} {A:Around} (r:z3X (k+1) A) (env:Env):z3X k (A.deeper env) :=
 ⟨r.hd,by have:=r.dp;show A.depth+1+3*k+5 < _;lia,by have:=r.un;show A.units+3+16*k+200 < _;lia⟩
theorem z3X.depth {k:Nat} {A:Around} (r:z3X k A):A.depth < recursionLimit:=by have:=r.dp;lia
theorem z3X.units {k:Nat} {A:Around} (r:z3X k A):A.units+64 < cLine:=by have:=r.un;lia
theorem z3X.units0 {k:Nat} {A:Around} (r:z3X k A):A.units < cLine:=by have:=r.un;lia
def zfU:TA:=fun _ H Q=>Q [] H
def z8u (ta:TE) (tr:TA):TA:=fun σ H Q=>ta σ H fun x H1=>tr σ H1 fun xs H2=>Q (x::xs) H2
section
variable {X:Cx} {e:Expr} {es:List Expr} {te:TE} {t:TA} {pos:Pos}
theorem z05:PA X [] zfU:=fun _ _ _ _ H Q I h=>Calls.spliced_nil ⟨[],H,I,.nil,h⟩
theorem z02 (ha:PE X e te) (hr:PA X es t) (hs:starEach (e::es) X.env=(false,eval e X.env)::starEach es X.env:=by rfl):PA X (e::es) (z8u te t):=by
 intro pos pins s σ H Q I h
 rw [hs]
 show wpAny _ _ (spliced ((false,eval e X.env)::backTo pos (starEach es X.env))) _ _ s
 refine Calls.spliced_cons (z23 (ha pins s σ H _ I h) fun u s1 x H1 I1 r1 q1=>?_)
 exact thn (hr pos pins s1 σ H1 _ I1 q1) fun us s2 ⟨xs,H2,I2,r2,q2⟩=>⟨x::xs,H2,I2,.cons r1 r2,q2⟩
def zhJ (t:TA):TE:=fun σ H Q=>t σ H fun xs H1=>xs.length≤sizeLine∧∀ p,H1 p=none→Q (.ref p) (upd H1 p (.tup xs))
def zi2 (t:TA):TE:=fun σ H Q=>t σ H fun xs H1=>xs.length≤sizeLine∧∀ p,H1 p=none→Q (.ref p) (upd H1 p (.lst xs))
theorem z1F {x1} (h:PA X es t):PE X (.Tuple es x1 pos) (zhJ t):=by
 intro pins s σ H Q I hq
 refine wpAny_Tuple_spliced (thn (h pos pins s σ H _ I hq) fun us s1 ⟨xs,H1,I1,r,z,q⟩=>⟨by rw [←r.length];exact z,?_⟩)
 have hf:H1 s1.heap.objs.size=none:=I1.hok.fresh (Nat.le_refl _)
 refine ⟨.ref s1.heap.objs.size,upd H1 s1.heap.objs.size (.tup xs),I1.laid (t':=s1.toks) (fun b u e=>Heap.get?_push_of_some _ e) (Nat.le_refl _) ?_,rfl,q _ hf⟩
 exact ⟨z,us,0,r,Heap.get?_push_size _ rfl⟩
theorem z2h (h:PA X es t):PE X (.List es pos) (zi2 t):=by
 intro pins s σ H Q I hq
 refine wpAny_List_spliced (thn (h pos pins s σ H _ I hq) fun us s1 ⟨xs,H1,I1,r,z,q⟩=>⟨by rw [←r.length];exact z,?_⟩)
 have hf:H1 s1.heap.objs.size=none:=I1.hok.fresh (Nat.le_refl _)
 refine ⟨.ref s1.heap.objs.size,upd H1 s1.heap.objs.size (.lst xs),I1.laid (t':=s1.toks) (fun b u e=>Heap.get?_push_of_some _ e) (Nat.le_refl _) ?_,rfl,q _ hf⟩
 exact ⟨z,us,0,r,Heap.get?_push_size _ rfl⟩
end
abbrev Sp:=List V→Hp→VK→XK→Prop
abbrev CXT:=List Env→Hp→Shared→XK→Value→Shared→Prop
structure zfh (P:Program) (w:World) (K:PySem.W.Frag) (mg:Str→Option Value) (base:Heap) (A:Around) (outer:List Env) (s:Shared) (H:Hp):Prop where
 frames:A.frames=some outer
 mod:Mod K mg base
 bs:∀ b o,base.get? b=some o→s.heap.get? b=some o∧H b=none
 bsz:base.objs.size≤s.heap.objs.size
 funs:s.heap.FunFrames base outer
 frf:∀ b∈frs outer,H b=none
 hok:HOk P w H s.heap
 bare:AllBare s.gens
def CE (outer:List Env) (P:Program) (w:World) (H:Hp) (s:Shared) (Q:VK) (u:Value) (s':Shared):Prop :=
 ∃ v H',s'.os=s.os∧AllBare s'.gens∧Un (frs outer) [] H H' s.heap s'.heap∧HOk P w H' s'.heap∧z1n v u∧Q v H'
def CR (CX:CXT) (outer:List Env) (P:Program) (w:World) (H:Hp) (s:Shared) (Q:VK) (E:XK) (r:Result) (s':Shared):Prop :=
 match r with
 | .ok (.ret u)=>CE outer P w H s Q u s'
 | .ok _=>False
 | .error e=>CX outer H s E e s'
structure z0t (P:Program) (w:World) (K:PySem.W.Frag) (mg:Str→Option Value) (base:Heap) (CX:CXT) (k:Nat) (f:Addr) (fd:FuncData) (ps:List Str) (sp:Sp):Prop where
 len:∀ vs H Q E,sp vs H Q E→vs.length=ps.length
 run:∀ (A:Around) (outer:List Env) (s:Shared) (H:Hp) (args:Args) (us:List Value) (vs:List V) (Q:VK) (E:XK),z3X k A→zfh P w K mg base A outer s H→BindsTo s fd args (ps.zip us)→z1i vs us→sp vs H Q E →
  codeAny (model P w) A (.call (.ref f) args) (CR CX outer P w H s Q E) s
theorem z0t.mono {P:Program} {w:World} {K:PySem.W.Frag} {mg:Str→Option Value} {base:Heap} {CX:CXT} {j k:Nat} {f:Addr} {fd:FuncData} {ps:List Str} {sp:Sp} (F:z0t P w K mg base CX j f fd ps sp) (h:j≤k) :
  z0t P w K mg base CX k f fd ps sp:=⟨F.len,fun A outer s H args us vs Q E hr=>F.run A outer s H args us vs Q E (hr.mono h)⟩
section
variable {X:Cx} {pins:List (Addr × Obj)} {σ:St} {H:Hp} {s s':Shared}
theorem Inv.env0 (I:Inv X pins σ H s):zfh X.prog X.w X.K X.mg X.base X.A X.stack s H :=
 ⟨I.ok.frames,I.ok.mod,I.bs,Nat.le_trans I.ok.bsz I.sz,I.stack,I.stkFree,I.hok,I.bare⟩
theorem Inv.after {Q:VK} {u:Value} (I:Inv X pins σ H s) (h:CE X.stack X.prog X.w H s Q u s'):EP X pins σ Q u s':=by
 obtain ⟨v,H',os,bare,un,hok,r,q⟩:=h
 obtain ⟨hh,g,d,t,os'⟩:=s'
 obtain rfl:os'=s.os:=os
 exact ⟨v,H',I.call (h':=hh) (g':=g) (d':=d) (t':=t) (ch:=[]) un hok bare (fun b z=>absurd z (by simp)),r,q⟩
end
def zhf (sp:Sp) (dvs:List V) (E:XK) (t:TA):TE:=fun σ H Q=>t σ H fun vs H1=>sp (vs++dvs) H1 Q E
def z0k (K:PySem.W.Frag) (fd:FuncData) (ps:List Str) (ds:List Value):Prop :=
 ∀ (s:Shared) (us:List Value),K.In s.heap→(us++ds).length=ps.length→BindsTo s fd ⟨us,[]⟩ (ps.zip (us++ds))
theorem z0k.all {K:PySem.W.Frag} {fd:FuncData} {ps:List Str} (h:∀ us:List Value,us.length=ps.length→bindArgs fd ⟨us,[]⟩=pure (ps.zip us)):z0k K fd ps []:=fun s us _ hl=>by
 rw [List.append_nil] at hl ⊢
 exact .of_eq (h us hl)
def z4K (CX:CXT) (X:Cx) (E:XK):Prop:=∀ (pins:List (Addr × Obj)) (σ:St) (H:Hp) (s:Shared) (e:Value) (s':Shared),Inv X pins σ H s→CX X.stack H s E e s'→X.xe e s'
section
variable {X:Cx} {CX:CXT} {k:Nat} {f C:Addr} {fd:FuncData} {ps:List Str} {sp:Sp} {dvs:List V} {ds:List Value} {E:XK} {x m:Str} {p pos apos:Pos} {e o:Expr} {es:List Expr} {ta:TE} {t:TA}
theorem zga {pins:List (Addr × Obj)} {σ:St} {H:Hp} {s:Shared} {Q:VK} {us:List Value} {vs:List V} (F:z0t X.prog X.w X.K X.mg X.base CX k f fd ps sp) (hr:z3X k X.A) (hb:z0k X.K fd ps ds) (hd:z1i dvs ds) (hx:z4K CX X E)
  (I:Inv X pins σ H s) (r:z1i vs us) (h:sp (vs++dvs) H Q E):wpAny (model X.prog X.w) X.A (call (.ref f) us) (EP X pins σ Q) X.xe s:=by
 have r2:z1i (vs++dvs) (us++ds):=r.append hd
 have hl:(us++ds).length=ps.length:=by rw [←r2.length];exact F.len _ _ _ _ h
 refine wpAny_call (codeAny_mono (F.run X.A X.stack s H ⟨us,[]⟩ (us++ds) (vs++dvs) Q E hr I.env0 (hb s us I.kIn hl) r2 h) fun r s' hq=>?_)
 cases r with
 | error e=>exact hx pins σ H s e s' I hq
 | ok fl =>
  cases fl with
  | ret u=>exact I.after hq
  | next=>exact False.elim hq
  | brk=>exact False.elim hq
  | cont=>exact False.elim hq
theorem z0c (F:z0t X.prog X.w X.K X.mg X.base CX k f fd ps sp) (hr:z3X k X.A) (hg:Gl X x) (hm:X.mg x=some (.ref f)) (hk:PySem.W.keepIn X.K (.ref f)=true) (hb:z0k X.K fd ps ds) (hd:z1i dvs ds) (hx:z4K CX X E)
  (ha:PA X (e::es) t) (hdb:(x == ("__debug__":Str))=false:=by decide) (he:starEach (e::es) X.env=(false,eval e X.env)::starEach es X.env:=by rfl) (hpl:(backTo pos (starEach es X.env)).any (·.1)=false:=by rfl) :
  PE X (.Call (.Name x p) (e::es) [] pos) (zhf sp dvs E t):=by
 intro pins s σ H Q I h
 refine wpAny_Call_Name_kw (z58 I hg hm ?_ hdb)
 refine PySem.W.callWith_K (h₀:=X.base) I.ok.mod.kin hk (thn (ha pos pins s σ H _ I h) fun us s1 ⟨vs,H1,I1,r,q⟩=>⟨I1.kIn,?_⟩) he hpl
 exact zga F hr hb hd hx I1 r q
end
section
variable {X:Cx} {CX:CXT} {k:Nat} {f C:Addr} {fd:FuncData} {ps ks:List Str} {sp:Sp} {E:XK} {x m:Str} {p pos apos kpos:Pos} {e o:Expr} {es:List Expr} {kws:List Keyword} {te ta:TE} {t tk:TA} {nm:Option Str}
variable {g:List Value→List Value→List Value} {gV:List V→List V→List V}
end
structure z0n (N P:List Str) (sc:Scope):Prop where
 kind:sc.kind=.function
 co:sc.isCoroutine=false
 gen:sc.isGenerator=false
 nd:N.Nodup
 pre:N.take P.length=P
 par:∀ x∈P,sc.names.lookup x=some .local∨sc.names.lookup x=some .cell
 nofree:∀ y∈sc.names,y.2≠.free
theorem z7F {kindOf:Str→Option NameKind} {x:Str}:∀ {binds:List (Str × Value)} {m:Str→Option Value},(∀ v,(x,v)∉binds)→bindL kindOf binds m x=m x
 | [],_,_=>rfl
 | (n,v)::r,m,h=>by
  unfold bindL
  rw [z7F fun w hw=>h w (List.mem_cons_of_mem _ hw)]
  split
  ·have:x≠n:=by rintro rfl;exact h v List.mem_cons_self
   simp [this]
  ·rfl
theorem z83 {kindOf:Str→Option NameKind} {x:Str}:∀ {binds:List (Str × Value)} {m:Str→Option Value},(∀ v,(x,v)∉binds)→bindC kindOf binds m x=m x
 | [],_,_=>rfl
 | (n,v)::r,m,h=>by
  unfold bindC
  rw [z83 fun w hw=>h w (List.mem_cons_of_mem _ hw)]
  split
  ·rfl
  ·have:x≠n:=by rintro rfl;exact h v List.mem_cons_self
   simp [this]
theorem z7B {kindOf:Str→Option NameKind} {x:Str} {v:Value}:∀ {P:List Str} {vs:List Value} {i:Nat} {m:Str→Option Value},P.Nodup→P[i]?=some x→vs[i]?=some v→kindOf x=some .local →
  bindL kindOf (P.zip vs) m x=some v
 | [],_,_,_,_,h,_,_=>by simp at h
 | _::_,[],_,_,_,_,h,_=>by simp at h
 | p::P,w::vs,0,m,nd,h1,h2,hk=>by
  simp at h1 h2;subst h1;subst h2
  show bindL kindOf ((p,w)::P.zip vs) m p=_
  unfold bindL
  rw [z7F fun v hv=>(List.nodup_cons.mp nd).1 (List.of_mem_zip hv).1,if_pos hk]
  simp
 | p::P,w::vs,i+1,m,nd,h1,h2,hk=>by
  show bindL kindOf ((p,w)::P.zip vs) m x=_
  unfold bindL
  exact z7B (i:=i) (List.nodup_cons.mp nd).2 (by simpa using h1) (by simpa using h2) hk
theorem z8d {kindOf:Str→Option NameKind} {x:Str} {v:Value}:∀ {P:List Str} {vs:List Value} {i:Nat} {m:Str→Option Value},P.Nodup→P[i]?=some x→vs[i]?=some v→kindOf x≠some .local →
  bindC kindOf (P.zip vs) m x=some v
 | [],_,_,_,_,h,_,_=>by simp at h
 | _::_,[],_,_,_,_,h,_=>by simp at h
 | p::P,w::vs,0,m,nd,h1,h2,hk=>by
  simp at h1 h2;subst h1;subst h2
  show bindC kindOf ((p,w)::P.zip vs) m p=_
  unfold bindC
  rw [z83 fun v hv=>(List.nodup_cons.mp nd).1 (List.of_mem_zip hv).1,if_neg hk]
  simp
 | p::P,w::vs,i+1,m,nd,h1,h2,hk=>by
  show bindC kindOf ((p,w)::P.zip vs) m x=_
  unfold bindC
  exact z8d (i:=i) (List.nodup_cons.mp nd).2 (by simpa using h1) (by simpa using h2) hk
def z5K (N:List Str) (vs:List V):St:=vs.map some++List.replicate (N.length - vs.length) none
def z7o (CX:CXT) (P:Program) (w:World) (K:PySem.W.Frag) (mg:Str→Option Value) (base:Heap) (N:List Str) (qual:Str) (scope:Scope) (f:Addr) (cd:Value) (A:Around) (outer:List Env) (s:Shared) (H:Hp) (E:XK):Cx where
 prog:=P
 w:=w
 K:=K
 mg:=mg
 base:=base
 A:=A.deeper (envOfC qual scope s.heap.objs.size f cd)
 N:=N
 s₀:=s
 H₀:=H
 env:=envOfC qual scope s.heap.objs.size f cd
 outer:=outer
 stack:=envOfC qual scope s.heap.objs.size f cd::outer
 ex:=[]
 calm:=true
 fn:=fun _=>true
 pn:=[]
 xe:=fun e s'=>wpAny (model P w) (A.deeper (envOfC qual scope s.heap.objs.size f cd)) (leaving (envOfC qual scope s.heap.objs.size f cd) e) (fun _ s''=>CX outer H s E e s'') (fun e' s''=>CX outer H s E e' s'') s'
theorem z9r {sc:Scope} {n:Nat} {x:Str} (h:sc.names.lookup x=some .cell):∃ c,(cellsFrom n sc.names []).lookup x=some c:=by
 have q:=PySem.W.cellsFrom_some sc.names n [] (.inl h)
 exact Option.isSome_iff_exists.mp q
theorem zcl {CX:CXT} {P:Program} {w:World} {K:PySem.W.Frag} {mg:Str→Option Value} {base:Heap} {N ps:List Str} {qual:Str} {scope:Scope} {f:Addr} {cd:Value} {A:Around} {outer:List Env} {s s1:Shared} {H:Hp} {E:XK} {us:List Value} {vs:List V}
  (S:z0n N ps scope) (hd:A.handled=none) (e0:zfh P w K mg base A outer s H) (hl:vs.length=ps.length) (r:z1i vs us)
  (x:InCallC s s.heap.objs.size (bindL (envOfC qual scope s.heap.objs.size f cd).kindOf (ps.zip us) fun _=>none) (cellsFrom (s.heap.objs.size+1) scope.names []) (bindC (envOfC qual scope s.heap.objs.size f cd).kindOf (ps.zip us) fun _=>none) s1) :
  Inv (z7o CX P w K mg base N qual scope f cd A outer s H E) [] (z5K N vs) H s1:=by
 have hpl:ps.length≤N.length:=by have:=congrArg List.length S.pre;rw [List.length_take] at this;lia
 obtain ⟨h1,tk,rfl,hk⟩:=x.done
 have noA:∀ b:Addr,b∉(z7o CX P w K mg base N qual scope f cd A outer s H E).ex:=fun b z=>absurd (show b∈([]:List Addr) from z) (by simp)
 refine ⟨⟨e0.mod,S.kind,rfl,rfl,Nat.le_refl _,fun y z c h1 h2=>?_,fun y hy=>?_,fun y c _ h=>?_,fun _=>hd,Around.frames_deeper e0.frames,.inr ⟨rfl,rfl⟩,fun b z=>absurd z (noA b),e0.bs,e0.bsz,fun b _ _=>noA b,fun b z=>absurd z (noA b),e0.funs,e0.frf⟩,
  rfl,e0.bare,Un.kept hk,⟨_,x.toInCall.ns,fun i y v h1 h2 h3=>?_⟩,fun y c h=>⟨_,x.cell y c h⟩,e0.hok.fresh (Nat.le_refl _),fun y c h=>?_,fun p hp=>absurd (show p∈([]:List (Addr × Obj)) from hp) (by simp),e0.hok.kept hk,?_⟩
 ·exact name_of_addr x.apart (PySem.mem_of_lookup h1) (PySem.mem_of_lookup h2)
 ·have hy:scope.names.lookup y=some .cell∨scope.names.lookup y=some .free:=hy
  rcases hy with hy | hy
  ·exact z9r hy
  ·exact absurd rfl (S.nofree _ (PySem.mem_of_lookup hy))
 ·exact Nat.le_of_lt (x.above y c (PySem.mem_of_lookup h))
 ·have hi:i < vs.length:=by
   unfold z5K at h2
   by_cases hi:i < vs.length
   ·exact hi
   ·rw [List.getElem?_append_right (by simpa using hi)] at h2
    rw [List.getElem?_replicate] at h2
    split at h2<;>cases h2
  have ha:vs[i]?=some v:=by
   unfold z5K at h2
   rw [List.getElem?_append_left (by simpa using hi),List.getElem?_map] at h2
   cases e:vs[i]? with
   | none=>rw [e] at h2;cases h2
   | some a=>rw [e] at h2;cases h2;rfl
  obtain ⟨u,hu,rv⟩:=r.get ha
  have hp:ps[i]?=some y:=by
   rw [←S.pre,List.getElem?_take_of_lt (by lia)];exact h1
  have ndP:ps.Nodup:=by rw [←S.pre];exact S.nd.sublist (List.take_sublist _ _)
  refine ⟨u,rv,?_⟩
  rcases S.par y (List.mem_of_getElem? hp) with k | k
  ·exact .inl ⟨k,z7B ndP hp hu k⟩
  ·obtain ⟨c,e⟩:=z9r (n:=s.heap.objs.size+1) k
   refine .inr ⟨.inl k,c,e,?_⟩
   have q:=x.cell y c e
   rw [z8d ndP hp hu (by show scope.names.lookup y≠_;rw [k];decide)] at q
   exact q
 ·exact e0.hok.fresh (Nat.le_of_lt (x.above y c (PySem.mem_of_lookup h)))
 ·unfold z5K
  show _=N.length
  rw [List.length_append,List.length_map,List.length_replicate]
  lia
theorem zfc {CX:CXT} {P:Program} {w:World} {K:PySem.W.Frag} {mg:Str→Option Value} {base:Heap} {k:Nat} {f:Addr} {name qual:Str} {params:Arguments} {body:List Stmt} {scope:Scope} {dV kV doc pm cdv ct oc:Value} {an od:Option Addr}
  {osl:Array (Option Value)} {N ps:List Str} {sp:Sp} (lk:K.lookup f=some ⟨oc,od,.func (PySem.W.fnOf name qual params body scope dV kV doc pm an cdv ct),osl⟩) (hcd:PySem.W.codeIn K cdv qual=true) (S:z0n N ps scope)
  (len:∀ vs H Q E,sp vs H Q E→vs.length=ps.length)
  (hbody:∀ (A:Around) (outer:List Env) (s:Shared) (H:Hp) (vs:List V) (Q:VK) (E:XK),z3X k (A.deeper (envOfC qual scope s.heap.objs.size f cdv))→sp vs H Q E →
   ∃ t,PSs (z7o CX P w K mg base N qual scope f cdv A outer s H E) body t∧t { nx:=fun _ H'=>Q .non H',rt:=Q } (z5K N vs) H) :
  z0t P w K mg base CX (k+1) f (PySem.W.fnOf name qual params body scope dV kV doc pm an cdv ct) ps sp:=by
 refine ⟨len,fun A outer s H args us vs Q E hr e0 hb r hsp=>?_⟩
 have hl:=len _ _ _ _ hsp
 have KX:K.In s.heap:=e0.mod.kin.keeps fun b o e=>(e0.bs b o e).1
 have lim:s.heap.NoLimit:=e0.mod.nolimit.keeps fun b o e=>(e0.bs b o e).1
 have hkind:∀ y∈ps.zip us,scope.names.lookup y.1=some .local∨(scope.names.lookup y.1=some .cell∧((cellsFrom (s.heap.objs.size+1) scope.names []).lookup y.1).isSome=true):=fun ⟨n,v⟩ hy=>by
  rcases S.par n (List.of_mem_zip hy).1 with q | q
  ·exact .inl q
  ·exact .inr ⟨q,PySem.W.cellsFrom_some _ _ _ (.inl q)⟩
 refine codeAny_call_function hr.depth (KX _ _ lk) rfl S.co S.gen rfl (PySem.W.codeRec_of KX hcd) (hb _ _ _ _ ?_)
 refine wpAny_newFunctionEnv_cells S.kind hkind fun env he s1 x=>?_
 subst he
 refine ⟨lim.keeps x.toInCall.keep,codeAny_func ?_⟩
 obtain ⟨t,ht,hq⟩:=hbody A outer s H vs Q E (hr.deeper _) hsp
 have I:Inv (z7o CX P w K mg base N qual scope f cdv A outer s H E) [] (z5K N vs) H s1:=zcl S hr.hd e0 hl r x
 refine wpAny_mono (ht [] s1 (z5K N vs) H _ I hq) (fun fl s' hs=>?_) fun e s' hs=>hs
 have fin:∀ {σ':St} {H':Hp} {v:V} {u:Value},Inv (z7o CX P w K mg base N qual scope f cdv A outer s H E) [] σ' H' s'→z1n v u→Q v H'→CE outer P w H s Q u s' :=
  fun {σ' H' v u} J rv q=>⟨v,H',J.os,J.bare,J.base,J.hok,rv,q⟩
 cases fl with
 | ret u =>
  obtain ⟨v,σ',H',J,rv,q⟩:=hs
  exact fin J rv q
 | next =>
  obtain ⟨σ',H',J,q⟩:=hs
  exact fin (v:=V.non) (u:=Value.none) J rfl q
 | brk =>
  obtain ⟨_,_,_,q⟩:=hs
  exact False.elim q
 | cont =>
  obtain ⟨_,_,_,q⟩:=hs
  exact False.elim q
end L2
namespace L2
open PySem PySem.Spec PyProof.Rows
section
variable {X:Cx} {x:Str} {p pos:Pos} {e:Expr} {es:List Expr} {t:TA} {id T:String} {r:List V→Hp→VK→Prop}
def tCB (r:List V→Hp→VK→Prop) (t:TA):TE:=fun σ H Q=>t σ H fun vs H1=>r vs H1 Q
theorem z0m (hc:z3s X (.builtin id) r) (hg:Gl X x) (hm:X.mg x=none) (hv:bootBuiltins x=some (.builtin id)) (ha:PA X (e::es) t) (hn:x≠"__name__":=by decide) (hdb:(x == ("__debug__":Str))=false:=by decide)
  (he:starEach (e::es) X.env=(false,eval e X.env)::starEach es X.env:=by rfl) (hpl:(backTo pos (starEach es X.env)).any (·.1)=false:=by rfl):PE X (.Call (.Name x p) (e::es) [] pos) (tCB r t):=by
 intro pins s σ H Q I h
 refine wpAny_Call_Name_kw (z5n I hg hm hv ?_ hn hdb)
 exact PyProof.Rows.callWith_builtin1 (thn (ha pos pins s σ H _ I h) fun us s1 ⟨vs,H1,I1,r1,q1⟩=>hc pins s1 σ H1 vs us Q I1 r1 q1) he hpl
theorem z0u (hc:z3s X (.type T) r) (hg:Gl X x) (hm:X.mg x=none) (hv:bootBuiltins x=some (.type T)) (ha:PA X (e::es) t) (hn:x≠"__name__":=by decide) (hdb:(x == ("__debug__":Str))=false:=by decide)
  (he:starEach (e::es) X.env=(false,eval e X.env)::starEach es X.env:=by rfl) (hpl:(backTo pos (starEach es X.env)).any (·.1)=false:=by rfl):PE X (.Call (.Name x p) (e::es) [] pos) (tCB r t):=by
 intro pins s σ H Q I h
 refine wpAny_Call_Name_kw (z5n I hg hm hv ?_ hn hdb)
 exact PyProof.Rows.callWith_type1 (thn (ha pos pins s σ H _ I h) fun us s1 ⟨vs,H1,I1,r1,q1⟩=>hc pins s1 σ H1 vs us Q I1 r1 q1) he hpl
end
end L2
namespace HT
open PySem PyProof.Rows
section
open PySem.SeqAt
open PySem.AutoSeq1 (wpAny_loadPart')
open PySem.MeetsSeq PySem.MeetsSeq2 PySem.MeetsSeq3
end
section
variable {prog:Program} {w:World} {A:Around} {E:Value→Shared→Prop} {s:Shared}
theorem cat_tup {t b:Addr} {vs ws:List Value} {Q:Value→Shared→Prop} (ht:IsTup s.heap t vs.toArray) (hb:IsTup s.heap b ws.toArray) (hv:vs≠[])
  (h1:ws=[]→Q (.ref t) s) (h2:ws≠[]→Q (.ref s.heap.objs.size) { s with heap:=s.heap.push { cls:=.type "tuple",data:=.seq (vs++ws).toArray } })
  (hsz:vs.length+ws.length≤sizeLine):wpAny (model prog w) A (binaryOp .Add (.ref t) (.ref b)) Q E s:=by
 obtain ⟨⟨cls,dd,data,sl⟩,ho,hc,n,hd⟩:=id ht
 obtain ⟨⟨cls2,dd2,data2,sl2⟩,ho2,hc2,n2,hd2⟩:=id hb
 simp only at hc hd hc2 hd2
 subst hc hd hc2 hd2
 have e:vs.toArray++ws.toArray=(vs++ws).toArray:=by simp
 by_cases hw:ws=[]
 ·exact concat_meets ⟨_,ho,rfl⟩ ⟨_,ho2,rfl⟩ noFill_tuple_add seq_tuple_add PySem.F.slot_tuple_add PySem.F.entry_tuple_add (PySem.F.args_tuple_add_2 _ _)
   (tuple_addW1 t b vs.toArray ws.toArray n n2 dd dd2 sl sl2 (by simpa using hv) (by simp [hw])) ⟨ho,ho2,h1 hw⟩
 ·refine concat_meets ⟨_,ho,rfl⟩ ⟨_,ho2,rfl⟩ noFill_tuple_add seq_tuple_add PySem.F.slot_tuple_add PySem.F.entry_tuple_add (PySem.F.args_tuple_add_2 _ _)
   (tuple_addW2 t b vs.toArray ws.toArray n n2 dd dd2 sl sl2 (by simpa using hv) (by simpa using hw) (by rw [List.size_toArray,List.size_toArray];exact hsz)) ⟨ho,ho2,?_⟩
  rw [e]
  exact h2 hw
def sIx (n d:Nat):Option Int→Nat
 | none=>d
 | some v=>if v < 0 then (v+(n:Int)).toNat else min v.toNat n
theorem sIx_none (n d:Nat):sIx n d none=d:=rfl
theorem sIx_nat (n d k:Nat):sIx n d (some (k:Int))=min k n:=by
 show (if (k:Int) < 0 then ((k:Int)+(n:Int)).toNat else min (k:Int).toNat n)=min k n
 rw [if_neg (by lia),Int.toNat_natCast]
theorem zg0 (n d:Nat) (hd:d≤n) (o:Option Int):sIx n d o≤n:=by
 cases o with
 | none=>exact hd
 | some v =>
  show (if v < 0 then (v+(n:Int)).toNat else min v.toNat n)≤n
  by_cases hv:v < 0
  ·rw [if_pos hv];lia
  ·rw [if_neg hv];exact Nat.min_le_right _ _
theorem zca (v:Int) (n d:Nat):(if v < 0 then max (v+(n:Int)) 0 else min v (n:Int))=((sIx n d (some v):Nat):Int):=by
 show (if v < 0 then max (v+(n:Int)) 0 else min v (n:Int))=(((if v < 0 then (v+(n:Int)).toNat else min v.toNat n):Nat):Int)
 by_cases hv:v < 0
 ·simp only [if_pos hv];lia
 ·simp only [if_neg hv];lia
theorem z9Y (lo hi:Option Int) (n:Nat):Builtin.Slice.sliceAdjust lo hi 1 (n:Int)=(((sIx n 0 lo:Nat):Int),((sIx n n hi:Nat):Int)):=by
 have h1:¬ ((1:Int) < 0):=by lia
 unfold Builtin.Slice.sliceAdjust
 simp only [h1,if_false]
 refine Prod.ext ?_ ?_
 ·cases lo with
  | none=>rfl
  | some v=>exact zca v n 0
 ·cases hi with
  | none=>rfl
  | some v=>exact zca v n n
theorem za8 (i j:Nat):Builtin.Slice.slicePlaces (i:Int) (j:Int) 1=j - i:=by
 unfold Builtin.Slice.slicePlaces
 have h1:(1:Int) > 0:=by lia
 simp only [h1,if_true,Int.ediv_one]
 split<;>lia
theorem z6b {v:Value} {o:Option Int} {Q:Option Int→Shared→Prop} (p:IsPart v o) (h:Q o s):wpAny (model prog w) A (Builtin.Slice.slicePartIndex v) Q E s:=by
 cases p with
 | none=>exact slicePart_none h
 | int i t=>exact slicePart_int h
theorem sliceApplied_gen {sl:Addr} {vl vu:Value} {lo hi:Option Int} {n:Nat} {Q:Int × Int × Nat→Shared→Prop} (hs:s.heap.IsSliceOf sl vl vu .none) (pl:IsPart vl lo) (pu:IsPart vu hi)
  (h:Q (((sIx n 0 lo:Nat):Int),1,sIx n n hi - sIx n 0 lo) s):wpAny (model prog w) A (Builtin.Slice.sliceApplied (.ref sl) (pure (n:Int))) Q E s:=by
 obtain ⟨os,hos,hcs,hds⟩:=id hs
 unfold Builtin.Slice.sliceApplied Builtin.Slice.sliceFields
 refine wpAny_bind (wpAny_bind (wpAny_field hos hds (x:=vl) rfl (wpAny_bind (wpAny_field hos hds (x:=vu) rfl (wpAny_bind (wpAny_field hos hds (x:=.none) rfl (wpAny_pure ?_)))))))
 refine wpAny_bind (slicePart_none ?_)
 show wpAny _ _ (if ((1:Int) == 0)=true then _ else _) _ _ s
 rw [if_neg (by decide)]
 refine wpAny_bind (z6b pl (wpAny_bind (z6b pu (wpAny_bind (wpAny_pure ?_)))))
 show wpAny _ _ (match Builtin.Slice.sliceAdjust lo hi 1 (n:Int) with | (lo,hi)=>pure (lo,(1:Int),Builtin.Slice.slicePlaces lo hi 1)) _ _ s
 rw [z9Y lo hi n]
 show wpAny _ _ (pure (((sIx n 0 lo:Nat):Int),(1:Int),Builtin.Slice.slicePlaces ((sIx n 0 lo:Nat):Int) ((sIx n n hi:Nat):Int) 1)) _ _ s
 rw [za8]
 exact wpAny_pure h
theorem zcv (xs:Array Value) (i k:Nat):((List.range k).filterMap fun (m:Nat)=>xs[((i:Int)+(m:Int)*1).toNat]?).toArray=((xs.toList.drop i).take k).toArray:=by
 have e:(fun (m:Nat)=>xs[((i:Int)+(m:Int)*1).toNat]?)=fun m=>xs[i+m]?:=by
  funext m
  have:((i:Int)+(m:Int)*1).toNat=i+m:=by lia
  rw [this]
 rw [e]
 have:=pick_run xs i k
 rw [List.filterMap_map] at this
 have e2:((fun x=>xs[x]?) ∘ fun x=>i+x)=fun m=>xs[i+m]?:=rfl
 rw [e2] at this
 rw [this]
theorem getItem_tuple_cut {t sl:Addr} {items:Array Value} {vl vu:Value} {lo hi:Option Int} {Q:Value→Shared→Prop} (ht:IsTup s.heap t items) (hs:s.heap.IsSliceOf sl vl vu .none) (pl:IsPart vl lo) (pu:IsPart vu hi)
  (hw:¬ (sIx items.size 0 lo=0∧sIx items.size items.size hi=items.size))
  (h:Q (.ref s.heap.objs.size) { s with heap:=s.heap.push { cls:=.type "tuple",data:=.seq ((items.toList.drop (sIx items.size 0 lo)).take (sIx items.size items.size hi - sIx items.size 0 lo)).toArray } })
  (hsz:items.size≤sizeLine):wpAny (model prog w) A (getItem (.ref t) (.ref sl)) Q E s:=by
 have htake:sizeOk (.seq ((items.toList.drop (sIx items.size 0 lo)).take (sIx items.size items.size hi - sIx items.size 0 lo)).toArray):=by
  show ((items.toList.drop (sIx items.size 0 lo)).take (sIx items.size items.size hi - sIx items.size 0 lo)).toArray.size≤sizeLine
  rw [List.size_toArray,List.length_take,List.length_drop,Array.length_toList]
  lia
 have hj:sIx items.size items.size hi≤items.size:=zg0 _ _ (Nat.le_refl _) hi
 obtain ⟨os,hos,hcs,hds⟩:=id hs
 have hTs:s.TypeIs (.ref sl) "slice":=⟨os,hos,hcs⟩
 unfold getItem
 try with_reducible refine wpAny_holding ?_
 first | refine wpAny_bind (wpAny_pure ?_) | skip
 refine wpAny_bind (wpAny_sequenceKey ht.typeIs (by decide) ?_)
 refine wpAny_bind (wpAny_callSpecial?_slot (name:=Str.ofString "__getitem__") ht.typeIs PyProof.Rows.slot_tuple_getitem
  (wpAny_call_entry PyProof.Rows.slot_tuple_getitem ht.typeIs entry_tuple_getitem ?_ (args_tuple_getitem _ _)))
 show wpAny _ _ (Builtin.Tuple.tupleItemsOf (.ref t) >>= _) _ _ s
 refine wpAny_bind (tupleItemsOf_ ht ?_)
 refine wpAny_bind (wpAny_typeOf hTs ?_)
 rw [if_pos (by decide)]
 refine wpAny_bind (sliceApplied_gen hs pl pu ?_)
 have hno:¬ ((((sIx items.size 0 lo:Nat):Int) == 0 && (1:Int) == 1 && (sIx items.size items.size hi - sIx items.size 0 lo) == items.size)=true):=by
  intro q
  rw [Bool.and_eq_true,Bool.and_eq_true] at q
  have q1:((sIx items.size 0 lo:Nat):Int)=0:=eq_of_beq q.1.1
  have q2:sIx items.size items.size hi - sIx items.size 0 lo=items.size:=eq_of_beq q.2
  exact hw ⟨by lia,by lia⟩
 show wpAny _ _ (if (((sIx items.size 0 lo:Nat):Int) == 0 && (1:Int) == 1 && (sIx items.size items.size hi - sIx items.size 0 lo) == items.size)=true then _ else _) _ _ s
 rw [if_neg hno,zcv]
 first
  | exact wpAny_bind (m:=Builtin.Tuple.tupleExact _) (wpAny_newObj_type (wpAny_pure ⟨_,rfl,wpAny_pure h⟩) htake)
  | exact wpAny_bind (m:=Builtin.Tuple.tupleExact _) (wpAny_newObj_type (wpAny_bind (wpAny_pure (wpAny_pure ⟨_,rfl,wpAny_pure h⟩))) htake)
  | exact wpAny_bind (wpAny_bind (m:=Builtin.Tuple.tupleExact _) (wpAny_newObj_type (wpAny_pure (wpAny_pure ⟨_,rfl,wpAny_pure h⟩)) htake))
  | exact wpAny_bind (wpAny_bind (m:=Builtin.Tuple.tupleExact _) (wpAny_newObj_type (wpAny_pure ⟨_,rfl,wpAny_pure h⟩) htake))
end
end HT
namespace L2
open PySem PySem.Spec PyProof.Rows
abbrev TO:=St→Hp→(Option Int→Hp→Prop)→Prop
def PO (X:Cx) (e:Option Expr) (t:TO):Prop :=
 ∀ (pins:List (Addr × Obj)) (s:Shared) (σ:St) (H:Hp) (Q:Option Int→Hp→Prop),Inv X pins σ H s→t σ H Q →
  wpAny (model X.prog X.w) X.A (evalPart e X.env) (fun u s'=>∃ o H',Inv X pins σ H' s'∧IsPart u o∧Q o H') X.xe s
def zf3:TO:=fun _ H Q=>Q none H
def zgP (t:TE):TO:=fun σ H Q=>t σ H fun x H1=>∃ i,x=.int i∧Q (some i) H1
section
variable {X:Cx} {e:Expr} {te:TE} {lo hi:Option Expr} {tl th:TO} {pos p2:Pos}
theorem z35:PO X none zf3:=by
 intro pins s σ H Q I h
 rw [evalPart_none]
 exact wpAny_pure ⟨none,H,I,.none,h⟩
theorem z1o (h:PE X e te):PO X (some e) (zgP te):=by
 intro pins s σ H Q I hw
 rw [evalPart_some]
 refine z23 (h pins s σ H _ I hw) fun u s1 x H1 I1 r1 q1=>?_
 obtain ⟨i,rfl,q⟩:=q1
 obtain ⟨t,rfl⟩:=r1
 exact ⟨some i,H1,I1,.int i t,q⟩
def SlR (X:Cx) (r:V→Option Int→Option Int→Hp→VK→Prop):Prop :=
 ∀ (pins:List (Addr × Obj)) (s:Shared) (σ:St) (H:Hp) (x:V) (v vl vu:Value) (lo hi:Option Int) (sl:Addr) (Q:VK),Inv X pins σ H s→z1n x v→s.heap.IsSliceOf sl vl vu .none→IsPart vl lo→IsPart vu hi→r x lo hi H Q →
  ∃ T id,typeLookup (.type T) "__getitem__"=pure (some (.builtin id))∧s.TypeIs v T∧wpAny (model X.prog X.w) X.A (getItem v (.ref sl)) (EP X pins σ Q) X.xe s
def tSl (r:V→Option Int→Option Int→Hp→VK→Prop) (te:TE) (tl th:TO):TE:=fun σ H Q=>te σ H fun x H1=>tl σ H1 fun l H2=>th σ H2 fun u H3=>r x l u H3 Q
theorem z1u {r:V→Option Int→Option Int→Hp→VK→Prop} (hr:SlR X r) (he:PE X e te) (hl:PO X lo tl) (hu:PO X hi th):PE X (.Subscript e (.Slice lo hi none p2) pos) (tSl r te tl th):=by
 intro pins s σ H Q I h
 refine Subscript_ (z23 (he pins s σ H _ I h) fun v s1 x H1 I1 r1 q1=>?_)
 refine wpAny_Slice (thn (hl pins s1 σ H1 _ I1 q1) fun vl s2 ⟨l,H2,I2,pl,q2⟩=>thn (hu pins s2 σ H2 _ I2 q2) fun vu s3 hz8=>?_)
 obtain ⟨u,H3,I3,pu,q3⟩:=hz8
 rw [evalPart_none]
 refine wpAny_pure ?_
 have I4:Inv X pins σ H3 { s3 with heap:=s3.heap.push { cls:=.type "slice",data:=.fields #[vl,vu,.none] } }:=I3.kept (t':=s3.toks) fun b ob q=>Heap.get?_push_of_some _ q
 obtain ⟨T,id,hT,ht,hg⟩:=hr pins { s3 with heap:=s3.heap.push { cls:=.type "slice",data:=.fields #[vl,vu,.none] } } σ H3 x v vl vu l u s3.heap.objs.size Q I4 r1 (Heap.IsSliceOf.new ..) pl pu q3
 show wpAny (model X.prog X.w) X.A (subscriptTail e (.Slice lo hi none p2) v (.ref s3.heap.objs.size)) (EP X pins σ Q) X.xe { s3 with heap:=s3.heap.push { cls:=.type "slice",data:=.fields #[vl,vu,.none] } }
 exact tail_any (ops:=[.ref s3.heap.objs.size,v]) ht hT hg (by with_unfolding_all rfl)
def z3S (xs:List V) (lo hi:Option Int):List V:=(xs.drop (HT.sIx xs.length 0 lo)).take (HT.sIx xs.length xs.length hi - HT.sIx xs.length 0 lo)
theorem z5k (xs:List V) (lo hi:Option Int):(z3S xs lo hi).length≤xs.length:=by
 unfold z3S
 rw [List.length_take,List.length_drop]
 lia
def zih (K:PySem.W.Frag):V→Option Int→Option Int→Hp→VK→Prop:=fun x lo hi H Q=>∃ a xs,x=.ref a∧SqT K H a xs ∧
 ¬ (HT.sIx xs.length 0 lo=0∧HT.sIx xs.length xs.length hi=xs.length)∧∀ p,H p=none→Q (.ref p) (upd H p (.tup (z3S xs lo hi)))
theorem zfS:SlR X (zih X.K):=by
 intro pins s σ H x v vl vu lo hi sl Q I rx hs pl pu h
 obtain ⟨a,xs,rfl,hx,hw,q⟩:=h
 cases rx
 obtain ⟨its,r,ht,hz⟩:=I.tuple hx
 have hlen:its.toArray.size=xs.length:=by rw [List.size_toArray];exact r.length.symm
 refine ⟨"tuple",_,PyProof.Rows.slot_tuple_getitem.lookup,ht.typeIs,?_⟩
 refine HT.getItem_tuple_cut ht hs pl pu (by rw [hlen];exact hw) ?_ (by rw [hlen];exact hz)
 rw [hlen]
 refine ⟨.ref s.heap.objs.size,_,I.laid (t':=s.toks) (o:=.tup (z3S xs lo hi)) (fun b ob q=>Heap.get?_push_of_some _ q) (Nat.le_refl _) ?_,rfl,q _ (I.hok.fresh (Nat.le_refl _))⟩
 exact ⟨Nat.le_trans (z5k xs lo hi) hz,_,0,(r.drop (HT.sIx xs.length 0 lo)).take (HT.sIx xs.length xs.length hi - HT.sIx xs.length 0 lo),Heap.get?_push_size _ rfl⟩
def zhl (K:PySem.W.Frag):R2:=fun x y H Q=>∃ a b xs ys,x=.ref a∧y=.ref b∧SqT K H a xs∧SqT K H b ys∧xs≠[]∧xs.length+ys.length≤sizeLine ∧
 (ys=[]→Q (.ref a) H)∧(ys≠[]→∀ p,H p=none→Q (.ref p) (upd H p (.tup (xs++ys))))
theorem z1i.nil_iff {xs:List V} {us:List Value} (r:z1i xs us):us=[]↔xs=[]:=by
 cases r with
 | nil=>simp
 | cons _ _=>simp
theorem zf9:OpR X (binaryOp .Add) (zhl X.K):=by
 intro pins s σ H x y v u Q I rx ry h
 obtain ⟨a,b,xs,ys,rfl,rfl,ha,hb,hx,hz,q1,q2⟩:=h
 cases rx
 cases ry
 obtain ⟨its,r1,p1,_⟩:=I.tuple ha
 obtain ⟨its2,r2,p2,_⟩:=I.tuple hb
 refine HT.cat_tup p1 p2 (fun z=>hx (r1.nil_iff.mp z)) (fun z=>⟨.ref a,H,I,rfl,q1 (r2.nil_iff.mp z)⟩) (fun z=>?_) (by rw [←r1.length,←r2.length];exact hz)
 refine ⟨.ref s.heap.objs.size,_,I.laid (t':=s.toks) (o:=.tup (xs++ys)) (fun b ob q=>Heap.get?_push_of_some _ q) (Nat.le_refl _) ?_,rfl,q2 (fun w=>z (r2.nil_iff.mpr w)) _ (I.hok.fresh (Nat.le_refl _))⟩
 exact ⟨by rw [List.length_append];exact hz,_,0,r1.append r2,Heap.get?_push_size _ rfl⟩
end
end L2
namespace L2
open PySem PySem.Spec PyProof.Rows
def ixN (n:Nat) (i:Int):Option Nat:=if 0≤i then (if i < n then some i.toNat else none) else if -(n:Int)≤i then some (i+n).toNat else none
def atI {α:Type} (xs:List α) (i:Int):Option α:=(ixN xs.length i).bind fun j=>xs[j]?
theorem zat {n:Nat} {i:Int} {j:Nat} (h:ixN n i=some j):seqIndex? i n=some j∧j < n∧-(n:Int)≤i∧i < n:=by
 unfold ixN at h
 by_cases h0:0≤i
 ·rw [if_pos h0] at h
  by_cases h1:i < n
  ·rw [if_pos h1] at h
   have e:i.toNat=j:=Option.some.inj h
   exact ⟨by rw [seqIndex_of h0 h1,e],by lia,by lia,h1⟩
  ·rw [if_neg h1] at h;cases h
 ·rw [if_neg h0] at h
  by_cases h1:-(n:Int)≤i
  ·rw [if_pos h1] at h
   have e:(i+n).toNat=j:=Option.some.inj h
   exact ⟨by rw [seqIndex_neg (by lia) h1,e],by lia,h1,by lia⟩
  ·rw [if_neg h1] at h;cases h
theorem zcf {α:Type} {xs:List α} {i:Int} {v:α} (h:atI xs i=some v):∃ j,seqIndex? i xs.length=some j∧xs[j]?=some v∧j < xs.length∧-(xs.length:Int)≤i∧i < xs.length:=by
 unfold atI at h
 cases e:ixN xs.length i with
 | none=>rw [e] at h;cases h
 | some j =>
  rw [e] at h
  obtain ⟨h1,h2,h3,h4⟩:=zat e
  exact ⟨j,h1,h,h2,h3,h4⟩
theorem z0B {α:Type} {xs:List α} {j:Nat} {v:α} (h:xs[j]?=some v):atI xs (j:Int)=some v:=by
 have hj:j < xs.length:=(List.getElem?_eq_some_iff.mp h).1
 have e:ixN xs.length (j:Int)=some j:=by
  unfold ixN
  rw [if_pos (by lia),if_pos (by lia)];simp
 unfold atI;rw [e];exact h
def zfi (b:Expr):Prop:=∀ o i,subscripted b false o i=operate [o,i] (getItem o i)
def IxR (X:Cx) (r:R2):Prop :=
 ∀ (value slice:Expr) (pins:List (Addr × Obj)) (s:Shared) (σ:St) (H:Hp) (x y:V) (v u:Value) (Q:VK),Inv X pins σ H s→z1n x v→z1n y u→r x y H Q →
  subscripted slice false v u=operate [v,u] (getItem v u)→wpAny (model X.prog X.w) X.A (subscriptTail value slice v u) (EP X pins σ Q) X.xe s
def MtR (X:Cx) (id:String) (r:V→List V→Hp→VK→Prop):Prop :=
 ∀ (pins:List (Addr × Obj)) (s:Shared) (σ:St) (H:Hp) (x:V) (xs:List V) (v:Value) (us:List Value) (Q:VK),Inv X pins σ H s→z1n x v→z1i xs us→r x xs H Q →
  wpAny (model X.prog X.w) X.A (call (.builtin id) (v::us)) (EP X pins σ Q) X.xe s
section
variable {X:Cx} {a b:Expr} {ta tb:TE} {pos:Pos}
theorem z0Q {r:R2} (hr:IxR X r) (ha:PE X a ta) (hb:PE X b tb) (hs:zfi b):PE X (.Subscript a b pos) (tOp r ta tb):=by
 intro pins s σ H Q I h
 exact Subscript_ (zgK ha hb I h fun v u s2 x y H2 I2 rx ry q=>hr a b pins s2 σ H2 x y v u Q I2 rx ry q (hs _ _))
def zhA (K:PySem.W.Frag):R2:=fun x y H Q=>∃ p xs i v,x=.ref p∧y=.int i∧SqL K H p xs∧atI xs i=some v∧Q v H
def zhE (K:PySem.W.Frag):R2:=fun x y H Q=>∃ p xs i v,x=.ref p∧y=.int i∧SqT K H p xs∧atI xs i=some v∧Q v H
theorem z1f:IxR X (zhA X.K):=by
 intro value slice pins s σ H x y v u Q I rx ry h hs
 obtain ⟨p,xs,i,z,rfl,rfl,hq,he,q⟩:=h
 cases rx
 obtain ⟨t,rfl⟩:=ry
 obtain ⟨its,r,pl,hz⟩:=I.list hq
 obtain ⟨j,h1,h2,h3,h4,h5⟩:=zcf he
 obtain ⟨w,ew,rw'⟩:=r.get h2
 have hl:=r.length
 have hn:=z7t
 have fin:EP X pins σ Q w s:=⟨z,H,I,rw',q⟩
 by_cases h0:0≤i
 ·have hj:i.toNat=j:=by
   rw [seqIndex_of h0 h5] at h1
   exact Option.some.inj h1
  exact item_listR pl.isList h0 (by lia) (by rw [hj];simpa using ew) fin hs
 ·have hj:(i+(its.toArray.size:Int)).toNat=j:=by
   rw [seqIndex_neg (by lia) h4] at h1
   rw [List.size_toArray,←hl]
   exact Option.some.inj h1
  exact subscriptTail_builtinR (x:=w) pl.isList.typeIs slot_list_getitem.lookup
   (wpAny_getItem_list_neg (Q:=fun r s'=>r=w∧EP X pins σ Q r s') pl.isList (by lia) (by rw [List.size_toArray]<;>lia) (by lia) (by rw [hj];simpa using ew) ⟨rfl,fin⟩) hs
theorem z1G:IxR X (zhE X.K):=by
 intro value slice pins s σ H x y v u Q I rx ry h hs
 obtain ⟨p,xs,i,z,rfl,rfl,hq,he,q⟩:=h
 cases rx
 obtain ⟨t,rfl⟩:=ry
 obtain ⟨its,r,pl,hz⟩:=I.tuple hq
 obtain ⟨j,h1,h2,h3,h4,h5⟩:=zcf he
 obtain ⟨w,ew,rw'⟩:=r.get h2
 have hl:=r.length
 have hn:=z7t
 have fin:EP X pins σ Q w s:=⟨z,H,I,rw',q⟩
 exact subscriptTail_builtinR (x:=w) pl.typeIs slot_tuple_getitem.lookup
  (getItem_tuple (j:=j) (Q:=fun r s'=>r=w∧EP X pins σ Q r s') pl (by lia) (by lia) (by rw [List.size_toArray,←hl];exact h1) (by simpa using ew) ⟨rfl,fin⟩) hs
theorem z9U (its:List Value) (n j:Nat) (u:Value):Obj.mapSeq (·.setIfInBounds j u) { cls:=.type "list",data:=.seq its.toArray n }={ cls:=.type "list",data:=.seq (its.set j u).toArray n }:=by
 simp [Obj.mapSeq]
theorem Inv.lst {pins:List (Addr × Obj)} {σ:St} {H:Hp} {s:Shared} {p:Addr} {xs:List V} (I:Inv X pins σ H s) (h:H p=some (.lst xs)) :
  ∃ (its:List Value) (n:Nat),z1i xs its∧s.heap.get? p=some { cls:=.type "list",data:=.seq its.toArray n }∧xs.length≤sizeLine:=by
 obtain ⟨z,its,n,r,e⟩:=I.hok p _ h
 exact ⟨its,n,r,e,z⟩
theorem Inv.lstUpd {pins:List (Addr × Obj)} {σ:St} {H:Hp} {s:Shared} {p:Addr} {xs ys:List V} {its its':List Value} {n n':Nat} {f:Obj→Obj} (I:Inv X pins σ H s) (h:H p=some (.lst xs))
  (ho:s.heap.get? p=some { cls:=.type "list",data:=.seq its.toArray n }) (hf:f { cls:=.type "list",data:=.seq its.toArray n }={ cls:=.type "list",data:=.seq its'.toArray n' }) (r:z1i ys its') (hz:ys.length≤sizeLine) (t:Nat) :
  Inv X pins σ (upd H p (.lst ys)) { s with heap:=s.heap.update p f,toks:=t }:=by
 have e:(s.heap.update p f).get? p=some { cls:=.type "list",data:=.seq its'.toArray n' }:=by
  rw [Heap.get?_update_self f ho (by rw [hf]<;>rfl),hf]
 refine I.write (x:=p) (e:=p) (by rw [h];trivial) (.inl rfl) (fun b u hb q=>(Heap.get?_update_other _ _ (Ne.symm hb)).trans q) ⟨_,e⟩ ?_
 exact ⟨hz,its',n',r,e⟩
def zgL:V→V→V→Hp→(Hp→Prop)→Prop:=fun o i v H Q=>∃ p xs k j,o=.ref p∧i=.int k∧H p=some (.lst xs)∧ixN xs.length k=some j∧Q (upd H p (.lst (xs.set j v)))
theorem zcT:zhI X zgL:=by
 intro pins s σ H o i v ov iv u Q I ro ri rv h
 obtain ⟨p,xs,k,j,rfl,rfl,hp,hj,q⟩:=h
 cases ro
 obtain ⟨t,rfl⟩:=ri
 obtain ⟨its,n,r,ho,hz⟩:=I.lst hp
 obtain ⟨h1,h2,h3,h4⟩:=zat hj
 have hl:=r.length
 have hn:=z7t
 have I':Inv X pins σ (upd H p (.lst (xs.set j v))) { s with heap:=s.heap.update p (Obj.mapSeq (·.setIfInBounds j u)) } :=
  I.lstUpd hp ho (z9U its n j u) (r.set rv j) (by rw [List.length_set];exact hz) s.toks
 by_cases h0:0≤k
 ·have hk:k.toNat=j:=by
   rw [seqIndex_of h0 h4] at h1
   exact Option.some.inj h1
  exact PySem.W.ki_setAt ho h0 (by lia) (by rw [List.size_toArray,←hl];exact h4) (by rw [hk];exact ⟨_,I',q⟩)
 ·have hk:(k+(its.toArray.size:Int)).toNat=j:=by
   rw [seqIndex_neg (by lia) h3] at h1
   rw [List.size_toArray,←hl]
   exact Option.some.inj h1
  exact PySem.W.ki_setBack ho (by lia) (by rw [List.size_toArray,←hl];exact h3) (by lia) (by rw [hk];exact ⟨_,I',q⟩)
theorem z8b (lo hi:Option Int) (n:Nat):(sliceBounds lo hi none n).1=((HT.sIx n 0 lo:Nat):Int)∧(sliceBounds lo hi none n).2.1=((HT.sIx n n hi:Nat):Int)∧(sliceBounds lo hi none n).2.2=1:=by
 refine ⟨?_,?_,rfl⟩
 ·cases lo with
  | none=>simp [sliceBounds,HT.sIx]
  | some i =>
   simp only [sliceBounds,HT.sIx,Option.getD_none,show (1:Int) > 0 by decide,if_true]
   by_cases h:i < 0
   ·simp only [h,if_true]<;>lia
   ·simp only [h,if_false]<;>lia
 ·cases hi with
  | none=>simp [sliceBounds,HT.sIx]
  | some i =>
   simp only [sliceBounds,HT.sIx,Option.getD_none,show (1:Int) > 0 by decide,if_true]
   by_cases h:i < 0
   ·simp only [h,if_true]<;>lia
   ·simp only [h,if_false]<;>lia
theorem z6K (its:List Value) (lo hi:Option Int):slicePick its.toArray lo hi none=((its.drop (HT.sIx its.length 0 lo)).take (HT.sIx its.length its.length hi - HT.sIx its.length 0 lo)).toArray:=by
 obtain ⟨h1,h2,h3⟩:=z8b lo hi its.toArray.size
 unfold slicePick
 rw [h1,h2,h3]
 simp only [sliceRange_one,pick_run,List.size_toArray]<;>rfl
def zhY (K:PySem.W.Frag):V→Option Int→Option Int→Hp→VK→Prop:=fun x lo hi H Q=>∃ a xs,x=.ref a∧SqL K H a xs∧∀ p,H p=none→Q (.ref p) (upd H p (.lst (z3S xs lo hi)))
theorem z3g:SlR X (zhY X.K):=by
 intro pins s σ H x v vl vu lo hi sl Q I rx hs pl pu h
 obtain ⟨a,xs,rfl,hx,q⟩:=h
 cases rx
 obtain ⟨its,r,ht,hz⟩:=I.list hx
 have hlen:=r.length
 refine ⟨"list",_,slot_list_getitem.lookup,ht.isList.typeIs,?_⟩
 refine wpAny_getItem_list_slice ht.isList hs pl pu .none (by simp) ?_ (by rw [List.size_toArray]<;>lia)
 rw [z6K,←hlen]
 refine ⟨.ref s.heap.objs.size,_,I.laid (t':=s.toks) (o:=.lst (z3S xs lo hi)) (fun b ob q=>Heap.get?_push_of_some _ q) (Nat.le_refl _) ?_,rfl,q _ (I.hok.fresh (Nat.le_refl _))⟩
 exact ⟨Nat.le_trans (z5k xs lo hi) hz,_,0,(r.drop (HT.sIx xs.length 0 lo)).take (HT.sIx xs.length xs.length hi - HT.sIx xs.length 0 lo),Heap.get?_push_size _ rfl⟩
theorem z0a:z3s X (.builtin "len") (fun xs H Q=>∃ p ys,xs=[.ref p]∧(SqL X.K H p ys∨SqT X.K H p ys)∧Q (.int ys.length) H):=by
 intro pins s σ H xs us Q I r h
 obtain ⟨p,ys,rfl,hq,q⟩:=h
 obtain ⟨u,rfl,rx⟩:=z5J r
 cases rx
 have hn:=z7t
 rcases hq with hq | hq
 ·obtain ⟨its,r',pl,hz⟩:=I.list hq
  have hlen:=r'.length
  exact Calls.call_len_list pl.isList (by simp only [List.size_toArray]<;>lia) ⟨.int ys.length,H,I.tok _,⟨s.toks+1,by rw [List.size_toArray,hlen]⟩,q⟩
 ·obtain ⟨its,r',pl,hz⟩:=I.tuple hq
  have hlen:=r'.length
  exact len_tuple pl (by simp only [List.size_toArray]<;>lia) ⟨.int ys.length,H,I.tok _,⟨s.toks+1,by rw [List.size_toArray,hlen]⟩,q⟩
theorem z0p:z3s X (.type "tuple") (fun xs H Q=>∃ p ys,xs=[.ref p]∧((SqL X.K H p ys∧∀ l,H l=none→Q (.ref l) (upd H l (.tup ys)))∨(SqT X.K H p ys∧Q (.ref p) H))):=by
 intro pins s σ H xs us Q I r h
 obtain ⟨p,ys,rfl,h⟩:=h
 obtain ⟨u,rfl,rx⟩:=z5J r
 cases rx
 rcases h with ⟨hq,q⟩ | ⟨hq,q⟩
 ·obtain ⟨its,r',pl,hz⟩:=I.list hq
  have hlen:=r'.length
  refine call_tuple_list pl.isList (fun h' kp=>?_) (by simp only [List.size_toArray]<;>lia)
  have I1:Inv X pins σ H { s with heap:=h' }:=I.kept (t':=s.toks) kp
  have I2:Inv X pins σ (upd H h'.objs.size (.tup ys)) { s with heap:=h'.push { cls:=.type "tuple",data:=.seq its.toArray } } :=
   I1.laid (t':=s.toks) (fun b o e=>Heap.get?_push_of_some _ e) (Nat.le_refl _) (show z22 X.prog X.w _ _ _ (.tup ys) from ⟨hz,its,0,r',Heap.get?_push_size _ rfl⟩)
  exact ⟨.ref h'.objs.size,_,I2,rfl,q _ (I1.hok.fresh (Nat.le_refl _))⟩
 ·obtain ⟨its,r',pl,hz⟩:=I.tuple hq
  exact call_tuple_same pl ⟨.ref p,H,I,rfl,q⟩
def tyV (K:PySem.W.Frag) (T:String) (x:V) (H:Hp):Prop:=match x with
 | .str _=>T="str"
 | .int _=>T="int"
 | .ref p=>(T="list"∧∃ xs,SqL K H p xs)∨(T="tuple"∧((∃ o,K.lookup p=some o∧o.cls=.type "tuple"∧o.dict=none)∨∃ xs,H p=some (.tup xs))) ∨
   (T="dict"∧((∃ kvs,H p=some (.dK kvs))∨∃ kvs,H p=some (.dT kvs)))∨(T="set"∧∃ S n,H p=some (.set S n))
 | _=>False
theorem zft {pins:List (Addr × Obj)} {σ:St} {H:Hp} {s:Shared} {T:String} {x:V} {v:Value} (I:Inv X pins σ H s) (r:z1n x v) (ty:tyV X.K T x H) :
  s.TypeIs v T∧∀ a,v=.ref a→∃ ob,s.heap.get? a=some ob∧ob.dict=none:=by
 cases x with
 | str z =>
  obtain ⟨t,rfl⟩:=r
  cases (show T="str" from ty)
  exact ⟨typeIs_str s z t,fun _ e=>nomatch e⟩
 | int i =>
  obtain ⟨t,rfl⟩:=r
  cases (show T="int" from ty)
  exact ⟨typeIs_int s i t,fun _ e=>nomatch e⟩
 | ref p =>
  cases r
  rcases ty with ⟨rfl,xs,hq⟩ | ⟨rfl,⟨o,hk,hc,hd⟩ | ⟨xs,hq⟩⟩ | ⟨rfl,hk⟩ | ⟨rfl,S,n,hk⟩
  ·obtain ⟨its,_,pl,_⟩:=I.list hq
   refine ⟨pl.isList.typeIs,fun a e=>?_⟩
   cases e
   obtain ⟨o,n,e,c,hd,_⟩:=pl
   exact ⟨o,e,hd⟩
  ·refine ⟨⟨o,I.kIn p o hk,hc⟩,fun a e=>?_⟩
   cases e
   exact ⟨o,I.kIn _ o hk,hd⟩
  ·obtain ⟨_,its,n,_,h1⟩:=(show z22 X.prog X.w H s.heap p (.tup xs) from I.hok p _ hq)
   refine ⟨⟨_,h1,rfl⟩,fun a e=>?_⟩
   cases e
   exact ⟨_,h1,rfl⟩
  ·have z:∃ o,s.heap.get? p=some o∧o.ExactDict:=by
    rcases hk with ⟨kvs,hk⟩ | ⟨kvs,hk⟩
    ·obtain ⟨_,_,_,_,o,_,_,e,ex,_⟩:=I.hok p _ hk
     exact ⟨o,e,ex⟩
    ·obtain ⟨_,_,_,_,o,_,_,e,ex,_⟩:=I.hok p _ hk
     exact ⟨o,e,ex⟩
   obtain ⟨o,e,ex⟩:=z
   refine ⟨⟨o,e,ex.1⟩,fun a e2=>?_⟩
   cases e2
   exact ⟨o,e,ex.2.1⟩
  ·obtain ⟨o,_,_,_,e,ex,_⟩:=I.hok p _ hk
   refine ⟨⟨o,e,ex.1⟩,fun a e2=>?_⟩
   cases e2
   exact ⟨o,e,ex.2.1⟩
 | _=>exact False.elim ty
def tBM (K:PySem.W.Frag) (T:String) (r:V→List V→Hp→VK→Prop) (to:TE) (t:TA):TE:=fun σ H Q=>to σ H fun x H1=>tyV K T x H1∧t σ H1 fun xs H2=>r x xs H2 Q
variable {o e:Expr} {es:List Expr} {to:TE} {t:TA} {name:Str} {apos cpos:Pos} {T id:String} {r:V→List V→Hp→VK→Prop}
theorem z3N (pa:PlainAttrs T) (slot:Slot T name id) (hty:typeOf (.builtin id)=pure (.type "method_descriptor")) (hm:MtR X id r) (ho:PE X o to) (ha:PA X (e::es) t)
  (hbase:attributeBase o name X.env (eval o X.env)=eval o X.env:=by rfl)
  (hfew:((backTo cpos (starEach (e::es) X.env)).all (fun x=>!x.1) && (backToKw cpos (keywordEach [] X.env)).all (fun x=>x.1.isSome)
   && decide ((e::es).length+([]:List Keyword).length+(if ([]:List Keyword).isEmpty then 0 else 1) < 30))=true:=by rfl)
  (hline:(apos.endLine == cpos.line)=true:=by rfl) (hs:starEach (e::es) X.env=(false,eval e X.env)::starEach es X.env:=by rfl) (hplain:(backTo cpos (starEach es X.env)).any (·.1)=false:=by rfl) :
  PE X (.Call (.Attribute o name apos) (e::es) [] cpos) (tBM X.K T r to t):=by
 intro pins s σ H Q I h
 refine wpAny_Call_method_late hbase hfew hline rfl (z23 (ho pins s σ H _ I h) fun v s1 x H1 I1 r1 hz9=>?_)
 obtain ⟨ty,q1⟩:=hz9
 obtain ⟨h1,h2⟩:=zft I1 r1 ty
 refine ⟨T,id,pa,slot,hty,h1,h2,?_⟩
 have hA:=ha cpos pins s1 σ H1 _ I1 q1
 rw [hs] at hA ⊢
 refine Calls.callWith_builtin (by show (false || (backTo cpos (starEach es X.env)).any (·.1))=false;rw [hplain]<;>rfl) (Calls.evalArgs_plain ?_)
 exact thn hA fun us s2 ⟨vs,H2,I2,r2,q2⟩=>hm pins s2 σ H2 x vs v us Q I2 r1 r2 q2
end
end L2
namespace L2
open PySem PySem.Spec PyProof.Rows
def MtM (X:Cx) (id:String) (r:V→List V→Hp→VK→Prop):Prop :=
 ∀ (pins:List (Addr × Obj)) (s:Shared) (σ:St) (H:Hp) (x:V) (xs:List V) (v:Value) (us:List Value) (Q:VK),Inv X pins σ H s→z1n x v→z1i xs us→r x xs H Q →
  wpAny (model X.prog X.w) X.A (call (.builtin id) (v::us)) (EP X pins σ Q) X.xe s
theorem z1i.one:∀ {x:V} {us:List Value},z1i [x] us→∃ u,us=[u]∧z1n x u
 | _,_,.cons r .nil=>⟨_,rfl,r⟩
theorem z1i.eraseIdx:∀ {xs:List V} {us:List Value} (i:Nat),z1i xs us→z1i (xs.eraseIdx i) (us.eraseIdx i)
 | _,_,_,.nil=>.nil
 | _,_,0,.cons _ t=>t
 | _,_,i+1,.cons r t=>.cons r (z1i.eraseIdx i t)
theorem z1i.rep {xs:List V} {us:List Value} (h:z1i xs us):∀ k:Nat,z1i (List.replicate k xs).flatten (List.replicate k us).flatten
 | 0=>.nil
 | k+1=>by
  rw [List.replicate_succ,List.replicate_succ,List.flatten_cons,List.flatten_cons]
  exact z1i.append h (z1i.rep h k)
theorem z7H {α:Type}:∀ (l:List α) (i:Nat),(l.eraseIdx i).length≤l.length
 | [],_=>Nat.le_refl _
 | _::_,0=>Nat.le_succ _
 | _::r,i+1=>Nat.succ_le_succ (z7H r i)
theorem z3F (its:List Value):∀ (k:Nat) (acc:List Value),
  List.foldl (fun x1 x2=>x1++x2) acc.toArray (List.replicate k its.toArray)=(acc++(List.replicate k its).flatten).toArray
 | 0,acc=>by simp
 | k+1,acc=>by
  have e:acc.toArray++its.toArray=(acc++its).toArray:=by simp
  have e2:(acc++its)++(List.replicate k its).flatten=acc++(List.replicate (k+1) its).flatten:=by
   rw [List.replicate_succ,List.flatten_cons,List.append_assoc]
  rw [←e2,←z3F its k (acc++its),←e,List.replicate_succ,List.foldl_cons]
section
variable {X:Cx} {pins:List (Addr × Obj)} {σ:St} {H:Hp} {s:Shared} {l b:Addr} {xs ys zs:List V}
theorem Inv.lset {its its':List Value} {n:Nat} {f:Array Value→Array Value} {t':Nat} (I:Inv X pins σ H s) (hH:H l=some (.lst xs))
  (e:s.heap.get? l=some { cls:=.type "list",data:=.seq its.toArray n }) (hf:f its.toArray=its'.toArray) (hv:z1i ys its') (hz:ys.length≤sizeLine) :
  Inv X pins σ (upd H l (.lst ys)) { s with heap:=s.heap.update l (Obj.mapSeq f),toks:=t' }:=by
 have q:=PySem.IsL.update e f
 rw [hf] at q
 refine I.write (x:=l) (e:=l) (by rw [hH];exact trivial) (.inl rfl) (fun b' u hb hu=>(Heap.get?_update_other s.heap (Obj.mapSeq f) (Ne.symm hb)).trans hu) ⟨_,q⟩ ?_
 exact ⟨hz,its',_,hv,q⟩
theorem Inv.lnew {its:List Value} {t':Nat} (I:Inv X pins σ H s) (hv:z1i ys its) (hz:ys.length≤sizeLine) :
  Inv X pins σ (upd H s.heap.objs.size (.lst ys)) { s with heap:=s.heap.push { cls:=.type "list",data:=.seq its.toArray },toks:=t' } :=
 I.laid (fun _ _ q=>Heap.get?_push_of_some _ q) (Nat.le_refl _) ⟨hz,its,0,hv,Heap.get?_push_size _ rfl⟩
theorem Inv.fresh (I:Inv X pins σ H s):H s.heap.objs.size=none:=I.hok.fresh (Nat.le_refl _)
theorem Inv.lstM (I:Inv X pins σ H s) (hH:H l=some (.lst xs)):xs.length≤sizeLine∧∃ (its:List Value) (n:Nat),z1i xs its∧xs.length=its.length∧s.heap.get? l=some { cls:=.type "list",data:=.seq its.toArray n }:=by
 obtain ⟨z,its,n,r,e⟩:=I.hok l _ hH
 exact ⟨z,its,n,r,r.length,e⟩
theorem zdj {n:Nat} (h:n≤sizeLine):Builtin.List.listTooLong n=false:=by
 unfold Builtin.List.listTooLong
 exact decide_eq_false (by lia)
end
section
variable {X:Cx}
def zem:V→List V→Hp→VK→Prop:=fun x vs H Q=>∃ l xs y,x=.ref l∧vs=[y]∧H l=some (.lst xs)∧xs.length < sizeLine∧Q .non (upd H l (.lst (xs++[y])))
theorem z0P:MtM X "list.append" zem:=by
 intro pins s σ H x vs v us Q I rx rv h
 obtain ⟨l,xs,y,rfl,rfl,hH,hz,q⟩:=h
 cases rx
 obtain ⟨u,rfl,ru⟩:=rv.one
 obtain ⟨z,its,n,r,hl,e⟩:=I.lstM hH
 refine call_meets F.slot_list_append ⟨_,e,rfl⟩ F.entry_list_append (F.args_list_append_2 _ _) (PySem.list_append l its.toArray n u (by rw [List.size_toArray];lia)) ⟨e,?_⟩
 refine ⟨.non,_,I.lset (its':=its++[u]) hH e (by simp) (r.append (.cons ru .nil)) ?_,rfl,q⟩
 rw [List.length_append,List.length_singleton]
 lia
def zfv:V→List V→Hp→VK→Prop:=fun x vs H Q=>∃ l xs i k y,x=.ref l∧vs=[.int i]∧H l=some (.lst xs)∧-(2 ^ 63)≤i∧i < 2 ^ 63∧seqIndex? i xs.length=some k∧xs[k]?=some y∧Q y (upd H l (.lst (xs.eraseIdx k)))
theorem zd9:MtM X "list.pop" zfv:=by
 intro pins s σ H x vs v us Q I rx rv h
 obtain ⟨l,xs,i,k,y,rfl,rfl,hH,h1,h2,hk,hy,q⟩:=h
 cases rx
 obtain ⟨u,rfl,ru⟩:=rv.one
 obtain ⟨t,rfl⟩:=ru
 obtain ⟨z,its,n,r,hl,e⟩:=I.lstM hH
 obtain ⟨w,hw,rw'⟩:=r.get hy
 refine call_meets F.slot_list_pop ⟨_,e,rfl⟩ F.entry_list_pop (F.args_list_pop_2 _ _)
  (MeetsSeq.list_pop_at l its.toArray n i t k w (fitsIndex_both h1 h2) (by rw [List.size_toArray,←hl];exact hk) (by rw [←Array.getElem?_toList];exact hw) (by rw [List.size_toArray];lia)) ⟨e,?_⟩
 refine ⟨y,_,I.lset (its':=its.eraseIdx k) hH e ?_ (r.eraseIdx k) ?_,rw',q⟩
 ·show its.toArray.eraseIdxIfInBounds k=(its.eraseIdx k).toArray
  rw [List.eraseIdxIfInBounds_toArray]
 ·have:=z7H xs k
  lia
def zi7:R2:=fun x y H Q=>∃ l b xs zs,x=.ref l∧y=.ref b∧H l=some (.lst xs)∧H b=some (.lst zs)∧xs.length+zs.length≤sizeLine∧∀ p,H p=none→Q (.ref p) (upd H p (.lst (xs++zs)))
theorem zgs:OpR X (binaryOp .Add) zi7:=by
 intro pins s σ H x y v u Q I rx ry h
 obtain ⟨l,b,xs,zs,rfl,rfl,hH,hB,hz,q⟩:=h
 cases rx
 cases ry
 obtain ⟨z,its,n,r,hl,e⟩:=I.lstM hH
 obtain ⟨z2,its2,n2,r2,hl2,e2⟩:=I.lstM hB
 refine PySem.P.add_list e e2 ?_ (by rw [List.size_toArray,List.size_toArray];lia)
 have ea:its.toArray++its2.toArray=(its++its2).toArray:=by simp
 rw [ea]
 exact ⟨.ref _,_,I.lnew (t':=s.toks) (r.append r2) (by rw [List.length_append];lia),rfl,q _ I.fresh⟩
def zij:R2:=fun x y H Q=>∃ l k xs,x=.ref l∧y=.int k∧H l=some (.lst xs)∧-(2 ^ 63)≤k∧k < 2 ^ 63∧xs.length*k.toNat≤sizeLine ∧
 ∀ p,H p=none→Q (.ref p) (upd H p (.lst (List.replicate k.toNat xs).flatten))
theorem z4d {α:Type} (xs:List α) (k:Nat):(List.replicate k xs).flatten.length=k*xs.length:=by
 induction k with
 | zero=>simp
 | succ k ih=>rw [List.replicate_succ,List.flatten_cons,List.length_append,ih,Nat.succ_mul,Nat.add_comm]
theorem zbY:OpR X (binaryOp .Mult) zij:=by
 intro pins s σ H x y v u Q I rx ry h
 obtain ⟨l,k,xs,rfl,rfl,hH,h1,h2,hz,q⟩:=h
 cases rx
 obtain ⟨t,rfl⟩:=ry
 obtain ⟨z,its,n,r,hl,e⟩:=I.lstM hH
 have hlen:its.toArray.size*k.toNat≤sizeLine:=by rw [List.size_toArray,←hl];exact hz
 have hcap:¬ its.toArray.size*k.toNat > (2 ^ 63 - 1) / 8:=by
  have:(sizeLine:Nat)≤(2 ^ 63 - 1) / 8:=by decide
  lia
 have hfit:¬ (!Builtin.List.listFitsIndex k)=true:=by
  rw [fitsIndex_both h1 h2]
  exact Bool.false_ne_true
 have hlong:¬ Builtin.List.listTooLong (its.toArray.size*k.toNat)=true:=by
  rw [zdj hlen]
  exact Bool.false_ne_true
 have hnew:List.foldl (fun x1 x2=>x1++x2) #[] (List.replicate (if its.toArray.isEmpty=true then 0 else k.toNat) its.toArray)=(List.replicate k.toNat its).flatten.toArray:=by
  have f0:∀ m:Nat,List.foldl (fun x1 x2=>x1++x2) #[] (List.replicate m its.toArray)=(List.replicate m its).flatten.toArray:=fun m=>by
   have:=z3F its m []
   rw [List.nil_append] at this
   exact this
  rw [f0]
  cases its with
  | nil=>simp
  | cons a r'=>rw [if_neg (by simp)]
 refine wpAny_binaryOp_repeat_ref (T:="list") (U:="int") (by decide) ⟨_,e,rfl⟩ (fun s'=>typeIs_int s' k t) noFill_list_mul F.fills_int_mul F.slot_int_rmul repeat_list F.slot_int_index.lookup
  (call_meets F.slot_int_rmul (typeIs_int s k t) F.entry_int_rmul (F.args_int_rmul_2 _ _) (int___rmul___int_list k t l its.toArray n)
   ⟨e,rfl,⟨_,e,rfl⟩,call_meets F.slot_list_mul ⟨_,e,rfl⟩ F.entry_list_mul (F.args_list_mul_2 _ _) (AutoListH.list___mul___list_int_3 l its.toArray n k t hfit hcap hlong) ⟨e,?_⟩⟩)
 rw [hnew]
 exact ⟨.ref _,_,I.lnew (t':=s.toks) (r.rep k.toNat) (by rw [z4d,Nat.mul_comm];exact hz),rfl,q _ I.fresh⟩
end
section
variable {prog:Program} {w:World} {A:Around} {E:Value→Shared→Prop} {s:Shared}
end
section
variable {X:Cx}
end
end L2
namespace L2
open PySem PySem.Spec PyProof.Rows
section
variable {κ:Type} [DecidableEq κ]
def z3k (kvs:List (κ × V)) (k:κ):Option V:=(kvs.find? fun kv=>decide (kv.1=k)).map (·.2)
def z2P (kvs:List (κ × V)) (k:κ) (v:V):List (κ × V) :=
 if (kvs.any fun kv=>decide (kv.1=k))=true then kvs.map (fun kv=>if kv.1=k then (kv.1,v) else kv) else kvs++[(k,v)]
theorem z38 {p:κ × V} {r:List (κ × V)} {k:κ} (e:p.1=k):z3k (p::r) k=some p.2:=by simp [z3k,List.find?_cons,e]
theorem z2H {p:κ × V} {r:List (κ × V)} {k:κ} (e:¬ p.1=k):z3k (p::r) k=z3k r k:=by simp [z3k,List.find?_cons,e]
theorem z3C (k:κ):∀ kvs:List (κ × V),(kvs.any fun kv=>decide (kv.1=k))=(z3k kvs k).isSome
 | []=>rfl
 | p::r=>by
  rw [List.any_cons]
  by_cases e:p.1=k
  ·simp only [z38 e,decide_eq_true e,Bool.true_or,Option.isSome_some]
  ·rw [z2H e,decide_eq_false e,Bool.false_or];exact z3C k r
theorem z2e (kvs:List (κ × V)) (k:κ) (v:V):(z2P kvs k v).length≤kvs.length+1:=by
 unfold z2P
 split
 ·rw [List.length_map];lia
 ·rw [List.length_append,List.length_cons,List.length_nil];lia
theorem z9K {kvs:List (κ × V)} {k:κ} (v:V) (h:z3k kvs k=none):z2P kvs k v=kvs++[(k,v)]:=by
 unfold z2P
 rw [z3C,h]
 exact if_neg (by decide)
theorem z8T.isSome_eq {o:Option V} {u:Option Value} (r:z8T o u):o.isSome=u.isSome:=by
 cases o with
 | none=>cases u with
  | none=>rfl
  | some _=>exact (show False from r).elim
 | some _=>cases u with
  | none=>exact (show False from r).elim
  | some _=>rfl
theorem z8T.getD {o:Option V} {u:Option Value} {d:V} {d':Value} (r:z8T o u) (rd:z1n d d'):z1n (o.getD d) (u.getD d'):=by
 cases o with
 | none=>cases u with
  | none=>exact rd
  | some _=>exact (show False from r).elim
 | some _=>cases u with
  | none=>exact (show False from r).elim
  | some _=>exact r
theorem KV.val {kvs:List (κ × V)} {vs:List (κ × Value)} (r:KV kvs vs) (k:κ):z8T (z3k kvs k) (valueAt vs k):=by
 unfold KV at r
 induction r with
 | nil=>exact True.intro
 | @cons p q ps qs h t ih =>
  obtain ⟨h1,h2⟩:=h
  by_cases e:p.1=k
  ·have e':q.1=k:=h1.symm.trans e
   have b:valueAt (q::qs) k=some q.2:=by simp [valueAt,List.find?_cons,e']
   rw [z38 e,b];exact h2
  ·have e':¬ q.1=k:=fun z=>e (h1.trans z)
   have b:valueAt (q::qs) k=valueAt qs k:=by simp [valueAt,List.find?_cons,e']
   rw [z2H e,b];exact ih
theorem KV.any {kvs:List (κ × V)} {vs:List (κ × Value)} (r:KV kvs vs) (k:κ):(kvs.any fun kv=>decide (kv.1=k))=vs.any fun kv=>decide (kv.1=k):=by
 unfold KV at r
 induction r with
 | nil=>rfl
 | cons h t ih=>rw [List.any_cons,List.any_cons,ih,h.1]
theorem KV.repl {kvs:List (κ × V)} {vs:List (κ × Value)} (r:KV kvs vs) (k:κ) {y:V} {u:Value} (ry:z1n y u) :
  KV (kvs.map fun kv=>if kv.1=k then (kv.1,y) else kv) (vs.map fun kv=>if kv.1=k then (kv.1,u) else kv):=by
 unfold KV at r ⊢
 induction r with
 | nil=>exact .nil
 | @cons p q ps qs h t ih =>
  rw [List.map_cons,List.map_cons]
  refine .cons ?_ ih
  obtain ⟨h1,h2⟩:=h
  by_cases e:p.1=k
  ·rw [if_pos e,if_pos (h1.symm.trans e)];exact ⟨h1,ry⟩
  ·rw [if_neg e,if_neg (fun z=>e (h1.trans z))];exact ⟨h1,h2⟩
theorem KV.put {kvs:List (κ × V)} {vs:List (κ × Value)} (r:KV kvs vs) (k:κ) {y:V} {u:Value} (ry:z1n y u):KV (z2P kvs k y) (stored vs k u):=by
 unfold z2P stored
 rw [r.any k]
 by_cases e:(vs.any fun kv=>decide (kv.1=k))=true
 ·rw [if_pos e,if_pos e];exact r.repl k ry
 ·rw [if_neg e,if_neg e];exact Paired.snoc r ⟨rfl,ry⟩
theorem KV.length {kvs:List (κ × V)} {vs:List (κ × Value)} (r:KV kvs vs):kvs.length=vs.length:=Paired.length r
end
theorem zc9 {P:Program} {w:World} {k:Key} {u:Value} (r:z1n (kV k) u):(z1x P w).is k u=true:=by
 cases k with
 | inl i=>obtain ⟨t,e⟩:=(show ∃ t,u=Value.int i t from r);subst e;exact z8K P w i t
 | inr x=>obtain ⟨t,e⟩:=(show ∃ t,u=Value.str x t from r);subst e;exact z8O P w x t
theorem z84 {P:Program} {w:World}:∀ {ks:List Key} {us:List Value},z1i (ks.map kV) us→ItemsAre (z1x P w) ks us
 | [],_,r=>by rw [List.map_nil] at r;cases r;exact .nil
 | k::ks,_,r=>by
  rw [List.map_cons] at r
  cases r with
  | cons h t=>exact .cons (zc9 h) (z84 t)
abbrev KT (H:Hp):List (List Key × V)→List (List Key × Addr × Value)→Prop:=Paired fun p q=>p.1=q.1∧H q.2.1=some (.tup (p.1.map kV))∧z1n p.2 q.2.2
theorem KT.val {H:Hp} {kvs:List (List Key × V)} {xs:List (List Key × Addr × Value)} (r:KT H kvs xs) (k:List Key):z8T (z3k kvs k) ((atKey xs k).map (·.2)):=by
 induction r with
 | nil=>exact True.intro
 | @cons p q ps qs h t ih =>
  obtain ⟨h1,_,h2⟩:=h
  by_cases e:p.1=k
  ·have e':q.1=k:=h1.symm.trans e
   have b:atKey (q::qs) k=some q.2:=by simp [atKey,List.find?_cons,e']
   rw [z38 e,b];exact h2
  ·have e':¬ q.1=k:=fun z=>e (h1.trans z)
   have b:atKey (q::qs) k=atKey qs k:=by simp [atKey,List.find?_cons,e']
   rw [z2H e,b];exact ih
theorem KT.repl {H:Hp} {kvs:List (List Key × V)} {xs:List (List Key × Addr × Value)} (r:KT H kvs xs) (k:List Key) {y:V} {u:Value} (ry:z1n y u) :
  KT H (kvs.map fun kv=>if kv.1=k then (kv.1,y) else kv) (xs.map (putAt k u)):=by
 induction r with
 | nil=>exact .nil
 | @cons p q ps qs h t ih =>
  rw [List.map_cons,List.map_cons]
  refine .cons ?_ ih
  obtain ⟨h1,h2,h3⟩:=h
  unfold putAt
  by_cases e:p.1=k
  ·rw [if_pos e,if_pos (h1.symm.trans e)];exact ⟨h1,h2,ry⟩
  ·rw [if_neg e,if_neg (fun z=>e (h1.trans z))];exact ⟨h1,h2,h3⟩
theorem KT.put {H:Hp} {kvs:List (List Key × V)} {xs:List (List Key × Addr × Value)} (r:KT H kvs xs) (k:List Key) {b:Addr} {y:V} {u:Value} (hb:H b=some (.tup (k.map kV))) (ry:z1n y u) :
  KT H (z2P kvs k y) (storedH xs k b u):=by
 have e:(kvs.any fun kv=>decide (kv.1=k))=(atKey xs k).isSome:=by
  rw [z3C,(r.val k).isSome_eq,Option.isSome_map]
 unfold z2P storedH
 rw [e]
 by_cases q:(atKey xs k).isSome=true
 ·rw [if_pos q,if_pos q];exact r.repl k ry
 ·rw [if_neg q,if_neg q];exact Paired.snoc r ⟨rfl,hb,ry⟩
theorem KT.keeps {H H':Hp} {kvs:List (List Key × V)} {xs:List (List Key × Addr × Value)} (r:KT H kvs xs) (ht:∀ b ys,H b=some (.tup ys)→H' b=some (.tup ys)):KT H' kvs xs :=
 Paired.mapP r fun _ _ z=>⟨z.1,ht _ _ z.2.1,z.2.2⟩
section
variable {P:Program} {w:World} {H:Hp} {h:Heap} {a:Addr}
theorem zfV {u:HO} (ok:HOk P w H h) (e:Rd H a u):z22 P w H h a u:=e.ok ok
theorem zcw {kvs:List (Key × V)} (ok:HOk P w H h) (e:Rd H a (.dK kvs)):kvs.length≤sizeLine∧(a == sysModules)=false∧∃ vs,KV kvs vs∧h.DictOf (z1x P w) a vs :=
 show z22 P w H h a (.dK kvs) from zfV ok e
theorem zfD {kvs:List (Key × V)} (ok:HOk P w H h) (e:H a=some (.dK kvs)):kvs.length≤sizeLine∧(a == sysModules)=false∧∃ vs,KV kvs vs∧h.DictOf (z1x P w) a vs:=zcw ok (.inl e)
theorem z9k {ks:List Key} (ok:HOk P w H h) (e:H a=some (.tup (ks.map kV))):(tupleKind (z1x P w)).is h ks a:=by
 obtain ⟨_,its,n,r,h1⟩:=(show z22 P w H h a (.tup (ks.map kV)) from ok a _ e)
 exact ⟨_,its.toArray,n,h1,rfl,rfl,by simpa using z84 r⟩
theorem zcM {kvs:List (List Key × V)} (ok:HOk P w H h) (e:Rd H a (.dT kvs)):kvs.length≤sizeLine∧(a == sysModules)=false ∧
  ∃ xs,KT H kvs xs∧h.DictOfH (tupleKind (z1x P w)) a xs:=by
 obtain ⟨z,y,xs,r,o,es,ep,h1,h2,h3,h4,h5⟩:=(show z22 P w H h a (.dT kvs) from zfV ok e)
 refine ⟨z,y,xs,r,o,es,ep,h1,h2,h3,h4,fun x hx=>?_,h5⟩
 have all:∀ {l:List (List Key × V)} {m:List (List Key × Addr × Value)},KT H l m→∀ x∈m,(tupleKind (z1x P w)).is h x.1 x.2.1:=by
  intro l m q
  induction q with
  | nil=>intro x hx;exact nomatch hx
  | @cons p q ps qs hq t ih =>
   intro x hx
   rcases List.mem_cons.mp hx with e | hx
   ·subst e
    exact z9k ok (by rw [←hq.1];exact hq.2.1)
   ·exact ih x hx
 exact all r x hx
theorem zh6 {kvs:List (List Key × V)} (ok:HOk P w H h) (e:H a=some (.dT kvs)):kvs.length≤sizeLine∧(a == sysModules)=false ∧
  ∃ xs,KT H kvs xs∧h.DictOfH (tupleKind (z1x P w)) a xs:=zcM ok (.inl e)
end
def z5A (H:Hp) (a:Addr) (y:V) (r:Option V):Prop :=
 (∃ kvs k,Rd H a (.dK kvs)∧y=kV k∧r=z3k kvs k)∨∃ kvs k b,Rd H a (.dT kvs)∧y=.ref b∧H b=some (.tup (k.map kV))∧r=z3k kvs k
def zdo (H:Hp) (a:Addr) (y v:V) (H':Hp):Prop :=
 (∃ kvs k,H a=some (.dK kvs)∧y=kV k∧kvs.length < sizeLine∧H'=upd H a (.dK (z2P kvs k v))) ∨
 ∃ kvs k b,H a=some (.dT kvs)∧y=.ref b∧H b=some (.tup (k.map kV))∧kvs.length < sizeLine∧H'=upd H a (.dT (z2P kvs k v))
theorem z5A.k {H:Hp} {a:Addr} {kvs:List (Key × V)} {k:Key} (e:H a=some (.dK kvs)):z5A H a (kV k) (z3k kvs k):=.inl ⟨kvs,k,.inl e,rfl,rfl⟩
theorem zdo.k {H:Hp} {a:Addr} {kvs:List (Key × V)} {k:Key} {v:V} (e:H a=some (.dK kvs)) (hl:kvs.length < sizeLine):zdo H a (kV k) v (upd H a (.dK (z2P kvs k v))):=.inl ⟨kvs,k,e,rfl,hl,rfl⟩
section
variable {X:Cx} {pins:List (Addr × Obj)} {σ:St} {H:Hp} {s:Shared} {a:Addr} {y v:V} {u r:Value} {o:Option V} {A:Around} {E:Value→Shared→Prop}
theorem Inv.big (I:Inv X pins σ H s):sysModules < s.heap.objs.size:=by
 have h:mainGlobals < s.heap.objs.size:=(I.mod.glob.keeps I.bk).lt
 exact Nat.lt_trans (by decide) h
theorem zbQ {Q:Value→Shared→Prop} (hu:A.units+1 < cLine) (I:Inv X pins σ H s) (g:z5A H a y (some v)) (ry:z1n y u) (h:∀ w' s',Inv X pins σ H s'→z1n v w'→Q w' s') :
  wpAny (model X.prog X.w) A (getItem (.ref a) u) Q E s:=by
 rcases g with ⟨kvs,k,e,ey,l⟩ | ⟨kvs,k,b,e,ey,eb,l⟩
 ·subst ey
  obtain ⟨z,hd,vs,rel,dd⟩:=zcw I.hok e
  obtain ⟨w',hw,rw'⟩:=z8T.some_of (v:=v) (o:=valueAt vs k) (by rw [l];exact rel.val k)
  exact wpAny_getItem_of (zc9 ry) dd.mapOf hw (h w' _ (I.tok _) rw')
 ·subst ey
  cases (show u=Value.ref b from ry)
  obtain ⟨z,hd,xs,rel,dd⟩:=zcM I.hok e
  obtain ⟨w',hw,rw'⟩:=z8T.some_of (v:=v) (o:=(atKey xs k).map (·.2)) (by rw [l];exact rel.val k)
  obtain ⟨p,hp,hp2⟩:=Option.map_eq_some_iff.mp hw
  refine wpAny_getItem_heap (tupleKind_room_in1 hu) (z9k I.hok eb) dd hp ?_
  rw [hp2]
  exact h w' _ (I.tok _) rw'
theorem zen {Q:Value→Shared→Prop} (hu:A.units+1 < cLine) (I:Inv X pins σ H s) (g:z5A H a y o) (ry:z1n y u) (h:∀ s',Inv X pins σ H s'→Q (.bool (!o.isSome)) s') :
  wpAny (model X.prog X.w) A (compareOp .NotIn u (.ref a)) Q E s:=by
 rcases g with ⟨kvs,k,e,ey,l⟩ | ⟨kvs,k,b,e,ey,eb,l⟩
 ·subst ey
  obtain ⟨z,hd,vs,rel,dd⟩:=zcw I.hok e
  refine wpAny_notIn_of (zc9 ry) hd dd.mapOf ?_
  rw [←(rel.val k).isSome_eq,←l]
  exact h _ (I.tok _)
 ·subst ey
  cases (show u=Value.ref b from ry)
  obtain ⟨z,hd,xs,rel,dd⟩:=zcM I.hok e
  refine wpAny_notIn_heap (tupleKind_room_in1 hu) (z9k I.hok eb) hd dd ?_
  have q:=(rel.val k).isSome_eq
  rw [Option.isSome_map] at q
  rw [←q,←l]
  exact h _ (I.tok _)
theorem z5h {h':Heap} {t':Nat} {ob:HO} (I:Inv X pins σ H s) (mu:Mut (H a)) (hs:Heap.SameBut a s.heap h') (he:∃ q,h'.get? a=some q) (new:z22 X.prog X.w (upd H a ob) h' a ob) :
  Inv X pins σ (upd H a ob) { s with heap:=h',toks:=t' } :=
 I.write (x:=a) (e:=a) mu (.inl rfl) (fun b q hb z=>(hs.2 b hb).trans z) he new
theorem zdZ {P:Program} {w:World} {H':Hp} {h':Heap} {kvs:List (Key × V)} {vs:List (Key × Value)} (z:kvs.length≤sizeLine) (hd:(a == sysModules)=false) (rel:KV kvs vs) (dd:h'.DictOf (z1x P w) a vs) :
  z22 P w H' h' a (.dK kvs):=⟨z,hd,vs,rel,dd⟩
theorem zb6 {H':Hp} {Q:Unit→Shared→Prop} (hu:A.units+1 < cLine) (I:Inv X pins σ H s) (g:zdo H a y v H') (ry:z1n y u) (rv:z1n v r) (h:∀ s',Inv X pins σ H' s'→Q () s') :
  wpAny (model X.prog X.w) A (setItem (.ref a) u r) Q E s:=by
 rcases g with ⟨kvs,k,e,ey,l,eH⟩ | ⟨kvs,k,b,e,ey,eb,l,eH⟩
 ·subst ey eH
  obtain ⟨z,hd,vs,rel,dd⟩:=zfD I.hok e
  have hz:vs.length≤sizeLine:=by rw [←rel.length];exact z
  have hl:(z2P kvs k v).length≤sizeLine:=by have:=z2e kvs k v;lia
  refine wpAny_setItem_pairs (hsz:=hz) (zc9 ry) dd fun h' dd' hs=>h _ ?_
  have he:∃ q,h'.get? a=some q:=let ⟨q,_,_,hq,_⟩:=dd';⟨q,hq⟩
  exact z5h I (by rw [e];exact True.intro) hs he (zdZ hl hd (rel.put k rv) dd')
 ·subst ey eH
  cases (show u=Value.ref b from ry)
  obtain ⟨z,hd,xs,rel,dd⟩:=zh6 I.hok e
  have hz:xs.length≤sizeLine:=by rw [←Paired.length rel];exact z
  have hl:(z2P kvs k v).length≤sizeLine:=by have:=z2e kvs k v;lia
  refine wpAny_setItem_heap (hsz:=hz) (tupleKind_room_in1 hu) (z9k I.hok eb) dd fun h' dd' hs=>h _ ?_
  obtain ⟨q,es,ep,hq,h2,h3,h4,_,h5⟩:=dd'
  refine z5h I (by rw [e];exact True.intro) hs ⟨q,hq⟩ ⟨hl,hd,_,(rel.put k eb rv).keeps fun c ys ec=>?_,q,es,ep,hq,h2,h3,h4,h5⟩
  rw [z09 (z4b ec e (fun z=>nomatch z))]
  exact ec
end
section
variable {X:Cx} {pins:List (Addr × Obj)} {σ:St} {H:Hp} {s:Shared} {a:Addr} {kvs:List (Key × V)} {k:Key} {u:Value} {A:Around} {E:Value→Shared→Prop}
end
def zgw (i:Expr):Prop:=∀ ov iv,subscripted i false ov iv=operate [ov,iv] (getItem ov iv)
theorem zbc {prog:Program} {w:World} {A:Around} {E:Value→Shared→Prop} {s:Shared} {env:Env} {value slice:Expr} {pos:Pos} {T id:String} {Q:Value→Shared→Prop}
  (hl:typeLookup (.type T) "__getitem__"=pure (some (.builtin id))) (hs:zgw slice)
  (h:wpAny (model prog w) A (eval value env) (fun o s₁=>wpAny (model prog w) A (eval slice env) (fun i s₂=>s₂.TypeIs o T∧wpAny (model prog w) A (getItem o i) Q E s₂) E s₁) E s) :
  wpAny (model prog w) A (eval (.Subscript value slice pos) env) Q E s:=by
 refine Subscript_ (wpAny_mono h (fun o s₁ h₁=>wpAny_mono h₁ (fun i s₂ h₂=>?_) fun _ _ x=>x) fun _ _ x=>x)
 obtain ⟨hT,h₂⟩:=h₂
 unfold subscriptTail
 refine wpAny_bind ?_
 rw [getitemInPython_of_ne hT.not_modules]
 refine wpAny_bind (wpAny_specialOf hT hl ?_)
 have fin:wpAny (model prog w) A (subscripted slice false o i) (fun r s₃=>wpAny (model prog w) A (letTemporaryGo value o r >>= fun _=>pure r) Q E s₃) E s₂:=by
  rw [hs o i]
  exact wpAny_operating (wpAny_mono h₂ (fun r s₃ h₃=>wpAny_bind (wpAny_letTemporaryGo (wpAny_pure h₃))) fun _ _ x=>x)
 first
  | exact wpAny_pure (wpAny_bind fin)
  | exact wpAny_bind (wpAny_pure (wpAny_bind fin))
  | exact wpAny_bind fin
theorem z8J {X:Cx} {pins:List (Addr × Obj)} {σ:St} {H:Hp} {s:Shared} {a:Addr} {y:V} {o:Option V} (I:Inv X pins σ H s) (g:z5A H a y o):s.TypeIs (.ref a) "dict":=by
 rcases g with ⟨kvs,k,e,_,_⟩ | ⟨kvs,k,b,e,_,_,_⟩
 ·obtain ⟨_,_,vs,_,dd⟩:=zcw I.hok e
  exact dd.typeIs
 ·obtain ⟨_,_,xs,_,dd⟩:=zcM I.hok e
  exact dd.typeIs
def zgR (td ty:TE):TE:=fun σ H Q=>td σ H fun x H1=>ty σ H1 fun y H2=>∃ a v,x=.ref a∧z5A H2 a y (some v)∧Q v H2
def zeK (ty td:TE):TE:=fun σ H Q=>ty σ H fun y H1=>td σ H1 fun x H2=>∃ a o,x=.ref a∧z5A H2 a y o∧Q (.bl (!o.isSome)) H2
def zgQ (td ty tv:TE):TS:=fun D σ H=>tv σ H fun v H1=>td σ H1 fun x H2=>ty σ H2 fun y H3=>∃ a H4,x=.ref a∧zdo H3 a y v H4∧D.nx σ H4
section
variable {X:Cx} {o i e value:Expr} {pos pos' tpos:Pos} {td ty tv:TE}
theorem z30 (hu:X.A.units+1 < cLine) (ho:PE X o td) (hi:PE X i ty) (hs:zgw i):PE X (.Subscript o i pos) (zgR td ty):=by
 intro pins s σ H Q I h
 refine zbc PySem.F.slot_dict_getitem.lookup hs (z23 (ho pins s σ H _ I h) fun u s1 x H1 I1 rx q1=>z23 (hi pins s1 σ H1 _ I1 q1) fun iv s2 y H2 I2 ry hz9=>?_)
 obtain ⟨a,v,ex,g,q2⟩:=hz9
 subst ex
 obtain rfl:u=Value.ref a:=rx
 exact ⟨z8J I2 g,zbQ hu I2 g ry fun w' s3 I3 rw'=>⟨v,H2,I3,rw',q2⟩⟩
theorem z3Q (hu:X.A.units+1 < cLine) (hi:PE X i ty) (ho:PE X o td):PC X .NotIn i o (zeK ty td):=by
 intro pins s σ H Q I h
 refine z23 (hi pins s σ H _ I h) fun iv s1 y H1 I1 ry q1=>z23 (ho pins s1 σ H1 _ I1 q1) fun u s2 x H2 I2 rx hz9=>?_
 obtain ⟨a,ov,ex,g,q2⟩:=hz9
 subst ex
 obtain rfl:u=Value.ref a:=rx
 exact zen hu I2 g ry fun s3 I3=>⟨.bl (!ov.isSome),H2,I3,rfl,q2⟩
theorem z50 (hu:X.A.units+1 < cLine) (ho:PE X o td) (hi:PE X i ty) (hv:PE X value tv) (hs:swapsWith value (some (.Subscript o i pos')) pos.line X.env=pure false) :
  PS X (.Assign [.Subscript o i pos'] value pos) (zgQ td ty tv):=by
 intro pins s σ H D I h
 refine wpAny_Assign_Subscript (z23 (hv pins s σ H _ I h) fun r s1 v H1 I1 rv q1=>z23 (ho pins s1 σ H1 _ I1 q1) fun u s2 x H2 I2 rx q2=>z23 (hi pins s2 σ H2 _ I2 q2) fun iv s3 y H3 I3 ry hz9=>?_) hs
 obtain ⟨a,H4,ex,g,q3⟩:=hz9
 subst ex
 obtain rfl:u=Value.ref a:=rx
 exact zb6 hu I3 g ry rv fun s4 I4=>⟨σ,H4,I4,q3⟩
end
theorem z9O {P:Program} {w:World} {H:Hp} (h:Heap) (hb:sysModules < h.objs.size):z22 P w H (h.push { cls:=.type "dict",data:=.dict #[] }) h.objs.size (.dK []) :=
 ⟨Nat.zero_le _,beq_eq_false_iff_ne.mpr (Ne.symm (Nat.ne_of_lt hb)),[],.nil,Heap.DictOf.new h⟩
def zfo:TE:=fun _ H Q=>∀ p,H p=none→Q (.ref p) (upd H p (.dK []))
section
variable {X:Cx} {pos:Pos}
theorem z6U:PE X (.Dict [] [] pos) zfo:=fun pins s σ H Q I h =>
 wpAny_Dict_empty ⟨.ref s.heap.objs.size,_,I.laid (a:=s.heap.objs.size) (o:=.dK []) (t':=s.toks) (fun _ _ q=>Heap.get?_push_of_some _ q) (Nat.le_refl _) (z9O s.heap I.big),rfl,h _ (I.hok.fresh (Nat.le_refl _))⟩
end
def zaN:List (TE × TE)→St→Hp→(List (V × V)→Hp→Prop)→Prop
 | [],_,H,Q=>Q [] H
 | (tk,tv)::r,σ,H,Q=>tk σ H fun x H1=>tv σ H1 fun y H2=>zaN r σ H2 fun ps H3=>Q ((x,y)::ps) H3
abbrev VV:List (V × V)→List (Value × Value)→Prop:=Paired fun p q=>z1n p.1 q.1∧z1n p.2 q.2
def PPs (X:Cx) (pos:Pos) (keys:List (Option Expr)) (values:List Expr) (trs:List (TE × TE)):Prop :=
 ∀ (pins:List (Addr × Obj)) (s:Shared) (σ:St) (H:Hp) (Q:List (V × V)→Hp→Prop),Inv X pins σ H s→zaN trs σ H Q →
  wpAny (model X.prog X.w) X.A (evalPairs (pairTrees keys values X.env pos)) (fun vs s'=>∃ ps H',Inv X pins σ H' s'∧VV ps vs∧Q ps H') X.xe s
theorem z8j {X:Cx} {pos:Pos}:PPs X pos [] [] []:=fun pins s σ H Q I h=>pairTrees_nil_walk ⟨[],H,I,.nil,h⟩
theorem z6S {X:Cx} {pos:Pos} {k v:Expr} {ks:List (Option Expr)} {vs:List Expr} {tk tv:TE} {trs:List (TE × TE)} (hk:PE X k tk) (hv:PE X v tv) (hr:PPs X pos ks vs trs) :
  PPs X pos (some k::ks) (v::vs) ((tk,tv)::trs):=fun pins s σ H Q I h =>
 pairTrees_cons_walk (thn (hk pins s σ H _ I h) fun u s1 ⟨x,H1,I1,rx,q1⟩=>thn (hv pins s1 σ H1 _ I1 q1) fun w2 s2 ⟨y,H2,I2,ry,q2⟩ =>
  thn (hr pins s2 σ H2 _ I2 q2) fun ws s3 ⟨ps,H3,I3,rel,q3⟩=>⟨(x,y)::ps,H3,I3,.cons ⟨rx,ry⟩ rel,q3⟩)
def z4i (kvs more:List (Key × V)):List (Key × V):=more.foldl (fun acc kv=>z2P acc kv.1 kv.2) kvs
theorem KV.merge:∀ {more:List (Key × V)} {rs:List (Key × Value)} {kvs:List (Key × V)} {vs:List (Key × Value)},KV more rs→KV kvs vs→KV (z4i kvs more) (merged vs rs):=by
 intro more rs kvs vs r
 unfold KV at r
 induction r generalizing kvs vs with
 | nil=>intro q;exact q
 | @cons p q ps qs h t ih =>
  intro r0
  have e:KV (z2P kvs p.1 p.2) (stored vs q.1 q.2):=by
   have:=r0.put p.1 h.2
   rw [←h.1];exact this
  exact ih e
theorem z3z:∀ (more kvs:List (Key × V)),(z4i kvs more).length≤kvs.length+more.length
 | [],kvs=>by show kvs.length≤kvs.length+0;lia
 | p::r,kvs=>by
  have h1:=z3z r (z2P kvs p.1 p.2)
  have h2:=z2e kvs p.1 p.2
  show (z4i (z2P kvs p.1 p.2) r).length≤_
  rw [List.length_cons];lia
theorem z64 {P:Program} {w:World}:∀ {kvs:List (Key × V)} {ws:List (Value × Value)},VV (kvs.map fun kv=>(kV kv.1,kv.2)) ws→∃ rs,Carries (z1x P w) ws rs∧KV kvs rs
 | [],_,r=>by rw [List.map_nil] at r;cases r;exact ⟨[],True.intro,.nil⟩
 | p::kvs,_,r=>by
  rw [List.map_cons] at r
  cases r with
  | @cons a b as bs h t =>
   obtain ⟨rs,c,q⟩:=z64 (P:=P) (w:=w) t
   obtain ⟨b1,b2⟩:=b
   exact ⟨(p.1,b2)::rs,⟨zc9 h.1,rfl,c⟩,.cons ⟨rfl,h.2⟩ q⟩
def zhb (trs:List (TE × TE)):TE:=fun σ H Q=>∀ p,H p=none→zaN trs σ (upd H p (.dK [])) fun ps H2=>H2 p=some (.dK [])∧∃ kvs:List (Key × V),ps=kvs.map (fun kv=>(kV kv.1,kv.2))∧kvs.length≤15∧Q (.ref p) (upd H2 p (.dK (z4i [] kvs)))
theorem zb2 {X:Cx} {pos:Pos} {keys:List (Option Expr)} {values:List Expr} {trs:List (TE × TE)} (h:PPs X pos keys values trs) (hall:keys.all (·.isSome)=true) (hl:keys.length=values.length) (h0:keys≠[])
  (h15:keys.length≤15):PE X (.Dict keys values pos) (zhb trs):=by
 intro pins s σ H Q I q
 have hn:=I.hok.fresh (Nat.le_refl s.heap.objs.size)
 have I1:=I.laid (a:=s.heap.objs.size) (o:=.dK []) (h':=s.heap.push { cls:=.type "dict",data:=.dict #[] }) (t':=s.toks) (fun _ _ q=>Heap.get?_push_of_some _ q) (Nat.le_refl _) (z9O s.heap I.big)
 refine wpAny_Dict_walk (knd:=z1x X.prog X.w) hall hl h0 h15 (thn (h pins _ σ _ _ I1 (q _ hn)) fun ws s2 hz8=>?_)
 obtain ⟨ps,H2,I2,rel,e,kvs,ep,lk,q2⟩:=hz8
 subst ep
 obtain ⟨rs,c,rk⟩:=z64 (P:=X.prog) (w:=X.w) rel
 obtain ⟨z,hd,vs0,r0,dd⟩:=zfD I2.hok e
 cases r0
 refine ⟨rs,c,dd,fun h' dd' hs=>⟨.ref s.heap.objs.size,_,?_,rfl,q2⟩⟩
 have hz:(z4i [] kvs).length≤sizeLine:=by
  have h1:=z3z kvs []
  rw [List.length_nil] at h1
  rw [sizeLine_eq];lia
 have he:∃ q,h'.get? s.heap.objs.size=some q:=let ⟨q,_,_,hq,_⟩:=dd';⟨q,hq⟩
 exact z5h I2 (by rw [e];exact True.intro) hs he (zdZ hz hd (rk.merge .nil) dd')
structure M2 (X:Cx) (o:Expr) (m:Str) (apos:Pos) (e f:Expr) (cpos:Pos):Prop where
 base:attributeBase o m X.env (eval o X.env)=eval o X.env
 few:((backTo cpos (starEach [e,f] X.env)).all (fun x=>!x.1) && (backToKw cpos (keywordEach [] X.env)).all (fun x=>x.1.isSome)
  && decide (([e,f]:List Expr).length+([]:List Keyword).length+(if ([]:List Keyword).isEmpty then 0 else 1) < 30))=true
 line:(apos.endLine == cpos.line)=true
 trees:backTo cpos (starEach [e,f] X.env)=[(false,eval e X.env),(false,eval f X.env)]
section
variable {X:Cx} {pins:List (Addr × Obj)} {σ:St} {H:Hp} {s:Shared} {a:Addr} {y d:V} {u r:Value} {o:Option V} {A:Around} {E:Value→Shared→Prop}
end
section
variable {X:Cx} {o e f:Expr} {apos cpos:Pos} {td ty tx:TE}
end
section
variable {X:Cx} {pins:List (Addr × Obj)} {σ:St} {H:Hp} {s:Shared} {a:Addr} {kvs:List (Key × V)} {A:Around} {E:Value→Shared→Prop}
end
section
variable {X:Cx} {pins:List (Addr × Obj)} {σ:St} {H:Hp} {s:Shared} {a:Addr} {y:V} {u:Value} {A:Around} {E:Value→Shared→Prop}
end
end L2
namespace Att
open PySem PySem.W PySem.Calls PyProof.Rows
theorem z4P {P:Params} {h:Heap}:∀ (ns:List Int) (vs:List Value),WellAll P h vs (ns.map WData.int)→IntsAre vs ns:=by
 intro ns
 induction ns with
 | nil =>
  intro vs w
  rw [List.map_nil] at w
  cases w
  exact .nil
 | cons n ns ih =>
  intro vs w
  rw [List.map_cons] at w
  cases w with
  | cons a b =>
   cases a
   exact .cons _ _ (ih _ b)
theorem zbK {l:OpenLaw} {n:Nat} (hn:l.most=some n) {P:Params} {h:Heap} {args:List WData} {vals:List Value}
  (hpre:l.row.toRowW.claim.pre args=true) (hwl:WellAll P h vals args) :
  ∃ a vs ns,vals=[Value.ref a]∧args=[WData.list (ns.map WData.int)]∧h.get? a=some { cls:=.type "list",data:=.seq vs.toArray }∧IntsAre vs ns∧ns.length≤n:=by
 have hsh:WShape.hasAll [] args [.list .int]=true:=(pre_splitW hpre).1
 have hc:l.pre.holds [] { args:=args }=true:=(pre_splitW hpre).2
 obtain ⟨d,r,rfl,h1,h2⟩:=hasAllW_cons hsh
 obtain rfl:=hasAllW_nil h2
 obtain ⟨xs,rfl,h3⟩:=hasW_list h1
 obtain ⟨ns,rfl⟩:=items_int h3
 have hlen:ns.length≤n:=by
  unfold OpenLaw.pre at hc
  have h4:(WTm.not (.lt (.lit (.int (n:Int))) (.len (.arg 0)))).holds [] { args:=[.list (ns.map .int)] }=true:=by
   have h4:=(holds_andW hc).1
   rw [hn] at h4
   exact h4
  have h5:=condW_of h4 (w_not (w_lt w_lit (w_len_list (w_arg rfl))))
  rw [List.length_map] at h5
  refine Nat.le_of_not_lt fun q=>?_
  have q':(n:Int) < ((ns.length:Nat):Int):=by lia
  first
   | (rw [decide_eq_true q'] at h5;exact absurd h5 (by decide))
   | (simp at h5;lia)
 cases hwl with
 | cons w1 w2 =>
  cases w2
  cases w1 with
  | list ho hall=>exact ⟨_,_,ns,rfl,rfl,ho,z4P ns _ hall,hlen⟩
theorem zbw (l:OpenLaw) (args:List WData):l.row.toRowW.claim.post args (.bool true) args=true :=
 postW_of (r:=l.row.toRowW) (X:=(true == true))
  (show WShape.has [] (.bool true) .bool=true by first | rfl | decide | simp [WShape.has,WShape.arms,WShape.armsAll])
  (show (WTm.eq .res (.lit (.bool true))).value [] { args:=args,res:=some (.bool true),after:=args }=some (.bool (true == true)) from w_eq_bool (w_res rfl) w_lit) rfl
theorem attach_call {l:OpenLaw} {n:Nat} {q:Program} {loose:List Str} {XP:(Str→Option Value)→Heap→Prop} {YP:World→Heap→Prop} {d:DefRec}
  (hn:l.most=some n) (hdf:d.params.defaults=[])
  (call:∀ (w:World) (s₀ s₁:Shared) (mg mb:Str→Option Value) (fa:Addr) (o:Obj) (pm cd doc:Value) (a:Addr) (vs:List Value) (ns:List Int),
   Ground q loose [] XP w s₀ mg mb s₁.heap→YP w s₁.heap →
   s₁.heap.get? fa=some o→o.data=.func (docDef d.name d.params d.body d.scope pm cd doc)→s₁.heap.CodeRec cd d.name→mg d.name=some (.ref fa) →
   s₁.heap.get? a=some { cls:=.type "list",data:=.seq vs.toArray }→IntsAre vs ns→ns.length≤n→s₁.gens=#[] →
   codeAny (model l.prog w) callerA (.call (.ref fa) ⟨[.ref a],[]⟩) (fun r s'=>r=.ok (.ret (.bool true))∧OldK s₁.heap s'.heap∧s'.os=s₁.os∧AllBare s'.gens) s₁) :
  WalkO q loose XP YP l.row.toRowW d [] (fun f vs=>PySem.call f vs):=by
 intro w s₀ s₁ mg mb G Y fa o pm cd doc dV kV ho hd hcd hD hmg hg args vals as hpre hlay hrd hwl hlo
 obtain rfl:dV=.none:=Dflts.none hD hdf
 obtain rfl:kV=.none:=Dflts.noKw hD
 obtain ⟨a,vs,ns,rfl,rfl,hobj,hints,hlen⟩:=zbK hn hpre hwl
 refine enter_call (codeAny_mono (call w s₀ s₁ mg mb fa o pm cd doc a vs ns G Y ho (fd_plain hd) hcd hmg hobj hints hlen hg) fun r s' hq=>?_)
 obtain ⟨rfl,h2,h3,h4⟩:=hq
 exact ⟨.inl ⟨.bool true,.bool true,[],rfl,fun _=>rfl,.bool true,zbw l _,fun _=>⟨List.Pairwise.nil,fun _ hm=>(nomatch hm)⟩⟩,h2,h3,h4⟩
section
variable {prog:Program} {w:World} {A:Around} {E:Value→Shared→Prop} {s:Shared} {K:Frag}
def zhy (h:Heap) (L d:Addr):List (Addr × Obj):=(List.range h.objs.size).filterMap fun a=>if a=L∨a=d then none else (h.get? a).map fun o=>(a,o)
end
end Att
namespace L2
open PySem PySem.Spec PyProof.Rows
theorem z80:∀ {vs:List Value} {ns:List Int},IntsAre vs ns→z1i (ns.map V.int) vs
 | _,_,.nil=>.nil
 | _,_,.cons n t h=>.cons ⟨t,rfl⟩ (z80 h)
def z1Z (s:Stmt):Arguments:=match s with
 | .FunctionDef _ a _ _ _ _ _ _ _ _=>a
 | _=>{ posonlyargs:=[],args:=[],vararg:=none,kwonlyargs:=[],kw_defaults:=[],kwarg:=none,defaults:=[] }
def z1a (s:Stmt):List Stmt:=match s with
 | .FunctionDef _ _ b _ _ _ _ _ _ _=>b
 | _=>[]
def z06 (s:Stmt):Scope:=match s with
 | .FunctionDef _ _ _ _ _ _ sc _ _ _=>sc
 | _=>{ kind:=.function,names:=[],isGenerator:=false,isCoroutine:=false }
abbrev E0:XK:=fun _ _ _=>False
structure Fun (K:PySem.W.Frag) (x qual:Str) (st:Stmt) (f:Addr) (fd:FuncData):Prop where
 ex:∃ (oc:Value) (od:Option Addr) (kV doc pm:Value) (an:Option Addr) (cdv ct:Value) (osl:Array (Option Value)),
  fd=PySem.W.fnOf x qual (z1Z st) (z1a st) (z06 st) .none kV doc pm an cdv ct∧K.lookup f=some ⟨oc,od,.func fd,osl⟩∧PySem.W.codeIn K cdv qual=true
 kp:PySem.W.keepIn K (.ref f)=true
section
variable {P:Program} {w:World} {K:PySem.W.Frag} {mg:Str→Option Value} {base:Heap}
theorem Fun.binds {x qual:Str} {st:Stmt} {f:Addr} {fd:FuncData} {ps:List Str} (F:Fun K x qual st f fd)
  (h:∀ (kV doc pm:Value) (an:Option Addr) (cdv ct:Value) (us:List Value),us.length=ps.length→bindArgs (PySem.W.fnOf x qual (z1Z st) (z1a st) (z06 st) .none kV doc pm an cdv ct) ⟨us,[]⟩=pure (ps.zip us)):z0k K fd ps []:=by
 obtain ⟨oc,od,kV,doc,pm,an,cdv,ct,osl,rfl,lk,hcd⟩:=F.ex
 exact .all (h kV doc pm an cdv ct)
theorem z99 {x qual:Str} {st:Stmt} {f:Addr} {oc:Value} {od an:Option Addr} {osl:Array (Option Value)} {kV doc pm cdv ct:Value} (l:K.lookup f=some ⟨oc,od,.func (PySem.W.fnOf x qual (z1Z st) (z1a st) (z06 st) .none kV doc pm an cdv ct),osl⟩)
  (c:PySem.W.codeIn K cdv qual=true) (k:PySem.W.keepIn K (.ref f)=true):Fun K x qual st f (PySem.W.fnOf x qual (z1Z st) (z1a st) (z06 st) .none kV doc pm an cdv ct):=⟨⟨oc,od,kV,doc,pm,an,cdv,ct,osl,rfl,l,c⟩,k⟩
end
theorem zbe {A:Around} {k:Nat} (hr:z3X k A):A.units+1 < cLine:=Nat.lt_of_le_of_lt (Nat.add_le_add_left (by decide:1≤64) _) hr.units
theorem z3E {n:Nat} (h:n≤1000):n < sizeLine:=Nat.lt_of_le_of_lt h (by decide)
section
variable {X:Cx}
theorem pv (i:Nat) {x:Str} {pos:Pos} (hN:X.N[i]?=some x:=by rfl) (hv:Vis X.env.scope x:=by first | exact Or.inl rfl | exact Or.inr (Or.inl rfl) | exact Or.inr (Or.inr rfl)) (hd:(x == ("__debug__":Str))=false:=by decide)
  (hcd:(x == ("__classdict__":Str))=false:=by decide):PE X (.Name x pos) (zgx i):=zdK hN hv hd hcd
end
theorem z7m {A B:Prop} (h:B):if false=true then A else B:=by
 rw [if_neg Bool.false_ne_true]
 exact h
theorem zcs {A B:Prop} (h:A):if true=true then A else B:=by
 rw [if_pos rfl]
 exact h
theorem z2p {c A B:Prop} [Decidable c] (h1:c→A) (h2:¬ c→B):if c then A else B:=by
 by_cases h:c
 ·rw [if_pos h]
  exact h1 h
 ·rw [if_neg h]
  exact h2 h
def z0h (H H':Hp):Prop:=∀ b o,H b=some o→H' b=some o
theorem z0h.refl (H:Hp):z0h H H:=fun _ _ h=>h
theorem z0h.trans {H H1 H2:Hp} (a:z0h H H1) (b:z0h H1 H2):z0h H H2:=fun c o h=>b c o (a c o h)
theorem z0h.free {H H':Hp} (e:z0h H H') {l:Addr} (h:H' l=Option.none):H l=Option.none:=by
 cases q:H l with
 | none=>rfl
 | some o =>
  rw [e l o q] at h
  cases h
theorem z0h.seq {K:PySem.W.Frag} {H H':Hp} {a:Addr} {xs:List V} (e:z0h H H') (h:SqL K H a xs):SqL K H' a xs:=by
 rcases h with (h | ⟨o,h⟩) | h
 ·exact .inl (.inl (e _ _ h))
 ·exact .inl (.inr ⟨o,e _ _ h⟩)
 ·exact .inr h
section
variable {κ:Type} [DecidableEq κ]
theorem zbb:∀ {l:List κ} {k:κ},l.Nodup→¬ k∈l→(l++[k]).Nodup
 | [],k,_,_=>by simp
 | a::r,k,h,hk=>by
  obtain ⟨h1,h2⟩:=List.nodup_cons.mp h
  show (a::(r++[k])).Nodup
  refine List.nodup_cons.mpr ⟨fun m=>?_,zbb h2 fun m=>hk (List.mem_cons.mpr (Or.inr m))⟩
  rcases List.mem_append.mp m with q | q
  ·exact h1 q
  ·exact hk (List.mem_cons.mpr (Or.inl (List.mem_singleton.mp q).symm))
end
end L2
namespace Gu
open PySem L2
def top (i:Nat):Stmt:=PySem.Challenge.pw_guisery_k30_whole_orders.main.body.getD i (.Pass ⟨0,0,0,0⟩)
abbrev zcL:Stmt:=top 6
abbrev z59:Stmt:=top 7
abbrev z6z:Stmt:=top 8
abbrev z9u:Stmt:=top 11
abbrev z4z:Stmt:=top 12
abbrev z9i:Stmt:=top 13
abbrev z9p:Stmt:=top 14
abbrev z6Z:Stmt:=top 15
abbrev z5S:Stmt:=top 16
abbrev zbO:Stmt:=top 17
abbrev z2z:Stmt:=top 18
abbrev z4H:Stmt:=top 20
abbrev z4x:Stmt:=top 21
abbrev zcB:Stmt:=top 22
abbrev z74:Stmt:=top 23
abbrev z6M:Stmt:=top 24
abbrev z6v:Stmt:=top 25
abbrev z2s:Stmt:=top 28
abbrev z2x:Stmt:=top 29
abbrev z5F:Stmt:=top 30
abbrev z3u:Stmt:=top 31
abbrev z9s:Stmt:=top 32
abbrev z9L:Stmt:=top 34
abbrev zcA:Stmt:=top 36
abbrev z9q:Stmt:=top 37
abbrev z4S:Stmt:=top 38
abbrev z4A:Stmt:=top 41
abbrev z6I:Stmt:=top 42
abbrev z7c:Stmt:=top 43
abbrev zcZ:Stmt:=top 45
abbrev z4w:Stmt:=top 46
abbrev z56:Stmt:=top 47
abbrev z49:Stmt:=top 48
abbrev z4v:Stmt:=top 49
abbrev zd1:Stmt:=top 50
abbrev z8L:Stmt:=top 51
abbrev z9x:Stmt:=top 52
abbrev z7O:Stmt:=top 53
abbrev z4s:Stmt:=top 54
abbrev z4W:Stmt:=top 55
abbrev zdu:Stmt:=top 56
abbrev zco:Stmt:=top 57
def kE (P:Params) (x:Str) (t:Tok) (v:Value):DictEntry:={ hash:=PyData.keyHash P x,key:=Value.str x t,val:=v }
abbrev kF (s:Stmt) (x:Str) (kV dc pm:Value) (an:Option Addr) (cd ct:Value):Obj:=⟨.type "function",none,.func (PySem.W.fnOf x x (z1Z s) (z1a s) (z06 s) .none kV dc pm an cd ct),#[]⟩
abbrev vN:Value:=.none
abbrev vR (a:Addr):Value:=.ref a
abbrev kR (P:Params) (x:Str) (t:Tok) (a:Addr):DictEntry:=kE P x t (.ref a)
abbrev kG (s:Stmt) (x m:Str) (t:Tok) (c:Addr):Obj:=kF s x .none .none (.str m t) none (.ref c) .none
abbrev kC (x:Str) (a b c d:Tok) (vs:Array Value):Obj:={ cls:=.type "code",data:=.fields (#[Value.str x a,Value.str x b,Value.str "/claim/cut.py" c]++vs++#[Value.str "/claim/cut.py" d]) }
abbrev kD (x:Str) (a b c d:Tok) (ln ar:Int) (A:Addr) (fl:Int) (B:Addr) (X Y Z:Value) (u:Int):Obj:=kC x a b c d #[.int ln 0,.int ar 0,.int 0 0,.int 0 0,.int 3 0,.ref A,.bool true,.int fl 0,.ref B,.none,X,Y,Z,.int u 0,.int ln 0]
def KH (P:Params):PySem.W.Frag:=(nat_lit 2,{ cls:=Value.none,data:=Data.dict #[] }) ::
 (nat_lit 3,{ cls:=Value.type "dict",data:=Data.dict #[kE P "__name__" 165 (Value.str "law_guisery_k30_whole_orders" 530),kE P "__doc__" 166 (Value.none),kE P "__package__" 167 (Value.none),kE P "__loader__" 168 (Value.builtin "__main__.__loader__#opaque"),kE P "__spec__" 169 (Value.none),kR P "__annotations__" 170 6,kR P "__builtins__" 171 4,kE P "__file__" 173 (Value.str "/claim/cut.py" 172),kE P "__cached__" 174 (Value.none),kR P "GuiseError" 206 24,kR P "BadWord" 222 37,kR P "BadCount" 238 49,kR P "TooMany" 254 61,kR P "same_letters" 263 70,kR P "turned" 269 75,kR P "undone" 279 82,kE P "MOST_FORM_ROWS" 283 (Value.int 60 282),kR P "still" 290 89,kR P "breadth" 299 96,kR P "read_from" 313 103,kR P "least_form" 327 110,kR P "rows_come_to" 333 115,kR P "kinds_of_rows" 339 120,kR P "kinds_gone_to" 345 125,kR P "numbered" 351 130,kR P "check_word" 359 135,kR P "check_endless" 369 142,kR P "check_ring" 376 149,kR P "plain_word" 387 156,kR P "least_ring" 395 163,kR P "count_ringed" 404 170,kE P "MOST_TIMES" 408 (Value.int 64 407),kR P "joined" 418 177,kR P "joined_row" 424 182,kR P "back" 432 189,kR P "row_back" 438 194,kR P "times" 448 201,kR P "order" 461 208,kR P "worn" 473 215,kR P "worn_endless" 489 222,kR P "strung" 495 227,kE P "MOST_WORDS" 499 (Value.int 1024 498),kR P "words_on_floor" 509 234,kR P "rounds" 520 241,kR P "whirls" 529 248,kR P "_law_cell" 539 255,kR P "_law_letters" 547 262,kR P "_law_in_line" 553 267,kR P "_law_shrunk" 559 272,kR P "_law_numbers" 570 279,kR P "_law_rearranged" 582 286,kR P "_law_rows" 588 291,kR P "_law_guise" 596 298,kR P "_law_word" 602 303,kR P "_law_stories" 609 310,kR P "_law_coming" 615 315,kR P "_law_told" 623 322,kR P "law" 638 329] 58 }) ::
 (nat_lit 23,{ cls:=Value.type "dict",data:=Data.dict #[kE P "__module__" 196 (Value.str "guisery.errors" 187),kE P "__firstlineno__" 200 (Value.int 2 199),kR P "__static_attributes__" 201 22,kR P "__weakref__" 203 25,kE P "__doc__" 204 (Value.none)] 3 }) ::
 (nat_lit 24,{ cls:=Value.type "type",data:=Data.cls { name:="GuiseError",bases:=[Value.type "ValueError"],mro:=[Value.ref 24,Value.type "ValueError",Value.type "Exception",Value.type "BaseException",Value.type "object"],ns:=23,qualname:="GuiseError",subclasses:=[Value.ref 37,Value.ref 49,Value.ref 61] },slots:=#[some (Value.ref 15),none,some (Value.str "GuiseError" 189),some (Value.str "GuiseError" 197),some (Value.builtin "ValueError.__new__"),some (Value.bool true)] }) ::
 (nat_lit 25,{ cls:=Value.type "getset_descriptor",data:=Data.fields #[Value.str "__weakref__" 202,Value.ref 24,Value.builtin "ExceptionGroup.__weakref__",Value.none] }) ::
 (nat_lit 36,{ cls:=Value.type "dict",data:=Data.dict #[kE P "__module__" 214 (Value.str "guisery.errors" 187),kE P "__firstlineno__" 218 (Value.int 4 217),kR P "__static_attributes__" 219 35,kE P "__doc__" 220 (Value.none)] 2 }) ::
 (nat_lit 37,{ cls:=Value.type "type",data:=Data.cls { name:="BadWord",bases:=[Value.ref 24],mro:=[Value.ref 37,Value.ref 24,Value.type "ValueError",Value.type "Exception",Value.type "BaseException",Value.type "object"],ns:=36,qualname:="BadWord" },slots:=#[some (Value.ref 28),none,some (Value.str "BadWord" 207),some (Value.str "BadWord" 215),some (Value.builtin "ValueError.__new__"),some (Value.bool true)] }) ::
 (nat_lit 48,{ cls:=Value.type "dict",data:=Data.dict #[kE P "__module__" 230 (Value.str "guisery.errors" 187),kE P "__firstlineno__" 234 (Value.int 6 233),kR P "__static_attributes__" 235 47,kE P "__doc__" 236 (Value.none)] 2 }) ::
 (nat_lit 49,{ cls:=Value.type "type",data:=Data.cls { name:="BadCount",bases:=[Value.ref 24],mro:=[Value.ref 49,Value.ref 24,Value.type "ValueError",Value.type "Exception",Value.type "BaseException",Value.type "object"],ns:=48,qualname:="BadCount" },slots:=#[some (Value.ref 40),none,some (Value.str "BadCount" 223),some (Value.str "BadCount" 231),some (Value.builtin "ValueError.__new__"),some (Value.bool true)] }) ::
 (nat_lit 60,{ cls:=Value.type "dict",data:=Data.dict #[kE P "__module__" 246 (Value.str "guisery.errors" 187),kE P "__firstlineno__" 250 (Value.int 8 249),kR P "__static_attributes__" 251 59,kE P "__doc__" 252 (Value.none)] 2 }) ::
 (nat_lit 61,{ cls:=Value.type "type",data:=Data.cls { name:="TooMany",bases:=[Value.ref 24],mro:=[Value.ref 61,Value.ref 24,Value.type "ValueError",Value.type "Exception",Value.type "BaseException",Value.type "object"],ns:=60,qualname:="TooMany" },slots:=#[some (Value.ref 52),none,some (Value.str "TooMany" 239),some (Value.str "TooMany" 247),some (Value.builtin "ValueError.__new__"),some (Value.bool true)] }) ::
 (nat_lit 69,kD "same_letters" 257 258 259 262 11 1 64 181 65 (vR 66) (vR 67) (vR 68) 261) ::
 (nat_lit 70,kG zcL "same_letters" "guisery.letters" 255 69) ::
 (nat_lit 74,kD "turned" 264 265 266 268 13 2 71 181 72 vN vN (vR 73) 267) ::
 (nat_lit 75,kG z59 "turned" "guisery.letters" 255 74) ::
 (nat_lit 81,kD "undone" 270 271 272 278 15 1 76 181 77 (vR 78) (vR 79) (vR 80) 277) ::
 (nat_lit 82,kG z6z "undone" "guisery.letters" 255 81) ::
 (nat_lit 88,kD "still" 284 285 286 289 22 1 83 181 84 (vR 85) (vR 86) (vR 87) 288) ::
 (nat_lit 89,kG z9u "still" "guisery.machines" 280 88) ::
 (nat_lit 95,kD "breadth" 291 292 293 298 24 1 90 181 91 (vR 92) (vR 93) (vR 94) 297) ::
 (nat_lit 96,kG z4z "breadth" "guisery.machines" 280 95) ::
 (nat_lit 102,kD "read_from" 300 301 302 312 27 3 97 181 98 (vR 99) (vR 100) (vR 101) 311) ::
 (nat_lit 103,kG z9i "read_from" "guisery.machines" 280 102) ::
 (nat_lit 109,kD "least_form" 314 315 316 326 35 2 104 181 105 (vR 106) (vR 107) (vR 108) 325) ::
 (nat_lit 110,kG z9p "least_form" "guisery.machines" 280 109) ::
 (nat_lit 114,kD "rows_come_to" 328 329 330 332 43 2 111 181 112 vN vN (vR 113) 331) ::
 (nat_lit 115,kG z6Z "rows_come_to" "guisery.machines" 280 114) ::
 (nat_lit 119,kD "kinds_of_rows" 334 335 336 338 55 1 116 181 117 vN vN (vR 118) 337) ::
 (nat_lit 120,kG z5S "kinds_of_rows" "guisery.machines" 280 119) ::
 (nat_lit 124,kD "kinds_gone_to" 340 341 342 344 64 2 121 181 122 vN vN (vR 123) 343) ::
 (nat_lit 125,kG zbO "kinds_gone_to" "guisery.machines" 280 124) ::
 (nat_lit 129,kD "numbered" 346 347 348 350 66 1 126 181 127 vN vN (vR 128) 349) ::
 (nat_lit 130,kG z2z "numbered" "guisery.machines" 280 129) ::
 (nat_lit 134,kD "check_word" 354 355 356 358 73 2 131 181 132 vN vN (vR 133) 357) ::
 (nat_lit 135,kG z4H "check_word" "guisery.words" 352 134) ::
 (nat_lit 141,kD "check_endless" 360 361 362 368 76 2 136 181 137 (vR 138) (vR 139) (vR 140) 367) ::
 (nat_lit 142,kG z4x "check_endless" "guisery.words" 352 141) ::
 (nat_lit 148,kD "check_ring" 370 371 372 375 81 1 143 181 144 (vR 145) (vR 146) (vR 147) 374) ::
 (nat_lit 149,kG zcB "check_ring" "guisery.words" 352 148) ::
 (nat_lit 155,kD "plain_word" 377 378 379 386 84 2 150 181 151 (vR 152) (vR 153) (vR 154) 385) ::
 (nat_lit 156,kG z74 "plain_word" "guisery.words" 352 155) ::
 (nat_lit 162,kD "least_ring" 388 389 390 394 90 1 157 181 158 (vR 159) (vR 160) (vR 161) 393) ::
 (nat_lit 163,kG z6M "least_ring" "guisery.words" 352 162) ::
 (nat_lit 169,kD "count_ringed" 396 397 398 403 95 2 164 181 165 (vR 166) (vR 167) (vR 168) 402) ::
 (nat_lit 170,kG z6v "count_ringed" "guisery.words" 352 169) ::
 (nat_lit 176,kD "joined" 409 410 411 417 102 2 171 181 172 (vR 173) (vR 174) (vR 175) 416) ::
 (nat_lit 177,kG z2s "joined" "guisery.joining" 405 176) ::
 (nat_lit 181,kD "joined_row" 419 420 421 423 104 3 178 181 179 vN vN (vR 180) 422) ::
 (nat_lit 182,kG z2x "joined_row" "guisery.joining" 405 181) ::
 (nat_lit 188,kD "back" 425 426 427 431 110 1 183 181 184 (vR 185) (vR 186) (vR 187) 430) ::
 (nat_lit 189,kG z5F "back" "guisery.joining" 405 188) ::
 (nat_lit 193,kD "row_back" 433 434 435 437 112 1 190 181 191 vN vN (vR 192) 436) ::
 (nat_lit 194,kG z3u "row_back" "guisery.joining" 405 193) ::
 (nat_lit 200,kD "times" 439 440 441 447 116 2 195 181 196 (vR 197) (vR 198) (vR 199) 446) ::
 (nat_lit 201,kG z9s "times" "guisery.joining" 405 200) ::
 (nat_lit 207,kD "order" 451 452 453 460 124 2 202 181 203 (vR 204) (vR 205) (vR 206) 459) ::
 (nat_lit 208,kG z9L "order" "guisery.crews" 449 207) ::
 (nat_lit 214,kD "worn" 464 465 466 472 135 2 209 181 210 (vR 211) (vR 212) (vR 213) 471) ::
 (nat_lit 215,kG zcA "worn" "guisery.wearing" 462 214) ::
 (nat_lit 221,kD "worn_endless" 474 475 476 488 139 2 216 181 217 (vR 218) (vR 219) (vR 220) 487) ::
 (nat_lit 222,kG z9q "worn_endless" "guisery.wearing" 462 221) ::
 (nat_lit 226,kD "strung" 490 491 492 494 151 1 223 181 224 vN vN (vR 225) 493) ::
 (nat_lit 227,kG z4S "strung" "guisery.wearing" 462 226) ::
 (nat_lit 233,kD "words_on_floor" 500 501 502 508 155 2 228 181 229 (vR 230) (vR 231) (vR 232) 507) ::
 (nat_lit 234,kG z4A "words_on_floor" "guisery.floors" 496 233) ::
 (nat_lit 240,kD "rounds" 510 511 512 519 164 2 235 181 236 (vR 237) (vR 238) (vR 239) 518) ::
 (nat_lit 241,kG z6I "rounds" "guisery.floors" 496 240) ::
 (nat_lit 247,kD "whirls" 521 522 523 528 174 2 242 181 243 (vR 244) (vR 245) (vR 246) 527) ::
 (nat_lit 248,kG z7c "whirls" "guisery.floors" 496 247) ::
 (nat_lit 254,kD "_law_cell" 532 533 534 538 178 2 249 181 250 (vR 251) (vR 252) (vR 253) 537) ::
 (nat_lit 255,kG zcZ "_law_cell" "law_guisery_k30_whole_orders" 530 254) ::
 (nat_lit 261,kD "_law_letters" 540 541 542 546 184 2 256 181 257 (vR 258) (vR 259) (vR 260) 545) ::
 (nat_lit 262,kG z4w "_law_letters" "law_guisery_k30_whole_orders" 530 261) ::
 (nat_lit 266,kD "_law_in_line" 548 549 550 552 186 3 263 181 264 vN vN (vR 265) 551) ::
 (nat_lit 267,kG z56 "_law_in_line" "law_guisery_k30_whole_orders" 530 266) ::
 (nat_lit 271,kD "_law_shrunk" 554 555 556 558 194 2 268 181 269 vN vN (vR 270) 557) ::
 (nat_lit 272,kG z49 "_law_shrunk" "law_guisery_k30_whole_orders" 530 271) ::
 (nat_lit 278,kD "_law_numbers" 560 561 562 569 217 2 273 181 274 (vR 275) (vR 276) (vR 277) 568) ::
 (nat_lit 279,kG z4v "_law_numbers" "law_guisery_k30_whole_orders" 530 278) ::
 (nat_lit 285,kD "_law_rearranged" 571 572 573 581 228 2 280 181 281 (vR 282) (vR 283) (vR 284) 580) ::
 (nat_lit 286,kG zd1 "_law_rearranged" "law_guisery_k30_whole_orders" 530 285) ::
 (nat_lit 290,kD "_law_rows" 583 584 585 587 236 2 287 181 288 vN vN (vR 289) 586) ::
 (nat_lit 291,kG z8L "_law_rows" "law_guisery_k30_whole_orders" 530 290) ::
 (nat_lit 297,kD "_law_guise" 589 590 591 595 255 2 292 181 293 (vR 294) (vR 295) (vR 296) 594) ::
 (nat_lit 298,kG z9x "_law_guise" "law_guisery_k30_whole_orders" 530 297) ::
 (nat_lit 302,kD "_law_word" 597 598 599 601 257 3 299 181 300 vN vN (vR 301) 600) ::
 (nat_lit 303,kG z7O "_law_word" "law_guisery_k30_whole_orders" 530 302) ::
 (nat_lit 309,kD "_law_stories" 603 604 605 608 260 1 304 181 305 (vR 306) (vR 307) (vR 308) 607) ::
 (nat_lit 310,kG z4s "_law_stories" "law_guisery_k30_whole_orders" 530 309) ::
 (nat_lit 314,kD "_law_coming" 610 611 612 614 262 3 311 181 312 vN vN (vR 313) 613) ::
 (nat_lit 315,kG z4W "_law_coming" "law_guisery_k30_whole_orders" 530 314) ::
 (nat_lit 321,kD "_law_told" 616 617 618 622 271 1 316 181 317 (vR 318) (vR 319) (vR 320) 621) ::
 (nat_lit 322,kG zdu "_law_told" "law_guisery_k30_whole_orders" 530 321) ::
 (nat_lit 328,kD "law" 624 625 626 637 278 1 323 181 324 (vR 325) (vR 326) (vR 327) 636) ::
 (nat_lit 329,kG zco "law" "law_guisery_k30_whole_orders" 530 328)::[]
def KA:List Addr:=nat_lit 2::nat_lit 3::nat_lit 23::nat_lit 24::nat_lit 25::nat_lit 36::nat_lit 37::nat_lit 48::nat_lit 49::nat_lit 60::nat_lit 61::nat_lit 69::nat_lit 70::nat_lit 74::nat_lit 75::nat_lit 81::nat_lit 82::nat_lit 88::nat_lit 89::nat_lit 95::nat_lit 96::nat_lit 102::nat_lit 103::nat_lit 109::nat_lit 110::nat_lit 114::nat_lit 115::nat_lit 119::nat_lit 120::nat_lit 124::nat_lit 125::nat_lit 129::nat_lit 130::nat_lit 134::nat_lit 135::nat_lit 141::nat_lit 142::nat_lit 148::nat_lit 149::nat_lit 155::nat_lit 156::nat_lit 162::nat_lit 163::nat_lit 169::nat_lit 170::nat_lit 176::nat_lit 177::nat_lit 181::nat_lit 182::nat_lit 188::nat_lit 189::nat_lit 193::nat_lit 194::nat_lit 200::nat_lit 201::nat_lit 207::nat_lit 208::nat_lit 214::nat_lit 215::nat_lit 221::nat_lit 222::nat_lit 226::nat_lit 227::nat_lit 233::nat_lit 234::nat_lit 240::nat_lit 241::nat_lit 247::nat_lit 248::nat_lit 254::nat_lit 255::nat_lit 261::nat_lit 262::nat_lit 266::nat_lit 267::nat_lit 271::nat_lit 272::nat_lit 278::nat_lit 279::nat_lit 285::nat_lit 286::nat_lit 290::nat_lit 291::nat_lit 297::nat_lit 298::nat_lit 302::nat_lit 303::nat_lit 309::nat_lit 310::nat_lit 314::nat_lit 315::nat_lit 321::nat_lit 322::nat_lit 328::nat_lit 329::[]
end Gu
lay_quick PySem.Challenge.pw_guisery_k30_whole_orders
namespace Gu
open PySem PySem.W PyProof.Rows PySem.W.Fast
noncomputable abbrev pY:Program:=PySem.Challenge.pw_guisery_k30_whole_orders
noncomputable abbrev pQ:Program:=tw15947777312016816887
noncomputable abbrev rY:OpenRow:=PySem.Challenge.rw_guisery_k30_whole_orders.row
noncomputable def viewOf (p:Program):Program:={ p with main:={ p.main with body:=[1,2,3,4,6,7,8,10,11,12,13,14,15,16,17,18,20,21,22,23,24,25,27,28,29,30,31,32,34,36,37,38,40,41,42,43,45,46,47,48,49,50,51,52,53,54,55,56,57].map fun i=>p.main.body.getD i (.Pass ⟨0,0,0,0⟩) } }
noncomputable abbrev HK:Hook:=PySem.W.kmHook Gu.KH Gu.KA (fun _=>by kernel_rfl) [184,172]
theorem pqe:pY=pQ:=te15947777312016816887
set_option maxHeartbeats 0 in
theorem zh0 (w:World):(openEnds tw14364793385576792824 pQ w 4508).map (fun s=>(tw4187177175401517315 (viewOf pQ) [] (tw5923862056798008813 pQ.main.body) (fun s=>xlAt (viewOf pQ) [] s && recOk [] s) true s,HK.obs s))=some (openGood (viewOf pQ) [],HK.val w):=by kernel_rfl
theorem left:LeftO rY.prog (viewOf pY) [] (fun s=>xlAt (viewOf pY) [] s && recOk (RowW.records rY.toRowW) s) HK.obs HK.val 4508:=fun w=>by
 have h:=zh0 w
 rw [←te14364793385576792824,←te4187177175401517315,←te5923862056798008813,←pqe] at h
 exact h
end Gu
namespace L2
open PySem PySem.Spec PyProof.Rows
def z0E (cells:List (Str × Addr)):List (Str × NameKind)→List (Str × Addr)→List (Str × Addr)
 | [],cs=>cs
 | (n,k)::r,cs=>z0E cells r (if k=.free then (n,(cells.lookup n).getD 0)::cs else cs)
theorem z29 {cells:List (Str × Addr)}:∀ (l:List (Str × NameKind)) (cs:List (Str × Addr)) (x:Str),(∀ y,(y,NameKind.free)∈l→∃ c,cells.lookup y=some c)→((x,NameKind.free)∈l∨cs.lookup x=cells.lookup x)→(z0E cells l cs).lookup x=cells.lookup x
 | [],cs,x,_,h=>by
  rcases h with h | h
  ·cases h
  ·exact h
 | (n,k)::r,cs,x,hc,h=>by
  refine z29 r _ x (fun y hy=>hc y (List.mem_cons_of_mem _ hy)) ?_
  by_cases hk:k=.free
  ·subst hk
   rw [if_pos rfl]
   by_cases e:x=n
   ·subst e
    obtain ⟨c,hcx⟩:=hc x List.mem_cons_self
    right
    rw [List.lookup_cons,hcx]
    simp
   ·rcases h with h | h
    ·rcases List.mem_cons.mp h with h | h
     ·exact absurd (congrArg Prod.fst h) e
     ·exact .inl h
    ·right
     have:(x == n)=false:=by simpa using e
     rw [List.lookup_cons,this]
     exact h
  ·rw [if_neg hk]
   rcases h with h | h
   ·rcases List.mem_cons.mp h with h | h
    ·exact absurd (congrArg Prod.snd h).symm hk
    ·exact .inl h
   ·exact .inr h
theorem z44 {cells:List (Str × Addr)}:∀ (l:List (Str × NameKind)) (cs:List (Str × Addr)) (x:Str),(x,NameKind.free)∉l→(z0E cells l cs).lookup x=cs.lookup x
 | [],cs,x,_=>rfl
 | (n,k)::r,cs,x,h=>by
  refine (z44 r _ x (fun hy=>h (List.mem_cons_of_mem _ hy))).trans ?_
  by_cases hk:k=.free
  ·subst hk
   rw [if_pos rfl]
   have e:x≠n:=fun e=>h (by subst e;exact List.mem_cons_self)
   have:(x == n)=false:=by simpa using e
   rw [List.lookup_cons,this]
  ·rw [if_neg hk]
theorem z1N {scope:Scope} {env:Env} (h:∀ y,(y,NameKind.free)∈scope.names→∃ c,env.cells.lookup y=some c):closureFor scope env=pure (z0E env.cells scope.names []):=by
 have key:∀ (l:List (Str × NameKind)) (cs:List (Str × Addr)),(∀ y,(y,NameKind.free)∈l→∃ c,env.cells.lookup y=some c) →
   (forIn l cs (fun (x:Str × NameKind) (r:List (Str × Addr))=>if (x.2 == NameKind.free)=true then (do let c ←cellOf env x.1;pure (ForInStep.yield ((x.1,c)::r)):Sem _) else pure (ForInStep.yield r)):Sem (List (Str × Addr)))=pure (z0E env.cells l cs):=by
  intro l
  induction l with
  | nil=>intro cs _;rfl
  | cons x r ih =>
   intro cs hc
   obtain ⟨n,k⟩:=x
   rw [List.forIn_cons]
   by_cases hk:k=.free
   ·subst hk
    obtain ⟨c,e⟩:=hc n List.mem_cons_self
    have e1:cellOf env n=pure c:=by unfold cellOf;rw [e]
    have e2:z0E env.cells ((n,NameKind.free)::r) cs=z0E env.cells r ((n,c)::cs):=by
     show z0E env.cells r (if NameKind.free=NameKind.free then (n,(env.cells.lookup n).getD 0)::cs else cs)=_
     rw [if_pos rfl,e]
     all_goals rfl
    rw [e2,←ih _ (fun y hy=>hc y (List.mem_cons_of_mem _ hy))]
    simp only [beq_self_eq_true,if_true,e1]
    rfl
   ·have hb:(k == NameKind.free)=false:=by simpa using hk
    have e2:z0E env.cells ((n,k)::r) cs=z0E env.cells r cs:=by
     show z0E env.cells r (if k=NameKind.free then _ else cs)=_
     rw [if_neg hk]
    rw [e2,←ih _ (fun y hy=>hc y (List.mem_cons_of_mem _ hy))]
    simp only [hb,Bool.false_eq_true,if_false]
    rfl
 have:=key scope.names [] h
 unfold closureFor
 simp only [] at this ⊢
 exact (congrArg (fun m=>m >>= pure) this).trans rfl
def noE:Value→Shared→Prop:=fun _ _=>False
section
variable {prog:Program} {w:World} {A:Around} {R:Result→Shared→Prop} {s:Shared}
theorem z9W {elt tg iter:Expr} {scope:Scope} {pos:Pos} {it acc:Value} {env:Env} (I:Nat→Shared→Prop)
  (z1L:∀ n s,I n s→wpAny (model prog w) A (pyNext it) (fun r s1=>match r with
   | none=>R (.ok .next) s1
   | some v=>wpAny (model prog w) A (letOwnedTupleGo tg it v) (fun _ s2=>wpAny (model prog w) A (assign tg env v) (fun _ s3=>wpAny (model prog w) A (eval elt env) (fun x s4 =>
     wpAny (model prog w) A (call (.builtin "list.append") [acc,x]) (fun _ s5=>∃ m,m < n∧I m s5) noE s4) noE s3) noE s2) noE s1) noE s)
  (n:Nat) (h:I n s):codeAny (model prog w) A (.compLoop (.ListComp elt [⟨tg,iter,[],0⟩] scope pos) 0 it acc env) R s:=by
 have no:∀ (P:Value→Shared→Prop) (a:Value) (b:Shared),noE a b→P a b:=fun _ _ _ z=>False.elim z
 refine codeAny_loop rfl I (fun n s hI=>?_) n h
 show wpAny _ _ ((compTurn (.ListComp elt [⟨tg,iter,[],0⟩] scope pos) 0 it acc env).onRaise
  (fun x=>do noteFrame x env;theTreesLotGoes x)) _ _ s
 refine wpAny_noted ?_
 rw [compTurn_list1]
 refine wpAny_bind (wpAny_standAt (wpAny_bind (wpAny_mono (z1L n s hI) (fun r s1 h1=>?_) (no _))))
 cases r with
 | none=>exact wpAny_pure h1
 | some v =>
  refine wpAny_bind (wpAny_mono h1 (fun _ s2 h2=>?_) (no _))
  refine wpAny_bind (wpAny_mono h2 (fun _ s3 h3=>?_) (no _))
  refine wpAny_bind (wpAny_bind (wpAny_mono h3 (fun x s4 h4=>?_) (no _)))
  exact wpAny_bind (wpAny_mono h4 (fun _ s5 h5=>wpAny_pure (wpAny_pure ⟨rfl,h5⟩)) (no _))
end
def zfm (env:Env) (p:Str × NameKind):Str × NameKind:=if (p.2 == NameKind.free && env.scope.kind == .function && env.kindOf p.1 == some .cell)=true then (p.1,NameKind.cell) else p
theorem z92 {env:Env} {p:Str × NameKind} (h:(p.2 == NameKind.free && env.scope.kind == .function && env.kindOf p.1 == some .cell)=true):zfm env p=(p.1,NameKind.cell):=if_pos h
theorem z9A {env:Env} {p:Str × NameKind} (h:¬ (p.2 == NameKind.free && env.scope.kind == .function && env.kindOf p.1 == some .cell)=true):zfm env p=p:=if_neg h
theorem z2k {env:Env} {x:Str}:∀ {l:List (Str × NameKind)},l.lookup x=some .free→(l.map (zfm env)).lookup x=some .cell∨(l.map (zfm env)).lookup x=some .free
 | [],h=>by simp at h
 | (n,k)::r,h=>by
  rw [List.map_cons]
  by_cases hc:(k == NameKind.free && env.scope.kind == .function && env.kindOf n == some .cell)=true
  ·rw [z92 (p:=(n,k)) hc]
   cases hx:x == n with
   | true=>left;rw [List.lookup_cons,hx]
   | false =>
    rw [List.lookup_cons,hx] at h
    rw [List.lookup_cons,hx]
    exact z2k h
  ·rw [z9A (p:=(n,k)) hc]
   cases hx:x == n with
   | true=>right;rw [List.lookup_cons,hx] at h;rw [List.lookup_cons,hx];exact h
   | false =>
    rw [List.lookup_cons,hx] at h
    rw [List.lookup_cons,hx]
    exact z2k h
theorem z34 {env:Env} {x:Str} {kd:NameKind} (hkd:kd=.cell∨kd=.free):∀ {l:List (Str × NameKind)},(∀ y∈l,y.2≠.cell)→(l.map (zfm env)).lookup x=some kd→(x,NameKind.free)∈l
 | [],_,h=>by simp at h
 | (n,k)::r,hn,h=>by
  rw [List.map_cons] at h
  have hk:k≠.cell:=hn (n,k) List.mem_cons_self
  have up:(r.map (zfm env)).lookup x=some kd→(x,NameKind.free)∈(n,k)::r:=fun h2=>List.mem_cons_of_mem _ (z34 hkd (fun y hy=>hn y (List.mem_cons_of_mem _ hy)) h2)
  by_cases hc:(k == NameKind.free && env.scope.kind == .function && env.kindOf n == some .cell)=true
  ·rw [z92 (p:=(n,k)) hc] at h
   cases hx:x == n with
   | true =>
    have hxn:x=n:=by simpa using hx
    subst hxn
    have z:=hc
    simp only [Bool.and_eq_true,beq_iff_eq] at z
    rw [z.1.1]
    exact List.mem_cons_self
   | false=>rw [List.lookup_cons,hx] at h;exact up h
  ·rw [z9A (p:=(n,k)) hc] at h
   cases hx:x == n with
   | true =>
    have hxn:x=n:=by simpa using hx
    subst hxn
    rw [List.lookup_cons,hx] at h
    have e:k=kd:=Option.some.inj h
    rcases hkd with z | z
    ·exact absurd (e.trans z) hk
    ·rw [e,z];exact List.mem_cons_self
   | false=>rw [List.lookup_cons,hx] at h;exact up h
def z0S (X:Cx) (N:List Str) (scope:Scope) (cl:List (Str × Addr)) (C:Addr) (ex:List Addr) (s:Shared) (H:Hp):Cx where
 prog:=X.prog
 w:=X.w
 K:=X.K
 mg:=X.mg
 base:=X.base
 A:=X.A
 N:=N
 s₀:=s
 H₀:=H
 env:=compEnvC scope cl C X.env
 outer:=X.stack
 stack:=X.stack
 ex:=ex
 fn:=fun _=>false
 calm:=X.calm
 pn:=[]
 xe:=noE
structure z1l (XN:List Str) (xsc:Scope) (N:List Str) (ix:List (Option Nat)) (scope:Scope):Prop where
 kind:scope.kind=.function
 nocell:∀ y∈scope.names,y.2≠.cell
 names:∀ y∈scope.names,y.2=.local→scope.names.lookup y.1=some .local
 frees:∀ y∈scope.names,y.2=.free→xsc.names.lookup y.1=some .cell∨xsc.names.lookup y.1=some .free
 len:ix.length=N.length
 has:((ix.zip N).all fun p=>match p.1 with | none=>true | some j=>XN[j]? == some p.2 && scope.names.lookup p.2 == some .free)=true
 nd:N.Nodup
def z1k (ix:List (Option Nat)) (σ:St):St:=ix.map fun o=>o.bind fun j=>(σ[j]?).join
theorem z1l.at_ {XN:List Str} {xsc:Scope} {N:List Str} {ix:List (Option Nat)} {scope:Scope} (S:z1l XN xsc N ix scope) {i:Nat} {x:Str} {v:V} {σ:St} (hi:N[i]?=some x) (hv:(z1k ix σ)[i]?=some (some v)) :
  ∃ j:Nat,XN[j]?=some x∧scope.names.lookup x=some .free∧σ[j]?=some (some v):=by
 unfold z1k at hv
 rw [List.getElem?_map] at hv
 cases e:ix[i]? with
 | none=>rw [e] at hv;cases hv
 | some o =>
  rw [e] at hv
  cases o with
  | none=>cases hv
  | some j =>
   have hv':(σ[j]?).join=some v:=Option.some.inj hv
   have hm:((some j:Option Nat),x)∈ix.zip N:=by
    have:(ix.zip N)[i]?=some (some j,x):=by rw [List.getElem?_zip_eq_some];exact ⟨e,hi⟩
    exact List.mem_of_getElem? this
   have q:=List.all_eq_true.mp S.has _ hm
   simp only [Bool.and_eq_true,beq_iff_eq] at q
   refine ⟨j,q.1,q.2,?_⟩
   cases z:σ[j]? with
   | none=>rw [z] at hv';cases hv'
   | some u=>rw [z] at hv';exact congrArg some hv'
section
variable {X:Cx} {pins:List (Addr × Obj)} {σ:St} {H:Hp} {s s1:Shared} {N:List Str} {ix:List (Option Nat)} {scope:Scope} {fp:List Addr} {C:Addr}
theorem z0R (I:Inv X pins σ H s) (S:z1l X.N X.env.scope N ix scope):∀ y,(y,NameKind.free)∈scope.names→∃ c,X.env.cells.lookup y=some c:=fun y hy=>I.ok.has y (S.frees _ hy rfl)
theorem z1S (I:Inv X pins σ H s) (S:z1l X.N X.env.scope N ix scope) {x:Str} {c:Addr} (h:(z0E X.env.cells scope.names []).lookup x=some c):X.env.cells.lookup x=some c:=by
 by_cases hm:(x,NameKind.free)∈scope.names
 ·rw [←z29 scope.names [] x (z0R I S) (.inl hm)];exact h
 ·rw [z44 scope.names [] x hm] at h;cases h
theorem z8X (I:Inv X pins σ H s) (S:z1l X.N X.env.scope N ix scope) (hC:C=s.heap.objs.size) (hf:∀ b∈fp,z6i X pins H b) (hfl:∀ b∈fp,b < s.heap.objs.size) {h1:Heap} {m:Str→Option Value} {tk:Nat} (hn:h1.Ns C m)
  (hk:∀ b o,s.heap.get? b=some o→h1.get? b=some o) :
  Inv (z0S X N scope (z0E X.env.cells scope.names []) C fp s H) [] (z1k ix σ) H { s with heap:=h1,toks:=tk }:=by
 have hne:∀ {b:Addr} {o:Obj},X.base.get? b=some o→b∉fp:=fun {b o} e hb=>by
  obtain ⟨_,_,_,hx,_⟩:=hf b hb
  rcases hx with hx | hx
  ·exact I.ok.noex b o e hx
  ·exact absurd (Nat.lt_of_lt_of_le (Heap.lt_size (I.ok.bs b o e).1) hx) (Nat.lt_irrefl _)
 refine ⟨⟨I.ok.mod,S.kind,I.ok.glob,I.ok.blt,Nat.le_of_eq hC.symm,?_,?_,?_,I.ok.hd,I.ok.frames,.inl rfl,?_,I.bs,Nat.le_trans I.ok.bsz I.sz,fun b o e=>hne e,?_,I.stack,I.stkFree⟩,
  rfl,I.bare,Un.kept hk,⟨m,hn,?_⟩,?_,I.hok.fresh (Nat.le_of_eq hC.symm),?_,fun p hp=>absurd (show p∈([]:List (Addr × Obj)) from hp) (by simp),I.hok.kept hk,?_⟩
 ·intro x y c h1 h2
  exact I.ok.inj x y c (z1S I S h1) (z1S I S h2)
 ·intro x hx
  have hm:(x,NameKind.free)∈scope.names:=by
   rcases hx with hx | hx
   ·exact z34 (.inl rfl) S.nocell hx
   ·exact z34 (.inr rfl) S.nocell hx
  obtain ⟨c,e⟩:=z0R I S x hm
  exact ⟨c,(z29 scope.names [] x (z0R I S) (.inl hm)).trans e⟩
 ·intro x c hx;cases hx
 ·intro b hb
  obtain ⟨_,_,_,_,f4,_⟩:=hf b hb
  refine ⟨fun e=>?_,fun x c e=>f4 x c (z1S I S e)⟩
  have z:=hfl b hb
  have e':b=C:=e
  rw [e',hC] at z
  exact Nat.lt_irrefl _ z
 ·intro b hb hb2
  obtain ⟨_,f1,f2,_⟩:=hf b hb
  exact (List.mem_cons.mp (I.stkSub b hb2)).elim f1 f2
 ·intro i x v e1 e2 e3
  obtain ⟨j,g1,g2,g3⟩:=S.at_ e1 e2
  have hm:(x,NameKind.free)∈scope.names:=PySem.mem_of_lookup g2
  have hk2:=S.frees _ hm rfl
  obtain ⟨m0,hn0,hl0⟩:=id I.loc
  obtain ⟨u,r,l⟩:=hl0 j x v g1 g3 (hk2.elim (fun z=>.inr (.inl z)) (fun z=>.inr (.inr z)))
  refine ⟨u,r,.inr ⟨z2k g2,?_⟩⟩
  rcases l with ⟨k,_⟩ | ⟨k,c,e,z⟩
  ·have k':X.env.scope.names.lookup x=some .local:=k
   rcases hk2 with z | z<;>(rw [k'] at z;cases z)
  ·refine ⟨c,(z29 scope.names [] x (z0R I S) (.inl hm)).trans e,?_⟩
   obtain ⟨o,ho,hd⟩:=z
   exact ⟨o,hk _ _ ho,hd⟩
 ·intro x c e
  obtain ⟨v,o,ho,hd⟩:=I.cell x c (z1S I S e)
  exact ⟨v,o,hk _ _ ho,hd⟩
 ·intro x c e
  exact I.freeC x c (z1S I S e)
 ·unfold z1k
  rw [List.length_map]
  exact S.len
end
end L2
namespace L2
open PySem PySem.Spec PyProof.Rows
def z7E (ix:List (Option Nat)) (J:It) (g:TG) (te:TE) (σ:St) (l:Addr) (H0:Hp) (Qe:Hp→Prop):Prop :=
 ∃ W:Nat→Nat→List V→Hp→Prop,(∃ m,W 0 m [] H0)∧∀ i m ys H,W i m ys H→H l=some (.lst ys) →
  (J.stop i H∧Qe H)∨(J.go i H∧ys.length < sizeLine∧∃ N:List V→Hp→Prop,(∀ zs H',N zs H'→∃ m',m' < m∧W (i+1) m' zs H')∧∀ x H',J.yld i H x H'→g x (z1k ix σ) H' fun σ2 H2=>te σ2 H2 fun v H3 =>
   H3 l=some (.lst ys)∧N (ys++[v]) (upd H3 l (.lst (ys++[v]))))
def zfZ (ix:List (Option Nat)) (wi:TI) (g:TG) (te:TE):TE:=fun σ H Q=>wi σ H fun J H1=>∀ l,H1 l=none→z7E ix J g te σ l (upd H1 l (.lst [])) fun H'=>Q (.ref l) H'
section
variable {X:Cx} {pins:List (Addr × Obj)} {σ:St} {H:Hp} {s:Shared} {N:List Str} {ix:List (Option Nat)} {scope:Scope} {elt iter tg:Expr} {pos:Pos} {g:TG} {te:TE} {E:Value→Shared→Prop}
theorem z6e {C:Addr} {fp:List Addr} {pins':List (Addr × Obj)} {σ':St} {Hc:Hp} {s':Shared} (I:Inv X pins σ H s) (S:z1l X.N X.env.scope N ix scope)
  (J:Inv (z0S X N scope (z0E X.env.cells scope.names []) C fp s H) pins' σ' Hc s'):Inv (z0S X N scope (z0E X.env.cells scope.names []) C fp s H) [] (z1k ix σ) Hc s':=by
 obtain ⟨m,hn,_⟩:=J.loc
 refine ⟨J.ok,J.os,J.bare,J.base,⟨m,hn,?_⟩,J.cell,J.free,J.freeC,fun p hp=>absurd (show p∈([]:List (Addr × Obj)) from hp) (by simp),J.hok,?_⟩
 ·intro i x v e1 e2 e3
  obtain ⟨j,g1,g2,g3⟩:=S.at_ e1 e2
  have hm:(x,NameKind.free)∈scope.names:=PySem.mem_of_lookup g2
  have hk2:=S.frees _ hm rfl
  obtain ⟨m0,hn0,hl0⟩:=id I.loc
  obtain ⟨u,r,l⟩:=hl0 j x v g1 g3 (hk2.elim (fun z=>.inr (.inl z)) (fun z=>.inr (.inr z)))
  refine ⟨u,r,.inr ⟨z2k g2,?_⟩⟩
  rcases l with ⟨k,_⟩ | ⟨k,c,e,z⟩
  ·have k':X.env.scope.names.lookup x=some .local:=k
   rcases hk2 with z | z<;>(rw [k'] at z;cases z)
  ·have ec:(z0E X.env.cells scope.names []).lookup x=some c:=(z29 scope.names [] x (z0R I S) (.inl hm)).trans e
   refine ⟨c,ec,?_⟩
   obtain ⟨o,ho,hd⟩:=z
   obtain ⟨sl,q⟩:=J.base.any ho (I.freeC x c e) (fun hx=>(J.ok.exf c hx).2 x c ec rfl)
   exact ⟨_,q,hd⟩
 ·unfold z1k
  rw [List.length_map]
  exact S.len
theorem z5W {it:Addr} {fp:List Addr} {tn:Nat→Heap→Prop} {J:It} {Qe:Addr→Hp→Prop} {RR:Value→Addr→Result→Shared→Prop} (hc:X.calm=true) (S:z1l X.N X.env.scope N ix scope)
  (hg:∀ cl C ex s H,PG (z0S X N scope cl C ex s H) tg g) (he:∀ cl C ex s H,PE (z0S X N scope cl C ex s H) elt te)
  (I:Inv X pins σ H s) (T:zcr X.prog X.w X.K tg J fp it tn) (st:tn 0 s.heap) (hf:∀ b∈fp,z6i X pins H b)
  (hw:∀ l,H l=none→z7E ix J g te σ l (upd H l (.lst [])) (Qe l))
  (hRR:∀ l C s' H' m,s'.heap.Ns C m→Inv X pins σ H' s'→z6i X pins H' C→Qe l H'→RR (.ref l) C (.ok .next) s') :
  wpAny (model X.prog X.w) X.A (newList []) (fun acc s3=>wpAny (model X.prog X.w) X.A (newFunctionEnv scope X.env.globals (z0E X.env.cells scope.names []) [] X.env.qual none .none (some X.env)) (fun cenv s4 =>
   codeAny (model X.prog X.w) X.A (.compStart (.ListComp elt [⟨tg,iter,[],0⟩] scope pos) 0 (.ref it) acc { cenv with scope:=relabel scope X.env }) (RR acc cenv.locals) s4) E s3) E s:=by
 have hlt:∀ b∈fp,b < s.heap.objs.size:=fun b hb=>by
  obtain ⟨o,e,_⟩:=T.obj 0 s.heap st b hb
  exact Heap.lt_size e
 have hl0:H s.heap.objs.size=none:=I.fresh
 obtain ⟨W,⟨m0,w0⟩,z1L⟩:=hw s.heap.objs.size hl0
 refine wpAny_newObj_type ?_
 generalize hs3:({ s with heap:=s.heap.push { cls:=.type "list",dict:=none,data:=.seq ([]:List Value).toArray } }:Shared)=s3
 have I3:Inv X pins σ (upd H s.heap.objs.size (.lst [])) s3:=by
  rw [←hs3]
  exact I.lnew (its:=[]) (t':=s.toks) .nil (Nat.zero_le _)
 have k3:∀ b o,s.heap.get? b=some o→s3.heap.get? b=some o:=fun b o e=>by
  rw [←hs3];exact Heap.get?_push_of_some _ e
 have sz3:s3.heap.objs.size=s.heap.objs.size+1:=by rw [←hs3];exact Heap.size_push ..
 have lnfp:s.heap.objs.size∉fp:=fun hb=>Nat.lt_irrefl _ (hlt _ hb)
 have st3:tn 0 s3.heap:=T.keep 0 _ _ st fun b _ o e=>k3 b o e
 have hf3:∀ b∈fp,z6i X pins (upd H s.heap.objs.size (.lst [])) b:=fun b hb=>by
  obtain ⟨f0,f⟩:=hf b hb
  have nb:b≠s.heap.objs.size:=fun e=>lnfp (by rw [←e];exact hb)
  exact ⟨by rw [z09 nb];exact f0,f⟩
 have hlt3:∀ b∈fp,b < s3.heap.objs.size:=fun b hb=>by rw [sz3];exact Nat.lt_succ_of_lt (hlt b hb)
 clear hs3
 refine wpAny_newFunctionEnv S.nocell (by intro y hy;simp at hy) (fun h1 hn1 hb1=>?_) S.kind
 have hk1:∀ b o,s3.heap.get? b=some o→h1.get? b=some o:=fun b o e =>
  (hb1.2 b (Nat.ne_of_lt (Heap.lt_size e))).trans (Heap.get?_push_of_some _ e)
 have J0:Inv (z0S X N scope (z0E X.env.cells scope.names []) s3.heap.objs.size fp s3 (upd H s.heap.objs.size (.lst []))) [] (z1k ix σ) (upd H s.heap.objs.size (.lst [])) { s3 with heap:=h1,toks:=s3.toks+([]:List (Str × Value)).length } :=
  z8X I3 S rfl hf3 hlt3 hn1 hk1
 have st1:tn 0 h1:=T.keep 0 _ _ st3 fun b _ o e=>hk1 b o e
 have fpY:∀ {Hc:Hp},(∀ b∈fp,Hc b=none)→∀ b∈fp,z6i (z0S X N scope (z0E X.env.cells scope.names []) s3.heap.objs.size fp s3 (upd H s.heap.objs.size (.lst []))) [] Hc b:=fun {Hc} hn b hb=>by
  obtain ⟨_,f1,f2,_,f4,_⟩:=hf3 b hb
  refine ⟨hn b hb,Nat.ne_of_lt (hlt3 b hb),fun hb2=>(List.mem_cons.mp (I3.stkSub b hb2)).elim f1 f2,.inl hb,fun x c e=>f4 x c (z1S I3 S e),fun p hp=>absurd (show p∈([]:List (Addr × Obj)) from hp) (by simp)⟩
 have loop:∀ s4:Shared,s4=({ s3 with heap:=h1,toks:=s3.toks+([]:List (Str × Value)).length }:Shared)→codeAny (model X.prog X.w) X.A (.compLoop (.ListComp elt [⟨tg,iter,[],0⟩] scope pos) 0 (.ref it) (.ref s.heap.objs.size)
   (compEnvC scope (z0E X.env.cells scope.names []) s3.heap.objs.size X.env)) (RR (.ref s.heap.objs.size) s3.heap.objs.size) s4:=by
  intro s4 hs4
  subst hs4
  refine z9W (fun n s'=>∃ i ys Hc,Inv (z0S X N scope (z0E X.env.cells scope.names []) s3.heap.objs.size fp s3 (upd H s.heap.objs.size (.lst []))) [] (z1k ix σ) Hc s'∧tn i s'.heap∧(∀ b∈fp,Hc b=none)∧Hc s.heap.objs.size=some (.lst ys)∧W i n ys Hc) ?_ m0 ⟨0,[],_,J0,st1,fun b hb=>(hf3 b hb).1,z04,w0⟩
  rintro n s5 ⟨i,ys,Hc,J5,st5,fr5,hl5,w5⟩
  rcases z1L i n ys Hc w5 hl5 with ⟨stop,qe⟩ | ⟨go,hz,NN,hNN,step⟩
  ·refine thn (T.done (z0S X N scope (z0E X.env.cells scope.names []) s3.heap.objs.size fp s3 (upd H s.heap.objs.size (.lst []))) rfl rfl rfl hc i [] s5 _ Hc noE J5 (fpY fr5) st5 stop) fun r s6 hz8=>?_
   obtain ⟨hr,J6⟩:=hz8
   subst hr
   have I6:Inv X pins σ Hc s6:=I3.call' (ch:=fp) J6.os J6.base J6.hok J6.bare fun b hb=>by
    obtain ⟨_,f1,f2,f3,f4,f5⟩:=hf3 b hb
    exact ⟨f3,f1,f4,f5⟩
   obtain ⟨m6,hn6,_⟩:=J6.loc
   exact hRR _ _ s6 Hc m6 hn6 I6 (I3.fpOk (Nat.le_refl _) J6.free) qe
  ·refine thn (T.item (z0S X N scope (z0E X.env.cells scope.names []) s3.heap.objs.size fp s3 (upd H s.heap.objs.size (.lst []))) rfl rfl rfl hc i [] s5 _ Hc noE J5 (fpY fr5) st5 go) fun r s6 hz8=>?_
   obtain ⟨u,hr,h6⟩:=hz8
   subst hr
   refine thn h6 fun _ s7 hz8=>?_
   obtain ⟨x,H7,J7,r7,y7,st7,fr7⟩:=hz8
   have J7':=J7.pinned (fpY fr7) (T.obj _ _ st7)
   refine thn (hg _ _ _ _ _ _ s7 _ H7 x u _ J7' r7 (step x H7 y7)) fun _ s8 hz8=>?_
   obtain ⟨σ8,H8,J8,q8⟩:=hz8
   refine z23 (he _ _ _ _ _ _ s8 σ8 H8 _ J8 q8) fun y s9 v H9 J9 r9 hz9=>?_
   obtain ⟨hl9,n9⟩:=hz9
   obtain ⟨m',hm',w9⟩:=hNN _ _ n9
   refine thn (z0P (X:=z0S X N scope (z0E X.env.cells scope.names []) s3.heap.objs.size fp s3 (upd H s.heap.objs.size (.lst []))) _ s9 σ8 H9 (.ref s.heap.objs.size) [v] (.ref s.heap.objs.size) [y]
    (fun z Hz=>z=.non∧Hz=upd H9 s.heap.objs.size (.lst (ys++[v]))) J9 rfl (.cons r9 .nil) ⟨_,ys,v,rfl,rfl,hl9,hz,rfl,rfl⟩) fun _ s10 ⟨_,H10,J10,_,_,e10⟩=>?_
   subst e10
   have len8:(z1k ix σ).length=σ8.length:=by
    rw [J10.len]
    unfold z1k
    rw [List.length_map]
    exact S.len
   refine ⟨m',hm',i+1,ys++[v],_,?_,T.keep _ _ _ st7 fun b hb o e=>(J10.pin (b,o) (List.mem_append_right _ (List.mem_append_right _ (z1B hb e)))).1,fun b hb=>?_,z04,w9⟩
   ·exact z6e I3 S J10
   ·obtain ⟨o,e,d⟩:=T.obj _ _ st7 b hb
    exact (J10.pin (b,o) (List.mem_append_right _ (List.mem_append_right _ (z1B hb e)))).2.1
 exact codeAny_compStart_list (loop _ rfl) (T.self _ 0 _ _ _ st1 (loop _ rfl))
theorem z1m {wi:TI} (hc:X.calm=true) (S:z1l X.N X.env.scope N ix scope) (hi:PI X tg iter wi)
  (hg:∀ cl C ex s H,PG (z0S X N scope cl C ex s H) tg g) (he:∀ cl C ex s H,PE (z0S X N scope cl C ex s H) elt te)
  (hs:∀ x,foldedSetIterable iter X.env x=pure x:=by intro _;rfl):PE X (.ListComp elt [⟨tg,iter,[],0⟩] scope pos) (zfZ ix wi g te):=by
 intro pins s σ H Q I h
 rw [eval_ListComp]
 refine wpAny_comprehension_free (use:=none) rfl hs (z1N (z0R I S)) S.kind S.names (thn (hi pins s σ H _ I h) fun v s1 h1=>thn h1 fun itv s2 h2=>?_)
 obtain ⟨it,fp,tn,J,H2,e,I2,T,st2,f2,hw⟩:=h2
 subst e
 refine z5W (RR:=fun acc C=>compPost (model X.prog X.w) X.A X.xe none (EP X pins σ Q) acc C) hc S hg he I2 T st2 f2 hw fun l C s' H' m hn I' fC q=>⟨m,hn,fun h' hs'=>?_⟩
 obtain ⟨c0,c1,_,c3,c4,c5⟩:=fC
 exact ⟨.ref l,H',I'.turned (t':=s'.toks) (fun b o hb e=>(hs'.2 b hb).trans e) c0 c1 c3 c4 c5,rfl,q⟩
theorem z8C {wi:TI} {i:Nat} {x:Str} {spos pos':Pos} (hc:X.calm=true) (S:z1l X.N X.env.scope N ix scope) (hi:PI X tg iter wi)
  (hg:∀ cl C ex s H,PG (z0S X N scope cl C ex s H) tg g) (he:∀ cl C ex s H,PE (z0S X N scope cl C ex s H) elt te)
  (hN:X.N.Nodup) (hx:X.N[i]?=some x) (hl:X.env.scope.names.lookup x=some .local)
  (hsw:swapsWith (.ListComp elt [⟨tg,iter,[],0⟩] scope pos) (some (.Name x pos')) spos.line X.env=pure true:=by rfl)
  (hs:∀ x,foldedSetIterable iter X.env x=pure x:=by intro _;rfl):PS X (.Assign [.Name x pos'] (.ListComp elt [⟨tg,iter,[],0⟩] scope pos) spos) (zh2 (zfZ ix wi g te) (zdi i)):=by
 intro pins s σ H D I h
 rw [exec_Assign_Name_used _ _ _ _ hsw]
 refine wpAny_bind (wpAny_standAt (wpAny_bind ?_))
 show wpAny _ _ (comprehension (.ListComp elt [⟨tg,iter,[],0⟩] scope pos) scope X.env _ (newList []) false (eval iter X.env) (some (assign (.Name x pos') X.env)) >>= fun _=>pure ()) _ _ s
 refine wpAny_bind (wpAny_mono (wpAny_comprehension_free (use:=some (assign (.Name x pos') X.env)) (Q:=fun _ s'=>SP X pins D .next s') rfl hs (z1N (z0R I S)) S.kind S.names
  (thn (hi pins s σ H _ I h) fun v s1 h1=>thn h1 fun itv s2 h2=>?_)) (fun _ s' q=>wpAny_pure (wpAny_pure q)) fun _ _ e=>e)
 obtain ⟨it,fp,tn,J,H2,e,I2,T,st2,f2,hw⟩:=h2
 subst e
 refine z5W (RR:=fun acc C=>compPost (model X.prog X.w) X.A X.xe (some (assign (.Name x pos') X.env)) (fun _ s'=>SP X pins D .next s') acc C) hc S hg he I2 T st2 f2 hw fun l C s' H' m hn I' fC q=>?_
 obtain ⟨c0,c1,c2,c3,c4,c5⟩:=fC
 show wpAny _ _ (assign (.Name x pos') X.env (.ref l)) _ _ _
 refine wpAny_assign_Name (z7q I' hN hx (.inl hl) (v:=.ref l) rfl (fun s'' I'' hz8=>?_) (.inr hl))
 obtain ⟨a,sb,ha⟩:=hz8
 have haC:C≠a:=by
  rcases ha with ha | ha
  ·rw [ha];exact c1
  ·exact fun z=>c4 x a ha z.symm
 refine ⟨m,hn.sameBut sb haC,fun h' hs'=>?_⟩
 exact ⟨_,H',I''.turned (t':=s''.toks) (fun b o hb e=>(hs'.2 b hb).trans e) c0 c1 c3 c4 c5,q⟩
end
theorem z54 {J:It} {n:Nat} {l:Addr} {ix:List (Option Nat)} {g:TG} {te:TE} {σ:St} {H0:Hp} {Qe:Hp→Prop} (Pv:Nat→List V→Hp→Prop) (h0:Pv 0 [] H0)
  (hs:∀ i ys H,i < n→Pv i ys H→H l=some (.lst ys)→J.go i H∧ys.length < sizeLine∧∀ x H',J.yld i H x H'→g x (z1k ix σ) H' fun σ2 H2=>te σ2 H2 fun v H3=>H3 l=some (.lst ys)∧Pv (i+1) (ys++[v]) (upd H3 l (.lst (ys++[v]))))
  (hd:∀ ys H,Pv n ys H→H l=some (.lst ys)→J.stop n H∧Qe H):z7E ix J g te σ l H0 Qe:=by
 refine ⟨fun i m ys H=>m=n - i∧i≤n∧Pv i ys H,⟨n,by simp,Nat.zero_le _,h0⟩,?_⟩
 rintro i m ys H ⟨rfl,hi,p⟩ hl
 by_cases hlt:i < n
 ·obtain ⟨h1,h2,h3⟩:=hs i ys H hlt p hl
  exact .inr ⟨h1,h2,Pv (i+1),fun zs H' q=>⟨n - (i+1),by lia,rfl,hlt,q⟩,h3⟩
 ·have e:i=n:=by lia
  subst e
  exact .inl (hd ys H p hl)
theorem z2b {K:PySem.W.Frag} {a l:Addr} {xs:List V} {ix:List (Option Nat)} {g:TG} {te:TE} {σ:St} {H0:Hp} {Qe:Hp→Prop} (Pv:Nat→List V→Hp→Prop) (h0:Pv 0 [] H0) (hl:∀ i ys H,i≤xs.length→Pv i ys H→SqL K H a xs) (hz:xs.length≤sizeLine)
  (hn:∀ i ys H,Pv i ys H→ys.length=i)
  (hs:∀ i x ys H,xs[i]?=some x→Pv i ys H→H l=some (.lst ys)→g x (z1k ix σ) H fun σ2 H2=>te σ2 H2 fun v H3=>H3 l=some (.lst ys)∧Pv (i+1) (ys++[v]) (upd H3 l (.lst (ys++[v]))))
  (hd:∀ ys H,Pv xs.length ys H→H l=some (.lst ys)→Qe H):z7E ix (Itl K a) g te σ l H0 Qe:=by
 refine z54 (n:=xs.length) Pv h0 (fun i ys H hi p hy=>?_) fun ys H p hy=>⟨⟨xs,hl _ ys H (Nat.le_refl _) p,Nat.le_refl _⟩,hd ys H p hy⟩
 have q:=hl i ys H (Nat.le_of_lt hi) p
 refine ⟨⟨xs,xs[i],q,by simp [hi]⟩,by rw [hn i ys H p];exact Nat.lt_of_lt_of_le hi hz,fun x H' y=>?_⟩
 obtain ⟨e,y⟩:=y
 subst e
 exact hs i x ys _ (y xs q) p hy
theorem z2l {K:PySem.W.Frag} {a l:Addr} {xs:List V} {ix:List (Option Nat)} {g:TG} {te:TE} {σ:St} {H0:Hp} {Qe:Hp→Prop} (Pv:Nat→List V→Hp→Prop) (h0:Pv 0 [] H0) (hl:∀ i ys H,i≤xs.length→Pv i ys H→SqT K H a xs) (hz:xs.length≤sizeLine)
  (hn:∀ i ys H,Pv i ys H→ys.length=i)
  (hs:∀ i x ys H,xs[i]?=some x→Pv i ys H→H l=some (.lst ys)→g x (z1k ix σ) H fun σ2 H2=>te σ2 H2 fun v H3=>H3 l=some (.lst ys)∧Pv (i+1) (ys++[v]) (upd H3 l (.lst (ys++[v]))))
  (hd:∀ ys H,Pv xs.length ys H→H l=some (.lst ys)→Qe H):z7E ix (Itt K a) g te σ l H0 Qe:=by
 refine z54 (n:=xs.length) Pv h0 (fun i ys H hi p hy=>?_) fun ys H p hy=>⟨⟨xs,hl _ ys H (Nat.le_refl _) p,Nat.le_refl _⟩,hd ys H p hy⟩
 have q:=hl i ys H (Nat.le_of_lt hi) p
 refine ⟨⟨xs,xs[i],q,by simp [hi]⟩,by rw [hn i ys H p];exact Nat.lt_of_lt_of_le hi hz,fun x H' y=>?_⟩
 obtain ⟨e,y⟩:=y
 subst e
 exact hs i x ys _ (y xs q) p hy
theorem z67 {lo:Int} {n:Nat} {l:Addr} {ix:List (Option Nat)} {g:TG} {te:TE} {σ:St} {H0:Hp} {Qe:Hp→Prop} (Pv:Nat→List V→Hp→Prop) (h0:Pv 0 [] H0) (hz:n≤sizeLine)
  (hn:∀ i ys H,Pv i ys H→ys.length=i)
  (hs:∀ i ys H,i < n→Pv i ys H→H l=some (.lst ys)→g (.int (lo+i)) (z1k ix σ) H fun σ2 H2=>te σ2 H2 fun v H3=>H3 l=some (.lst ys)∧Pv (i+1) (ys++[v]) (upd H3 l (.lst (ys++[v]))))
  (hd:∀ ys H,Pv n ys H→H l=some (.lst ys)→Qe H):z7E ix (Itr lo n) g te σ l H0 Qe:=by
 refine z54 (n:=n) Pv h0 (fun i ys H hi p hy=>⟨hi,by rw [hn i ys H p];exact Nat.lt_of_lt_of_le hi hz,fun x H' y=>?_⟩) fun ys H p hy=>⟨Nat.le_refl _,hd ys H p hy⟩
 obtain ⟨e,y⟩:=y
 subst e y
 exact hs i ys _ hi p hy
end L2
namespace L2
open PySem PySem.Spec PyProof.Rows
open PySem.AutoSeq1 (wpAny_loadPart')
def zcq (lo:Int) (n:Nat):List V:=(List.range n).map fun i=>V.int (lo+(i:Nat))
theorem z57 (lo:Int) (n:Nat):(zcq lo n).length=n:=by unfold zcq;simp
theorem z3P {lo c:Int} {acc:Array Value} {n:Nat} (hc:c=1) (h:ItemsOf (fun i v=>∃ t,v=.int (lo+i*c) t) acc n):z1i (zcq lo n) acc.toList:=by
 subst hc
 obtain ⟨hs,hi⟩:=h
 have key:∀ (k:Nat) (i:Nat),i+k=n→z1i (((List.range n).drop i).map fun j=>V.int (lo+(j:Nat))) (acc.toList.drop i):=by
  intro k
  induction k with
  | zero =>
   intro i hk
   rw [List.drop_of_length_le (by simp;lia),List.drop_of_length_le (by simp;lia)]
   exact .nil
  | succ k ih =>
   intro i hk
   have h1:i < acc.size:=by lia
   have e1:(List.range n).drop i=i::(List.range n).drop (i+1):=by
    rw [List.drop_eq_getElem_cons (by simp;lia)];simp
   have e2:acc.toList.drop i=acc[i]::acc.toList.drop (i+1):=by
    rw [List.drop_eq_getElem_cons (by simpa using h1)];simp
   rw [e1,e2,List.map_cons]
   refine .cons ?_ (ih (i+1) (by lia))
   obtain ⟨t,e⟩:=hi i acc[i] (by simp [h1])
   exact ⟨t,by rw [e,Int.mul_one]⟩
 have:=key n 0 (by lia)
 simpa [zcq] using this
section
variable {X:Cx}
theorem z6T:z3s X (.type "range") (fun xs H Q=>∃ j:Int,xs=[.int j]∧-(2 ^ 62)≤j∧j < 2 ^ 62∧∀ p,H p=none→Q (.ref p) (upd H p (.rng 0 j))):=by
 intro pins s σ H xs us Q I r h
 obtain ⟨j,rfl,h1,h2,q⟩:=h
 obtain ⟨u,rfl,ru⟩:=z5J r
 obtain ⟨t,rfl⟩:=ru
 refine call_range_1 ?_
 exact ⟨.ref s.heap.objs.size,upd H s.heap.objs.size (.rng 0 j),I.laid (o:=.rng 0 j) (fun b u e=>Heap.get?_push_of_some _ e) (Nat.le_refl _) ⟨_,_,_,Heap.get?_push_size _ rfl⟩,rfl,q _ I.fresh⟩
theorem Inv.rng {pins:List (Addr × Obj)} {σ:St} {H:Hp} {s:Shared} {p:Addr} {lo hi:Int} (I:Inv X pins σ H s) (h:H p=some (.rng lo hi)):∃ t u v,IsRange s.heap p lo hi 1 t u v:=by
 obtain ⟨t,u,v,e⟩:=I.hok p _ h
 exact ⟨t,u,v,e⟩
theorem z91 {lo hi:Int}:Builtin.Range.rangeSize lo hi 1=(((hi - lo).toNat:Nat):Int):=by
 rw [rangeSize_one];split<;>lia
theorem z6C (hc:X.calm=true):z3s X (.type "list") (fun xs H Q=>∃ p lo hi,xs=[.ref p]∧H p=some (.rng lo hi)∧(-(2 ^ 62)≤lo∧lo < 2 ^ 62∧-(2 ^ 62)≤hi∧hi < 2 ^ 62)∧(hi - lo).toNat≤2 ^ 24 ∧
  ∀ l,H l=none→Q (.ref l) (upd H l (.lst (zcq lo (hi - lo).toNat)))):=by
 intro pins s σ H xs us Q I r h
 obtain ⟨p,lo,hi,rfl,hp,⟨b1,b2,b3,b4⟩,hn,q⟩:=h
 obtain ⟨u,rfl,ru⟩:=z5J r
 cases ru
 obtain ⟨t,u,v,hr⟩:=I.rng hp
 refine call_list_range (I.ok.hd hc) hr (small_one b1 b2 b3 b4) z91 hn fun h' tk acc c' hk hl hacc=>?_
 have hv:=z3P rfl hacc
 exact ⟨.ref _,_,I.laid (o:=.lst (zcq lo (hi - lo).toNat)) (fun b u e=>hk b u e) (Nat.le_refl _) ⟨by rw [z57,sizeLine_eq];lia,acc.toList,c',hv,by simpa using hl⟩,rfl,q _ I.fresh⟩
end
section
variable {prog:Program} {w:World} {A:Around} {E:Value→Shared→Prop} {s:Shared}
theorem z8G {Q:List Value→Shared→Prop} {r:Addr} {a b c:Int} {t u v:Tok} {n:Nat} (hh:A.handled=none) (hr:IsRange s.heap r a b c t u v) (hsmall:Builtin.Range.small a b c=true)
  (hn:Builtin.Range.rangeSize a b c=n) (hlen:n≤2 ^ 24)
  (hQ:∀ h' tk acc,(∀ b o,s.heap.get? b=some o→h'.get? b=some o)→s.heap.objs.size≤h'.objs.size→ItemsOf (fun i v=>∃ t,v=.int (a+i*c) t) acc n→Q acc.toList { s with heap:=h',toks:=tk }) :
  wpAny (model prog w) A (collect (.ref r)) Q E s:=by
 unfold collect
 refine wpAny_bind (wpAny_runValue (codeAny_builtin F.entry_proto_collect ?_))
 rw [Around.under_plainId F.plain_proto_collect _]
 show wpAny _ A.in1 (newList [] >>= fun l =>
  again (.builtin "list.__iadd__" ⟨[l,.ref r],[]⟩)) _ _ s
 refine wpAny_bind (wpAny_newObj_type ?_)
 refine wpAny_pure ⟨plainId_quiet F.plain_list_iadd _,codeAny_builtin F.entry_list_iadd ?_⟩
 rw [Around.under_plainId F.plain_list_iadd _]
 show wpAny _ A.in1 (Builtin.List.listExtendWith (.ref s.heap.objs.size) (.ref r)
  (.ref s.heap.objs.size)) _ _ _
 have hS:(s.heap.push { cls:=.type "list",data:=.seq ([]:List Value).toArray }).get? s.heap.objs.size=some
  { cls:=.type "list",data:=.seq #[] 0 }:=Heap.get?_push_size _ rfl
 have fin':∀ (h':Heap) (tk:Nat) (acc:Array Value) (c':Nat),(∀ b o,b≠s.heap.objs.size→(s.heap.push { cls:=.type "list",data:=.seq ([]:List Value).toArray }).get? b=some o→h'.get? b=some o) →
   h'.get? s.heap.objs.size=some { cls:=.type "list",dict:=none,data:=.seq acc c',slots:=#[] }→ItemsOf (fun i v=>∃ t,v=.int (a+i*c) t) acc n →
   wpAny (model prog w) A (match Value.ref s.heap.objs.size with
    | Value.ref a=>do
     match (←load a).data with
      | Data.seq xs _=>pure xs.toList
      | _=>unsupported "internal:collect"
    | _=>unsupported "internal:collect") Q E { s with heap:=h',toks:=tk }:=fun h' tk acc c' hk hS' hacc=>by
  show wpAny _ A (load s.heap.objs.size >>= _) _ _ _
  refine wpAny_bind (wpAny_load hS' (wpAny_pure ?_))
  exact hQ h' tk acc (fun b o e=>hk b o (Nat.ne_of_lt (Heap.lt_size e)) (Heap.get?_push_of_some _ e)) (Nat.le_of_lt (Heap.lt_size hS')) hacc
 refine wpAny_mono (wpAny_extend_range (A:=A) (R:=fun r s'=>r=.ok (.ret (.ref s.heap.objs.size))∧wpAny (model prog w) A (match Value.ref s.heap.objs.size with
    | Value.ref a=>do
     match (←load a).data with
      | Data.seq xs _=>pure xs.toList
      | _=>unsupported "internal:collect"
    | _=>unsupported "internal:collect") Q E s') (s:={ s with heap:=s.heap.push { cls:=.type "list",data:=.seq ([]:List Value).toArray } }) hh (Heap.get?_push_of_some _ hr) hsmall hn hlen _ (.ref s.heap.objs.size) 0 hS
  fun h' tk acc c' hk hS' hacc=>⟨rfl,fin' h' tk acc c' hk hS' hacc⟩) (fun fin s' h=>?_) (fun e s' h=>?_)
 ·cases fin with
  | done f =>
   obtain ⟨e,h⟩:=h
   cases e
   exact h
  | again c'=>exact ⟨h.1,codeAny_mono h.2 fun r s'' hr=>by obtain ⟨rfl,h2⟩:=hr;exact h2⟩
 ·exact absurd h.1 (by simp)
end
theorem z4Z (r:Addr) {a b c:Int} {t u v:Tok} {n:Nat} (hsmall:Builtin.Range.small a b c=true) (hn:Builtin.Range.rangeSize a b c=n) (hlen:n≤2 ^ 24) :
  Meets (Builtin.«tuple.__new__» ⟨[.type "tuple",.ref r],[]⟩)
   (fun A R s=>A.handled=none∧IsRange s.heap r a b c t u v∧∀ (h':Heap) (tk:Nat) (acc:Array Value),(∀ b o,s.heap.get? b=some o→h'.get? b=some o)→s.heap.objs.size≤h'.objs.size→ItemsOf (fun i v=>∃ t,v=.int (a+i*c) t) acc n →
    R (.ok (.ret (.ref h'.objs.size))) { s with heap:=h'.push { cls:=.type "tuple",data:=.seq acc },toks:=tk }) :=
 .of_wp fun prog w A R s h=>by
  obtain ⟨hh,hr,h⟩:=h
  have hsub:=sub_tuple_self
  have hinit:=init_tuple_lookup
  have hmh:=madeHere_tuple
  have hT:s.TypeIs (.ref r) "range":=⟨_,hr,rfl⟩
  have hh1:A.in1.handled=none:=hh
  wp_walk using wpAny_typeOf hT,z8G hh1 hr hsmall hn hlen
  intro h' tk acc hk hz hacc
  show wpAny _ _ (Builtin.Tuple.tupleExact acc.toList.toArray >>=
   fun v=>ret v) _ _ _
  unfold Builtin.Tuple.tupleExact
  refine wpAny_bind (wpAny_newObj_type ?_ (show acc.toList.toArray.size≤sizeLine by simp only [Array.toArray_toList];rw [hacc.1,sizeLine_eq];lia))
  refine wpAny_pure ⟨_,rfl,?_⟩
  have e:acc.toList.toArray=acc:=by simp
  rw [e]
  exact h h' tk acc hk hz hacc
section
variable {X:Cx}
theorem z3d (hc:X.calm=true):z3s X (.type "tuple") (fun xs H Q=>∃ p lo hi,xs=[.ref p]∧H p=some (.rng lo hi)∧(-(2 ^ 62)≤lo∧lo < 2 ^ 62∧-(2 ^ 62)≤hi∧hi < 2 ^ 62)∧(hi - lo).toNat≤2 ^ 24 ∧
  ∀ l,H l=none→Q (.ref l) (upd H l (.tup (zcq lo (hi - lo).toNat)))):=by
 intro pins s σ H xs us Q I r h
 obtain ⟨p,lo,hi,rfl,hp,⟨b1,b2,b3,b4⟩,hn,q⟩:=h
 obtain ⟨u,rfl,ru⟩:=z5J r
 cases ru
 obtain ⟨t,u,v,hr⟩:=I.rng hp
 refine callType_new F.called_tuple (by decide) (F.typeCall_tuple_1 _) (F.newCall_tuple_1 _) (fun obj=>F.args_object_init_2 obj _) F.entry_tuple_new
  (z4Z p (t:=t) (u:=u) (v:=v) (small_one b1 b2 b3 b4) z91 hn) ⟨I.ok.hd hc,hr,fun h' tk acc hk hz hacc=>⟨⟨_,Heap.get?_push_size _ rfl,rfl⟩,?_⟩⟩
 have hv:=z3P rfl hacc
 have hf:H h'.objs.size=none:=I.hok.fresh hz
 refine ⟨.ref _,_,I.laid (o:=.tup (zcq lo (hi - lo).toNat)) (fun b u e=>Heap.get?_push_of_some _ (hk b u e)) hz ⟨by rw [z57,sizeLine_eq];lia,acc.toList,0,hv,by rw [show acc.toList.toArray=acc by simp];exact Heap.get?_push_size _ rfl⟩,rfl,q _ hf⟩
end
section
variable {X:Cx}
theorem z8D {prog:Program} {w:World} {A:Around} {its:Array Value} {bs:List Bool} (r:z1i (bs.map V.bl) its.toList):TruthOf prog w A (fun i v=>its[i]?=some v) (fun i=>bs.getD i false):=by
 intro i v s Q E hi hq
 have hl:=r.length
 rw [List.length_map] at hl
 have hlt:i < bs.length:=by
  have:i < its.size:=by
   rcases Nat.lt_or_ge i its.size with z | z
   ·exact z
   ·rw [Array.getElem?_eq_none z] at hi;cases hi
  simp at hl;lia
 have h1:(bs.map V.bl)[i]?=some (.bl bs[i]):=by simp [hlt]
 obtain ⟨u,hu,ru⟩:=r.get h1
 have:u=v:=by
  have e:its.toList[i]?=some v:=by simpa using hi
  rw [e] at hu
  exact (Option.some.inj hu).symm
 subst this
 cases ru
 refine wpAny_truthy_bool ?_
 have e:bs.getD i false=bs[i]:=by simp [hlt]
 have hq':Q (bs.getD i false) s:=hq
 rw [e] at hq'
 exact hq'
theorem zbG {n:Nat} {bs:List Bool} (h:bs.length=n):(List.range n).any (fun i=>bs.getD i false)=bs.any id:=by
 subst h
 rw [Bool.eq_iff_iff,List.any_eq_true,List.any_eq_true]
 constructor
 ·rintro ⟨i,hi,e⟩
  have hi:i < bs.length:=by simpa using hi
  refine ⟨bs[i],List.getElem_mem hi,?_⟩
  simp [hi] at e
  exact e
 ·rintro ⟨b,hb,e⟩
  obtain ⟨i,hi,e'⟩:=List.getElem_of_mem hb
  refine ⟨i,by simpa using hi,?_⟩
  simp [hi,e']
  exact e
theorem zd8 (hc:X.calm=true):z3s X (.builtin "any") (fun xs H Q=>∃ (p:Addr) (bs:List Bool),xs=[.ref p]∧SqL X.K H p (bs.map V.bl)∧Q (.bl (bs.any id)) H):=by
 intro pins s σ H xs us Q I r h
 obtain ⟨p,bs,rfl,hp,q⟩:=h
 obtain ⟨u,rfl,ru⟩:=z5J r
 cases ru
 obtain ⟨its,rv,pl,hz⟩:=I.list hp
 have hlt:p < s.heap.objs.size:=by obtain ⟨o,n,e,_⟩:=pl;exact Heap.lt_size e
 have hl:=rv.length
 rw [List.length_map] at hl
 refine call_any_walk (wpAny_pyIter_list pl.isList ?_)
 refine ⟨s.heap.objs.size,_,_,_,_,_,fun i=>bs.getD i false,rfl,Walks.list (A:=X.A.in1) (show X.A.in1.handled=none from I.ok.hd hc) s.heap.objs.size p (Nat.ne_of_lt hlt) its.toArray,⟨⟨_,Heap.get?_push_size _ rfl,rfl,rfl⟩,Heap.IsList.push pl.isList _⟩,z8D (by simpa using rv),fun h' tk hk=>?_⟩
 rw [zbG (by simpa using hl)]
 exact ⟨.bl _,H,I.kept (t':=tk) (fun b o e=>hk b o (by simpa using (Nat.ne_of_lt (Heap.lt_size e))) (Heap.get?_push_of_some _ e)),rfl,q⟩
end
end L2
namespace L2
open PySem PySem.Spec PyProof.Rows
open PySem.AutoSeq1 (wpAny_loadPart')
section
variable {prog:Program} {w:World} {A:Around} {E:Value→Shared→Prop} {s:Shared}
theorem z6R {it t:Addr} {i:Nat} {its:Array Value} {x:Value} {Q:Value→Shared→Prop} (hit:s.heap.IsTupleIter it t i) (ht:s.heap.IsTuple t its) (hx:its[i]?=some x)
  (hQ:∀ h',h'.IsTupleIter it t (i+1)→Heap.SameBut it s.heap h'→Q x { s with heap:=h' }):wpAny (model prog w) A (Builtin.SmallTypes.nextOf (.ref it)) Q E s:=by
 obtain ⟨o,ho,hc,hd⟩:=id hit
 obtain ⟨ol,hol,_,nl,hdl⟩:=ht
 unfold Builtin.SmallTypes.nextOf
 refine wpAny_bind (wpAny_callSpecial?_slot (name:=Str.ofString "__next__") hit.typeIs F.slot_tuple_iterator_next
  (wpAny_call_entry F.slot_tuple_iterator_next hit.typeIs F.entry_tuple_iterator_next ?_
   (F.args_tuple_iterator_next_1 _)))
 show wpAny _ _ (field (.ref it) 0 >>= _) _ _ s
 refine wpAny_bind (wpAny_field ho hd (x:=.ref t) rfl ?_)
 show wpAny _ _ (if (Value.ref t == Value.none)=true
  then _ else _) _ _ s
 rw [if_neg (show ¬ ((Value.ref t == Value.none)=true)
  from Bool.false_ne_true)]
 show wpAny _ _ (field (.ref it) 1 >>= _) _ _ s
 refine wpAny_bind (wpAny_field ho hd (x:=.int i 0) rfl ?_)
 show wpAny _ _ (seqItems? (.ref t) >>= _) _ _ s
 refine wpAny_bind (wpAny_seqItems hol hdl ?_)
 simp only [Int.toNat_natCast,hx]
 refine wpAny_bind (wpAny_setField ho hd (by simp) (wpAny_pure
  ⟨x,rfl,wpAny_pure (hQ _ ?_ (Heap.SameBut.update ..))⟩))
 exact ⟨_,Heap.get?_update_self _ ho (Obj.isFreed_of_fields (Obj.data_mapFields hd _)),
  (Obj.cls_mapFields ..).trans hc,by rw [Obj.data_mapFields hd];simp [rawInt]⟩
theorem z4l {it t:Addr} {i:Nat} {its:Array Value} {Q:Value→Shared→Prop} (hh:A.handled=none) (hit:s.heap.IsTupleIter it t i) (ht:s.heap.IsTuple t its) (hx:its[i]?=none)
  (hE:∀ h' e,Heap.ExtBut it s.heap h'→(∃ o,h'.get? e=some o∧o.cls=.type "StopIteration")→E (.ref e) { s with heap:=h' }):wpAny (model prog w) A (Builtin.SmallTypes.nextOf (.ref it)) Q E s:=by
 obtain ⟨o,ho,hc,hd⟩:=id hit
 obtain ⟨ol,hol,_,nl,hdl⟩:=ht
 unfold Builtin.SmallTypes.nextOf
 refine wpAny_bind (wpAny_callSpecial?_slot (name:=Str.ofString "__next__") hit.typeIs F.slot_tuple_iterator_next
  (wpAny_call_entry F.slot_tuple_iterator_next hit.typeIs F.entry_tuple_iterator_next ?_
   (F.args_tuple_iterator_next_1 _)))
 show wpAny _ _ (field (.ref it) 0 >>= _) _ _ s
 refine wpAny_bind (wpAny_field ho hd (x:=.ref t) rfl ?_)
 show wpAny _ _ (if (Value.ref t == Value.none)=true
  then _ else _) _ _ s
 rw [if_neg (show ¬ ((Value.ref t == Value.none)=true)
  from Bool.false_ne_true)]
 show wpAny _ _ (field (.ref it) 1 >>= _) _ _ s
 refine wpAny_bind (wpAny_field ho hd (x:=.int i 0) rfl ?_)
 show wpAny _ _ (seqItems? (.ref t) >>= _) _ _ s
 refine wpAny_bind (wpAny_seqItems hol hdl ?_)
 simp only [Int.toNat_natCast,hx]
 refine wpAny_bind (wpAny_rule (wpAny_bind (wpAny_setField ho hd (by simp) ?_)))
 show wpAny _ _ (newExc (.type "StopIteration") [] >>= _) _ _ _
 refine wpAny_bind ?_
 simp only [newExc,newTuple]
 refine wpAny_bind (wpAny_newObj_type ?_ (by size_fits))
 refine wpAny_bind (m:=firstArgMember _ _) (wpAny_of_eq (a:=Value.none)
  (by first | rfl | (simp only [firstArgMember];rfl)) ?_)
 refine wpAny_newObj_type ?_ (by size_fits)
 simp only [raiseNew]
 refine wpAny_bind (wpAny_handled ?_)
 first | rw [show A.in1.handled=none from hh] | rw [hh]
 refine wpAny_bind (wpAny_pure (wpAny_throw ?_))
 exact hE _ _ (((Heap.SameBut.update ..).extBut.push _).push _)
  ⟨_,Heap.get?_push_size _ rfl,rfl⟩
theorem z3H (hh:A.handled=none) (it t:Addr) (hne:t≠it) (its:Array Value):Draws prog w A it [it,t] its.size (fun i v=>its[i]?=some v) (fun i h=>h.IsTupleIter it t i∧h.IsTuple t its) where
 live:=fun i h st=>by obtain ⟨⟨o,e,_⟩,_⟩:=st;exact ⟨o,e⟩
 frame:=fun i h h' st hk=>by
  obtain ⟨⟨o,e,c⟩,⟨o2,e2,c2⟩⟩:=st
  exact ⟨⟨o,hk it (by simp) _ e,c⟩,⟨o2,hk t (by simp) _ e2,c2⟩⟩
 item:=fun i s Q E hi st hQ=>by
  refine z6R st.1 st.2 (x:=its[i]) (by simp [hi]) fun h' hit' hs'=>?_
  obtain ⟨o2,e2,c2⟩:=st.2
  exact hQ _ h' s.toks (by simp [hi]) ⟨hit',⟨o2,(hs'.2 t hne).trans e2,c2⟩⟩ hs'
 done:=fun s Q E st hE=>z4l hh st.1 st.2 (by simp) hE
theorem z5I (t:Addr) (its:Array Value) :
  Meets (Builtin.«enumerate.__new__» ⟨[.type "enumerate",.ref t],[]⟩) (fun _ R s=>s.heap.IsTuple t its ∧
   R (.ok (.ret (.ref (s.heap.push { cls:=.type "tuple_iterator",data:=.fields #[.ref t,.int 0 0] }).objs.size)))
    { s with heap:=(s.heap.push { cls:=.type "tuple_iterator",data:=.fields #[.ref t,.int 0 0] }).push { cls:=.type "enumerate",data:=.fields #[.none,.bool false,.ref s.heap.objs.size,rawInt 0,.none,.none] } }) :=
 .of_wp fun prog w A R s h=>by
  obtain ⟨hp,g,d,tk,os⟩:=s
  obtain ⟨hl,h⟩:=h
  have hsub:=sub_enumerate
  have hL:Heap.IsTuple (Shared.heap ⟨hp,g,d,tk,os⟩) t its:=hl
  wp_walk
  refine wpAny_stack_any fun st=>wpAny_pure ?_
  split
  ·rename_i c _ _ _ _ _
   cases (c == Value.type "enumerate")
   all_goals
    wp_walk using wpAny_pyIter_tuple hL
    exact ⟨_,rfl,h⟩
  ·wp_walk using wpAny_pyIter_tuple hL
   exact ⟨_,rfl,h⟩
theorem z6m {t:Addr} {its:Array Value} {Q:Value→Shared→Prop} (hL:s.heap.IsTuple t its)
  (h:∀ h',IsEnum h' (s.heap.objs.size+1) s.heap.objs.size 0 .none→h'.IsTupleIter s.heap.objs.size t 0→h'.objs.size=s.heap.objs.size+2→(∀ b o,s.heap.get? b=some o→h'.get? b=some o)→Q (.ref (s.heap.objs.size+1)) { s with heap:=h' }) :
  wpAny (model prog w) A (call (.type "enumerate") [.ref t]) Q E s:=by
 refine callType_new F.called_enumerate (by decide) (F.typeCall_enumerate_1 _) (F.newCall_enumerate_1 _) (fun obj=>F.args_object_init_2 obj _) F.entry_enumerate_new (z5I t its) ⟨hL,?_⟩
 have hz:(s.heap.push { cls:=.type "tuple_iterator",data:=.fields #[.ref t,.int 0 0] }).objs.size=s.heap.objs.size+1:=Heap.size_push ..
 show _∧_
 rw [hz]
 have he:IsEnum ((s.heap.push { cls:=.type "tuple_iterator",data:=.fields #[.ref t,.int 0 0] }).push
   { cls:=.type "enumerate",data:=.fields #[.none,.bool false,.ref s.heap.objs.size,rawInt 0,.none,.none] }) (s.heap.objs.size+1) s.heap.objs.size 0 .none:=by
  have q:=Heap.get?_push_size (s.heap.push { cls:=.type "tuple_iterator",data:=.fields #[.ref t,.int 0 0] })
   (o:={ cls:=.type "enumerate",data:=.fields #[.none,.bool false,.ref s.heap.objs.size,rawInt 0,.none,.none] }) rfl
  rw [hz] at q
  exact q
 exact ⟨⟨_,he,rfl⟩,h _ he ⟨_,Heap.get?_push_of_some _ (Heap.get?_push_size _ rfl),rfl,by rfl⟩ (by rw [Heap.size_push,hz]) fun b o x=>Heap.get?_push_of_some _ (Heap.get?_push_of_some _ x)⟩
end
theorem Inv.turnedNew {X:Cx} {pins:List (Addr × Obj)} {σ:St} {H:Hp} {s:Shared} {ch:List Addr} {p:Addr} {o:HO} {h':Heap} {t':Nat} (I:Inv X pins σ H s) (k:∀ b u,b∉ch→s.heap.get? b=some u→h'.get? b=some u)
  (hp:s.heap.objs.size≤p) (new:z22 X.prog X.w (upd H p o) h' p o) (hf:∀ b∈ch,z6i X pins H b):Inv X pins σ (upd H p o) { s with heap:=h',toks:=t' }:=by
 have hn:H p=none:=I.hok.fresh hp
 have nc:∀ b u,H b=some u→b∉ch:=fun b u e z=>by rw [(hf b z).1] at e;cases e
 refine I.step (g':=s.gens) (d':=s.drawn) (ch:=ch) (fun b hb=>?_) (fun b u _ _ hc e _=>k b u hc e) (fun b u _ _ hc e _=>⟨u.slots,k b u hc e⟩) (fun b u _ e n=>?_) (fun b u hc e=>⟨u,k b u hc e⟩)
  (fun b xs e=>?_) (fun b u xs e=>?_) (fun b ps e=>⟨#[],?_⟩) (fun m hm=>?_) (fun b u e=>?_) I.bare
 ·obtain ⟨_,f1,_,f3,f4,f5⟩:=hf b hb
  exact ⟨f3,f1,f4,f5⟩
 ·rw [z09 (Nat.ne_of_lt (Nat.lt_of_lt_of_le (Heap.lt_size e) hp))];exact n
 ·rw [z09 (z0f e hn)];exact e
 ·rw [z09 (z0f e hn)];exact e
 ·rw [z09 (z0f e hn),e];simp
 ·obtain ⟨ob,es,ep,ho,r⟩:=hm
  exact ⟨ob,es,ep,k _ ob (fun z=>(hf _ z).2.1 rfl) ho,r⟩
 ·by_cases hb:b=p
  ·subst hb;rw [z04] at e;cases e;exact new
  ·rw [z09 hb] at e
   refine (I.hok b u e).stay (fun c v hc q=>k c v ?_ q) (fun c q=>by rw [z09 (z0f q hn)];exact q) fun c xs q=>by rw [z09 (z0f q hn)];exact q
   rcases hc with z | z
   ·rw [z];exact nc b u e
   ·exact nc c _ z
theorem Inv.turnedL {X:Cx} {pins:List (Addr × Obj)} {σ:St} {H:Hp} {s:Shared} {ch:List Addr} {h':Heap} {t':Nat} (I:Inv X pins σ H s) (k:∀ b u,b∉ch→s.heap.get? b=some u→h'.get? b=some u)
  (hf:∀ b∈ch,z6i X pins H b):Inv X pins σ H { s with heap:=h',toks:=t' }:=by
 have nc:∀ b u,H b=some u→b∉ch:=fun b u e z=>by rw [(hf b z).1] at e;cases e
 refine I.step (g':=s.gens) (d':=s.drawn) (ch:=ch) (fun b hb=>?_) (fun b u _ _ hc e _=>k b u hc e) (fun b u _ _ hc e _=>⟨u.slots,k b u hc e⟩) (fun b u _ e n=>n) (fun b u hc e=>⟨u,k b u hc e⟩)
  (fun b xs e=>e) (fun b u xs e=>e) (fun b ps e=>⟨#[],by rw [e];simp⟩) (fun m hm=>?_) (fun b u e=>?_) I.bare
 ·obtain ⟨_,f1,_,f3,f4,f5⟩:=hf b hb
  exact ⟨f3,f1,f4,f5⟩
 ·obtain ⟨ob,es,ep,ho,r⟩:=hm
  exact ⟨ob,es,ep,k _ ob (fun z=>(hf _ z).2.1 rfl) ho,r⟩
 ·refine (I.hok b u e).stay (fun c v hc q=>k c v ?_ q) (fun c q=>q) fun c xs q=>q
  rcases hc with z | z
  ·rw [z];exact nc b u e
  ·exact nc c _ z
def Ite (K:PySem.W.Frag) (a:Addr):It :=
 ⟨fun i H=>∃ xs x,SqT K H a xs∧xs[i]?=some x,fun i H x H'=>∃ p y,x=.ref p∧H p=none∧(∀ xs,SqT K H a xs→xs[i]?=some y)∧H'=upd H p (.tup [.int i,y]),fun i H=>∃ xs,SqT K H a xs∧xs.length≤i⟩
theorem zaV {P:Program} {w:World} {K:PySem.W.Frag} {elts:List Expr} {k:Nat} {tp:Pos} (a it e:Addr) (hne:e≠it) :
  zcr P w K (.Tuple elts k tp) (Ite K a) [e,it] e (fun i h=>(∃ old,IsEnum h e it i old)∧h.IsTupleIter it a i) where
 mem:=by simp
 obj:=fun i h st b hb=>by
  obtain ⟨⟨old,he⟩,⟨o,ho,hc,hd⟩⟩:=st
  rcases List.mem_cons.mp hb with z | z
  ·subst z;exact ⟨_,he,fun v z=>by cases z⟩
  ·have z:=List.mem_singleton.mp z
   subst z;exact ⟨o,ho,fun v z=>by rw [hd] at z;cases z⟩
 keep:=fun i h h' st k=>by
  obtain ⟨⟨old,he⟩,⟨o,ho,c⟩⟩:=st
  exact ⟨⟨old,k e (by simp) _ he⟩,⟨o,k it (by simp) _ ho,c⟩⟩
 item:=by
  intro X hP hw hK hc i pins s σ H E I hf st hg
  subst hP hw hK
  obtain ⟨xs,x,hq,hx⟩:=hg
  obtain ⟨its,rv,p,hz⟩:=I.tuple hq
  obtain ⟨u,hu,ru⟩:=rv.get hx
  obtain ⟨⟨old,he⟩,hit⟩:=st
  have hai:a≠it:=fun z=>by
   obtain ⟨o,e1,c1,_⟩:=id p
   obtain ⟨o2,e2,c2,_⟩:=id hit
   rw [z,e2] at e1;cases e1;rw [c2] at c1;exact absurd c1 (by intro h;injection h with h;exact absurd h (by decide))
  have hae:a≠e:=fun z=>by
   obtain ⟨o,e1,c1,_⟩:=id p
   rw [z,he] at e1;cases e1;exact absurd c1 (by intro h;injection h with h;exact absurd h (by decide))
  have lt:i < its.toArray.size:=by
   have:=(List.getElem?_eq_some_iff.mp hu).1
   simpa using this
  have D:=z3H (prog:=X.prog) (w:=X.w) (A:=X.A.in1) (I.ok.hd hc) it a hai its.toArray
  refine wpAny_pyNext_enum_itemD D he ⟨hit,p⟩ lt hne (by simp [hne,Ne.symm hae]) fun y h' tk hy ho hst hT hsz hk=>?_
  have hyu:y=u:=by
   have e1:its.toArray[i]?=some u:=by simpa using hu
   rw [e1] at hy;exact (Option.some.inj hy).symm
  subst hyu
  refine ⟨_,rfl,?_⟩
  refine wpAny_letOwnedTupleGo_enum ho fun h2 he2 hs2=>?_
  have hp0:H s.heap.objs.size=none:=I.fresh
  have elt:e < s.heap.objs.size:=Heap.lt_size he
  have ilt:it < s.heap.objs.size:=by obtain ⟨o,e2,_⟩:=hit;exact Heap.lt_size e2
  have kk:∀ b o,b≠e→b≠it→s.heap.get? b=some o→h2.get? b=some o:=fun b o h1 h3 q=>(hs2.2 b h1).trans (hk b o h1 h3 q)
  obtain ⟨e0,e1,e2,e3,e4,e5⟩:=hf e (by simp)
  obtain ⟨i0,i1,i2,i3,i4,i5⟩:=hf it (by simp)
  have I1:Inv X pins σ (upd H s.heap.objs.size (.tup [.int i,x])) { s with heap:=h2,toks:=tk+1 }:=by
   refine I.turnedNew (ch:=[e,it]) (fun b u hb q=>kk b u (fun z=>hb (by simp [z])) (fun z=>hb (by simp [z])) q) (Nat.le_refl _) ?_ (fun b hb=>hf b hb)
   have nT:s.heap.objs.size≠e:=Nat.ne_of_gt elt
   exact ⟨by show 2≤sizeLine;decide,[.int i tk,y],0,.cons ⟨tk,rfl⟩ (.cons ru .nil),(hs2.2 _ nT).trans hT⟩
  refine ⟨.ref s.heap.objs.size,_,I1,rfl,⟨s.heap.objs.size,x,rfl,hp0,fun ys hy=>by rw [I.tuple_inj hy hq];exact hx,rfl⟩,⟨⟨y,by simpa using he2⟩,?_⟩,fun b hb=>?_⟩
  ·obtain ⟨⟨o,e9,c9⟩,_⟩:=hst
   exact ⟨o,(hs2.2 it (Ne.symm hne)).trans e9,c9⟩
  ·have hb0:=(hf b hb).1
   have:b≠s.heap.objs.size:=by
    rcases List.mem_cons.mp hb with z | z
    ·rw [z];exact Nat.ne_of_lt elt
    ·rw [List.mem_singleton.mp z];exact Nat.ne_of_lt ilt
   rw [z09 this];exact hb0
 done:=by
  intro X hP hw hK hc i pins s σ H E I hf st hg
  subst hP hw hK
  obtain ⟨xs,hq,hx⟩:=hg
  obtain ⟨its,rv,p,hz⟩:=I.tuple hq
  obtain ⟨⟨old,he⟩,hit⟩:=st
  have hai:a≠it:=fun z=>by
   obtain ⟨o,e1,c1,_⟩:=id p
   obtain ⟨o2,e2,c2,_⟩:=id hit
   rw [z,e2] at e1;cases e1;rw [c2] at c1;exact absurd c1 (by intro h;injection h with h;exact absurd h (by decide))
  have hlen:=rv.length
  have hT:s.TypeIs (.ref e) "enumerate":=⟨_,he,rfl⟩
  unfold pyNext
  refine wpAny_bind (wpAny_attempt (wpAny_callSpecial?_slot (name:=Str.ofString "__next__") hT F.slot_enumerate_next
   (wpAny_call_entry F.slot_enumerate_next hT F.entry_enumerate_next ?_ (F.args_enumerate_next_1 _))))
  show wpAny _ _ (field (.ref e) 2 >>= _) _ _ _
  refine wpAny_bind (wpAny_field he rfl (x:=.ref it) rfl ?_)
  refine wpAny_bind (z4l (show X.A.in1.handled=none from I.ok.hd hc) hit p (by simp;lia) fun h' x he' hx'=>?_)
  obtain ⟨o,ho,hcl⟩:=hx'
  refine wpAny_bind (wpAny_isInstance (T:="StopIteration") (b:=true) ⟨o,ho,hcl⟩ isSubtype_stop ?_)
  refine wpAny_pure ⟨rfl,?_⟩
  exact I.turnedL (ch:=[it]) (t':=s.toks) (fun b u hb q=>he' b u (fun z=>hb (by simp [z])) q) (fun b hb=>hf b (by rw [List.mem_singleton.mp hb];simp))
 self:=fun A i s Q E st h=>by
  obtain ⟨⟨old,he⟩,_⟩:=st
  exact wpAny_pyIter_enum he h
theorem zdp {K:PySem.W.Frag} {a:Addr} {xs:List V} {g:TG} {tb:TS} {D:z3Z} {σ:St} {H:Hp} (Pv:Nat→St→Hp→Prop) (h0:Pv 0 σ H) (hl:∀ i σ H,i≤xs.length→Pv i σ H→SqT K H a xs)
  (hs:∀ i x p σ H,xs[i]?=some x→Pv i σ H→H p=none→g (.ref p) σ (upd H p (.tup [.int (i:Nat),x])) fun σ2 H2=>tb { D with nx:=Pv (i+1),ct:=Pv (i+1),bk:=D.nx } σ2 H2) (hd:∀ σ H,Pv xs.length σ H→D.nx σ H) :
  ∃ W:Nat→Nat→St→Hp→Prop,(∃ m,W 0 m σ H)∧∀ i m σ H,W i m σ H →
   ((Ite K a).stop i H∧D.nx σ H)∨((Ite K a).go i H∧∃ N:St→Hp→Prop,(∀ σ' H',N σ' H'→∃ m',m' < m∧W (i+1) m' σ' H')∧∀ x H',(Ite K a).yld i H x H'→g x σ H' fun σ2 H2=>tb { D with nx:=N,ct:=N,bk:=D.nx } σ2 H2):=by
 refine ⟨fun i m σ H=>m=xs.length - i∧i≤xs.length∧Pv i σ H,⟨xs.length,by simp,Nat.zero_le _,h0⟩,?_⟩
 rintro i m σ H ⟨rfl,hi,p⟩
 have q:=hl i σ H hi p
 by_cases hlt:i < xs.length
 ·refine .inr ⟨⟨xs,xs[i],q,by simp [hlt]⟩,Pv (i+1),fun σ' H' p'=>⟨xs.length - (i+1),by lia,rfl,hlt,p'⟩,fun x H' y=>?_⟩
  obtain ⟨b,z,rfl,hb,hz,rfl⟩:=y
  exact hs i z b σ H (hz xs q) p hb
 ·have e:i=xs.length:=by lia
  subst e
  exact .inl ⟨⟨xs,q,Nat.le_refl _⟩,hd σ H p⟩
end L2
namespace L2
open PySem PySem.Spec PyProof.Rows
section
variable {X:Cx} {elts:List Expr} {tk:Nat} {tp:Pos}
def zh3 (K:PySem.W.Frag) (ta:TA):TI:=fun σ H R=>ta σ H fun vs H1=>∃ a:Addr,vs=[.ref a]∧(∃ xs,SqT K H1 a xs)∧R (Ite K a) H1
theorem zeJ {a:Expr} {ta:TA} {p pos:Pos} (hg:Gl X "enumerate") (hm:X.mg "enumerate"=none) (ha:PA X [a] ta) (hs:starEach [a] X.env=[(false,eval a X.env)]:=by rfl) :
  PI X (.Tuple elts tk tp) (.Call (.Name "enumerate" p) [a] [] pos) (zh3 X.K ta):=by
 intro pins s σ H R I h
 refine Call_ (z5n I hg hm boot_enumerate (PyProof.Rows.callWith_type1 (thn (ha pos pins s σ H _ I h) fun us s1 hz8=>?_) hs rfl))
 obtain ⟨vs,H1,I1,r1,q1⟩:=hz8
 obtain ⟨a,e,⟨xs,hq⟩,q⟩:=q1
 subst e
 obtain ⟨u,rfl,ru⟩:=z5J r1
 cases ru
 obtain ⟨its,rv,pl,hz⟩:=I1.tuple hq
 refine z6m pl fun h' he hit hsz hk=>wpAny_pyIter_enum he ?_
 have I2:Inv X pins σ H1 { s1 with heap:=h' }:=I1.kept (t':=s1.toks) hk
 refine ⟨s1.heap.objs.size+1,[s1.heap.objs.size+1,s1.heap.objs.size],_,_,H1,rfl,I2,zaV a s1.heap.objs.size (s1.heap.objs.size+1) (show @Ne Nat _ _ by lia),⟨⟨_,he⟩,hit⟩,fun b hb=>?_,q⟩
 have hb':s1.heap.objs.size≤b:=by
  rcases List.mem_cons.mp hb with z | z
  ·have z:@Eq Nat b (s1.heap.objs.size+1):=z
   lia
  ·rw [List.mem_singleton.mp z];exact Nat.le_refl _
 exact I1.fpOk hb' (I1.hok.fresh hb')
def Itz (K:PySem.W.Frag) (a b:Addr):It :=
 ⟨fun i H=>∃ xs ys x y,SqL K H a xs∧SqL K H b ys∧xs[i]?=some x∧ys[i]?=some y,
  fun i H v H'=>∃ p x y,v=.ref p∧H p=none∧(∀ xs,SqL K H a xs→xs[i]?=some x)∧(∀ ys,SqL K H b ys→ys[i]?=some y)∧H'=upd H p (.tup [x,y]),
  fun i H=>∃ xs ys,SqL K H a xs∧SqL K H b ys∧(xs.length≤i∨ys.length≤i)⟩
theorem z2n {h:Heap} {a b:Addr} {o u:Obj} {x y:String} (ha:h.get? a=some o) (hb:h.get? b=some u) (hx:o.cls=.type x) (hy:u.cls=.type y) (hxy:x≠y):a≠b:=by
 intro e
 subst e
 rw [ha] at hb
 cases hb
 rw [hx] at hy
 injection hy with hy
 exact hxy hy
theorem zd7 {P:Program} {w:World} {K:PySem.W.Frag} (a b z TI TO i1 i2:Addr) (D:TI≠z∧TO≠z∧i1≠z∧i2≠z∧TI≠TO∧TI≠i1∧TI≠i2∧TO≠i1∧TO≠i2∧i1≠i2) :
  zcr P w K (.Tuple elts tk tp) (Itz K a b) [z,TI,TO,i1,i2] z (fun i h=>IsZip h z TI TO .none∧IsPair h TI (.ref i1) (.ref i2)∧(∃ u v,IsPair h TO u v)∧h.IsListIter i1 a i∧h.IsListIter i2 b i) where
 mem:=by simp
 obj:=fun i h st c hc=>by
  obtain ⟨hz,hTI,⟨u,v,hTO⟩,⟨o1,e1,c1,d1⟩,⟨o2,e2,c2,d2⟩⟩:=st
  simp at hc
  rcases hc with q | q | q | q | q
  ·rw [q];exact ⟨_,hz,fun v z=>by cases z⟩
  ·rw [q];exact ⟨_,hTI,fun v z=>by cases z⟩
  ·rw [q];exact ⟨_,hTO,fun v z=>by cases z⟩
  ·rw [q];exact ⟨_,e1,fun v z=>by rw [d1] at z;cases z⟩
  ·rw [q];exact ⟨_,e2,fun v z=>by rw [d2] at z;cases z⟩
 keep:=fun i h h' st k=>by
  obtain ⟨hz,hTI,⟨u,v,hTO⟩,⟨o1,e1,c1⟩,⟨o2,e2,c2⟩⟩:=st
  exact ⟨k z (by simp) _ hz,k TI (by simp) _ hTI,⟨u,v,k TO (by simp) _ hTO⟩,⟨o1,k i1 (by simp) _ e1,c1⟩,⟨o2,k i2 (by simp) _ e2,c2⟩⟩
 item:=by
  intro X hP hw hK hc i pins s σ H E I hf st hg
  subst hP hw hK
  obtain ⟨hz,hTI,⟨u,v,hTO⟩,h1,h2⟩:=st
  obtain ⟨xs,ys,x,y,hxs,hys,hx,hy⟩:=hg
  obtain ⟨its,rv,p,_⟩:=I.list hxs
  obtain ⟨itt,rw',p',_⟩:=I.list hys
  obtain ⟨ux,hux,rux⟩:=rv.get hx
  obtain ⟨uy,huy,ruy⟩:=rw'.get hy
  obtain ⟨d1,d2,d3,d4,d5,d6,d7,d8,d9,d10⟩:=D
  have Da:∀ {l:Addr} {its:Array Value},s.heap.IsList l its→l≠z∧l≠TO∧l≠i1∧l≠i2:=fun {l its} hl=>by
   obtain ⟨o,e,c,_⟩:=hl
   obtain ⟨o1,e1,c1,_⟩:=id h1
   obtain ⟨o2,e2,c2,_⟩:=id h2
   exact ⟨z2n e hz c rfl (by decide),z2n e hTO c rfl (by decide),z2n e e1 c c1 (by decide),z2n e e2 c c2 (by decide)⟩
  obtain ⟨a1,a2,a3,a4⟩:=Da p.isList
  obtain ⟨b1,b2,b3,b4⟩:=Da p'.isList
  refine wpAny_pyNext_zip_item ⟨d1,d2,d3,d4,d5,d6,d7,d8,d9,d10,a1,a2,a3,a4,b1,b2,b3,b4⟩ hz hTI hTO h1 h2 p.isList p'.isList (x:=ux) (y:=uy) (by simpa using hux) (by simpa using huy) fun h' q1 q2 q3 q4 q5 q6 hk=>?_
  refine ⟨_,rfl,wpAny_letOwnedTupleGo_zip q1 fun h2' hz2 hs2=>?_⟩
  have zlt:z < s.heap.objs.size:=Heap.lt_size hz
  have kk:∀ c o,c∉[z,TO,i1,i2]→s.heap.get? c=some o→h2'.get? c=some o:=fun c o hc q=>by
   simp at hc
   exact (hs2.2 c hc.1).trans (hk c o hc.1 hc.2.1 hc.2.2.1 hc.2.2.2 q)
  have sub:∀ c∈[z,TO,i1,i2],c∈[z,TI,TO,i1,i2]:=fun c hc=>by simp at hc ⊢;rcases hc with q | q | q | q<;>simp [q]
  have I1:Inv X pins σ (upd H s.heap.objs.size (.tup [x,y])) { s with heap:=h2',toks:=s.toks }:=by
   refine I.turnedNew (ch:=[z,TO,i1,i2]) kk (Nat.le_refl _) ?_ (fun c hc=>hf c (sub c hc))
   exact ⟨by show 2≤sizeLine;decide,[ux,uy],0,.cons rux (.cons ruy .nil),(hs2.2 _ (Nat.ne_of_gt zlt)).trans q5⟩
  have up:∀ {c:Addr} {o:Obj},c≠z→h'.get? c=some o→h2'.get? c=some o:=fun {c o} hc q=>(hs2.2 c hc).trans q
  obtain ⟨o3,e3,c3⟩:=q3
  obtain ⟨o4,e4,c4⟩:=q4
  refine ⟨.ref s.heap.objs.size,_,I1,rfl,⟨s.heap.objs.size,x,y,rfl,I.fresh,fun zs hz'=>by rw [I.list_inj hz' hxs];exact hx,fun zs hz'=>by rw [I.list_inj hz' hys];exact hy,rfl⟩,⟨hz2,?_,⟨_,_,up d2 q2⟩,⟨o3,up d3 e3,c3⟩,⟨o4,up d4 e4,c4⟩⟩,fun c hc=>?_⟩
  ·exact up d1 (hk TI _ d1 d5 d6 d7 hTI)
  ·have c0:=(hf c hc).1
   have lt:c < s.heap.objs.size:=by
    obtain ⟨o1,e1,_⟩:=id h1
    obtain ⟨o2,e2,_⟩:=id h2
    simp at hc
    rcases hc with q | q | q | q | q
    ·rw [q];exact zlt
    ·rw [q];exact Heap.lt_size hTI
    ·rw [q];exact Heap.lt_size hTO
    ·rw [q];exact Heap.lt_size e1
    ·rw [q];exact Heap.lt_size e2
   rw [z09 (Nat.ne_of_lt lt)];exact c0
 done:=by
  intro X hP hw hK hc i pins s σ H E I hf st hg
  subst hP hw hK
  obtain ⟨hz,hTI,⟨u,v,hTO⟩,h1,h2⟩:=st
  obtain ⟨xs,ys,hxs,hys,hx⟩:=hg
  obtain ⟨its,rv,p,_⟩:=I.list hxs
  obtain ⟨itt,rw',p',_⟩:=I.list hys
  obtain ⟨d1,d2,d3,d4,d5,d6,d7,d8,d9,d10⟩:=D
  have Da:∀ {l:Addr} {its:Array Value},s.heap.IsList l its→l≠z∧l≠TO∧l≠i1∧l≠i2:=fun {l its} hl=>by
   obtain ⟨o,e,c,_⟩:=hl
   obtain ⟨o1,e1,c1,_⟩:=id h1
   obtain ⟨o2,e2,c2,_⟩:=id h2
   exact ⟨z2n e hz c rfl (by decide),z2n e hTO c rfl (by decide),z2n e e1 c c1 (by decide),z2n e e2 c c2 (by decide)⟩
  obtain ⟨a1,a2,a3,a4⟩:=Da p.isList
  obtain ⟨b1,b2,b3,b4⟩:=Da p'.isList
  have l1:=rv.length
  have l2:=rw'.length
  refine wpAny_pyNext_zip_end (I.ok.hd hc) ⟨d1,d2,d3,d4,d5,d6,d7,d8,d9,d10,a1,a2,a3,a4,b1,b2,b3,b4⟩ hz hTI hTO h1 h2 p.isList p'.isList ?_ fun h' hk=>⟨rfl,?_⟩
  ·rcases hx with q | q
   ·left;simp;lia
   ·right;simp;lia
  ·refine I.turnedL (ch:=[z,TO,i1,i2]) (t':=s.toks) (fun c o hcc q=>?_) (fun c hcc=>hf c ?_)
   ·simp at hcc
    exact hk c o hcc.1 hcc.2.1 hcc.2.2.1 hcc.2.2.2 q
   ·simp at hcc ⊢;rcases hcc with q | q | q | q<;>simp [q]
 self:=fun A i s Q E st h=>wpAny_pyIter_zip st.1 h
def zhz (K:PySem.W.Frag) (ta:TA):TI:=fun σ H R=>ta σ H fun vs H1=>∃ a b:Addr,vs=[.ref a,.ref b]∧(∃ xs,SqL K H1 a xs)∧(∃ ys,SqL K H1 b ys)∧R (Itz K a b) H1
theorem zdV {a b:Expr} {ta:TA} {p pos:Pos} (hg:Gl X "zip") (hm:X.mg "zip"=none) (ha:PA X [a,b] ta) (hs:starEach [a,b] X.env=[(false,eval a X.env),(false,eval b X.env)]:=by rfl) (hs2:starEach [b] X.env=[(false,eval b X.env)]:=by rfl) :
  PI X (.Tuple elts tk tp) (.Call (.Name "zip" p) [a,b] [] pos) (zhz X.K ta):=by
 intro pins s σ H R I h
 refine Call_ (z5n I hg hm boot_zip (PyProof.Rows.callWith_type1 (thn (ha pos pins s σ H _ I h) fun us s1 hz8=>?_) (by rw [hs,hs2]) (by rw [hs2];rfl)))
 obtain ⟨vs,H1,I1,r1,q1⟩:=hz8
 obtain ⟨a,b,e,⟨xs,hq⟩,⟨ys,hq'⟩,q⟩:=q1
 subst e
 obtain ⟨u,v,rfl,ru,rv'⟩:=zeG r1
 cases ru
 cases rv'
 obtain ⟨its,rv,pl,hz⟩:=I1.list hq
 obtain ⟨its2,rv2,pl2,hz2⟩:=I1.list hq'
 refine call_zip_2 pl.isList pl2.isList fun h' z1 z2 z3 z4 z5 z6 hk=>wpAny_pyIter_zip z1 ?_
 have I2:Inv X pins σ H1 { s1 with heap:=h' }:=I1.kept (t':=s1.toks) hk
 refine ⟨s1.heap.objs.size+4,[s1.heap.objs.size+4,s1.heap.objs.size+2,s1.heap.objs.size+3,s1.heap.objs.size,s1.heap.objs.size+1],_,_,H1,rfl,I2,
  zd7 a b (s1.heap.objs.size+4) (s1.heap.objs.size+2) (s1.heap.objs.size+3) s1.heap.objs.size (s1.heap.objs.size+1) (by refine ⟨?_,?_,?_,?_,?_,?_,?_,?_,?_,?_⟩<;>(show @Ne Nat _ _;lia)),⟨z1,z2,⟨_,_,z3⟩,z4,z5⟩,fun c hb=>?_,q⟩
 have hb':s1.heap.objs.size≤c:=by
  simp only [List.mem_cons,List.not_mem_nil,or_false] at hb
  rcases hb with q | q | q | q | q<;>(have q:@Eq Nat c _:=q;lia)
 exact I1.fpOk hb' (I1.hok.fresh hb')
end
theorem zeQ {K:PySem.W.Frag} {a b:Addr} {xs ys:List V} {g:TG} {tb:TS} {D:z3Z} {σ:St} {H:Hp} (hlen:xs.length=ys.length) (Pv:Nat→St→Hp→Prop) (h0:Pv 0 σ H) (hl:∀ i σ H,i≤xs.length→Pv i σ H→SqL K H a xs∧SqL K H b ys)
  (hs:∀ i x y p σ H,xs[i]?=some x→ys[i]?=some y→Pv i σ H→H p=none→g (.ref p) σ (upd H p (.tup [x,y])) fun σ2 H2=>tb { D with nx:=Pv (i+1),ct:=Pv (i+1),bk:=D.nx } σ2 H2) (hd:∀ σ H,Pv xs.length σ H→D.nx σ H) :
  ∃ W:Nat→Nat→St→Hp→Prop,(∃ m,W 0 m σ H)∧∀ i m σ H,W i m σ H →
   ((Itz K a b).stop i H∧D.nx σ H)∨((Itz K a b).go i H∧∃ N:St→Hp→Prop,(∀ σ' H',N σ' H'→∃ m',m' < m∧W (i+1) m' σ' H')∧∀ x H',(Itz K a b).yld i H x H'→g x σ H' fun σ2 H2=>tb { D with nx:=N,ct:=N,bk:=D.nx } σ2 H2):=by
 refine ⟨fun i m σ H=>m=xs.length - i∧i≤xs.length∧Pv i σ H,⟨xs.length,by simp,Nat.zero_le _,h0⟩,?_⟩
 rintro i m σ H ⟨rfl,hi,p⟩
 obtain ⟨q,q'⟩:=hl i σ H hi p
 by_cases hlt:i < xs.length
 ·refine .inr ⟨⟨xs,ys,xs[i],ys[i]'(by lia),q,q',by simp [hlt],by simp [show i < ys.length by lia]⟩,Pv (i+1),fun σ' H' p'=>⟨xs.length - (i+1),by lia,rfl,hlt,p'⟩,fun x H' y=>?_⟩
  obtain ⟨c,z,z',rfl,hb,hz,hz',rfl⟩:=y
  exact hs i z z' c σ H (hz xs q) (hz' ys q') p hb
 ·have e:i=xs.length:=by lia
  subst e
  exact .inl ⟨⟨xs,ys,q,q',.inl (Nat.le_refl _)⟩,hd σ H p⟩
theorem zcU {K:PySem.W.Frag} {a b l:Addr} {xs zs:List V} {ix:List (Option Nat)} {g:TG} {te:TE} {σ:St} {H0:Hp} {Qe:Hp→Prop} (hlen:xs.length=zs.length) (Pv:Nat→List V→Hp→Prop) (h0:Pv 0 [] H0) (hl:∀ i ys H,i≤xs.length→Pv i ys H→SqL K H a xs∧SqL K H b zs) (hz:xs.length≤sizeLine)
  (hn:∀ i ys H,Pv i ys H→ys.length=i)
  (hs:∀ i x y p ys H,xs[i]?=some x→zs[i]?=some y→Pv i ys H→H l=some (.lst ys)→H p=none→g (.ref p) (z1k ix σ) (upd H p (.tup [x,y])) fun σ2 H2=>te σ2 H2 fun v H3=>H3 l=some (.lst ys)∧Pv (i+1) (ys++[v]) (upd H3 l (.lst (ys++[v]))))
  (hd:∀ ys H,Pv xs.length ys H→H l=some (.lst ys)→Qe H):z7E ix (Itz K a b) g te σ l H0 Qe:=by
 refine z54 (n:=xs.length) Pv h0 (fun i ys H hi p hy=>?_) fun ys H p hy=>⟨⟨xs,zs,(hl _ ys H (Nat.le_refl _) p).1,(hl _ ys H (Nat.le_refl _) p).2,.inl (Nat.le_refl _)⟩,hd ys H p hy⟩
 obtain ⟨q,q'⟩:=hl i ys H (Nat.le_of_lt hi) p
 refine ⟨⟨xs,zs,xs[i],zs[i]'(by lia),q,q',by simp [hi],by simp [show i < zs.length by lia]⟩,by rw [hn i ys H p];exact Nat.lt_of_lt_of_le hi hz,fun x H' y=>?_⟩
 obtain ⟨c,z,z',rfl,hb,hz,hz',rfl⟩:=y
 exact hs i z z' c ys H (hz xs q) (hz' zs q') p hy hb
end L2
namespace L2
open PySem PySem.Spec PyProof.Rows
open PySem.AutoSeq1 (wpAny_loadPart')
inductive D where
 | non | bl (b:Bool) | int (i:Int) | str (x:Str) | tup (ds:List D) | lst (ds:List D)
mutual
def Dr (K:PySem.W.Frag) (H:Hp):D→V→Prop
 | .non,v=>v=.non
 | .bl b,v=>v=.bl b
 | .int i,v=>v=.int i
 | .str x,v=>v=.str x
 | .tup ds,v=>∃ (a:Addr) (vs:List V),v=.ref a∧H a=some (.tup vs)∧DrL K H ds vs
 | .lst ds,v=>∃ (a:Addr) (vs:List V),v=.ref a∧SqL K H a vs∧DrL K H ds vs
def DrL (K:PySem.W.Frag) (H:Hp):List D→List V→Prop
 | [],vs=>vs=[]
 | d::ds,vs=>∃ v r,vs=v::r∧Dr K H d v∧DrL K H ds r
end
theorem z0h.tupl {K:PySem.W.Frag} {H H':Hp} {a:Addr} {xs:List V} (s:z0h H H') (h:SqT K H a xs):SqT K H' a xs:=by
 rcases h with (h | ⟨o,h⟩) | h
 ·exact .inl (.inl (s _ _ h))
 ·exact .inl (.inr ⟨o,s _ _ h⟩)
 ·exact .inr h
mutual
theorem Dr.mono {K:PySem.W.Frag} {H H':Hp} (s:z0h H H'):∀ {d:D} {v:V},Dr K H d v→Dr K H' d v
 | .non,_,h=>by simp only [Dr] at h ⊢;exact h
 | .bl _,_,h=>by simp only [Dr] at h ⊢;exact h
 | .int _,_,h=>by simp only [Dr] at h ⊢;exact h
 | .str _,_,h=>by simp only [Dr] at h ⊢;exact h
 | .tup ds,_,h=>by
  simp only [Dr] at h ⊢
  obtain ⟨a,vs,e,q,r⟩:=h
  exact ⟨a,vs,e,s _ _ q,DrL.mono s r⟩
 | .lst ds,_,h=>by
  simp only [Dr] at h ⊢
  obtain ⟨a,vs,e,q,r⟩:=h
  exact ⟨a,vs,e,s.seq q,DrL.mono s r⟩
theorem DrL.mono {K:PySem.W.Frag} {H H':Hp} (s:z0h H H'):∀ {ds:List D} {vs:List V},DrL K H ds vs→DrL K H' ds vs
 | [],_,h=>by simp only [DrL] at h ⊢;exact h
 | d::ds,_,h=>by
  simp only [DrL] at h ⊢
  obtain ⟨v,r,e,q,q'⟩:=h
  exact ⟨v,r,e,Dr.mono s q,DrL.mono s q'⟩
end
theorem DrL.length {K:PySem.W.Frag} {H:Hp}:∀ {ds:List D} {vs:List V},DrL K H ds vs→ds.length=vs.length
 | [],_,h=>by simp only [DrL] at h;subst h;rfl
 | d::ds,_,h=>by
  simp only [DrL] at h
  obtain ⟨v,r,rfl,_,q⟩:=h
  rw [List.length_cons,List.length_cons,DrL.length q]
theorem DrL.get {K:PySem.W.Frag} {H:Hp}:∀ {ds:List D} {vs:List V} {i:Nat} {d:D},DrL K H ds vs→ds[i]?=some d→∃ v,vs[i]?=some v∧Dr K H d v
 | [],_,_,_,_,e=>by simp at e
 | d::ds,_,0,_,h,e=>by
  simp only [DrL] at h
  obtain ⟨v,r,rfl,q,_⟩:=h
  simp at e;subst e
  exact ⟨v,rfl,q⟩
 | d::ds,_,i+1,d',h,e=>by
  simp only [DrL] at h
  obtain ⟨v,r,rfl,_,q⟩:=h
  obtain ⟨v',h1,h2⟩:=DrL.get (i:=i) q (by simpa using e)
  exact ⟨v',by simpa using h1,h2⟩
theorem DrL.append {K:PySem.W.Frag} {H:Hp}:∀ {ds es:List D} {vs us:List V},DrL K H ds vs→DrL K H es us→DrL K H (ds++es) (vs++us)
 | [],_,_,_,h,h'=>by simp only [DrL] at h;subst h;exact h'
 | d::ds,es,_,us,h,h'=>by
  simp only [DrL] at h
  obtain ⟨v,r,rfl,q,q'⟩:=h
  show DrL K H (d::(ds++es)) (v::(r++us))
  simp only [DrL]
  exact ⟨v,_,rfl,q,DrL.append q' h'⟩
theorem DrL.one {K:PySem.W.Frag} {H:Hp} {d:D} {v:V} (h:Dr K H d v):DrL K H [d] [v]:=by
 simp only [DrL];exact ⟨v,[],rfl,h,rfl⟩
theorem DrL.nil {K:PySem.W.Frag} {H:Hp}:DrL K H [] []:=by simp only [DrL]
theorem DrL.cons {K:PySem.W.Frag} {H:Hp} {d:D} {v:V} {ds:List D} {vs:List V} (h:Dr K H d v) (h':DrL K H ds vs):DrL K H (d::ds) (v::vs):=by
 simp only [DrL];exact ⟨v,vs,rfl,h,h'⟩
theorem DrL.ints {K:PySem.W.Frag} {H:Hp}:∀ (ns:List Int),DrL K H (ns.map D.int) (ns.map V.int)
 | []=>DrL.nil
 | n::r=>DrL.cons (by simp only [Dr]) (DrL.ints r)
theorem DrL.ints_inv {K:PySem.W.Frag} {H:Hp}:∀ {ns:List Int} {vs:List V},DrL K H (ns.map D.int) vs→vs=ns.map V.int
 | [],_,h=>by simp only [List.map_nil,DrL] at h;rw [h];rfl
 | n::r,_,h=>by
  simp only [List.map_cons,DrL] at h
  obtain ⟨v,w,rfl,q,q'⟩:=h
  simp only [Dr] at q
  subst q
  rw [DrL.ints_inv q',List.map_cons]
theorem Dr.tup {K:PySem.W.Frag} {H:Hp} {a:Addr} {ds:List D} {vs:List V} (h:H a=some (.tup vs)) (r:DrL K H ds vs):Dr K H (.tup ds) (.ref a):=by
 simp only [Dr];exact ⟨a,vs,rfl,h,r⟩
theorem Dr.int {K:PySem.W.Frag} {H:Hp} (i:Int):Dr K H (.int i) (.int i):=by simp only [Dr]
abbrev D.its (ns:List Int):D:=.tup (ns.map D.int)
end L2
namespace L2
open PySem PySem.Spec PyProof.Rows
open PySem.SeqAt
mutual
def D.eq:D→D→Bool
 | .non,.non=>true
 | .bl a,.bl b=>a == b
 | .int i,.int j=>i == j
 | .str x,.str y=>decide (x=y)
 | .tup a,.tup b=>D.eqL a b
 | .lst a,.lst b=>D.eqL a b
 | _,_=>false
def D.eqL:List D→List D→Bool
 | [],[]=>true
 | d::ds,e::es=>D.eq d e && D.eqL ds es
 | _,_=>false
end
mutual
def D.ok:D→D→Prop
 | .non,.non=>True
 | .bl _,.bl _=>True
 | .int _,.int _=>True
 | .str _,.str _=>True
 | .tup a,.tup b=>D.okL a b
 | .lst a,.lst b=>D.okL a b
 | _,_=>False
def D.okL:List D→List D→Prop
 | d::ds,e::es=>D.ok d e∧D.okL ds es
 | _,_=>True
end
mutual
def D.dep:D→Nat
 | .tup a=>D.depL a+1
 | .lst a=>D.depL a+1
 | _=>0
def D.depL:List D→Nat
 | []=>0
 | d::ds=>max (D.dep d) (D.depL ds)
end
mutual
theorem D.eq_refl:∀ d:D,D.eq d d=true
 | .non=>by simp only [D.eq]
 | .bl b=>by simp only [D.eq,beq_self_eq_true]
 | .int i=>by simp only [D.eq,beq_self_eq_true]
 | .str x=>by simp only [D.eq,decide_true]
 | .tup a=>by simp only [D.eq];exact D.eqL_refl a
 | .lst a=>by simp only [D.eq];exact D.eqL_refl a
theorem D.eqL_refl:∀ ds:List D,D.eqL ds ds=true
 | []=>by simp only [D.eqL]
 | d::ds=>by simp only [D.eqL,D.eq_refl d,D.eqL_refl ds,Bool.and_self]
end
mutual
theorem D.eq_of:∀ {d e:D},D.eq d e=true→d=e
 | .non,e,h=>by cases e<;>simp only [D.eq,Bool.false_eq_true] at h<;>rfl
 | .bl b,e,h=>by cases e<;>simp only [D.eq,Bool.false_eq_true,beq_iff_eq] at h;rw [h]
 | .int b,e,h=>by cases e<;>simp only [D.eq,Bool.false_eq_true,beq_iff_eq] at h;rw [h]
 | .str b,e,h=>by cases e<;>simp only [D.eq,Bool.false_eq_true,decide_eq_true_eq] at h;rw [h]
 | .tup b,e,h=>by
  cases e<;>simp only [D.eq,Bool.false_eq_true] at h
  rw [D.eqL_of h]
 | .lst b,e,h=>by
  cases e<;>simp only [D.eq,Bool.false_eq_true] at h
  rw [D.eqL_of h]
theorem D.eqL_of:∀ {d e:List D},D.eqL d e=true→d=e
 | [],e,h=>by cases e<;>simp only [D.eqL,Bool.false_eq_true] at h;rfl
 | d::ds,e,h=>by
  cases e<;>simp only [D.eqL,Bool.false_eq_true,Bool.and_eq_true] at h
  rw [D.eq_of h.1,D.eqL_of h.2]
end
theorem D.okL_get:∀ {ds es:List D} {j:Nat} {d e:D},D.okL ds es→ds[j]?=some d→es[j]?=some e→D.ok d e
 | [],_,_,_,_,_,h,_=>by simp at h
 | _::_,[],_,_,_,_,_,h=>by simp at h
 | _::_,_::_,0,_,_,h,h1,h2=>by
  simp only [D.okL] at h
  simp at h1 h2;subst h1 h2;exact h.1
 | _::_,_::_,j+1,_,_,h,h1,h2=>by
  simp only [D.okL] at h
  exact D.okL_get h.2 (by simpa using h1) (by simpa using h2)
theorem D.depL_get:∀ {ds:List D} {j:Nat} {d:D},ds[j]?=some d→D.dep d≤D.depL ds
 | [],_,_,h=>by simp at h
 | _::_,0,_,h=>by
  simp at h;subst h;simp only [D.depL];exact Nat.le_max_left _ _
 | _::ds,j+1,_,h=>by
  simp only [D.depL]
  exact Nat.le_trans (D.depL_get (ds:=ds) (j:=j) (by simpa using h)) (Nat.le_max_right _ _)
def D.at_ (ds es:List D) (j:Nat):Bool:=match ds[j]?,es[j]? with | some d,some e=>D.eq d e | _,_=>true
theorem D.all_eqL:∀ (ds es:List D),(((List.range (min ds.length es.length)).all (D.at_ ds es)) && ds.length == es.length)=D.eqL ds es
 | [],[]=>by simp [D.eqL]
 | [],e::es=>by simp [D.eqL]
 | d::ds,[]=>by simp [D.eqL]
 | d::ds,e::es=>by
  have ih:=D.all_eqL ds es
  simp only [D.eqL]
  rw [←ih]
  have e1:min (d::ds).length (e::es).length=min ds.length es.length+1:=by simp only [List.length_cons];lia
  rw [e1,List.range_succ_eq_map,List.all_cons,List.all_map,Bool.and_assoc]
  have e2:D.at_ (d::ds) (e::es) 0=D.eq d e:=by simp [D.at_]
  have e3:(D.at_ (d::ds) (e::es) ∘ Nat.succ)=D.at_ ds es:=by funext j;simp [D.at_]
  have e4:((d::ds).length == (e::es).length)=(ds.length == es.length):=by simp
  rw [e2,e3,e4]
theorem D.all_eqL' {ds es:List D} (h:ds.length=es.length):(List.range ds.length).all (D.at_ ds es)=D.eqL ds es:=by
 rw [←D.all_eqL ds es]
 have:min ds.length es.length=ds.length:=by lia
 rw [this]
 simp [h]
theorem D.eqL_len {ds es:List D} (h:ds.length≠es.length):D.eqL ds es=false:=by
 rw [←D.all_eqL ds es]
 have:(ds.length == es.length)=false:=by simpa using h
 rw [this,Bool.and_false]
section
variable {X:Cx} {pins:List (Addr × Obj)} {σ:St} {H:Hp} {s:Shared}
mutual
theorem Dr.inj (I:Inv X pins σ H s):∀ {d e:D} {v:V},Dr X.K H d v→Dr X.K H e v→D.ok d e→d=e
 | .non,e,v,h,h',o=>by cases e<;>simp only [D.ok] at o<;>rfl
 | .bl b,e,v,h,h',o=>by
  cases e<;>simp only [D.ok] at o
  simp only [Dr] at h h';rw [h] at h';cases h';rfl
 | .int b,e,v,h,h',o=>by
  cases e<;>simp only [D.ok] at o
  simp only [Dr] at h h';rw [h] at h';cases h';rfl
 | .str b,e,v,h,h',o=>by
  cases e<;>simp only [D.ok] at o
  simp only [Dr] at h h';rw [h] at h';cases h';rfl
 | .tup ds,e,v,h,h',o=>by
  cases e<;>simp only [D.ok] at o
  simp only [Dr] at h h'
  obtain ⟨a,vs,rfl,q,r⟩:=h
  obtain ⟨b,us,eq,q',r'⟩:=h'
  cases eq
  have:=I.tuple_inj (SqT.of q) (SqT.of q')
  subst this
  rw [DrL.inj I r r' o]
 | .lst ds,e,v,h,h',o=>by
  cases e<;>simp only [D.ok] at o
  simp only [Dr] at h h'
  obtain ⟨a,vs,rfl,q,r⟩:=h
  obtain ⟨b,us,eq,q',r'⟩:=h'
  cases eq
  have:=I.list_inj q q'
  subst this
  rw [DrL.inj I r r' o]
theorem DrL.inj (I:Inv X pins σ H s):∀ {ds es:List D} {vs:List V},DrL X.K H ds vs→DrL X.K H es vs→D.okL ds es→ds=es
 | [],[],_,_,_,_=>rfl
 | [],_::_,_,h,h',_=>by
  simp only [DrL] at h h'
  obtain ⟨_,_,e,_⟩:=h'
  rw [h] at e;cases e
 | _::_,[],_,h,h',_=>by
  simp only [DrL] at h h'
  obtain ⟨_,_,e,_⟩:=h
  rw [h'] at e;cases e
 | d::ds,e::es,_,h,h',o=>by
  simp only [DrL] at h h'
  simp only [D.okL] at o
  obtain ⟨v,r,rfl,q,q'⟩:=h
  obtain ⟨u,w,eq,p,p'⟩:=h'
  cases eq
  rw [Dr.inj I q p o.1,DrL.inj I q' p' o.2]
end
theorem zg4 (I:Inv X pins σ H s):∀ (n:Nat) (A:Around) {d e:D} {x y:V} {v u:Value},D.dep d≤n→A.units+n < cLine→Dr X.K H d x→Dr X.K H e y→D.ok d e→z1n x v→z1n y u→EqAt A s v u (D.eq d e)∧(∀ l b,x=.ref l→y=.ref b→RcAt A s v u (D.eq d e)):=by
 intro n
 induction n with
 | zero =>
  intro A d e x y v u hd hu hx hy o rx ry
  cases d<;>cases e<;>simp only [D.ok] at o<;>simp only [D.dep,Nat.le_zero,Nat.add_eq_zero_iff,Nat.one_ne_zero,and_false] at hd
  ·simp only [Dr] at hx hy;subst hx hy;cases rx;cases ry
   exact ⟨EqAt.same _,fun _ _ h=>nomatch h⟩
  ·rename_i a b
   simp only [Dr] at hx hy;subst hx hy;cases rx;cases ry
   simp only [D.eq]
   exact ⟨EqAt.bool_bool _ _,fun _ _ h=>nomatch h⟩
  ·rename_i a b
   simp only [Dr] at hx hy;subst hx hy;obtain ⟨t,rfl⟩:=rx;obtain ⟨t',rfl⟩:=ry
   simp only [D.eq]
   exact ⟨fun prog w E Q h=>wpAny_eqBool_int h,fun _ _ h=>nomatch h⟩
  ·rename_i a b
   simp only [Dr] at hx hy;subst hx hy;obtain ⟨t,rfl⟩:=rx;obtain ⟨t',rfl⟩:=ry
   simp only [D.eq]
   exact ⟨fun prog w E Q h=>wpAny_eqBool_str h,fun _ _ h=>nomatch h⟩
 | succ n ih =>
  intro A d e x y v u hd hu hx hy o rx ry
  have flat:D.dep d≤0→EqAt A s v u (D.eq d e)∧(∀ l b,x=.ref l→y=.ref b→RcAt A s v u (D.eq d e)):=fun z=>ih A (Nat.le_trans z (Nat.zero_le _)) (by lia) hx hy o rx ry
  have hin:A.in1.units+n < cLine:=by show A.units+1+n < cLine;lia
  have both:∀ {l b:Addr} {k:Bool},RcAt A s (.ref l) (.ref b) k→(l=b→k=true)→EqAt A s (.ref l) (.ref b) k:=fun {l b k} h hk=>by
   by_cases e:l=b
   ·have z:=hk e
    subst e
    rw [z]
    exact EqAt.same _
   ·exact EqAt.of_refs e h
  have items:∀ {ds es:List D} {vs us:List V} {its itt:List Value},D.depL ds≤n→D.okL ds es→DrL X.K H ds vs→DrL X.K H es us→z1i vs its→z1i us itt→∀ j (h1:j < its.toArray.size) (h2:j < itt.toArray.size),EqAt A.in1 s its.toArray[j] itt.toArray[j] (D.at_ ds es j):=by
   intro ds es vs us its itt hdp hok r r' rv rv' j h1 h2
   have l1:=rv.length
   have l2:=rv'.length
   have l3:=r.length
   have l4:=r'.length
   have h1':j < its.length:=by simpa using h1
   have h2':j < itt.length:=by simpa using h2
   have e1:ds[j]?=some ds[j]:=List.getElem?_eq_getElem (by lia)
   have e2:es[j]?=some es[j]:=List.getElem?_eq_getElem (by lia)
   obtain ⟨x1,g1,d1⟩:=r.get e1
   obtain ⟨x2,g2,d2⟩:=r'.get e2
   obtain ⟨u1,k1,q1⟩:=rv.get g1
   obtain ⟨u2,k2,q2⟩:=rv'.get g2
   have z1:u1=its.toArray[j]:=by
    rw [List.getElem?_eq_getElem h1'] at k1
    have:=Option.some.inj k1
    simpa using this.symm
   have z2:u2=itt.toArray[j]:=by
    rw [List.getElem?_eq_getElem h2'] at k2
    have:=Option.some.inj k2
    simpa using this.symm
   have z3:D.at_ ds es j=D.eq ds[j] es[j]:=by unfold D.at_;rw [e1,e2]
   rw [z3,←z1,←z2]
   exact (ih A.in1 (Nat.le_trans (D.depL_get e1) hdp) hin d1 d2 (D.okL_get hok e1 e2) q1 q2).1
  cases d with
  | non=>exact flat (Nat.le_refl _)
  | bl _=>exact flat (Nat.le_refl _)
  | int _=>exact flat (Nat.le_refl _)
  | str _=>exact flat (Nat.le_refl _)
  | tup ds =>
   cases e<;>simp only [D.ok] at o
   rename_i es
   have inj:=fun (q:x=y)=>Dr.inj I hx (q ▸ hy) (by simp only [D.ok];exact o)
   have hdp:D.depL ds≤n:=by simp only [D.dep] at hd;lia
   simp only [Dr] at hx hy
   obtain ⟨l,vs,rfl,q,r⟩:=hx
   obtain ⟨b,us,rfl,q',r'⟩:=hy
   cases rx
   cases ry
   obtain ⟨its,rv,pl,_⟩:=I.tuple (SqT.of q)
   obtain ⟨itt,rv',pl',_⟩:=I.tuple (SqT.of q')
   have R:RcAt A s (.ref l) (.ref b) (D.eq (.tup ds) (.tup es)):=by
    have z:=RcAt.tuples (A:=A) (e:=D.at_ ds es) pl pl' (by lia) (items hdp o r r' rv rv')
    have e1:its.toArray.size=ds.length:=by rw [r.length,rv.length];simp
    have e2:itt.toArray.size=es.length:=by rw [r'.length,rv'.length];simp
    rw [e1,e2,D.all_eqL] at z
    simp only [D.eq]
    exact z
   exact ⟨both R fun h=>by subst h;have:=inj rfl;rw [this];exact D.eq_refl _,fun _ _ _ _=>R⟩
  | lst ds =>
   cases e<;>simp only [D.ok] at o
   rename_i es
   have inj:=fun (q:x=y)=>Dr.inj I hx (q ▸ hy) (by simp only [D.ok];exact o)
   have hdp:D.depL ds≤n:=by simp only [D.dep] at hd;lia
   simp only [Dr] at hx hy
   obtain ⟨l,vs,rfl,q,r⟩:=hx
   obtain ⟨b,us,rfl,q',r'⟩:=hy
   cases rx
   cases ry
   obtain ⟨its,rv,pl,_⟩:=I.list q
   obtain ⟨itt,rv',pl',_⟩:=I.list q'
   have e1:its.toArray.size=ds.length:=by rw [r.length,rv.length];simp
   have e2:itt.toArray.size=es.length:=by rw [r'.length,rv'.length];simp
   have R:RcAt A s (.ref l) (.ref b) (D.eq (.lst ds) (.lst es)):=by
    by_cases hl:ds.length=es.length
    ·have z:=RcAt.lists (A:=A) (e:=D.at_ ds es) pl.isList pl'.isList (by lia) (by lia) (items hdp o r r' rv rv')
     rw [e1,D.all_eqL' hl] at z
     simp only [D.eq]
     exact z
    ·have z:=RcAt.lists_lengths (A:=A) pl.isList pl'.isList (by rw [e1,e2];simpa using hl) (by lia)
     simp only [D.eq]
     rw [D.eqL_len hl]
     exact z
   exact ⟨both R fun h=>by subst h;have:=inj rfl;rw [this];exact D.eq_refl _,fun _ _ _ _=>R⟩
theorem zdS (hu:X.A.units+64 < cLine):OpR X (compareOp .Eq) (fun x y H Q=>∃ (a b:Addr) (d e:D),x=.ref a∧y=.ref b∧Dr X.K H d x∧Dr X.K H e y∧D.ok d e∧D.dep d≤50∧Q (.bl (D.eq d e)) H):=by
 intro pins s σ H x y v u Q I rx ry h
 obtain ⟨a,b,d,e,hx,hy,dx,dy,o,hd,q⟩:=h
 have R:=(zg4 I 50 X.A hd (by lia) dx dy o rx ry).2 a b hx hy
 exact R _ _ _ _ ⟨.bl _,H,I,rfl,q⟩
end
end L2
namespace L2
open PySem PySem.Spec PyProof.Rows PySem.SeqAt
open PySem.AutoSeq1 (wpAny_loadPart')
section
variable {X:Cx}
end
end L2
namespace L2
open PySem PySem.Spec PyProof.Rows
section
variable {X:Cx} (K:PySem.W.Frag)
theorem ixL (h:X.K=K):IxR X (zhA K):=h ▸ z1f
theorem ixT (h:X.K=K):IxR X (zhE K):=h ▸ z1G
theorem zhx (h:X.K=K):z3s X (.type "tuple") (fun xs H Q=>∃ p ys,xs=[.ref p]∧((SqL K H p ys∧∀ l,H l=none→Q (.ref l) (upd H l (.tup ys)))∨(SqT K H p ys∧Q (.ref p) H))):=h ▸ z0p
theorem piT {tg l:Expr} {tl:TE} (h:X.K=K) (hl:PE X l tl):PI X tg l (zhF K tl):=h ▸ z2Q hl
variable {o e:Expr} {es:List Expr} {to:TE} {t:TA} {name:Str} {apos cpos:Pos} {T id:String} {r:V→List V→Hp→VK→Prop}
theorem zit (h:X.K=K) (hc:X.calm=true):z3s X (.builtin "any") (fun xs H Q=>∃ (p:Addr) (bs:List Bool),xs=[.ref p]∧SqL K H p (bs.map V.bl)∧Q (.bl (bs.any _root_.id)) H):=h ▸ zd8 hc
theorem pgT {es:List Expr} {k:Nat} {t:TGs} {n:Nat} {pos:Pos} (h:X.K=K) (hc:X.calm=true) (hp:PGs X es t)
  (hn:(assignEach es X.env).length=n:=by rfl) (hst:(assignEach es X.env).findIdx? (·.1)=none:=by rfl):PG X (.Tuple es k pos) (zhH K n t):=h ▸ z1R hc hp hn hst
theorem zgN {elts:List Expr} {tk:Nat} {tp:Pos} {a b:Expr} {ta:TA} {p pos:Pos} (h:X.K=K) (hg:Gl X "zip") (hm:X.mg "zip"=none) (ha:PA X [a,b] ta) (hs:starEach [a,b] X.env=[(false,eval a X.env),(false,eval b X.env)]:=by rfl) (hs2:starEach [b] X.env=[(false,eval b X.env)]:=by rfl) :
  PI X (.Tuple elts tk tp) (.Call (.Name "zip" p) [a,b] [] pos) (zhz K ta):=h ▸ zdV hg hm ha hs hs2
end
mutual
def D.few:D→Prop
 | .tup a=>a.length≤5000∧D.fewL a
 | .lst a=>a.length≤5000∧D.fewL a
 | _=>True
def D.fewL:List D→Prop
 | []=>True
 | d::ds=>D.few d∧D.fewL ds
end
theorem D.depL_ints:∀ ns:List Int,D.depL (ns.map D.int)=0
 | []=>by simp only [List.map_nil,D.depL]
 | n::r=>by simp only [List.map_cons,D.depL,D.dep,D.depL_ints r];rfl
end L2
namespace Gu
open PySem L2
def cell (ns:List Int) (i:Nat):Int:=if i < ns.length then ns.getD i 0 else if ns.length=0 then 29*i+5 else ns.getD (i % ns.length) 0 % 1000003+103*i
def z45 (ns:List Int) (i:Nat):Int:=2+cell ns i % 4
theorem z5P (ns:List Int) (i:Nat):2≤z45 ns i:=by unfold z45;have:=Int.emod_nonneg (cell ns i) (show (4:Int)≠0 by decide);lia
theorem za1 (ns:List Int) (i:Nat):z45 ns i≤5:=by unfold z45;have:=Int.emod_lt_of_pos (cell ns i) (show (0:Int) < 4 by decide);lia
def zdN (ns:List Int) (i:Nat):Nat:=(z45 ns i).toNat
theorem zeO (ns:List Int) (i:Nat):2≤zdN ns i:=by unfold zdN;have:=z5P ns i;lia
theorem zel (ns:List Int) (i:Nat):zdN ns i≤5:=by unfold zdN;have:=za1 ns i;lia
theorem zdD (ns:List Int) (i:Nat):((zdN ns i:Nat):Int)=2+cell ns i % 4:=by unfold zdN;have:=z5P ns i;unfold z45 at *;lia
def z0z (n:Nat):List Int:=(List.range n).map fun (i:Nat)=>(i:Int)
theorem z0D (n:Nat):(z0z n).length=n:=by simp [z0z]
theorem z1t {n i:Nat} (h:i < n):(z0z n)[i]?=some (i:Int):=by simp [z0z,h]
theorem z0K {n:Nat} {x:Int}:x∈z0z n↔0≤x∧x < n:=by
 constructor
 ·intro h
  obtain ⟨i,hi,rfl⟩:=List.mem_map.mp h
  have:=List.mem_range.mp hi
  lia
 ·intro ⟨h0,h1⟩
  exact List.mem_map.mpr ⟨x.toNat,List.mem_range.mpr (by lia),by lia⟩
theorem z42 (n:Nat):(z0z n).Nodup:=by
 unfold z0z
 rw [List.nodup_iff_pairwise_ne,List.pairwise_map]
 exact List.Pairwise.imp (fun h=>by lia) List.nodup_range
theorem z5q (n:Nat):zcq 0 n=(z0z n).map V.int:=by
 unfold zcq z0z
 rw [List.map_map]
 refine List.map_congr_left fun i _=>?_
 simp
theorem z36:∀ (l:List Int) (i:Nat) (h:i < l.length),(l[i]::l.eraseIdx i).Perm l
 | [],_,h=>by simp at h
 | a::r,0,_=>List.Perm.refl _
 | a::r,i+1,h=>by
  have ih:=z36 r i (by simpa using h)
  show (r[i]'(by simpa using h)::a::r.eraseIdx i).Perm (a::r)
  exact (List.Perm.swap _ _ _).trans (ih.cons a)
def zdL:Nat→Int→List Int→List Int
 | 0,_,_=>[]
 | k+1,p,left=>left.getD (p % (left.length:Int)).toNat 0::zdL k (p / (left.length:Int)) (left.eraseIdx (p % (left.length:Int)).toNat)
def zcF (pick:Int) (n:Nat):List Int:=zdL n pick (z0z n)
theorem z7y:∀ (k:Nat) (p:Int) (left:List Int),left.length=k→(zdL k p left).Perm left
 | 0,_,left,h=>by
  have:left=[]:=List.length_eq_zero_iff.mp h
  subst this
  exact List.Perm.refl _
 | k+1,p,left,h=>by
  have hpos:(0:Int) < left.length:=by lia
  have h0:=Int.emod_nonneg p (show (left.length:Int)≠0 by lia)
  have h1:=Int.emod_lt_of_pos p hpos
  have hi:(p % (left.length:Int)).toNat < left.length:=by lia
  unfold zdL
  have e:left.getD (p % (left.length:Int)).toNat 0=left[(p % (left.length:Int)).toNat]:=by simp [hi]
  rw [e]
  have ih:=z7y k (p / (left.length:Int)) (left.eraseIdx (p % (left.length:Int)).toNat) (by rw [List.length_eraseIdx_of_lt hi];lia)
  exact (ih.cons _).trans (z36 _ _ hi)
theorem zah (pick:Int) (n:Nat):(zcF pick n).Perm (z0z n):=z7y n pick (z0z n) (z0D n)
def IsP (n:Nat) (p:List Int):Prop:=p.Perm (z0z n)
theorem IsP.len {n:Nat} {p:List Int} (h:IsP n p):p.length=n:=by rw [List.Perm.length_eq h,z0D]
theorem IsP.nodup {n:Nat} {p:List Int} (h:IsP n p):p.Nodup:=(List.Perm.nodup_iff h).mpr (z42 n)
theorem IsP.mem {n:Nat} {p:List Int} (h:IsP n p) {x:Int}:x∈p↔0≤x∧x < n:=(List.Perm.mem_iff h).trans z0K
theorem IsP.get {n:Nat} {p:List Int} (h:IsP n p) {i:Nat} (hi:i < n):∃ x:Int,p[i]?=some x∧0≤x∧x < n:=by
 have hl:=h.len
 refine ⟨p[i],List.getElem?_eq_getElem (by lia),?_⟩
 exact h.mem.mp (List.getElem_mem (by lia))
theorem IsP.find {n:Nat} {p:List Int} (h:IsP n p) {x:Int} (h0:0≤x) (h1:x < n):∃ j:Nat,j < n∧p[j]?=some x∧∀ m,m < j→p[m]?≠some x:=by
 obtain ⟨j,hj,e⟩:=List.getElem_of_mem (h.mem.mpr ⟨h0,h1⟩)
 have hl:=h.len
 have ej:p[j]?=some x:=by rw [List.getElem?_eq_getElem hj,e]
 refine ⟨j,by lia,ej,fun m hm q=>?_⟩
 have hml:m < p.length:=by lia
 rw [List.getElem?_eq_getElem hml] at q
 have q':p[m]=p[j]:=by rw [e];exact Option.some.inj q
 have:=(List.getElem_inj h.nodup).mp q'
 lia
def z1L (one other:List Int):List Int:=one.map fun x=>other.getD x.toNat 0
def z1q (p:List Int):List Int:=(z0z p.length).map fun k=>((p.idxOf k:Nat):Int)
theorem zaP {n:Nat} {p ys:List Int} (h:IsP n p) (hl:ys.length=n) (hy:∀ (m:Nat) (x:Int),p[m]?=some x→ys[x.toNat]?=some (m:Int)):ys=z1q p:=by
 unfold z1q
 rw [h.len]
 refine List.ext_getElem? fun k=>?_
 by_cases hk:k < n
 ·obtain ⟨j,hj,ej,hm⟩:=h.find (x:=(k:Int)) (by lia) (by lia)
  have:=hy j k ej
  simp only [Int.toNat_natCast] at this
  rw [this,List.getElem?_map,z1t hk]
  have hjl:j < p.length:=by rw [h.len];exact hj
  have e1:p[j]=(k:Int):=by rw [List.getElem?_eq_getElem hjl] at ej;exact Option.some.inj ej
  have e2:p.idxOf (k:Int)=j:=by
   rw [←e1]
   exact List.Nodup.idxOf_getElem h.nodup j hjl
  simp [e2]
 ·rw [List.getElem?_eq_none (by lia),List.getElem?_eq_none (by rw [List.length_map,z0D];lia)]
theorem z6w {n:Nat} {p:List Int} (h:IsP n p) {m:Nat} {x:Int} (e:p[m]?=some x):(z1q p)[x.toNat]?=some (m:Int):=by
 have hm:m < p.length:=(List.getElem?_eq_some_iff.mp e).1
 have e1:p[m]=x:=by rw [List.getElem?_eq_getElem hm] at e;exact Option.some.inj e
 have hx:=h.mem.mp (e1 ▸ List.getElem_mem hm)
 unfold z1q
 rw [List.getElem?_map,z1t (n:=p.length) (i:=x.toNat) (by rw [h.len];lia)]
 have e2:((x.toNat:Nat):Int)=x:=by lia
 have e3:p.idxOf x=m:=by rw [←e1];exact List.Nodup.idxOf_getElem h.nodup m hm
 simp [e2,e3]
theorem z1P {p:List Int}:(z1q p).length=p.length:=by simp [z1q,z0D]
theorem zaG {n:Nat} {p:List Int} (h:IsP n p):z1L p (z1q p)=z0z n:=by
 refine List.ext_getElem? fun m=>?_
 unfold z1L
 rw [List.getElem?_map]
 by_cases hm:m < n
 ·have hml:m < p.length:=by rw [h.len];exact hm
  have e:p[m]?=some p[m]:=List.getElem?_eq_getElem hml
  rw [e,z1t hm]
  have:=z6w h e
  simp [this]
 ·rw [List.getElem?_eq_none (by rw [h.len];lia),List.getElem?_eq_none (by rw [z0D];lia)]
  rfl
end Gu
namespace L2
open PySem PySem.Spec PyProof.Rows PySem.SeqAt
instance:DecidableEq D:=fun a b=>if h:D.eq a b=true then isTrue (D.eq_of h) else isFalse fun e=>h (by rw [e];exact D.eq_refl b)
theorem D.dec (a b:D):decide (a=b)=D.eq a b:=by
 by_cases h:D.eq a b=true
 ·rw [decide_eq_true (D.eq_of h),h]
 ·rw [decide_eq_false (fun e=>h (by rw [e];exact D.eq_refl b)),Bool.eq_false_iff.mpr h]
mutual
def Hd (h:Heap):D→Value→Prop
 | .int i,v=>∃ t,v=.int i t
 | .tup ds,v=>∃ (a:Addr) (o:Obj) (its:Array Value) (n:Nat),v=.ref a∧h.get? a=some o∧o.cls=.type "tuple"∧o.data=.seq its n∧HdL h ds its.toList
 | _,_=>False
def HdL (h:Heap):List D→List Value→Prop
 | [],vs=>vs=[]
 | d::ds,vs=>∃ v r,vs=v::r∧Hd h d v∧HdL h ds r
end
mutual
def D.hash:D→Int
 | .int i=>hashInt i
 | .tup ds=>reduceHash (Builtin.Tuple.tupleHashOf (D.hashL ds))
 | _=>0
def D.hashL:List D→List Int
 | []=>[]
 | d::ds=>D.hash d::D.hashL ds
end
mutual
def D.draws:D→Nat
 | .tup ds=>D.drawsL ds+1
 | _=>1
def D.drawsL:List D→Nat
 | []=>0
 | d::ds=>D.draws d+D.drawsL ds
end
theorem D.hashL_app:∀ a b:List D,D.hashL (a++b)=D.hashL a++D.hashL b
 | [],b=>by simp only [List.nil_append,D.hashL]
 | d::a,b=>by simp only [List.cons_append,D.hashL,D.hashL_app a b]
theorem D.drawsL_app:∀ a b:List D,D.drawsL (a++b)=D.drawsL a+D.drawsL b
 | [],b=>by simp only [List.nil_append,D.drawsL,Nat.zero_add]
 | d::a,b=>by simp only [List.cons_append,D.drawsL,D.drawsL_app a b,Nat.add_assoc]
theorem HdL.length {h:Heap}:∀ {ds:List D} {vs:List Value},HdL h ds vs→ds.length=vs.length
 | [],_,h=>by simp only [HdL] at h;subst h;rfl
 | d::ds,_,h=>by
  simp only [HdL] at h
  obtain ⟨v,r,rfl,_,q⟩:=h
  rw [List.length_cons,List.length_cons,HdL.length q]
theorem HdL.get {h:Heap}:∀ {ds:List D} {vs:List Value} {i:Nat} {d:D},HdL h ds vs→ds[i]?=some d→∃ v,vs[i]?=some v∧Hd h d v
 | [],_,_,_,_,e=>by simp at e
 | d::ds,_,0,_,h,e=>by
  simp only [HdL] at h
  obtain ⟨v,r,rfl,q,_⟩:=h
  simp at e;subst e
  exact ⟨v,rfl,q⟩
 | d::ds,_,i+1,d',h,e=>by
  simp only [HdL] at h
  obtain ⟨v,r,rfl,_,q⟩:=h
  obtain ⟨v',h1,h2⟩:=HdL.get (i:=i) q (by simpa using e)
  exact ⟨v',by simpa using h1,h2⟩
mutual
theorem Hd.keep {h h':Heap} (k:∀ a o its n,h.get? a=some o→o.cls=.type "tuple"→o.data=.seq its n→h'.get? a=some o):∀ {d:D} {v:Value},Hd h d v→Hd h' d v
 | .int _,_,q=>by simp only [Hd] at q ⊢;exact q
 | .tup ds,_,q=>by
  simp only [Hd] at q ⊢
  obtain ⟨a,o,its,n,e,h1,h2,h3,h4⟩:=q
  exact ⟨a,o,its,n,e,k a o its n h1 h2 h3,h2,h3,HdL.keep k h4⟩
 | .non,_,q=>by simp only [Hd] at q
 | .bl _,_,q=>by simp only [Hd] at q
 | .str _,_,q=>by simp only [Hd] at q
 | .lst _,_,q=>by simp only [Hd] at q
theorem HdL.keep {h h':Heap} (k:∀ a o its n,h.get? a=some o→o.cls=.type "tuple"→o.data=.seq its n→h'.get? a=some o):∀ {ds:List D} {vs:List Value},HdL h ds vs→HdL h' ds vs
 | [],_,q=>by simp only [HdL] at q ⊢;exact q
 | d::ds,_,q=>by
  simp only [HdL] at q ⊢
  obtain ⟨v,r,e,q1,q2⟩:=q
  exact ⟨v,r,e,Hd.keep k q1,HdL.keep k q2⟩
end
mutual
theorem Hd.inj {h:Heap}:∀ {d e:D} {v:Value},Hd h d v→Hd h e v→d=e
 | .int _,e,v,p,q=>by
  simp only [Hd] at p
  obtain ⟨t,rfl⟩:=p
  cases e<;>simp only [Hd] at q
  ·obtain ⟨t',e⟩:=q;injection e with e;rw [e]
  ·obtain ⟨a,_,_,_,e,_⟩:=q;cases e
 | .tup ds,e,v,p,q=>by
  simp only [Hd] at p
  obtain ⟨a,o,its,n,rfl,h1,h2,h3,h4⟩:=p
  cases e<;>simp only [Hd] at q
  ·obtain ⟨t',e⟩:=q;cases e
  ·obtain ⟨b,o',its',n',e,g1,g2,g3,g4⟩:=q
   cases e
   rw [h1] at g1;cases g1
   rw [h3] at g3;injection g3 with e1 _;subst e1
   rw [HdL.inj h4 g4]
 | .non,_,_,q,_=>by simp only [Hd] at q
 | .bl _,_,_,q,_=>by simp only [Hd] at q
 | .str _,_,_,q,_=>by simp only [Hd] at q
 | .lst _,_,_,q,_=>by simp only [Hd] at q
theorem HdL.inj {h:Heap}:∀ {ds es:List D} {vs:List Value},HdL h ds vs→HdL h es vs→ds=es
 | [],[],_,_,_=>rfl
 | [],_::_,_,p,q=>by
  simp only [HdL] at p q
  obtain ⟨_,_,e,_⟩:=q;rw [p] at e;cases e
 | _::_,[],_,p,q=>by
  simp only [HdL] at p q
  obtain ⟨_,_,e,_⟩:=p;rw [q] at e;cases e
 | d::ds,e::es,_,p,q=>by
  simp only [HdL] at p q
  obtain ⟨v,r,rfl,p1,p2⟩:=p
  obtain ⟨u,w,eq,q1,q2⟩:=q
  cases eq
  rw [Hd.inj p1 q1,HdL.inj p2 q2]
end
section
variable {prog:Program} {w:World}
theorem zbA:∀ (n:Nat) {A:Around} {E:Value→Shared→Prop} {s:Shared} {d:D} {v:Value} {Q:Int→Shared→Prop},D.dep d≤n→A.units+n < cLine→Hd s.heap d v→Q (D.hash d) { s with toks:=s.toks+D.draws d }→wpAny (model prog w) A (pyHash v) Q E s:=by
 intro n
 induction n with
 | zero =>
  intro A E s d v Q hd hu hv h
  cases d<;>simp only [Hd] at hv<;>simp only [D.dep,Nat.le_zero,Nat.add_eq_zero_iff,Nat.one_ne_zero,and_false] at hd
  obtain ⟨t,rfl⟩:=hv
  exact wpAny_pyHash_int h
 | succ n ih =>
  intro A E s d v Q hd hu hv h
  cases d with
  | int i =>
   simp only [Hd] at hv
   obtain ⟨t,rfl⟩:=hv
   exact wpAny_pyHash_int h
  | tup ds =>
   simp only [Hd] at hv
   simp only [D.dep] at hd
   obtain ⟨a,o,its,m,rfl,ho,hc,hdd,hi⟩:=hv
   have hT:s.TypeIs (.ref a) "tuple":=⟨o,ho,hc⟩
   have hin:A.in1.units+n < cLine:=by show A.units+1+n < cLine;lia
   unfold pyHash
   first | unfold pyHashByItsType | skip
   first | refine wpAny_bind (wpAny_cRoomFor_or (.inr (show A.units < cLine by lia)) ?_) | skip
   refine wpAny_bind (wpAny_specialOf hT F.slot_tuple_hash.lookup ?_)
   show wpAny _ _ (if (some (Value.builtin "tuple.__hash__") == some Value.none)=true
    then _ else _) Q E s
   rw [if_neg (by rw [beq_builtin_none];exact Bool.false_ne_true)]
   refine wpAny_bind (wpAny_specialOf hT F.slot_tuple_hash.lookup ?_)
   show wpAny _ _ (callSpecialIfBoundUnlessNone? (.ref a) "__hash__" _
    >>= _) Q E s
   refine wpAny_bind (wpAny_callSpecialIfBoundUnlessNone?_slot hT F.slot_tuple_hash (wpAny_call_entry F.slot_tuple_hash
    hT F.entry_tuple_hash ?_ (F.args_tuple_hash_1 _)))
   show wpAny _ _ (Builtin.Tuple.tupleItemsOf (.ref a) >>= _) _ _ s
   refine wpAny_bind (wpAny_tupleItemsOf ho hdd (wpAny_bind ?_))
   rw [←Array.forIn_toList]
   refine wpAny_forIn_list _ (fun z5D (b:Array Int) s'=>∃ done left,ds=done++left∧HdL s.heap left z5D∧b.toList=D.hashL done∧s'={ s with toks:=s.toks+D.drawsL done }) _ ?_ ?_ _ _ ⟨[],ds,rfl,hi,by simp only [D.hashL],by simp only [D.drawsL,Nat.add_zero]⟩
   ·rintro x z5D b s' ⟨done,left,e,hl,hb,rfl⟩
    cases left with
    | nil=>simp only [HdL] at hl;cases hl
    | cons k ks =>
     simp only [HdL] at hl
     obtain ⟨v',r,ev,q1,q2⟩:=hl
     cases ev
     have hk:D.dep k≤n:=by
      have z:ds[done.length]?=some k:=by rw [e];simp
      have:=D.depL_get z
      lia
     refine wpAny_bind (ih hk hin q1 ?_)
     have fin:∃ done' left',ds=done'++left'∧HdL s.heap left' z5D∧(b.push (D.hash k)).toList=D.hashL done'∧({ s with toks:=s.toks+D.drawsL done+D.draws k }:Shared)={ s with toks:=s.toks+D.drawsL done' } :=
      ⟨done++[k],ks,by rw [e];simp,q2,by rw [D.hashL_app,←hb];simp [D.hashL],by rw [D.drawsL_app];simp only [D.drawsL,Nat.add_zero,Nat.add_assoc]⟩
     first
      | exact wpAny_pure fin
      | exact wpAny_bind (wpAny_pure (wpAny_pure fin))
   ·rintro b s' ⟨done,left,e,hl,hb,rfl⟩
    cases left with
    | cons k ks=>simp only [HdL] at hl;obtain ⟨_,_,e,_⟩:=hl;cases e
    | nil =>
     rw [List.append_nil] at e
     subst e
     show wpAny _ _ (retInt (Builtin.Tuple.tupleHashOf b.toList))
      _ _ _
     rw [hb]
     refine wpAny_ret_mkInt ?_
     show wpAny _ _ (if (decide (-(2:Int) ^ 63≤Builtin.Tuple.tupleHashOf (D.hashL ds)) && decide (Builtin.Tuple.tupleHashOf (D.hashL ds) < 2 ^ 63))=true then _ else _) Q E _
     simp only [D.hash] at h
     unfold reduceHash at h
     simp only [D.draws] at h
     by_cases hr:(decide (-(2:Int) ^ 63≤Builtin.Tuple.tupleHashOf (D.hashL ds)) && decide (Builtin.Tuple.tupleHashOf (D.hashL ds) < 2 ^ 63))=true
     ·rw [if_pos hr]
      rw [if_pos hr] at h
      exact wpAny_pure (by simpa [Nat.add_assoc] using h)
     ·rw [if_neg hr]
      rw [if_neg hr] at h
      exact wpAny_bind (wpAny_rule (wpAny_pure (by simpa [Nat.add_assoc] using h)))
  | non=>simp only [Hd] at hv
  | bl _=>simp only [Hd] at hv
  | str _=>simp only [Hd] at hv
  | lst _=>simp only [Hd] at hv
end
end L2
namespace L2
open PySem PySem.Spec PyProof.Rows PySem.SeqAt
section
variable {prog:Program} {w:World}
theorem zek {s:Shared}:∀ (n:Nat) (A:Around) {d e:D} {v u:Value},D.dep d≤n→A.units+n < cLine→Hd s.heap d v→Hd s.heap e u→EqAt A s v u (D.eq d e):=by
 intro n
 induction n with
 | zero =>
  intro A d e v u hd hu hv hx
  cases d<;>simp only [Hd] at hv<;>simp only [D.dep,Nat.le_zero,Nat.add_eq_zero_iff,Nat.one_ne_zero,and_false] at hd
  obtain ⟨t,rfl⟩:=hv
  cases e<;>simp only [Hd] at hx
  ·obtain ⟨t',rfl⟩:=hx
   simp only [D.eq]
   exact EqAt.int_int _ _ _ _
  ·obtain ⟨a,o,its,m,rfl,ho,hc,hdd,hi⟩:=hx
   simp only [D.eq]
   exact EqAt.int_tuple _ _ (items:=its) ⟨o,ho,hc,m,hdd⟩ (by lia)
 | succ n ih =>
  intro A d e v u hd hu hv hx
  have hin:A.in1.units+n < cLine:=by show A.units+1+n < cLine;lia
  cases d with
  | int i=>exact ih A (Nat.zero_le _) (by lia) hv hx
  | tup ds =>
   simp only [Hd] at hv
   simp only [D.dep] at hd
   obtain ⟨a,o,its,m,rfl,ho,hc,hdd,hi⟩:=hv
   have ta:s.heap.IsTuple a its:=⟨o,ho,hc,m,hdd⟩
   cases e with
   | int j =>
    simp only [Hd] at hx
    obtain ⟨t',rfl⟩:=hx
    simp only [D.eq]
    exact EqAt.tuple_int _ _ ta (by lia)
   | tup es =>
    have inj:Value.ref a=u→D.tup ds=D.tup es:=fun z=>Hd.inj (h:=s.heap) (v:=u) (by rw [←z];simp only [Hd];exact ⟨a,o,its,m,rfl,ho,hc,hdd,hi⟩) hx
    simp only [Hd] at hx
    obtain ⟨b,o',its',m',rfl,ho',hc',hdd',hi'⟩:=hx
    have tb:s.heap.IsTuple b its':=⟨o',ho',hc',m',hdd'⟩
    have e1:its.size=ds.length:=by have:=hi.length;simp at this;lia
    have e2:its'.size=es.length:=by have:=hi'.length;simp at this;lia
    have z:=RcAt.tuples (A:=A) (e:=D.at_ ds es) ta tb (by lia) (fun j h1 h2=>by
     have g1:ds[j]?=some ds[j]:=List.getElem?_eq_getElem (by lia)
     have g2:es[j]?=some es[j]:=List.getElem?_eq_getElem (by lia)
     obtain ⟨x1,k1,q1⟩:=hi.get g1
     obtain ⟨x2,k2,q2⟩:=hi'.get g2
     have z1:x1=its[j]:=by simp [h1] at k1;exact k1.symm
     have z2:x2=its'[j]:=by simp [h2] at k2;exact k2.symm
     have z3:D.at_ ds es j=D.eq ds[j] es[j]:=by unfold D.at_;rw [g1,g2]
     rw [z3,←z1,←z2]
     exact ih A.in1 (Nat.le_trans (D.depL_get g1) (by lia)) hin q1 q2)
    rw [e1,e2,D.all_eqL] at z
    simp only [D.eq]
    by_cases hab:a=b
    ·have:=inj (by rw [hab])
     injection this with this
     subst this hab
     rw [D.eqL_refl]
     exact EqAt.same _
    ·exact EqAt.of_refs hab z
   | non=>simp only [Hd] at hx
   | bl _=>simp only [Hd] at hx
   | str _=>simp only [Hd] at hx
   | lst _=>simp only [Hd] at hx
  | non=>simp only [Hd] at hv
  | bl _=>simp only [Hd] at hv
  | str _=>simp only [Hd] at hv
  | lst _=>simp only [Hd] at hv
theorem za0 {A:Around} {E:Value→Shared→Prop} {s:Shared}:∀ (n:Nat) {d:D} {v:Value} {Q:Bool→Shared→Prop},D.dep d≤n→Hd s.heap d v→Q true s→wpAny (model prog w) A (eqIsQuiet n v) Q E s:=by
 have flat:∀ (n:Nat) {i:Int} {t:Tok} {Q:Bool→Shared→Prop},Q true s→wpAny (model prog w) A (eqIsQuiet n (.int i t)) Q E s:=fun n i t Q h=>by
  rw [eqIsQuiet_byValue n (v:=.int i t) rfl]
  exact wpAny_pure h
 intro n
 induction n with
 | zero =>
  intro d v Q hd hv h
  cases d<;>simp only [Hd] at hv<;>simp only [D.dep,Nat.le_zero,Nat.add_eq_zero_iff,Nat.one_ne_zero,and_false] at hd
  obtain ⟨t,rfl⟩:=hv
  exact flat 0 h
 | succ n ih =>
  intro d v Q hd hv h
  cases d with
  | int i =>
   simp only [Hd] at hv
   obtain ⟨t,rfl⟩:=hv
   exact flat _ h
  | tup ds =>
   simp only [Hd] at hv
   simp only [D.dep] at hd
   obtain ⟨a,o,its,m,rfl,ho,hc,hdd,hi⟩:=hv
   have hT:s.TypeIs (.ref a) "tuple":=⟨o,ho,hc⟩
   unfold eqIsQuiet
   refine wpAny_bind (wpAny_specialOf hT F.slot_tuple_eq.lookup ?_)
   show wpAny _ _ (isInstance (.ref a) (.type "tuple")
    >>= _) _ _ s
   refine wpAny_bind (wpAny_isInstance hT isSubtype_tuple_tuple ?_)
   simp only [Bool.not_true,Bool.false_eq_true,if_false]
   refine wpAny_bind (wpAny_seqItems ho hdd (wpAny_bind ?_))
   show wpAny _ _ (forIn its _ _) _ _ s
   rw [←Array.forIn_toList]
   refine wpAny_forIn_list _ (fun z5D r s'=>r.1=none∧s'=s∧∃ left,HdL s.heap left z5D∧D.depL left≤n) _ ?_ ?_ _ _ ⟨rfl,rfl,ds,hi,by lia⟩
   ·rintro x z5D r s' ⟨hr,rfl,left,hl,hdl⟩
    cases left with
    | nil=>simp only [HdL] at hl;cases hl
    | cons k ks =>
     simp only [HdL] at hl
     simp only [D.depL] at hdl
     obtain ⟨v',q,ev,q1,q2⟩:=hl
     cases ev
     refine wpAny_bind (ih (by lia) q1 ?_)
     simp only [Bool.not_true,Bool.false_eq_true,if_false]
     exact wpAny_pure ⟨rfl,rfl,ks,q2,by lia⟩
   ·rintro ⟨r1,r2⟩ s' ⟨hr,rfl,_⟩
    simp only at hr
    subst hr
    exact wpAny_pure h
  | non=>simp only [Hd] at hv
  | bl _=>simp only [Hd] at hv
  | str _=>simp only [Hd] at hv
  | lst _=>simp only [Hd] at hv
def z2M (prog:Program) (w:World):HeapKind prog w D where
 is:=fun h d a=>Hd h d (.ref a)∧D.dep d≤8
 hash:=D.hash
 draws:=D.draws
 room:=fun A=>A.units+8 < cLine
 inj:=fun hx hy=>Hd.inj hx.1 hy.1
 keeps:=fun {h h' k a d o es ep} hx ho hd hs=>⟨Hd.keep (fun b o' its n e c q=>(hs.2 b (by
  rintro rfl
  rw [ho] at e;cases e;rw [hd] at q;cases q)).trans e) hx.1,hx.2⟩
 pyHash:=fun hu hk h=>zbA 8 hk.2 hu hk.1 h
 eqBool:=fun hu hx hy h=>by
  rw [D.dec] at h
  exact zek 8 _ hx.2 hu hx.1 hy.1 _ _ _ _ h
 quiet:=fun hk h=>za0 8 hk.2 hk.1 h
end
mutual
def D.key:D→Prop
 | .int _=>True
 | .tup ds=>D.keyL ds
 | _=>False
def D.keyL:List D→Prop
 | []=>True
 | d::ds=>D.key d∧D.keyL ds
end
section
variable {P:Program} {w:World} {K:PySem.W.Frag} {H:Hp} {h:Heap}
mutual
theorem Dr.hd (ok:HOk P w H h):∀ {d:D} {v:V} {u:Value},D.key d→Dr K H d v→z1n v u→Hd h d u
 | .int i,v,u,_,q,r=>by
  simp only [Dr] at q
  subst q
  simp only [Hd]
  exact r
 | .tup ds,v,u,k,q,r=>by
  simp only [Dr] at q
  simp only [D.key] at k
  obtain ⟨a,vs,rfl,e,q⟩:=q
  cases r
  obtain ⟨_,its,n,rv,h1⟩:=ok a _ e
  simp only [Hd]
  exact ⟨a,_,its.toArray,n,rfl,h1,rfl,rfl,by simpa using DrL.hd ok k q rv⟩
 | .non,_,_,k,_,_=>by simp only [D.key] at k
 | .bl _,_,_,k,_,_=>by simp only [D.key] at k
 | .str _,_,_,k,_,_=>by simp only [D.key] at k
 | .lst _,_,_,k,_,_=>by simp only [D.key] at k
theorem DrL.hd (ok:HOk P w H h):∀ {ds:List D} {vs:List V} {us:List Value},D.keyL ds→DrL K H ds vs→z1i vs us→HdL h ds us
 | [],vs,us,_,q,r=>by
  simp only [DrL] at q
  subst q
  cases r
  simp only [HdL]
 | d::ds,vs,us,k,q,r=>by
  simp only [DrL] at q
  simp only [D.keyL] at k
  obtain ⟨v,z,rfl,q1,q2⟩:=q
  cases r with
  | cons r1 r2 =>
   simp only [HdL]
   exact ⟨_,_,rfl,Dr.hd ok k.1 q1 r1,DrL.hd ok k.2 q2 r2⟩
end
end
end L2
namespace L2
open PySem PySem.Spec PyProof.Rows PySem.SeqAt
def zbx (P:Program) (w:World) (a:Addr) (xs:List (D × Addr × Value)):HO :=
 .ext fun h=>(a == sysModules)=false∧∃ o es ep,h.get? a=some o∧o.ExactDict∧o.data=.dict es ep∧es.toList=xs.map (entryOfKey (z2M P w))
abbrev KDr (K:PySem.W.Frag) (H:Hp):List (D × V)→List (D × Addr × Value)→Prop:=Paired fun p q=>p.1=q.1∧(D.key p.1∧D.dep p.1≤8∧Dr K H p.1 (.ref q.2.1))∧z1n p.2 q.2.2
def DD (P:Program) (w:World) (K:PySem.W.Frag) (H:Hp) (a:Addr) (kvs:List (D × V)):Prop :=
 ∃ xs,H a=some (zbx P w a xs)∧KDr K H kvs xs∧(kvs.map (·.1)).Nodup∧kvs.length≤sizeLine
theorem KDr.val {K:PySem.W.Frag} {H:Hp} {kvs:List (D × V)} {xs:List (D × Addr × Value)} (r:KDr K H kvs xs) (k:D):z8T (z3k kvs k) ((atKey xs k).map (·.2)):=by
 induction r with
 | nil=>exact True.intro
 | @cons p q ps qs h t ih =>
  obtain ⟨h1,_,h2⟩:=h
  by_cases e:p.1=k
  ·have e':q.1=k:=h1.symm.trans e
   have b:atKey (q::qs) k=some q.2:=by simp [atKey,List.find?_cons,e']
   rw [z38 e,b]
   exact h2
  ·have e':¬ q.1=k:=fun z=>e (h1.trans z)
   have b:atKey (q::qs) k=atKey qs k:=by simp [atKey,List.find?_cons,e']
   rw [z2H e,b]
   exact ih
theorem KDr.repl {K:PySem.W.Frag} {H:Hp} {kvs:List (D × V)} {xs:List (D × Addr × Value)} (r:KDr K H kvs xs) (k:D) {y:V} {u:Value} (ry:z1n y u) :
  KDr K H (kvs.map fun kv=>if kv.1=k then (kv.1,y) else kv) (xs.map (putAt k u)):=by
 induction r with
 | nil=>exact .nil
 | @cons p q ps qs h t ih =>
  rw [List.map_cons,List.map_cons]
  refine .cons ?_ ih
  obtain ⟨h1,h2,h3⟩:=h
  unfold putAt
  by_cases e:p.1=k
  ·rw [if_pos e,if_pos (h1.symm.trans e)]
   exact ⟨h1,h2,ry⟩
  ·rw [if_neg e,if_neg (fun z=>e (h1.trans z))]
   exact ⟨h1,h2,h3⟩
theorem KDr.put {K:PySem.W.Frag} {H:Hp} {kvs:List (D × V)} {xs:List (D × Addr × Value)} (r:KDr K H kvs xs) (k:D) {b:Addr} {y:V} {u:Value} (hb:D.key k∧D.dep k≤8∧Dr K H k (.ref b)) (ry:z1n y u) :
  KDr K H (z2P kvs k y) (storedH xs k b u):=by
 have e:(kvs.any fun kv=>decide (kv.1=k))=(atKey xs k).isSome:=by
  rw [z3C,(r.val k).isSome_eq,Option.isSome_map]
 unfold z2P storedH
 rw [e]
 by_cases q:(atKey xs k).isSome=true
 ·rw [if_pos q,if_pos q]
  exact r.repl k ry
 ·rw [if_neg q,if_neg q]
  exact Paired.snoc r ⟨rfl,hb,ry⟩
theorem KDr.keys {K:PySem.W.Frag} {H:Hp} {kvs:List (D × V)} {xs:List (D × Addr × Value)} (r:KDr K H kvs xs):kvs.map (·.1)=xs.map (·.1):=by
 induction r with
 | nil=>rfl
 | @cons p q ps qs h t ih=>rw [List.map_cons,List.map_cons,ih,h.1]
theorem KDr.mono {K:PySem.W.Frag} {H H':Hp} {kvs:List (D × V)} {xs:List (D × Addr × Value)} (r:KDr K H kvs xs) (f:∀ d v,D.key d→Dr K H d v→Dr K H' d v):KDr K H' kvs xs :=
 Paired.mapP r fun _ _ z=>⟨z.1,⟨z.2.1.1,z.2.1.2.1,f _ _ z.2.1.1 z.2.1.2.2⟩,z.2.2⟩
theorem DD.mono {P:Program} {w:World} {K:PySem.W.Frag} {H H':Hp} {a:Addr} {kvs:List (D × V)} (h:DD P w K H a kvs) (s:z0h H H'):DD P w K H' a kvs:=by
 obtain ⟨xs,e,r,n,z⟩:=h
 exact ⟨xs,s _ _ e,r.mono fun _ _ _ q=>q.mono s,n,z⟩
mutual
theorem Dr.keyed {K:PySem.W.Frag} {H H':Hp} (k:∀ b xs,H b=some (.tup xs)→H' b=some (.tup xs)):∀ {d:D} {v:V},D.key d→Dr K H d v→Dr K H' d v
 | .int _,_,_,h=>by simp only [Dr] at h ⊢;exact h
 | .tup ds,_,q,h=>by
  simp only [Dr] at h ⊢
  simp only [D.key] at q
  obtain ⟨a,vs,e,z,r⟩:=h
  exact ⟨a,vs,e,k _ _ z,DrL.keyed k q r⟩
 | .non,_,q,_=>by simp only [D.key] at q
 | .bl _,_,q,_=>by simp only [D.key] at q
 | .str _,_,q,_=>by simp only [D.key] at q
 | .lst _,_,q,_=>by simp only [D.key] at q
theorem DrL.keyed {K:PySem.W.Frag} {H H':Hp} (k:∀ b xs,H b=some (.tup xs)→H' b=some (.tup xs)):∀ {ds:List D} {vs:List V},D.keyL ds→DrL K H ds vs→DrL K H' ds vs
 | [],_,_,h=>by simp only [DrL] at h ⊢;exact h
 | d::ds,_,q,h=>by
  simp only [DrL] at h ⊢
  simp only [D.keyL] at q
  obtain ⟨v,r,e,q1,q2⟩:=h
  exact ⟨v,r,e,Dr.keyed k q.1 q1,DrL.keyed k q.2 q2⟩
end
section
variable {X:Cx} {pins:List (Addr × Obj)} {σ:St} {H:Hp} {s:Shared} {a:Addr} {kvs:List (D × V)} {K:PySem.W.Frag}
theorem DD.at (I:Inv X pins σ H s) (h:DD X.prog X.w K H a kvs):(a == sysModules)=false∧∃ xs,H a=some (zbx X.prog X.w a xs)∧KDr K H kvs xs∧s.heap.DictOfH (z2M X.prog X.w) a xs:=by
 obtain ⟨xs,e,r,n,z⟩:=h
 obtain ⟨⟨hs,o,es,ep,h1,h2,h3,h4⟩,_,_⟩:=I.hok a _ e
 refine ⟨hs,xs,e,r,o,es,ep,h1,h2,h3,h4,?_,by rw [←r.keys];exact n⟩
 have all:∀ {l:List (D × V)} {m:List (D × Addr × Value)},KDr K H l m→∀ x∈m,(z2M X.prog X.w).is s.heap x.1 x.2.1:=by
  intro l m q
  induction q with
  | nil=>intro x hx;exact nomatch hx
  | @cons p q ps qs hq t ih =>
   intro x hx
   rcases List.mem_cons.mp hx with e | hx
   ·subst e
    rw [←hq.1]
    exact ⟨Dr.hd I.hok hq.2.1.1 hq.2.1.2.2 rfl,hq.2.1.2.1⟩
   ·exact ih x hx
 exact all r
theorem z7u (I:Inv X pins σ H s) {d:D} {b:Addr} (k:D.key d) (hd:D.dep d≤8) (h:Dr K H d (.ref b)):(z2M X.prog X.w).is s.heap d b:=⟨Dr.hd I.hok k h rfl,hd⟩
def zeo (K:PySem.W.Frag) (H:Hp) (d:D) (y:V):Prop:=(∃ b,y=.ref b)∧D.key d∧D.dep d≤8∧Dr K H d y
variable {o i e f value:Expr} {pos pos' apos cpos:Pos} {td ty tv tx:TE}
def zfy (P:Program) (w:World) (K:PySem.W.Frag) (td ty:TE):TE:=fun σ H Q=>td σ H fun x H1=>ty σ H1 fun y H2=>∃ a kvs d v,x=.ref a∧DD P w K H2 a kvs∧zeo K H2 d y∧z3k kvs d=some v∧Q v H2
theorem zbN (hu:X.A.units+9 < cLine) (ho:PE X o td) (hi:PE X i ty) (hs:zgw i):PE X (.Subscript o i pos) (zfy X.prog X.w K td ty):=by
 intro pins s σ H Q I h
 refine zbc PySem.F.slot_dict_getitem.lookup hs (z23 (ho pins s σ H _ I h) fun u s1 x H1 I1 rx q1=>z23 (hi pins s1 σ H1 _ I1 q1) fun iv s2 y H2 I2 ry hz9=>?_)
 obtain ⟨a,kvs,d,v,ex,g,⟨⟨b,eb⟩,k1,k2,k3⟩,hv,q2⟩:=hz9
 subst ex eb
 obtain rfl:u=Value.ref a:=rx
 obtain rfl:iv=Value.ref b:=ry
 obtain ⟨hsm,xs,e,r,dd⟩:=g.at I2
 obtain ⟨w',hw,rw'⟩:=z8T.some_of (v:=v) (o:=(atKey xs d).map (·.2)) (by rw [←hv];exact r.val d)
 obtain ⟨p,hp,hp2⟩:=Option.map_eq_some_iff.mp hw
 refine ⟨dd.typeIs,wpAny_getItem_heap (show X.A.units+1+8 < cLine by lia) (z7u I2 k1 k2 k3) dd hp ?_⟩
 rw [hp2]
 exact ⟨v,H2,I2.tok _,rw',q2⟩
def zex (P:Program) (w:World) (K:PySem.W.Frag) (ty td:TE):TE:=fun σ H Q=>ty σ H fun y H1=>td σ H1 fun x H2=>∃ a kvs d,x=.ref a∧DD P w K H2 a kvs∧zeo K H2 d y∧Q (.bl (!(z3k kvs d).isSome)) H2
theorem z7K (hu:X.A.units+9 < cLine) (hi:PE X i ty) (ho:PE X o td):PC X .NotIn i o (zex X.prog X.w K ty td):=by
 intro pins s σ H Q I h
 refine z23 (hi pins s σ H _ I h) fun iv s1 y H1 I1 ry q1=>z23 (ho pins s1 σ H1 _ I1 q1) fun u s2 x H2 I2 rx hz9=>?_
 obtain ⟨a,kvs,d,ex,g,⟨⟨b,eb⟩,k1,k2,k3⟩,q2⟩:=hz9
 subst ex eb
 obtain rfl:u=Value.ref a:=rx
 obtain rfl:iv=Value.ref b:=ry
 obtain ⟨hsm,xs,e,r,dd⟩:=g.at I2
 refine wpAny_notIn_heap (show X.A.units+1+8 < cLine by lia) (z7u I2 k1 k2 k3) hsm dd ?_
 have q:=(r.val d).isSome_eq
 rw [Option.isSome_map] at q
 rw [←q]
 exact ⟨.bl _,H2,I2.tok _,rfl,q2⟩
def zhn (P:Program) (w:World) (K:PySem.W.Frag) (td ty tv:TE):TS:=fun Dd σ H=>tv σ H fun v H1=>td σ H1 fun x H2=>ty σ H2 fun y H3=>∃ a kvs d,x=.ref a∧DD P w K H3 a kvs∧zeo K H3 d y∧kvs.length < sizeLine ∧
 ∀ ob,DD P w K (upd H3 a ob) a (z2P kvs d v)→Dd.nx σ (upd H3 a ob)
theorem z9j {P:Program} {w:World} (h:DD P w K H a kvs):∀ b xs,H b=some (.tup xs)→b≠a:=fun b xs e z=>by
 obtain ⟨ys,q,_⟩:=h
 rw [z,q] at e
 cases e
theorem z8I (hu:X.A.units+9 < cLine) (ho:PE X o td) (hi:PE X i ty) (hv:PE X value tv) (hs:swapsWith value (some (.Subscript o i pos')) pos.line X.env=pure false:=by rfl) :
  PS X (.Assign [.Subscript o i pos'] value pos) (zhn X.prog X.w K td ty tv):=by
 intro pins s σ H D I h
 refine wpAny_Assign_Subscript (z23 (hv pins s σ H _ I h) fun r s1 v H1 I1 rv q1=>z23 (ho pins s1 σ H1 _ I1 q1) fun u s2 x H2 I2 rx q2=>z23 (hi pins s2 σ H2 _ I2 q2) fun iv s3 y H3 I3 ry hz9=>?_) hs
 obtain ⟨a,kvs,d,ex,g,⟨⟨b,eb⟩,k1,k2,k3⟩,hz,q3⟩:=hz9
 subst ex eb
 obtain rfl:u=Value.ref a:=rx
 obtain rfl:iv=Value.ref b:=ry
 obtain ⟨hsm,xs,e,rr,dd⟩:=g.at I3
 have hlen:xs.length≤sizeLine:=by rw [←Paired.length rr];exact Nat.le_of_lt hz
 have hl:(z2P kvs d v).length≤sizeLine:=by have:=z2e kvs d v;lia
 refine wpAny_setItem_heap (hsz:=hlen) (show X.A.units+1+8 < cLine by lia) (z7u I3 k1 k2 k3) dd fun h' dd' hsb=>?_
 obtain ⟨q,es,ep,hq,h2,h3,h4,_,h5⟩:=dd'
 have Iw:Inv X pins σ (upd H3 a (zbx X.prog X.w a (storedH xs d b r))) { s3 with heap:=h',toks:=s3.toks+(z2M X.prog X.w).draws d }:=by
  refine z5h I3 (by rw [e];exact True.intro) hsb ⟨q,hq⟩ ⟨⟨hsm,q,es,ep,hq,h2,h3,h4⟩,⟨q,hq⟩,fun h1 h2' p k=>?_⟩
  obtain ⟨p0,o1,es1,ep1,p1,p2,p3,p4⟩:=p
  exact ⟨p0,o1,es1,ep1,k _ p1,p2,p3,p4⟩
 have kt:∀ c ys,H3 c=some (.tup ys)→upd H3 a (zbx X.prog X.w a (storedH xs d b r)) c=some (.tup ys):=fun c ys ec=>by
  rw [z09 (z9j g c ys ec)];exact ec
 refine ⟨σ,_,Iw,q3 _ ⟨_,z04,(rr.put d ⟨k1,k2,k3⟩ rv).mono fun d' v' kd q=>q.keyed kt kd,?_,hl⟩⟩
 have nd:=h5
 have ek:=(rr.put d ⟨k1,k2,k3⟩ rv).keys
 rw [ek]
 exact nd
def zgJ (P:Program) (w:World) (K:PySem.W.Frag):TE:=fun _ H Q=>∀ p,H p=none→∀ ob,DD P w K (upd H p ob) p []→Q (.ref p) (upd H p ob)
theorem zaF:PE X (.Dict [] [] pos) (zgJ X.prog X.w K):=fun pins s σ H Q I h=>by
 have hb:(s.heap.objs.size == sysModules)=false:=beq_eq_false_iff_ne.mpr (Ne.symm (Nat.ne_of_lt I.big))
 refine wpAny_Dict_empty ⟨.ref s.heap.objs.size,_,I.laid (a:=s.heap.objs.size) (o:=zbx X.prog X.w s.heap.objs.size []) (t':=s.toks) (fun _ _ q=>Heap.get?_push_of_some _ q) (Nat.le_refl _) ⟨⟨hb,_,#[],0,Heap.get?_push_size _ rfl,⟨rfl,rfl,rfl⟩,rfl,rfl⟩,⟨_,Heap.get?_push_size _ rfl⟩,fun h1 h2 p k=>?_⟩,rfl,h _ I.fresh _ ⟨[],z04,.nil,List.nodup_nil,Nat.zero_le _⟩⟩
 obtain ⟨p0,o1,es1,ep1,p1,p2,p3,p4⟩:=p
 exact ⟨p0,o1,es1,ep1,k _ p1,p2,p3,p4⟩
def zgk (P:Program) (w:World) (K:PySem.W.Frag) (td ty tx:TE):TE:=fun σ H Q=>td σ H fun x H1=>∃ a kvs0,x=.ref a∧DD P w K H1 a kvs0∧ty σ H1 fun y H2=>tx σ H2 fun z H3=>∃ kvs d,DD P w K H3 a kvs∧zeo K H3 d y∧Q ((z3k kvs d).getD z) H3
theorem zdI (hu:X.A.units+9 < cLine) (ho:PE X o td) (he:PE X e ty) (hf:PE X f tx) (m:M2 X o "get" apos e f cpos):PE X (.Call (.Attribute o "get" apos) [e,f] [] cpos) (zgk X.prog X.w K td ty tx):=by
 intro pins s σ H Q I h
 refine wpAny_Call_method m.base m.few m.line PySem.F.plainAttrs_dict PySem.F.slot_dict_get PySem.F.type_dict_get (z23 (ho pins s σ H _ I h) fun u s1 x H1 I1 rx hz9=>?_)
 obtain ⟨a,kvs0,ex,g0,q1⟩:=hz9
 subst ex
 obtain rfl:u=Value.ref a:=rx
 obtain ⟨hsm,xs0,_,_,dd0⟩:=g0.at I1
 refine ⟨dd0.typeIs,fun b q=>?_,?_⟩
 ·cases q
  obtain ⟨ob,_,_,h1,h2,_⟩:=dd0
  exact ⟨ob,h1,h2.2.1⟩
 rw [m.trees]
 refine Calls.callWith_builtin rfl (Calls.evalArgs_plain (Calls.spliced_cons (z23 (he pins s1 σ H1 _ I1 q1) fun iv s2 y H2 I2 ry q2 =>
  Calls.spliced_cons (thn (hf pins s2 σ H2 _ I2 q2) fun fv s3 ⟨z,H3,I3,rz,kvs,d,g,⟨⟨b,eb⟩,k1,k2,k3⟩,q3⟩=>Calls.spliced_nil ?_))))
 subst eb
 obtain rfl:iv=Value.ref b:=ry
 obtain ⟨_,xs,_,r,dd⟩:=g.at I3
 refine call_meetsIn PySem.F.slot_dict_get dd.typeIs PySem.F.entry_dict_get (PySem.F.args_dict_get_3 _ _ _) (meetsH_dict_get_default (z2M X.prog X.w) a b hsm fv) ⟨show X.A.units+1+8 < cLine by lia,d,xs,z7u I3 k1 k2 k3,dd,?_⟩
 exact ⟨_,H3,I3.tok _,(r.val d).getD rz,q3⟩
end
end L2
namespace L2
open PySem PySem.Spec PyProof.Rows PySem.SeqAt
open PySem.AutoSeq1 (wpAny_loadPart')
section
variable {X:Cx} (K:PySem.W.Frag)
theorem zcD:z3s X (.builtin "len") (fun xs H Q=>∃ a kvs,xs=[V.ref a]∧DD X.prog X.w K H a kvs∧Q (.int kvs.length) H):=by
 intro pins s σ H xs us Q I r h
 obtain ⟨a,kvs,rfl,g,q⟩:=h
 obtain ⟨u,rfl,ru⟩:=z5J r
 cases ru
 obtain ⟨hsm,xs,_,rr,dd⟩:=g.at I
 obtain ⟨o,es,ep,ho,hc,hdat,hes,_⟩:=id dd
 have hlen:es.size=kvs.length:=by
  have:es.toList.length=xs.length:=by rw [hes,List.length_map]
  rw [Paired.length rr,←this];simp
 have hz:kvs.length≤sizeLine:=by obtain ⟨_,_,_,_,z⟩:=g;exact z
 have hz2:(kvs.length:Int) < 2 ^ 63:=by have:=z7t;lia
 refine Calls.call_function_entry kind_len plain_len entry_len (args_len1 _) ?_
 unfold Builtin.«len»
 refine wpAny_bind (m:=oneArg "len" _) (wpAny_pure ?_)
 refine wpAny_bind (m:=callSpecial? (.ref a) (Str.ofString "__len__")) (wpAny_callSpecial?_slot (name:=Str.ofString "__len__") dd.typeIs F.slot_dict_len
  (wpAny_call_entry F.slot_dict_len dd.typeIs F.entry_dict_len ?_ (F.args_dict_len_1 _)))
 show wpAny _ _ (dictSize a >>= _) _ _ s
 unfold dictSize
 refine wpAny_bind (wpAny_bind (wpAny_dictEntries ho hdat (wpAny_pure ?_)))
 show wpAny _ _ (Builtin.Dict.pendingCount a >>= _) _ _ s
 refine wpAny_bind (wpAny_pendingCount_other hsm ?_)
 refine wpAny_ret_mkInt ?_
 rw [Nat.add_zero,hlen]
 refine wpAny_bind (wpAny_holding (wpAny_pure ?_))
 refine wpAny_bind (wpAny_letGo ?_)
 show wpAny _ _ (if ((kvs.length:Nat):Int) < 0
  then _ else _) _ _ _
 rw [if_neg (by lia)]
 show wpAny _ _ (if ((kvs.length:Nat):Int) ≥ 2 ^ 63
  then _ else _) _ _ _
 rw [if_neg (by lia)]
 exact wpAny_bind (wpAny_mkInt (wpAny_pure ⟨_,rfl,.int kvs.length,H,I.tok _,⟨_,rfl⟩,q⟩))
end
end L2
namespace L2
open PySem PySem.Spec PyProof.Rows PySem.SeqAt
open PySem.AutoSeq1 (wpAny_loadPart')
theorem z7p:∀ {ns:List Int} {its:List Value},z1i (ns.map V.int) its→∃ xs:List (Int × Tok),its=xs.map (fun p=>Value.int p.1 p.2)∧xs.map (·.1)=ns
 | [],_,r=>by rw [List.map_nil] at r;cases r;exact ⟨[],rfl,rfl⟩
 | n::ns,_,r=>by
  rw [List.map_cons] at r
  cases r with
  | cons r rr =>
   obtain ⟨t,rfl⟩:=r
   obtain ⟨xs,rfl,e⟩:=z7p rr
   exact ⟨(n,t)::xs,rfl,by rw [List.map_cons,e]⟩
section
variable {X:Cx} (K:PySem.W.Frag)
theorem zhs (hK:X.K=K) (hc:X.calm=true):z3s X (.builtin "max") (fun xs H Q=>∃ (p:Addr) (ns:List Int) (M:Int),xs=[.ref p]∧SqL K H p (ns.map V.int)∧M∈ns∧(∀ a∈ns,a≤M)∧Q (.int M) H):=by
 subst hK
 intro pins s σ H xs us Q I r h
 obtain ⟨p,ns,M,rfl,hp,hM,hle,q⟩:=h
 obtain ⟨u,rfl,ru⟩:=z5J r
 cases ru
 obtain ⟨its,rv,pl,hz⟩:=I.list hp
 obtain ⟨ys,rfl,ey⟩:=z7p rv
 have hne:0 < ys.length:=by
  have:0 < ns.length:=List.length_pos_of_mem hM
  rw [←ey,List.length_map] at this
  exact this
 have e1:(ys.map fun p=>Value.int p.1 p.2).toArray=intItems ys.toArray:=by unfold intItems;simp
 have pl':=pl.isList
 rw [e1] at pl'
 refine max_intList (xs:=ys.toArray) (I.ok.hd hc) pl' (by simpa using hne) fun v h' tk hv hk=>?_
 obtain ⟨t,rfl⟩:=intItems_at hv
 obtain ⟨h1,h2⟩:=argBest_gt (numAt ys.toArray) (ys.toArray.size - 1)
 have emem:∀ j,j < ys.length→numAt ys.toArray j∈ns:=fun j hj=>by
  rw [numAt_eq]
  have:(ys.toArray.toList.map (·.1))=ns:=by simpa using ey
  rw [this]
  have hjn:j < ns.length:=by rw [←ey,List.length_map];exact hj
  simp [hjn]
 have hb:argBest (fun i j=>decide (numAt ys.toArray i > numAt ys.toArray j)) (ys.toArray.size - 1) < ys.length:=by
  have:ys.toArray.size=ys.length:=by simp
  lia
 have eM:numAt ys.toArray (argBest (fun i j=>decide (numAt ys.toArray i > numAt ys.toArray j)) (ys.toArray.size - 1))=M:=by
  refine Int.le_antisymm (hle _ (emem _ hb)) ?_
  obtain ⟨j,hj,e⟩:=List.getElem_of_mem hM
  have hjy:j < ys.length:=by rw [←ey,List.length_map] at hj;exact hj
  have z:=h2 j (by simp;lia)
  have e2:numAt ys.toArray j=M:=by
   rw [numAt_eq]
   have:(ys.toArray.toList.map (·.1))=ns:=by simpa using ey
   rw [this]
   simp [hj,e]
  rw [e2] at z
  exact z
 rw [eM]
 exact ⟨.int M,H,I.kept (t':=tk) hk,⟨_,rfl⟩,q⟩
theorem z1C:fillsNumberSlot (.type "tuple") "mul"=pure false :=
 PySem.fillsNumberSlot_seq (id:="tuple.__mul__") (r:=some (.builtin "tuple.__rmul__")) F.slot_tuple_mul.lookup (by decide +kernel) F.slot_tuple_rmul.lookup (by decide +kernel)
theorem z26:seqRepeat? (.type "tuple")=pure (some (.builtin "tuple.__mul__")):=by
 unfold seqRepeat?
 rw [PySem.seqSlot_of (T:="tuple") (name:="__mul__") (id:="tuple.__mul__") F.slot_tuple_mul.lookup (by decide +kernel),PySem.seqSlot_of (T:="tuple") (name:="__rmul__") (id:="tuple.__rmul__") F.slot_tuple_rmul.lookup (by decide +kernel)]
 rfl
theorem z1z (a:Int) (t:Tok) (l:Addr) (its:Array Value) (n:Nat) :
  Meets (Builtin.«int.__rmul__» ⟨[.int a t,.ref l],[]⟩) (fun _ R s=>s.heap.get? l=some { cls:=.type "tuple",dict:=none,data:=.seq its n,slots:=#[] }∧R (.ok (.ret Value.notImplemented)) s) :=
 .of_wp fun prog w A R s h=>by
  obtain ⟨hp,g,d,tk,os⟩:=s
  obtain ⟨hl,h⟩:=h
  wp_walk
  exact ⟨_,rfl,h⟩
theorem zeA (l:Addr) (its:List Value) (n:Nat) (k:Int) (t:Tok) (h2:2≤k) (hk:k≤1000) (hne:its≠[]) (hz:its.length*k.toNat≤sizeLine) :
  Meets (Builtin.«tuple.__mul__» ⟨[.ref l,.int k t],[]⟩) (fun _ R s=>s.heap.get? l=some { cls:=.type "tuple",dict:=none,data:=.seq its.toArray n,slots:=#[] } ∧
   R (.ok (.ret (.ref s.heap.objs.size))) { s with heap:=s.heap.push { cls:=.type "tuple",data:=.seq (List.replicate k.toNat its).flatten.toArray } }) :=
 .of_wp fun prog w A R s h=>by
  obtain ⟨hp,g,d,tk,os⟩:=s
  obtain ⟨hl,h⟩:=h
  have hie:its.toArray.isEmpty=false:=by cases its with | nil=>exact absurd rfl hne | cons a r=>simp
  have hcap:¬ ((its.toArray.size:Int)*k > (2 ^ 63 - 1) / 8):=by
   have h1:((its.length*k.toNat:Nat):Int)≤sizeLine:=by lia
   have h3:((its.length*k.toNat:Nat):Int)=(its.length:Int)*k:=by rw [Int.natCast_mul];congr 1;lia
   have h4:(sizeLine:Int)≤(2 ^ 63 - 1) / 8:=by rw [sizeLine_eq];decide
   simp only [List.size_toArray]
   lia
  wp_walk using wpAny_loadPart' hl
  refine wpAny_ite_split (fun hab=>absurd hab (by simp;lia)) (fun _=>?_)
  wp_walk using wpAny_loadPart' hl
  have hk1:(k == 1)=false:=by simpa using (show k≠1 by lia)
  have hk0:decide (k≤0)=false:=by simpa using (show ¬ k≤0 by lia)
  refine wpAny_ite_split (fun hab=>absurd hab (by rw [hie,hk1];decide)) (fun _=>?_)
  refine wpAny_ite_split (fun hab=>absurd hab (by rw [hie,hk0];decide)) (fun _=>?_)
  refine wpAny_ite_split (fun hab=>absurd hab hcap) (fun _=>?_)
  have htm:Builtin.Tuple.tupleTooMany ((its.toArray.size:Int)*k)=false:=by
   have h1:((its.length*k.toNat:Nat):Int)≤sizeLine:=by lia
   have h3:((its.length*k.toNat:Nat):Int)=(its.length:Int)*k:=by rw [Int.natCast_mul];congr 1;lia
   unfold Builtin.Tuple.tupleTooMany
   simp only [List.size_toArray]
   exact decide_eq_false (by lia)
  refine wpAny_ite_split (fun hab=>absurd hab (by rw [htm];decide)) (fun _=>?_)
  have hnew:List.foldl (fun x1 x2=>x1++x2) #[] (List.replicate k.toNat its.toArray)=(List.replicate k.toNat its).flatten.toArray:=by
   have q:=z3F its k.toNat []
   rw [List.nil_append] at q
   exact q
  rw [hnew]
  unfold Builtin.Tuple.tupleExact
  refine wpAny_bind (wpAny_newObj_type ?_ (by show (List.replicate k.toNat its).flatten.toArray.size≤sizeLine;rw [List.size_toArray,z4d,Nat.mul_comm];exact hz))
  exact wpAny_pure ⟨_,rfl,h⟩
theorem zbW:OpR X (binaryOp .Mult) (fun x y H Q=>∃ (l:Addr) (k:Int) (xs:List V),x=.ref l∧y=.int k∧H l=some (.tup xs)∧xs≠[]∧2≤k∧k≤1000∧xs.length*k.toNat≤sizeLine ∧
  ∀ p,H p=none→Q (.ref p) (upd H p (.tup (List.replicate k.toNat xs).flatten))):=by
 intro pins s σ H x y v u Q I rx ry h
 obtain ⟨l,k,xs,rfl,rfl,hH,hne,h2,hk,hz,q⟩:=h
 cases rx
 obtain ⟨t,rfl⟩:=ry
 obtain ⟨z,its,n,r,e⟩:=I.hok l _ hH
 have hl:=r.length
 have hne':its≠[]:=fun w=>by subst w;exact hne (List.length_eq_zero_iff.mp (by simpa using hl))
 refine wpAny_binaryOp_repeat_ref (T:="tuple") (U:="int") (by decide) ⟨_,e,rfl⟩ (fun s'=>typeIs_int s' k t) z1C F.fills_int_mul F.slot_int_rmul z26 F.slot_int_index.lookup
  (call_meets F.slot_int_rmul (typeIs_int s k t) F.entry_int_rmul (F.args_int_rmul_2 _ _) (z1z k t l its.toArray n)
   ⟨e,rfl,⟨_,e,rfl⟩,call_meets F.slot_tuple_mul ⟨_,e,rfl⟩ F.entry_tuple_mul (F.args_tuple_mul_2 _ _) (zeA l its n k t h2 hk hne' (by rw [←hl];exact hz)) ⟨e,?_⟩⟩)
 exact ⟨.ref _,_,I.laid (o:=.tup (List.replicate k.toNat xs).flatten) (t':=s.toks) (fun b u q=>Heap.get?_push_of_some _ q) (Nat.le_refl _) ⟨by rw [z4d,Nat.mul_comm];exact hz,_,0,r.rep k.toNat,Heap.get?_push_size _ rfl⟩,rfl,q _ I.fresh⟩
end
section
variable {X:Cx} (P:Program) (w:World) (K:PySem.W.Frag) {o i e f value:Expr} {pos pos' apos cpos:Pos} {td ty tv tx:TE}
theorem zeh (hP:X.prog=P) (hw:X.w=w) (hu:X.A.units+9 < cLine) (ho:PE X o td) (hi:PE X i ty) (hs:zgw i):PE X (.Subscript o i pos) (zfy P w K td ty):=by
 subst hP hw
 exact zbN hu ho hi hs
end
end L2
namespace L2
open PySem PySem.Spec PyProof.Rows
class NoE (CX:CXT):Prop where
 no:∀ {outer:List Env} {H:Hp} {s:Shared} {e:Value} {s':Shared},¬ CX outer H s E0 e s'
theorem z0H {CX:CXT} [N:NoE CX] {X:Cx}:z4K CX X E0:=fun _ _ _ _ _ _ _ h=>absurd h N.no
theorem Fun.okc {CX:CXT} {P:Program} {w:World} {K:PySem.W.Frag} {mg:Str→Option Value} {base:Heap} {x qual:Str} {st:Stmt} {f:Addr} {fd:FuncData} {N ps:List Str} {k:Nat} {sp:Sp} (F:Fun K x qual st f fd) (S:z0n N ps (z06 st)) (len:∀ vs H Q E,sp vs H Q E→vs.length=ps.length)
  (hbody:∀ (cdv:Value) (A:Around) (outer:List Env) (s:Shared) (H:Hp) (vs:List V) (Q:VK) (E:XK),z3X k (A.deeper (envOfC qual (z06 st) s.heap.objs.size f cdv))→sp vs H Q E →
   ∃ t,PSs (z7o CX P w K mg base N qual (z06 st) f cdv A outer s H E).nox (z1a st) t∧t { nx:=fun _ H'=>Q .non H',rt:=Q } (z5K N vs) H):z0t P w K mg base CX (k+1) f fd ps sp:=by
 obtain ⟨oc,od,kV,doc,pm,an,cdv,ct,osl,rfl,lk,hcd⟩:=F.ex
 refine zfc lk hcd S len fun A outer s H vs Q E hr hsp=>?_
 obtain ⟨t,h,q⟩:=hbody cdv A outer s H vs Q E hr hsp
 exact ⟨t,h.nox,q⟩
theorem PS.weak {X:Cx} {st:Stmt} {t:TS} (t':TS) (h:PS X st t) (k:∀ D σ H,t' D σ H→t D σ H):PS X st t':=fun pins s σ H D I hw=>h pins s σ H D I (k D σ H hw)
theorem PT.weak {X:Cx} {e:Expr} {t:TT} (t':TT) (h:PT X e t) (k:∀ σ H Q,t' σ H Q→t σ H Q):PT X e t':=fun pins s σ H Q I hw=>h pins s σ H Q I (k σ H Q hw)
def zhr (Pre:St→Hp→Prop):TT:=fun σ H Q=>Pre σ H∧∀ c:Bool,Q c H
end L2
namespace Gu
open PySem L2
section
variable {α:Type} [DecidableEq α]
def z2u (o:List α) (g:α):List α:=if g∈o then o else o++[g]
def z0d (o:List α) (gs:List α):List α:=gs.foldl z2u o
def z0I (ks:List α):List α:=z0d [] ks
def z2o (ks:List α):List Int:=ks.map fun k=>(((z0I ks).idxOf k:Nat):Int)
theorem z0y {o:List α} {g:α} (h:g∈o):z2u o g=o:=if_pos h
theorem z0x {o:List α} {g:α} (h:g∉o):z2u o g=o++[g]:=if_neg h
theorem zdE (o:List α) (g:α):g∈z2u o g:=by
 by_cases h:g∈o
 ·rw [z0y h];exact h
 ·rw [z0x h];simp
theorem zde (o:List α) (g:α):∃ m,z2u o g=o++m:=by
 by_cases h:g∈o
 ·exact ⟨[],by rw [z0y h];simp⟩
 ·exact ⟨[g],z0x h⟩
theorem z0N:∀ (gs o:List α),∃ m,z0d o gs=o++m
 | [],o=>⟨[],by simp [z0d]⟩
 | g::gs,o=>by
  obtain ⟨m1,e1⟩:=zde o g
  obtain ⟨m2,e2⟩:=z0N gs (z2u o g)
  refine ⟨m1++m2,?_⟩
  show z0d (z2u o g) gs=_
  rw [e2,e1,List.append_assoc]
theorem z1H (o gs:List α) (g:α):z0d o (gs++[g])=z2u (z0d o gs) g:=by
 unfold z0d
 rw [List.foldl_append]
 rfl
theorem zak {o:List α} {g:α} (h:o.Nodup):(z2u o g).Nodup:=by
 by_cases hg:g∈o
 ·rw [z0y hg];exact h
 ·rw [z0x hg]
  exact zbb h hg
theorem z2i:∀ (gs o:List α),o.Nodup→(z0d o gs).Nodup
 | [],o,h=>h
 | g::gs,o,h=>z2i gs (z2u o g) (zak h)
theorem z2Y {o:List α} {g x:α}:x∈z2u o g↔x∈o∨x=g:=by
 by_cases hg:g∈o
 ·rw [z0y hg]
  constructor
  ·exact .inl
  ·rintro (h | rfl)
   ·exact h
   ·exact hg
 ·rw [z0x hg];simp
theorem z0O:∀ {gs o:List α} {x:α},x∈z0d o gs↔x∈o∨x∈gs
 | [],o,x=>by simp [z0d]
 | g::gs,o,x=>by
  have ih:=z0O (gs:=gs) (o:=z2u o g) (x:=x)
  show x∈z0d (z2u o g) gs↔_
  rw [ih,z2Y,List.mem_cons]
  constructor
  ·rintro ((h | h) | h)
   ·exact .inl h
   ·exact .inr (.inl h)
   ·exact .inr (.inr h)
  ·rintro (h | h | h)
   ·exact .inl (.inl h)
   ·exact .inl (.inr h)
   ·exact .inr h
theorem z27:∀ (gs o:List α),(z0d o gs).length≤o.length+gs.length
 | [],o=>by simp [z0d]
 | g::gs,o=>by
  have ih:=z27 gs (z2u o g)
  have h1:(z2u o g).length≤o.length+1:=by
   by_cases hg:g∈o
   ·rw [z0y hg];lia
   ·rw [z0x hg];simp
  show (z0d (z2u o g) gs).length≤_
  rw [List.length_cons];lia
theorem z5l {o m:List α} {g:α} (h:g∈o):(o++m).idxOf g=o.idxOf g:=by
 rw [List.idxOf_append,if_pos h]
theorem z4L:∀ (n:Nat) (o:List Nat),o.Nodup→(∀ x∈o,x < n)→o.length≤n
 | 0,o,_,h=>by
  cases o with
  | nil=>simp
  | cons a r=>exact absurd (h a (by simp)) (Nat.not_lt_zero _)
 | n+1,o,hn,h=>by
  by_cases hm:n∈o
  ·have ih:=z4L n (o.erase n) (hn.erase n) fun x hx=>by
    have h1:=(hn.mem_erase_iff).mp hx
    have:=h x h1.2
    have:=h1.1
    lia
   rw [List.length_erase_of_mem hm] at ih
   lia
  ·have ih:=z4L n o hn fun x hx=>by
    have:=h x hx
    have:x≠n:=fun e=>hm (e ▸ hx)
    lia
   lia
theorem z3O {n:Nat} {o:List Int} (h:o.Nodup) (hr:∀ x∈o,0≤x∧x < (n:Int)):o.length≤n:=by
 have h1:(o.map Int.toNat).Nodup:=by
  rw [List.nodup_iff_pairwise_ne,List.pairwise_map]
  refine List.Pairwise.imp_of_mem (fun {a b} ha hb hab e=>?_) (List.nodup_iff_pairwise_ne.mp h)
  have:=hr a ha
  have:=hr b hb
  exact hab (by lia)
 have h3:=z4L n _ h1 fun x hx=>by
  obtain ⟨y,hy,rfl⟩:=List.mem_map.mp hx
  have:=hr y hy
  lia
 simpa using h3
end
abbrev Row:=List Int × List Int
def row (rows:List Row) (r:Int):Row:=rows.getD r.toNat ([],[])
structure z0j (n:Nat) (rows:List Row):Prop where
 few:rows.length≤4000
 some:1≤rows.length
 perm:∀ r∈rows,IsP n r.1
 len:∀ r∈rows,r.2.length=n
 go:∀ r∈rows,∀ g∈r.2,0≤g∧g < (rows.length:Int)
def z3I (r:Row):D:=.tup [D.its r.1,D.its r.2]
def bfs (rows:List Row):Nat→Nat→List Int→List Int
 | 0,_,o=>o
 | f+1,i,o=>match o[i]? with
  | none=>o
  | some r=>bfs rows f (i+1) (z0d o (row rows r).2)
def z0i (rows:List Row):List Int:=bfs rows (rows.length+1) 0 [0]
theorem z3A {rows:List Row} {f i:Nat} {o:List Int} {r:Int} (e:o[i]?=some r):bfs rows (f+1) i o=bfs rows f (i+1) (z0d o (row rows r).2):=by
 show (match o[i]? with | none=>o | some r=>bfs rows f (i+1) (z0d o (row rows r).2))=_
 rw [e]
theorem z3x {rows:List Row} {f i:Nat} {o:List Int} (e:o.length≤i):bfs rows f i o=o:=by
 cases f with
 | zero=>rfl
 | succ f =>
  show (match o[i]? with | none=>o | some r=>bfs rows f (i+1) (z0d o (row rows r).2))=_
  rw [List.getElem?_eq_none e]
theorem z41 (rows:List Row):∀ (f i:Nat) (o:List Int),∃ m,bfs rows f i o=o++m
 | 0,i,o=>⟨[],by simp [bfs]⟩
 | f+1,i,o=>by
  unfold bfs
  cases e:o[i]? with
  | none=>exact ⟨[],by simp⟩
  | some r =>
   obtain ⟨m1,e1⟩:=z0N (row rows r).2 o
   obtain ⟨m2,e2⟩:=z41 rows f (i+1) (z0d o (row rows r).2)
   exact ⟨m1++m2,by show bfs rows f (i+1) (z0d o (row rows r).2)=_;rw [e2,e1,List.append_assoc]⟩
structure z7n (rows:List Row) (o:List Int):Prop where
 nd:o.Nodup
 rg:∀ x∈o,0≤x∧x < (rows.length:Int)
 hd:∃ t,o=0::t
theorem z0o {rows:List Row} {r:Int} (h0:0≤r) (h1:r < (rows.length:Int)):row rows r∈rows:=by
 unfold row
 have:r.toNat < rows.length:=by lia
 have e:rows.getD r.toNat ([],[])=rows[r.toNat]:=by simp [this]
 rw [e]
 exact List.getElem_mem this
theorem z43 {rows:List Row} {r:Int} (h0:0≤r) (h1:r < (rows.length:Int)):rows[r.toNat]?=some (row rows r):=by
 unfold row
 have:r.toNat < rows.length:=by lia
 simp [this]
theorem z7n.add {n:Nat} {rows:List Row} {o:List Int} (G:z0j n rows) (L:z7n rows o) {r:Int} (h:r∈o):z7n rows (z0d o (row rows r).2):=by
 refine ⟨z2i _ _ L.nd,fun x hx=>?_,?_⟩
 ·rcases z0O.mp hx with hx | hx
  ·exact L.rg x hx
  ·exact G.go _ (z0o (L.rg r h).1 (L.rg r h).2) x hx
 ·obtain ⟨t,e⟩:=L.hd
  obtain ⟨m,e2⟩:=z0N (row rows r).2 o
  exact ⟨t++m,by rw [e2,e];rfl⟩
theorem z7n.len {rows:List Row} {o:List Int} (L:z7n rows o):o.length≤rows.length:=z3O L.nd L.rg
theorem zbC {n:Nat} {rows:List Row} (G:z0j n rows):z7n rows [0]:=by
 refine ⟨by simp,fun x hx=>?_,⟨[],rfl⟩⟩
 have:x=0:=by simpa using hx
 have:=G.some
 lia
theorem zaJ {n:Nat} {rows:List Row} (G:z0j n rows):∀ (f i:Nat) (o:List Int),z7n rows o→i≤o.length→rows.length+1≤f+i→(∀ j r,j < i→o[j]?=some r→∀ g∈(row rows r).2,g∈o) →
  z7n rows (bfs rows f i o)∧∀ r∈bfs rows f i o,∀ g∈(row rows r).2,g∈bfs rows f i o
 | 0,i,o,L,hi,hf,hc=>by
  have:=L.len
  lia
 | f+1,i,o,L,hi,hf,hc=>by
  cases e:o[i]? with
  | none =>
   rw [z3x (List.getElem?_eq_none_iff.mp e)]
   refine ⟨L,fun r hr g hg=>?_⟩
   obtain ⟨j,hj,e2⟩:=List.getElem_of_mem hr
   have:o.length≤i:=List.getElem?_eq_none_iff.mp e
   exact hc j r (by lia) (by rw [List.getElem?_eq_getElem hj,e2]) g hg
  | some r =>
   rw [z3A e]
   have hr:r∈o:=List.mem_of_getElem? e
   have hil:i < o.length:=(List.getElem?_eq_some_iff.mp e).1
   obtain ⟨m,em⟩:=z0N (row rows r).2 o
   refine zaJ G f (i+1) _ (L.add G hr) (by rw [em,List.length_append];lia) (by lia) fun j r' hj er g hg=>?_
   have hjo:j < o.length:=by lia
   have er':o[j]?=some r':=by rw [em,List.getElem?_append_left hjo] at er;exact er
   by_cases hji:j=i
   ·subst hji
    rw [e] at er'
    cases er'
    exact z0O.mpr (.inr hg)
   ·exact z0O.mpr (.inl (hc j r' (by lia) er' g hg))
theorem z0q {n:Nat} {rows:List Row} (G:z0j n rows):z7n rows (z0i rows)∧∀ r∈z0i rows,∀ g∈(row rows r).2,g∈z0i rows :=
 zaJ G (rows.length+1) 0 [0] (zbC G) (by simp) (by lia) fun j r hj=>absurd hj (Nat.not_lt_zero _)
def z1I (rows:List Row) (o:List Int):List Row:=o.map fun r=>((row rows r).1,(row rows r).2.map fun g=>((o.idxOf g:Nat):Int))
def z0F (rows:List Row):List Row:=z1I rows (z0i rows)
def z3b (ks:List Int) (rows:List Row):List (Int × List Int):=(ks.zip rows).map fun p=>(p.1,p.2.2.map fun g=>ks.getD g.toNat 0)
def cnt (ks:List Int):Int:=ks.foldl max 0+1
def z5e (rows:List Row):Nat→Int→List Int→List Int
 | 0,_,ks=>ks
 | f+1,c,ks=>if c < cnt ks then z5e rows f (cnt ks) (z2o (z3b ks rows)) else ks
def z2S (rows:List Row):List Int:=z5e rows (rows.length+1) 0 (z2o (rows.map (·.1)))
def z5y (rows:List Row) (ks:List Int):List Row:=(rows.zip ks).foldl (fun l p=>if p.2=(l.length:Int) then l++[(p.1.1,p.1.2.map fun g=>ks.getD g.toNat 0)] else l) []
def least (rows:List Row):List Row:=z5y (z0F rows) (z2S (z0F rows))
end Gu
namespace Gu
open PySem L2
def csc (ns:List (Str × NameKind)):Scope:={ kind:=.function,names:=ns,isGenerator:=false,isCoroutine:=false,more:=[] }
def z2X (K:PySem.W.Frag) (H:Hp) (Q:VK) (d:D):Prop:=∀ v H',z0h H H'→Dr K H' d v→Q v H'
theorem same_up {H H1:Hp} {p:Addr} {o:HO} (s:z0h H H1) (h:H1 p=none):z0h H (upd H1 p o):=fun b u e=>by
 have q:=s b u e
 rw [z09 (z0f q h)];exact q
theorem z0g {H H1:Hp} {p:Addr} {o:HO} (s:z0h H H1) (h:H p=none):z0h H (upd H1 p o):=fun b u e=>by
 rw [z09 (z0f e h)];exact s b u e
theorem z1c {α β:Type} {l:List α} {i:Nat} {x:α} (f:α→β) (h:l[i]?=some x):(l.take (i+1)).map f=(l.take i).map f++[f x]:=by
 rw [List.take_add_one,h,List.map_append];rfl
theorem z1Q {n:Nat} (h:n≤4900):n < sizeLine:=Nat.lt_of_le_of_lt h (by decide)
theorem z0L {n:Nat} (h:n≤5000):n≤sizeLine:=Nat.le_trans h (by decide)
theorem z2j {α:Type} {xs:List α} {k:Int} {v:α} (h0:0≤k) (h:xs[k.toNat]?=some v):atI xs k=some v:=by
 have q:=z0B h
 rwa [show ((k.toNat:Nat):Int)=k by lia] at q
theorem z87 {α β:Type} (f:α→β):∀ (l:List α) (i:Nat),(l.map f).eraseIdx i=(l.eraseIdx i).map f
 | [],_=>rfl
 | _::_,0=>rfl
 | a::r,i+1=>by
  show f a::(r.map f).eraseIdx i=f a::(r.eraseIdx i).map f
  rw [z87 f r i]
structure Blt (mg:Str→Option Value):Prop where
 len:mg "len"=none
 tup:mg "tuple"=none
 lst:mg "list"=none
 rng:mg "range"=none
 isi:mg "isinstance"=none
 int:mg "int"=none
 bl:mg "bool"=none
 str:mg "str"=none
 all:mg "all"=none
theorem z6n (ns:List Int):D.dep (D.its ns)=1:=by simp only [D.dep,D.depL_ints]
theorem z78:∀ (ns ms:List Int),D.okL (ns.map D.int) (ms.map D.int)
 | [],ms=>by cases ms<;>simp only [List.map_nil,List.map_cons,D.okL]
 | n::r,[]=>by simp only [List.map_nil,List.map_cons,D.okL]
 | n::r,m::q=>by simp only [List.map_cons,D.okL,D.ok];exact ⟨trivial,z78 r q⟩
theorem Dr.its_inv {K:PySem.W.Frag} {H:Hp} {ns:List Int} {v:V} (h:Dr K H (D.its ns) v):∃ a,v=.ref a∧H a=some (.tup (ns.map V.int)):=by
 simp only [Dr] at h
 obtain ⟨a,vs,rfl,s,r⟩:=h
 exact ⟨a,rfl,DrL.ints_inv r ▸ s⟩
def zaY (K:PySem.W.Frag):Sp:=fun vs H Q _=>∃ n:Nat,vs=[.int n]∧n≤1000∧z2X K H Q (D.its (z0z n))
def z9l (K:PySem.W.Frag):Sp:=fun vs H Q _=>∃ (a:Addr) (ns:List Int) (i:Nat),vs=[.ref a,.int i]∧SqL K H a (ns.map V.int)∧ns.length≤63∧i≤1000∧Q (.int (cell ns i)) H
def z4Y (K:PySem.W.Frag):Sp:=fun vs H Q _=>∃ (a:Addr) (ns:List Int) (i:Nat),vs=[.ref a,.int i]∧SqL K H a (ns.map V.int)∧ns.length≤63∧i≤1000∧Q (.int (zdN ns i)) H
def zba (K:PySem.W.Frag):Sp:=fun vs H Q _=>∃ (pick:Int) (n:Nat),vs=[.int pick,.int n]∧n≤1000∧z2X K H Q (D.its (zcF pick n))
end Gu
namespace Gu
open PySem L2
section
variable {α κ:Type} [DecidableEq α] [DecidableEq κ]
def z5H (f:α→κ):Nat→List α→List (κ × V)
 | _,[]=>[]
 | n,a::r=>(f a,V.int (n:Int))::z5H f (n+1) r
abbrev prs (f:α→κ) (u:List α):List (κ × V):=z5H f 0 u
theorem z1M (f:α→κ):∀ (n:Nat) (u:List α),(z5H f n u).length=u.length
 | _,[]=>rfl
 | n,a::r=>by simp [z5H,z1M f (n+1) r]
theorem z9Q (f:α→κ):∀ (n:Nat) (u:List α) (a:α),z5H f n (u++[a])=z5H f n u++[(f a,V.int ((n+u.length:Nat):Int))]
 | n,[],a=>by simp [z5H]
 | n,b::r,a=>by
  have ih:=z9Q f (n+1) r a
  show (f b,V.int (n:Int))::z5H f (n+1) (r++[a])=(f b,V.int (n:Int))::(z5H f (n+1) r++_)
  have e:n+1+r.length=n+(b::r).length:=by rw [List.length_cons];lia
  rw [ih,e]
theorem z6D (f:α→κ) (hf:∀ x y,f x=f y→x=y):∀ (n:Nat) (u:List α) (a:α),z3k (z5H f n u) (f a)=if a∈u then some (V.int ((n+u.idxOf a:Nat):Int)) else none
 | n,[],a=>by simp [z5H,z3k]
 | n,b::r,a=>by
  have ih:=z6D f hf (n+1) r a
  show z3k ((f b,V.int (n:Int))::z5H f (n+1) r) (f a)=_
  by_cases e:b=a
  ·subst e
   rw [z38 rfl,if_pos (by simp)]
   simp
  ·rw [z2H (p:=(f b,V.int (n:Int))) (fun z=>e (hf _ _ z)),ih]
   have e1:(b::r).idxOf a=r.idxOf a+1:=by
    rw [List.idxOf_cons]
    have hb:(b == a)=false:=by simpa using e
    rw [hb]
    rfl
   by_cases hm:a∈r
   ·have e2:n+1+r.idxOf a=n+(r.idxOf a+1):=by lia
    rw [if_pos hm,if_pos (by simp [hm]),e1,e2]
   ·rw [if_neg hm,if_neg (by simp [hm,Ne.symm e])]
theorem z1X (f:α→κ) (hf:∀ x y,f x=f y→x=y) (u:List α) (a:α):z3k (prs f u) (f a)=if a∈u then some (V.int ((u.idxOf a:Nat):Int)) else none:=by
 have:=z6D f hf 0 u a
 simpa using this
theorem z47 (f:α→κ) (hf:∀ x y,f x=f y→x=y) {u:List α} {a:α} (h:a∉u):z2P (prs f u) (f a) (V.int (u.length:Nat))=prs f (u++[a]):=by
 have e:=z9Q f 0 u a
 rw [Nat.zero_add] at e
 rw [z9K _ (by rw [z1X f hf,if_neg h])]
 exact e.symm
end
def z0s (rows:List Row):List D:=rows.map z3I
theorem z2W (ns:List Int):D.key (D.its ns):=by
 have:∀ l:List Int,D.keyL (l.map D.int):=by
  intro l
  induction l with
  | nil=>simp only [List.map_nil,D.keyL]
  | cons a r ih=>simp only [List.map_cons,D.keyL,D.key];exact ⟨trivial,ih⟩
 simp only [D.key]
 exact this ns
def zgo (ds:List D):Prop:=∀ d∈ds,D.key d∧D.dep d≤8∧∃ es,d=.tup es
def z4c (K:PySem.W.Frag):Sp:=fun vs H Q _=>∃ (a:Addr) (us:List V) (ds:List D),vs=[.ref a]∧H a=some (.lst us)∧DrL K H ds us∧zgo ds∧ds.length≤4900 ∧
 ∀ (r:Addr) (H':Hp),z0h H H'→H' r=some (.lst ((z2o ds).map V.int))→Q (.ref r) H'
theorem zcp {K:PySem.W.Frag} {H:Hp} {d:D} {v:V} (h:D.key d∧D.dep d≤8∧∃ es,d=.tup es) (q:Dr K H d v):zeo K H d v:=by
 obtain ⟨h1,h2,es,rfl⟩:=h
 refine ⟨?_,h1,h2,q⟩
 simp only [Dr] at q
 obtain ⟨a,vs,e,_⟩:=q
 exact ⟨a,e⟩
end Gu
namespace Gu
open PySem L2
def z19 (H H':Hp):Prop:=∀ b xs,H b=some (.tup xs)→H' b=some (.tup xs)
theorem z19.of {H H':Hp} (s:z0h H H'):z19 H H':=fun b xs e=>s _ _ e
theorem z19.refl (H:Hp):z19 H H:=fun _ _ e=>e
theorem z19.trans {H H1 H2:Hp} (a:z19 H H1) (b:z19 H1 H2):z19 H H2:=fun c xs e=>b c xs (a c xs e)
theorem z19.up {H H1:Hp} {a:Addr} {o u:HO} (t:z19 H H1) (h:H1 a=some o) (n:∀ xs,o≠.tup xs):z19 H (upd H1 a u):=fun b xs e=>by
 have q:=t b xs e
 have:b≠a:=fun z=>by rw [z,h] at q;exact n xs (Option.some.inj q)
 rw [z09 this];exact q
theorem zeP (r:Row):D.key (z3I r):=by
 unfold z3I
 simp only [D.key,D.keyL]
 have h1:=z2W r.1
 have h2:=z2W r.2
 simp only [D.key] at h1 h2
 exact ⟨h1,h2,trivial⟩
theorem z3a:∀ rs:List Row,D.keyL (z0s rs)
 | []=>by unfold z0s;simp only [List.map_nil,D.keyL]
 | r::rs=>by
  have:=z3a rs
  unfold z0s at this ⊢
  simp only [List.map_cons,D.keyL]
  exact ⟨zeP r,this⟩
theorem z0U {K:PySem.W.Frag} {H:Hp} {r:Row} {v:V} (h:Dr K H (z3I r) v):∃ a b c,v=.ref a∧H a=some (.tup [.ref b,.ref c])∧H b=some (.tup (r.1.map V.int))∧H c=some (.tup (r.2.map V.int)):=by
 unfold z3I at h
 simp only [Dr,DrL] at h
 obtain ⟨a,vs,rfl,e,x,l,rfl,hx,y,l',rfl,hy,rfl⟩:=h
 obtain ⟨b,us,rfl,eb,rb⟩:=hx
 obtain ⟨c,ws,rfl,ec,rc⟩:=hy
 have e1:=DrL.ints_inv rb
 have e2:=DrL.ints_inv rc
 subst e1 e2
 exact ⟨a,b,c,rfl,e,eb,ec⟩
theorem z2K {K:PySem.W.Frag} {H:Hp} {r:Row} {a b c:Addr} (h:H a=some (.tup [.ref b,.ref c])) (hb:H b=some (.tup (r.1.map V.int))) (hc:H c=some (.tup (r.2.map V.int))):Dr K H (z3I r) (.ref a):=by
 unfold z3I
 exact Dr.tup h (DrL.cons (Dr.tup hb (DrL.ints _)) (DrL.cons (Dr.tup hc (DrL.ints _)) DrL.nil))
theorem z37 {K:PySem.W.Frag} {H:Hp} {rows:List Row} {us:List V} (h:DrL K H (z0s rows) us) {i:Nat} {r:Row} (e:rows[i]?=some r):∃ v,us[i]?=some v∧Dr K H (z3I r) v :=
 h.get (by unfold z0s;rw [List.getElem?_map,e];rfl)
def z9N (K:PySem.W.Frag):Sp:=fun vs H Q _=>∃ (a:Addr) (b:V) (ks gs:List Int),vs=[.ref a,b]∧H a=some (.lst (ks.map V.int))∧Dr K H (D.its gs) b∧(∀ g∈gs,0≤g∧g < (ks.length:Int))∧gs.length≤1000∧z2X K H Q (D.its (gs.map fun g=>ks.getD g.toNat 0))
def z4T (K:PySem.W.Frag):Sp:=fun vs H Q _=>∃ n:Nat,vs=[.int n]∧2≤n∧n≤60∧z2X K H Q (D.tup [z3I (z0z n,List.replicate n 0)])
def z1U (K:PySem.W.Frag):Sp:=fun vs H Q _=>∃ (a:V) (r:Row) (z5D:List D),vs=[a]∧Dr K H (D.tup (z3I r::z5D)) a∧r.1.length≤1000∧∀ H',z0h H H'→Q (.int r.1.length) H'
def z3W (K:PySem.W.Frag) (H:Hp) (a:Addr) (rows:List Row):Prop:=∃ us,H a=some (.lst us)∧DrL K H (z0s rows) us
theorem z3W.mono {K:PySem.W.Frag} {H H':Hp} {a:Addr} {rows:List Row} (h:z3W K H a rows) (s:z0h H H'):z3W K H' a rows:=by
 obtain ⟨us,e,d⟩:=h
 exact ⟨us,s _ _ e,d.mono s⟩
end Gu
namespace Gu
open PySem L2
section
variable {α β:Type} [DecidableEq α] [DecidableEq β]
theorem z62 (f:α→β) (hf:∀ x y,f x=f y→x=y):∀ (gs o:List α),z0d (o.map f) (gs.map f)=(z0d o gs).map f
 | [],o=>rfl
 | g::gs,o=>by
  have h1:z2u (o.map f) (f g)=(z2u o g).map f:=by
   by_cases h:g∈o
   ·rw [z0y h,z0y (List.mem_map.mpr ⟨g,h,rfl⟩)]
   ·have:f g∉o.map f:=fun z=>by
     obtain ⟨x,hx,e⟩:=List.mem_map.mp z
     exact h (hf _ _ e ▸ hx)
    rw [z0x h,z0x this,List.map_append];rfl
  show z0d (z2u (o.map f) (f g)) (gs.map f)=(z0d (z2u o g) gs).map f
  rw [h1]
  exact z62 f hf gs (z2u o g)
theorem z85 (f:α→β) (hf:∀ x y,f x=f y→x=y):∀ (l:List α) (a:α),(l.map f).idxOf (f a)=l.idxOf a
 | [],a=>rfl
 | b::r,a=>by
  rw [List.map_cons,List.idxOf_cons,List.idxOf_cons,z85 f hf r a]
  have:(f b == f a)=(b == a):=by
   by_cases e:b=a
   ·subst e;simp
   ·have h1:(b == a)=false:=by simpa using e
    have h2:(f b == f a)=false:=by simpa using fun z=>e (hf _ _ z)
    rw [h1,h2]
  rw [this]
theorem z98 (f:α→β) (hf:∀ x y,f x=f y→x=y) (xs:List α):z2o (xs.map f)=z2o xs:=by
 unfold z2o z0I
 have:=z62 f hf xs []
 rw [List.map_nil] at this
 rw [this,List.map_map]
 refine List.map_congr_left fun x _=>?_
 show (((((z0d [] xs).map f).idxOf (f x):Nat)):Int)=_
 rw [z85 f hf]
theorem z3R (xs:List α):(z2o xs).length=xs.length:=by unfold z2o;rw [List.length_map]
theorem z4N (xs:List α):(z0I xs).length≤xs.length:=by have:=z27 xs [];unfold z0I;simpa using this
theorem z6O {xs:List α} {k:Int} (h:k∈z2o xs):0≤k∧k < ((z0I xs).length:Int):=by
 unfold z2o at h
 obtain ⟨x,hx,rfl⟩:=List.mem_map.mp h
 have:x∈z0I xs:=z0O.mpr (.inr hx)
 have:=List.idxOf_lt_length_of_mem this
 lia
end
theorem zaC:∀ (ks:List Int) (m:Int),m≤ks.foldl max m∧∀ k∈ks,k≤ks.foldl max m
 | [],m=>⟨Int.le_refl _,fun k h=>by simp at h⟩
 | a::r,m=>by
  obtain ⟨h1,h2⟩:=zaC r (max m a)
  refine ⟨Int.le_trans (Int.le_max_left m a) h1,fun k hk=>?_⟩
  rcases List.mem_cons.mp hk with rfl | hk
  ·exact Int.le_trans (Int.le_max_right m k) h1
  ·exact h2 k hk
theorem zaH:∀ (ks:List Int) (m:Int),ks.foldl max m=m∨ks.foldl max m∈ks
 | [],m=>.inl rfl
 | a::r,m=>by
  rcases zaH r (max m a) with h | h
  ·rcases Int.le_total m a with z | z
   ·right
    show r.foldl max (max m a)∈a::r
    rw [h,Int.max_eq_right z];simp
   ·left
    show r.foldl max (max m a)=m
    rw [h,Int.max_eq_left z]
  ·right;exact List.mem_cons_of_mem _ h
theorem z8x {ks:List Int} (hne:ks≠[]) (h0:∀ k∈ks,0≤k):cnt ks - 1∈ks∧∀ k∈ks,k≤cnt ks - 1:=by
 unfold cnt
 have e:ks.foldl max 0+1 - 1=ks.foldl max 0:=by lia
 rw [e]
 refine ⟨?_,(zaC ks 0).2⟩
 rcases zaH ks 0 with h | h
 ·rw [h]
  cases ks with
  | nil=>exact absurd rfl hne
  | cons a r =>
   have h1:=(zaC (a::r) 0).2 a (by simp)
   rw [h] at h1
   have h2:=h0 a (by simp)
   have:a=0:=by lia
   simp [this]
 ·exact h
theorem zgr {ks:List Int} {n:Nat} (hne:ks≠[]) (h0:∀ k∈ks,0≤k∧k < (n:Int)):cnt ks≤n∧1≤cnt ks:=by
 obtain ⟨h1,h2⟩:=z8x hne fun k hk=>(h0 k hk).1
 have:=h0 _ h1
 lia
structure z40 (n:Nat) (rows:List Row):Prop where
 some:1≤rows.length
 few:rows.length≤4000
 perm:∀ r∈rows,IsP n r.1
 len:∀ r∈rows,r.2.length=n
 go:∀ r∈rows,∀ g∈r.2,0≤g∧g < (rows.length:Int)
theorem z2A {n:Nat} {rows:List Row} (G:z0j n rows):z40 n (z0F rows):=by
 obtain ⟨L,cl⟩:=z0q G
 have hl:=L.len
 have hm:∀ r∈z0F rows,∃ x∈z0i rows,r=((row rows x).1,(row rows x).2.map fun g=>(((z0i rows).idxOf g:Nat):Int)):=fun r hr=>by
  unfold z0F z1I at hr
  obtain ⟨x,hx,e⟩:=List.mem_map.mp hr
  exact ⟨x,hx,e.symm⟩
 have fl:(z0F rows).length=(z0i rows).length:=by unfold z0F z1I;rw [List.length_map]
 refine ⟨?_,by have:=G.few;lia,fun r hr=>?_,fun r hr=>?_,fun r hr g hg=>?_⟩
 ·obtain ⟨t,e⟩:=L.hd
  rw [fl,e];simp
 ·obtain ⟨x,hx,rfl⟩:=hm r hr
  exact G.perm (row rows x) (z0o (L.rg x hx).1 (L.rg x hx).2)
 ·obtain ⟨x,hx,rfl⟩:=hm r hr
  show (List.map _ _).length=n
  rw [List.length_map]
  exact G.len _ (z0o (L.rg x hx).1 (L.rg x hx).2)
 ·obtain ⟨x,hx,rfl⟩:=hm r hr
  obtain ⟨y,hy,rfl⟩:=List.mem_map.mp hg
  have:=List.idxOf_lt_length_of_mem (cl x hx y hy)
  lia
structure z5M (rows:List Row) (ks:List Int):Prop where
 len:ks.length=rows.length
 rg:∀ k∈ks,0≤k∧k < (rows.length:Int)
theorem zdR {n:Nat} {rows:List Row} (G:z40 n rows):z5M rows (z2o (rows.map (·.1))):=by
 refine ⟨by rw [z3R,List.length_map],fun k hk=>?_⟩
 have:=z6O hk
 have:=z4N (rows.map (·.1))
 rw [List.length_map] at this
 lia
theorem z86 {rows:List Row} {ks:List Int} (h:z5M rows ks):(z3b ks rows).length=rows.length:=by
 unfold z3b
 rw [List.length_map,List.length_zip,h.len];lia
theorem zaR {rows:List Row} {ks:List Int} (h:z5M rows ks):z5M rows (z2o (z3b ks rows)):=by
 have hl:=z86 h
 refine ⟨by rw [z3R,hl],fun k hk=>?_⟩
 have:=z6O hk
 have:=z4N (z3b ks rows)
 lia
theorem zfC {n:Nat} {rows:List Row} {ks:List Int} (G:z40 n rows) (h:z5M rows ks):ks≠[]:=fun e=>by
 have:=h.len
 have:=G.some
 subst e
 simp at *
 lia
def z5B (p:Int × List Int):D:=.tup [.int p.1,D.its p.2]
theorem z5t {a b:List Int} (e:D.its a=D.its b):a=b:=by
 injection e with e
 induction a generalizing b with
 | nil=>cases b with
  | nil=>rfl
  | cons _ _=>cases e
 | cons x r ih=>cases b with
  | nil=>cases e
  | cons y q =>
   rw [List.map_cons,List.map_cons] at e
   injection e with e1 e2
   injection e1 with e1
   rw [e1,ih e2]
theorem zcb (p q:Int × List Int) (e:z5B p=z5B q):p=q:=by
 unfold z5B at e
 injection e with e
 injection e with e1 e2
 injection e2 with e2 _
 injection e1 with e1
 have:=z5t e2
 exact Prod.ext e1 this
theorem z9e (p:Int × List Int):D.key (z5B p):=by
 unfold z5B
 simp only [D.key,D.keyL]
 have h:=z2W p.2
 simp only [D.key] at h
 exact ⟨trivial,h,trivial⟩
theorem zd4 (p:Int × List Int):D.dep (z5B p)≤8:=by
 unfold z5B
 simp only [D.dep,D.depL,D.depL_ints]
 decide
theorem z7L:∀ ps:List (Int × List Int),D.keyL (ps.map z5B)
 | []=>by simp only [List.map_nil,D.keyL]
 | p::ps=>by simp only [List.map_cons,D.keyL];exact ⟨z9e p,z7L ps⟩
theorem z9E:∀ ps:List (List Int),D.keyL (ps.map D.its)
 | []=>by simp only [List.map_nil,D.keyL]
 | p::ps=>by
  have:=z2W p
  simp only [List.map_cons,D.keyL];exact ⟨this,z9E ps⟩
end Gu
namespace Gu
open PySem L2
theorem z5U {rows:List Row}:∀ (m:Nat) (c:Int) (ks:List Int),z5M rows ks→z5M rows (z5e rows m c ks)
 | 0,_,ks,h=>h
 | m+1,c,ks,h=>by
  unfold z5e
  by_cases hc:c < cnt ks
  ·rw [if_pos hc];exact z5U m _ _ (zaR h)
  ·rw [if_neg hc];exact h
theorem z48 {n:Nat} {rows:List Row} (G:z40 n rows):z5M rows (z2S rows):=z5U _ _ _ (zdR G)
def z6u (ks:List Int) (l:List Row) (p:Row × Int):List Row:=if p.2=(l.length:Int) then l++[(p.1.1,p.1.2.map fun g=>ks.getD g.toNat 0)] else l
def z2D (rows:List Row) (ks:List Int) (i:Nat):List Row:=((rows.zip ks).take i).foldl (z6u ks) []
theorem z68 {rows:List Row} {ks:List Int} (h:ks.length=rows.length):z2D rows ks rows.length=z5y rows ks:=by
 unfold z2D z5y
 rw [List.take_of_length_le (by rw [List.length_zip];lia)]
 rfl
theorem z4O {rows:List Row} {ks:List Int} {i:Nat} {r:Row} {k:Int} (e:rows[i]?=some r) (e':ks[i]?=some k):z2D rows ks (i+1)=z6u ks (z2D rows ks i) (r,k):=by
 unfold z2D
 rw [List.take_add_one,List.getElem?_zip_eq_some (z:=(r,k)) |>.mpr ⟨e,e'⟩,List.foldl_append]
 rfl
theorem zaT (ks:List Int) (l:List Row) (p:Row × Int):(z6u ks l p).length≤l.length+1:=by
 unfold z6u
 split
 ·rw [List.length_append];simp
 ·lia
theorem zaf (rows:List Row) (ks:List Int) (i:Nat):(z2D rows ks i).length≤i:=by
 unfold z2D
 have:∀ (l:List (Row × Int)) (a:List Row),(l.foldl (z6u ks) a).length≤a.length+l.length:=by
  intro l
  induction l with
  | nil=>intro a;simp
  | cons p l ih =>
   intro a
   have h1:=ih (z6u ks a p)
   have h2:=zaT ks a p
   rw [List.foldl_cons,List.length_cons]
   lia
 have h:=this ((rows.zip ks).take i) []
 rw [List.length_take] at h
 simp only [List.length_nil] at h
 lia
theorem zdy {n:Nat} {rows:List Row} (G:z0j n rows):(z0F rows).length≤rows.length:=by
 have:=(z0q G).1.len
 unfold z0F z1I
 rw [List.length_map];exact this
def zhd (m:Nat) (ns:List Int):Prop:=ns.length=m∧∀ x∈ns,0≤x∧x < 1009
def z2Z (K:PySem.W.Frag):Sp:=fun vs H Q _=>∃ (c:Int) (m:Nat),vs=[.int c,.int m]∧m≤900∧∀ (r:Addr) (H':Hp) (ns:List Int),z0h H H'→H' r=some (.lst (ns.map V.int))→zhd m ns→Q (.ref r) H'
theorem z7D {ns:List Int} {x:Int} (h:∀ x∈ns,0≤x∧x < 1009) (hx:0≤x∧x < 1009):∀ y∈ns++[x],0≤y∧y < 1009:=by
 intro y hy
 rcases List.mem_append.mp hy with hy | hy
 ·exact h y hy
 ·rw [List.mem_singleton.mp hy];exact hx
theorem za7 {j:Int} (h:(0:Int) < j:=by decide):0 < j:=h
theorem zbT (x:Int):0≤x % 1009∧x % 1009 < 1009:=by lia
def zaA (K:PySem.W.Frag):Sp:=fun vs H Q _=>∃ (n:Nat) (c:Int),vs=[.int n,.int c]∧2≤n∧n≤5∧∀ (r:Addr) (H':Hp) (rows:List Row),z0h H H'→z3W K H' r rows→z0j n rows→rows.length≤8→Q (.ref r) H'
def GI (m:Nat) (H:Hp) (i:Nat) (ys:List V) (H2:Hp):Prop:=∃ gs:List Int,ys=gs.map V.int∧gs.length=i∧(∀ g∈gs,0≤g∧g < (m:Int))∧z0h H H2
theorem GI.nil {m:Nat} {H:Hp} {l:Addr} (h:H l=none):GI m H 0 [] (upd H l (.lst [])):=⟨[],rfl,rfl,fun g hg=>by simp at hg,same_up (z0h.refl H) h⟩
theorem GI.len {m:Nat} {H H2:Hp} {i:Nat} {ys:List V} (h:GI m H i ys H2):ys.length=i:=by
 obtain ⟨gs,rfl,e,_⟩:=h
 rw [List.length_map];exact e
theorem GI.snoc {m:Nat} {H H2:Hp} {i:Nat} {ys:List V} {l:Addr} {o:HO} (h:GI m H i ys H2) (hl:H l=none) {g:Int} (hg:0≤g∧g < (m:Int)):GI m H (i+1) (ys++[.int g]) (upd H2 l o):=by
 obtain ⟨gs,rfl,e,r,s⟩:=h
 refine ⟨gs++[g],by rw [List.map_append];rfl,by rw [List.length_append,e];rfl,fun x hx=>?_,z0g s hl⟩
 rcases List.mem_append.mp hx with hx | hx
 ·exact r x hx
 ·rw [List.mem_singleton.mp hx];exact hg
structure RIx (K:PySem.W.Frag) (n m:Nat) (c kd:Int) (j:Nat) (ln lr lp:Addr) (H0:Hp) (σ:St) (H:Hp):Prop where
 ex:∃ (b:V) (lg:Addr) (p gs:List Int),σ=[some (.int n),some (.int c),some (.ref ln),some (.int m),some (.int kd),some (.ref lr),some (.int j),some (.ref lp),some b,some (.ref lg)]∧z0h H0 H∧Dr K H (D.its p) b∧IsP n p ∧
  H lg=some (.lst (gs.map V.int))∧gs.length=n∧∀ g∈gs,0≤g∧g < (m:Int)
structure RF (n m j:Nat) (ps:List Int) (lp:Addr) (H0:Hp):Prop where
 n2:2≤n
 n5:n≤5
 jm:j < m
 m8:m≤8
 lp:H0 lp=some (.lst (ps.map V.int))
 len:ps.length=6
 nn:∀ p∈ps,0≤p∧p < 1009
def tRI (K:PySem.W.Frag):TS:=fun D σ H=>∃ (n m:Nat) (c kd:Int) (j:Nat) (ln lr lp:Addr) (ps:List Int) (H0:Hp),RF n m j ps lp H0∧RIx K n m c kd j ln lr lp H0 σ H∧∀ σ' H',RIx K n m c kd j ln lr lp H0 σ' H'→D.nx σ' H'
def zfQ (K:PySem.W.Frag) (σ:St) (H:Hp):Prop:=∃ (n m:Nat) (c kd:Int) (j:Nat) (ln lr lp:Addr) (ps:List Int) (H0:Hp),RF n m j ps lp H0∧RIx K n m c kd j ln lr lp H0 σ H
def GR (n m:Nat) (rs:List Row):Prop:=∀ r∈rs,IsP n r.1∧r.2.length=n∧∀ g∈r.2,0≤g∧g < (m:Int)
theorem GR.snoc {n m:Nat} {rs:List Row} {r:Row} (h:GR n m rs) (hr:IsP n r.1∧r.2.length=n∧∀ g∈r.2,0≤g∧g < (m:Int)):GR n m (rs++[r]):=fun x hx=>by
 rcases List.mem_append.mp hx with hx | hx
 ·exact h x hx
 ·rw [List.mem_singleton.mp hx];exact hr
theorem GR.good {n m:Nat} {rs:List Row} (h:GR n m rs) (hl:rs.length=m) (h1:1≤m) (h4:m≤4000):z0j n rs:=by
 subst hl
 exact ⟨h4,h1,fun r hr=>(h r hr).1,fun r hr=>(h r hr).2.1,fun r hr=>(h r hr).2.2⟩
theorem zhR {ns:List Int} {i:Nat} (h:zhd 64 ns) (hi:i < 8):∃ ps:List Int,z3S (ns.map V.int) (some (2+6*(i:Int))) (some (8+6*(i:Int)))=ps.map V.int∧ps.length=6∧∀ p∈ps,0≤p∧p < 1009:=by
 have hl:=h.1
 refine ⟨(ns.drop (2+6*i)).take 6,?_,by rw [List.length_take,List.length_drop];lia,fun p hp=>h.2 p (List.mem_of_mem_drop (List.mem_of_mem_take hp))⟩
 have e1:(2+6*(i:Int))=((2+6*i:Nat):Int):=by lia
 have e2:(8+6*(i:Int))=((8+6*i:Nat):Int):=by lia
 unfold z3S
 rw [e1,e2,HT.sIx_nat,HT.sIx_nat,List.length_map,hl,Nat.min_eq_left (by lia),Nat.min_eq_left (by lia),show 8+6*i - (2+6*i)=6 by lia,List.map_take,List.map_drop]
theorem z2B {x:Int} (h:0≤x):∃ m:Nat,x=(m:Int):=⟨x.toNat,by lia⟩
theorem zfq (n:Nat) (j:Int):(List.replicate n [V.int j]).flatten=(List.replicate n j).map V.int:=by
 induction n with
 | zero=>rfl
 | succ n ih=>rw [List.replicate_succ,List.flatten_cons,ih,List.replicate_succ];rfl
theorem z4y (n:Nat):IsP n (z0z n):=List.Perm.refl _
theorem z8P (x y:Int) (e:(Sum.inl x:Key)=Sum.inl y):x=y:=Sum.inl.inj e
theorem zeS {o:List Int} (h:o.Nodup) {i:Nat} {r:Int} (e:o[i]?=some r):r∉o.take i:=fun z=>by
 have h':(o.take i++o.drop i).Nodup:=by rw [List.take_append_drop];exact h
 have hr:r∈o.drop i:=List.mem_of_getElem? (i:=0) (by rw [List.getElem?_drop];exact e)
 exact (List.nodup_append.mp h').2.2 r z r hr rfl
def mk (o:List Int) (vs:List V):List (Key × V):=(o.zip vs).map fun p=>(Sum.inl p.1,p.2)
def FK (f:Int→D):Prop:=∀ r,D.key (f r)∧D.dep (f r)≤3
theorem FK.keyL {f:Int→D} (h:FK f):∀ o:List Int,D.keyL (o.map f)
 | []=>by simp only [List.map_nil,D.keyL]
 | r::o=>by simp only [List.map_cons,D.keyL];exact ⟨(h r).1,FK.keyL h o⟩
theorem FK.depL {f:Int→D} (h:FK f):∀ o:List Int,D.depL (o.map f)≤3
 | []=>by simp only [List.map_nil,D.depL];lia
 | r::o=>by
  simp only [List.map_cons,D.depL]
  have:=(h r).2
  have:=FK.depL h o
  lia
theorem FK.its (rows:List Row):FK fun r=>D.its (row rows r).1:=fun r=>⟨z2W _,by rw [z6n];decide⟩
theorem FK.int (k:Int→Int):FK fun r=>D.int (k r):=fun r=>⟨by simp only [D.key],by simp only [D.dep];decide⟩
def z1W (rows:List Row) (f:Int→D) (r:Int):D:=.tup [f r,.tup ((row rows r).2.map f)]
theorem FK.key {rows:List Row} {f:Int→D} (h:FK f) (r:Int):D.key (z1W rows f r)∧D.dep (z1W rows f r)≤8∧∃ es,z1W rows f r=.tup es:=by
 refine ⟨?_,?_,_,rfl⟩
 ·unfold z1W
  simp only [D.key,D.keyL]
  exact ⟨(h r).1,h.keyL _,trivial⟩
 ·unfold z1W
  simp only [D.dep,D.depL]
  have:=(h r).2
  have:=h.depL (row rows r).2
  lia
def z2t (rows:List Row) (o:List Int) (f:Int→D):List D:=o.map (z1W rows f)
def z2U (rows:List Row) (o:List Int) (f:Int→D) (r:Int):Int:=(((z0I (z2t rows o f)).idxOf (z1W rows f r):Nat):Int)
def z3e (rows:List Row) (o:List Int) (f:Int→D):Int→D:=fun r=>.int (z2U rows o f r)
def z2O (rows:List Row) (o:List Int) (f:Int→D):Nat:=(z0I (z2t rows o f)).length
theorem z7S (rows:List Row) (o:List Int) (f:Int→D):z2O rows o f≤o.length:=by
 have:=z4N (z2t rows o f)
 unfold z2O z2t at *
 rw [List.length_map] at this
 exact this
def z4Q (rows:List Row) (o:List Int):Nat→Nat→(Int→D)→(Int→D)
 | 0,_,f=>f
 | m+1,many,f=>if many < z2O rows o f then z4Q rows o m (z2O rows o f) (z3e rows o f) else z3e rows o f
def z6a (rows:List Row):Int→D:=z4Q rows (z0i rows) (rows.length+2) 0 fun r=>D.its (row rows r).1
def z0T (k:Int→Int) (hs:List Int) (r:Int):List Int:=if k r∈hs.map k then hs else hs++[r]
def z0C (k:Int→Int) (o:List Int):List Int:=o.foldl (z0T k) []
def z2a (rows:List Row) (k:Int→Int) (o:List Int):List Row:=(z0C k o).map fun r=>((row rows r).1,(row rows r).2.map fun g=>((((z0C k o).map k).idxOf (k g):Nat):Int))
theorem z1K (k:Int→Int) (o:List Int) (r:Int):z0C k (o++[r])=z0T k (z0C k o) r:=by
 unfold z0C
 rw [List.foldl_append];rfl
theorem z1s (k:Int→Int) (o:List Int):(∀ r∈o,k r∈(z0C k o).map k)∧(∀ r∈z0C k o,r∈o)∧(z0C k o).length≤o.length:=by
 have:∀ (o hs:List Int),(∀ x∈hs.map k,x∈(o.foldl (z0T k) hs).map k)∧(∀ r∈o,k r∈(o.foldl (z0T k) hs).map k)∧(∀ r∈o.foldl (z0T k) hs,r∈hs∨r∈o)∧(o.foldl (z0T k) hs).length≤hs.length+o.length:=by
  intro o
  induction o with
  | nil=>intro hs;exact ⟨fun x h=>h,fun r h=>by simp at h,fun r h=>.inl h,by simp⟩
  | cons a o ih =>
   intro hs
   obtain ⟨i1,i2,i3,i4⟩:=ih (z0T k hs a)
   rw [List.foldl_cons]
   have hsub:∀ x∈hs.map k,x∈(z0T k hs a).map k:=fun x hx=>by
    unfold z0T
    split
    ·exact hx
    ·rw [List.map_append];exact List.mem_append_left _ hx
   have ha:k a∈(z0T k hs a).map k:=by
    unfold z0T
    split
    ·assumption
    ·simp
   have hlen:(z0T k hs a).length≤hs.length+1:=by
    unfold z0T
    split
    ·lia
    ·simp
   refine ⟨fun x hx=>i1 x (hsub x hx),fun r hr=>?_,fun r hr=>?_,by rw [List.length_cons];lia⟩
   ·rcases List.mem_cons.mp hr with rfl | hr
    ·exact i1 _ ha
    ·exact i2 r hr
   ·rcases i3 r hr with h | h
    ·unfold z0T at h
     split at h
     ·exact .inl h
     ·rcases List.mem_append.mp h with h | h
      ·exact .inl h
      ·exact .inr (by rw [List.mem_singleton.mp h];simp)
    ·exact .inr (List.mem_cons_of_mem _ h)
 obtain ⟨_,h2,h3,h4⟩:=this o []
 refine ⟨h2,fun r hr=>?_,by unfold z0C;simpa using h4⟩
 rcases h3 r hr with h | h
 ·simp at h
 ·exact h
theorem z7b (k:Int→Int) (a:Int) (o:List Int):∃ t,z0C k (a::o)=a::t:=by
 have:∀ (o hs:List Int),∃ t,o.foldl (z0T k) hs=hs++t:=by
  intro o
  induction o with
  | nil=>intro hs;exact ⟨[],by simp⟩
  | cons a o ih =>
   intro hs
   obtain ⟨t,e⟩:=ih (z0T k hs a)
   rw [List.foldl_cons,e]
   unfold z0T
   split
   ·exact ⟨t,rfl⟩
   ·exact ⟨[a]++t,by rw [List.append_assoc]⟩
 unfold z0C
 rw [List.foldl_cons]
 have e:z0T k [] a=[a]:=by unfold z0T;simp
 rw [e]
 obtain ⟨t,e⟩:=this o [a]
 exact ⟨t,e⟩
def zie:D→Int
 | .int i=>i
 | _=>0
def kOf (rows:List Row) (r:Int):Int:=zie (z6a rows r)
theorem z89 (rows:List Row) (o:List Int):∀ (m many:Nat) (f:Int→D),∃ k:Int→Int,z4Q rows o (m+1) many f=fun r=>D.int (k r)
 | 0,many,f=>by
  unfold z4Q
  split
  ·unfold z4Q;exact ⟨z2U rows o f,rfl⟩
  ·exact ⟨z2U rows o f,rfl⟩
 | m+1,many,f=>by
  unfold z4Q
  split
  ·exact z89 rows o m _ _
  ·exact ⟨z2U rows o f,rfl⟩
theorem z5Q (rows:List Row):z6a rows=fun r=>D.int (kOf rows r):=by
 obtain ⟨k,e⟩:=z89 rows (z0i rows) (rows.length+1) 0 fun r=>D.its (row rows r).1
 have e':z6a rows=fun r=>D.int (k r):=e
 funext r
 unfold kOf
 rw [e']
 rfl
def shr (rows:List Row):List Row:=z2a rows (kOf rows) (z0i rows)
theorem zfT {n:Nat} {rows:List Row} (G:z0j n rows):∃ r t,shr rows=r::t∧IsP n r.1:=by
 obtain ⟨L,_⟩:=z0q G
 obtain ⟨t,e⟩:=L.hd
 obtain ⟨t',e'⟩:=z7b (kOf rows) 0 t
 unfold shr z2a
 rw [e,e',List.map_cons]
 have:=G.some
 exact (exB rfl (G.perm (row rows 0) (z0o (Int.le_refl 0) (show (0:Int) < (rows.length:Int) by lia))))
theorem DD.keyed {P:Program} {w:World} {K:PySem.W.Frag} {H H':Hp} {a:Addr} {kvs:List (D × V)} (h:DD P w K H a kvs) (k:z19 H H') (e:H' a=H a):DD P w K H' a kvs:=by
 obtain ⟨xs,e0,r,n,z⟩:=h
 exact ⟨xs,by rw [e];exact e0,r.mono fun _ _ q d=>d.keyed k q,n,z⟩
theorem z7G {κ:Type} [DecidableEq κ]:∀ (n:Nat) (u:List κ) (a:κ),a∈u→u.Nodup→z2P (z5H id n u) a (V.int ((n+u.idxOf a:Nat):Int))=z5H id n u:=by
 intro n u a ha hn
 have hv:z3k (z5H id n u) a=some (V.int ((n+u.idxOf a:Nat):Int)):=by
  have:=z6D (κ:=κ) id (fun _ _ e=>e) n u a
  rw [if_pos ha] at this
  exact this
 unfold z2P
 rw [z3C,hv]
 rw [if_pos (show (some (V.int ((n+u.idxOf a:Nat):Int))).isSome=true from rfl)]
 clear hv
 induction u generalizing n with
 | nil=>rfl
 | cons b u ih =>
  show (if b=a then (b,_) else (b,V.int (n:Int)))::List.map _ (z5H id (n+1) u)=(b,V.int (n:Int))::z5H id (n+1) u
  have hnb:=(List.nodup_cons.mp hn).1
  have hnu:=(List.nodup_cons.mp hn).2
  by_cases e:b=a
  ·subst e
   rw [if_pos rfl]
   have e1:(b::u).idxOf b=0:=by simp
   rw [e1]
   congr 1
   have:∀ (m:Nat) (l:List κ),b∉l→List.map (fun kv:κ × V=>if kv.1=b then (kv.1,V.int ((n+0:Nat):Int)) else kv) (z5H id m l)=z5H id m l:=by
    intro m l
    induction l generalizing m with
    | nil=>intro _;rfl
    | cons c l ih2 =>
     intro hb
     show (if c=b then _ else (c,V.int (m:Int)))::List.map _ (z5H id (m+1) l)=(c,V.int (m:Int))::z5H id (m+1) l
     rw [if_neg (fun z=>hb (by rw [z];simp)),ih2 (m+1) (fun z=>hb (List.mem_cons_of_mem _ z))]
   exact this _ _ hnb
  ·rw [if_neg e]
   have ha':a∈u:=by rcases List.mem_cons.mp ha with z | z;exact absurd z.symm e;exact z
   have e1:(b::u).idxOf a=u.idxOf a+1:=by
    rw [List.idxOf_cons]
    have hb:(b == a)=false:=by simpa using e
    rw [hb];rfl
   rw [e1,show n+(u.idxOf a+1)=(n+1)+u.idxOf a by lia,ih (n+1) ha' hnu]
def z8R (K:PySem.W.Frag):Sp:=fun vs H Q _=>∃ (a:Addr) (n:Nat) (rows:List Row),vs=[.ref a,.int 0]∧z3W K H a rows∧z0j n rows∧n≤60∧z2X K H Q (D.tup (z0s (shr rows)))
theorem z4m {α:Type} [DecidableEq α] (x:α):∀ (xs:List α),(∀ y∈xs,y=x)→z0d [x] xs=[x]
 | [],_=>rfl
 | y::ys,h=>by
  have e:y=x:=h y (by simp)
  subst e
  show z0d (z2u [y] y) ys=[y]
  rw [z0y (by simp)]
  exact z4m y ys fun z hz=>h z (List.mem_cons_of_mem _ hz)
theorem z5T {α:Type} [DecidableEq α] (x:α) (xs:List α) (h:∀ y∈xs,y=x):z2o xs=List.replicate xs.length 0:=by
 cases xs with
 | nil=>rfl
 | cons y ys =>
  have e:y=x:=h y (by simp)
  subst e
  have hu:z0I (y::ys)=[y]:=by
   show z0d (z2u [] y) ys=[y]
   rw [z0x (by simp)]
   exact z4m y ys fun z hz=>h z (List.mem_cons_of_mem _ hz)
  unfold z2o
  rw [hu,List.eq_replicate_iff]
  refine ⟨by rw [List.length_map],fun b hb=>?_⟩
  obtain ⟨k,hk,rfl⟩:=List.mem_map.mp hb
  rw [h k hk]
  simp
theorem z7M (m:Nat):cnt (List.replicate m 0)=1:=by
 unfold cnt
 have:∀ m:Nat,(List.replicate m (0:Int)).foldl max 0=0:=by
  intro m
  induction m with
  | zero=>rfl
  | succ m ih=>rw [List.replicate_succ,List.foldl_cons];exact ih
 rw [this];rfl
theorem z39 (m k:Nat):(List.replicate m (0:Int)).getD k 0=0:=by
 rw [List.getD_eq_getElem?_getD,List.getElem?_replicate]
 split<;>rfl
theorem zaa {n:Nat} {rows:List Row} (G:z40 n rows) (h:∀ r∈rows,r.1=z0z n):z2S rows=List.replicate rows.length 0:=by
 have h0:z2o (rows.map (·.1))=List.replicate rows.length 0:=by
  rw [z5T (z0z n) _ fun y hy=>by obtain ⟨r,hr,rfl⟩:=List.mem_map.mp hy;exact h r hr,List.length_map]
 have h1:z2o (z3b (List.replicate rows.length 0) rows)=List.replicate rows.length 0:=by
  rw [z5T ((0:Int),List.replicate n (0:Int)) _ fun y hy=>?_]
  ·congr 1
   unfold z3b
   rw [List.length_map,List.length_zip,List.length_replicate];lia
  ·unfold z3b at hy
   obtain ⟨p,hp,rfl⟩:=List.mem_map.mp hy
   obtain ⟨hp1,hp2⟩:=List.of_mem_zip hp
   have e1:p.1=0:=(List.mem_replicate.mp hp1).2
   refine Prod.ext e1 ?_
   show p.2.2.map _=_
   rw [List.eq_replicate_iff]
   refine ⟨by rw [List.length_map];exact G.len _ hp2,fun b hb=>?_⟩
   obtain ⟨g,_,rfl⟩:=List.mem_map.mp hb
   exact z39 _ _
 unfold z2S
 rw [h0]
 have hs:=G.some
 obtain ⟨m,hm⟩:∃ m,rows.length=m+1:=⟨rows.length - 1,by lia⟩
 rw [show rows.length+1=(m+1)+1 by lia]
 show (if (0:Int) < cnt (List.replicate rows.length 0) then z5e rows (m+1) (cnt (List.replicate rows.length 0)) (z2o (z3b (List.replicate rows.length 0) rows)) else List.replicate rows.length 0)=_
 rw [z7M,if_pos (by decide),h1]
 show (if (1:Int) < cnt (List.replicate rows.length 0) then _ else List.replicate rows.length 0)=_
 rw [z7M,if_neg (by decide)]
theorem za2 {n:Nat} {rows:List Row} (G:z0j n rows) (h:∀ r∈rows,r.1=z0z n):least rows=[(z0z n,List.replicate n 0)]:=by
 have GF:=z2A G
 have hf:∀ r∈z0F rows,r.1=z0z n:=fun r hr=>by
  unfold z0F z1I at hr
  obtain ⟨x,hx,rfl⟩:=List.mem_map.mp hr
  obtain ⟨x0,x1⟩:=(z0q G).1.rg x hx
  exact h (row rows x) (z0o x0 x1)
 unfold least
 rw [zaa GF hf]
 generalize z0F rows=fs at GF hf
 have hs:=GF.some
 cases fs with
 | nil=>simp at hs
 | cons r t =>
  unfold z5y
  rw [List.length_cons,List.replicate_succ,List.zip_cons_cons,List.foldl_cons]
  have e0:(if (r,(0:Int)).2=(([]:List Row).length:Int) then []++[((r,(0:Int)).1.1,(r,(0:Int)).1.2.map fun g=>((0:Int)::List.replicate t.length 0).getD g.toNat 0)] else ([]:List Row))=[(z0z n,List.replicate n 0)]:=by
   rw [if_pos (show (r,(0:Int)).2=(([]:List Row).length:Int) from rfl),List.nil_append]
   congr 1
   refine Prod.ext (hf r (by simp)) ?_
   show r.2.map _=_
   rw [List.eq_replicate_iff]
   refine ⟨by rw [List.length_map];exact GF.len _ (by simp),fun b hb=>?_⟩
   obtain ⟨g,_,rfl⟩:=List.mem_map.mp hb
   have:=z39 (t.length+1) g.toNat
   rwa [List.replicate_succ] at this
  rw [e0]
  have:∀ (l:List (Row × Int)) (acc:List Row),acc.length=1→(∀ p∈l,p.2=0)→l.foldl (fun l p=>if p.2=(l.length:Int) then l++[(p.1.1,p.1.2.map fun g=>((0:Int)::List.replicate t.length 0).getD g.toNat 0)] else l) acc=acc:=by
   intro l
   induction l with
   | nil=>intro acc _ _;rfl
   | cons p l ih =>
    intro acc h1 hz
    rw [List.foldl_cons,if_neg (by rw [hz p (by simp),h1];decide)]
    exact ih acc h1 fun p hp=>hz p (List.mem_cons_of_mem _ hp)
  exact this _ _ rfl fun p hp=>(List.mem_replicate.mp (List.of_mem_zip hp).2).2
def z8v (K:PySem.W.Frag):Sp:=fun vs H Q _=>∃ (n:Nat) (c:Int),vs=[.int n,.int c]∧2≤n∧n≤5∧∀ (v:V) (H':Hp) (rows:List Row),z0h H H'→z0j n rows→rows.length≤8→Dr K H' (D.tup (z0s (shr rows))) v→Q v H'
end Gu
namespace Gu
open PySem L2
section
variable {α β:Type} [DecidableEq α] [DecidableEq β]
theorem z1T (xs:List α) (x:α):z0I (xs++[x])=z2u (z0I xs) x:=z1H [] xs x
theorem z0Y {xs:List α} {x:α}:x∈z0I xs↔x∈xs:=by
 unfold z0I
 rw [z0O]
 simp
theorem zbM (xs:List α):(z0I xs).Nodup:=z2i xs [] List.nodup_nil
theorem z9d (xs ys:List α):z0I (xs++ys)=z0d (z0I xs) ys:=by
 unfold z0I z0d
 rw [List.foldl_append]
theorem z5X:∀ {gs o:List α},(∀ g∈gs,g∈o)→z0d o gs=o
 | [],o,_=>rfl
 | g::gs,o,h=>by
  show z0d (z2u o g) gs=o
  rw [z0y (h g (by simp))]
  exact z5X fun x hx=>h x (List.mem_cons_of_mem _ hx)
theorem z4k:∀ {gs o:List α},(o++gs).Nodup→z0d o gs=o++gs
 | [],o,_=>by simp [z0d]
 | g::gs,o,h=>by
  show z0d (z2u o g) gs=_
  have hg:g∉o:=fun z=>(List.nodup_append.mp h).2.2 g z g (by simp) rfl
  rw [z0x hg,z4k (by rw [List.append_assoc];exact h),List.append_assoc]
  rfl
theorem zbX {l:List α} (h:l.Nodup):z0I l=l:=by
 have:=z4k (o:=[]) (gs:=l) (by simpa using h)
 rw [List.nil_append] at this
 exact this
theorem z7P (f:Int→α) (f':Int→β):∀ l:List Int,(∀ x∈l.reverse,∀ y∈l.reverse,f' x=f' y→f x=f y) →
  (z0I (l.reverse.map f)).length≤(z0I (l.reverse.map f')).length∧((z0I (l.reverse.map f')).length≤(z0I (l.reverse.map f)).length→∀ x∈l.reverse,∀ y∈l.reverse,f x=f y→f' x=f' y)
 | [],_=>⟨Nat.le_refl _,fun _ x hx=>by simp at hx⟩
 | z::l,h=>by
  rw [List.reverse_cons] at h ⊢
  obtain ⟨ih1,ih2⟩:=z7P f f' l fun x hx y hy=>h x (List.mem_append_left _ hx) y (List.mem_append_left _ hy)
  have hz:z∈l.reverse++[z]:=by simp
  have hL:∀ x,x∈l.reverse→x∈l.reverse++[z]:=fun x hx=>List.mem_append_left _ hx
  rw [List.map_append,List.map_append,show List.map f [z]=[f z] from rfl,show List.map f' [z]=[f' z] from rfl,z1T,z1T]
  generalize l.reverse=o at *
  by_cases h1:f' z∈z0I (o.map f')
  ·obtain ⟨z',hz',ez⟩:=List.mem_map.mp (z0Y.mp h1)
   have ez2:f z'=f z:=h z' (hL _ hz') z hz ez
   have h2:f z∈z0I (o.map f):=z0Y.mpr (List.mem_map.mpr ⟨z',hz',ez2⟩)
   rw [z0y h1,z0y h2]
   refine ⟨ih1,fun hc x hx y hy e=>?_⟩
   have red:∀ x∈o++[z],∃ x'∈o,f x'=f x∧f' x'=f' x:=fun x hx=>by
    rcases List.mem_append.mp hx with hx | hx
    ·exact ⟨x,hx,rfl,rfl⟩
    ·rw [List.mem_singleton.mp hx];exact ⟨z',hz',ez2,ez⟩
   obtain ⟨x',hx',e1,e2⟩:=red x hx
   obtain ⟨y',hy',e3,e4⟩:=red y hy
   rw [←e2,←e4]
   exact ih2 hc x' hx' y' hy' (by rw [e1,e3,e])
  ·rw [z0x h1]
   by_cases h2:f z∈z0I (o.map f)
   ·rw [z0y h2,List.length_append]
    refine ⟨by simp;lia,fun hc=>?_⟩
    simp at hc
    lia
   ·rw [z0x h2,List.length_append,List.length_append]
    refine ⟨by simp;lia,fun hc x hx y hy e=>?_⟩
    have hc':(z0I (o.map f')).length≤(z0I (o.map f)).length:=by simp at hc;lia
    have no:∀ x∈o,f x≠f z:=fun x hx e=>h2 (z0Y.mpr (List.mem_map.mpr ⟨x,hx,e⟩))
    rcases List.mem_append.mp hx with hx | hx
    ·rcases List.mem_append.mp hy with hy | hy
     ·exact ih2 hc' x hx y hy e
     ·rw [List.mem_singleton.mp hy] at e
      exact absurd e (no x hx)
    ·rcases List.mem_append.mp hy with hy | hy
     ·rw [List.mem_singleton.mp hx] at e
      exact absurd e.symm (no y hy)
     ·rw [List.mem_singleton.mp hx,List.mem_singleton.mp hy]
theorem z2L (f:Int→α) (f':Int→β) (o:List Int) (h:∀ x∈o,∀ y∈o,f' x=f' y→f x=f y) :
  (z0I (o.map f)).length≤(z0I (o.map f')).length∧((z0I (o.map f')).length≤(z0I (o.map f)).length→∀ x∈o,∀ y∈o,f x=f y→f' x=f' y):=by
 have:=z7P f f' o.reverse (by rw [List.reverse_reverse];exact h)
 rwa [List.reverse_reverse] at this
def nk (o:List Int) (key:Int→α) (x:Int):Int:=(((z0I (o.map key)).idxOf (key x):Nat):Int)
theorem zck {l:List α} {a b:α} (ha:a∈l) (hb:b∈l) (e:l.idxOf a=l.idxOf b):a=b:=by
 have h1:=List.getElem_idxOf (List.idxOf_lt_length_of_mem ha)
 have h2:=List.getElem_idxOf (List.idxOf_lt_length_of_mem hb)
 rw [←h1,←h2]
 congr 1
theorem z6l {o:List Int} {key:Int→α} {x y:Int} (hx:x∈o) (hy:y∈o):nk o key x=nk o key y↔key x=key y:=by
 unfold nk
 constructor
 ·intro e
  exact zck (z0Y.mpr (List.mem_map.mpr ⟨x,hx,rfl⟩)) (z0Y.mpr (List.mem_map.mpr ⟨y,hy,rfl⟩)) (by lia)
 ·intro e;rw [e]
theorem zct (o:List Int) (key:Int→α):(z0I (o.map (nk o key))).length=(z0I (o.map key)).length:=by
 have h1:=(z2L (nk o key) key o fun x hx y hy e=>(z6l hx hy).mpr e).1
 have h2:=(z2L key (nk o key) o fun x hx y hy e=>(z6l hx hy).mp e).1
 lia
theorem z4g (f:α→β):∀ (gs o:List α),(∀ x∈o++gs,∀ y∈o++gs,f x=f y→x=y)→z0d (o.map f) (gs.map f)=(z0d o gs).map f
 | [],o,_=>rfl
 | g::gs,o,hf=>by
  have h1:z2u (o.map f) (f g)=(z2u o g).map f:=by
   by_cases h:g∈o
   ·rw [z0y h,z0y (List.mem_map.mpr ⟨g,h,rfl⟩)]
   ·have:f g∉o.map f:=fun z=>by
     obtain ⟨x,hx,e⟩:=List.mem_map.mp z
     exact h (hf x (List.mem_append_left _ hx) g (by simp) e ▸ hx)
    rw [z0x h,z0x this,List.map_append];rfl
  show z0d (z2u (o.map f) (f g)) (gs.map f)=(z0d (z2u o g) gs).map f
  rw [h1]
  refine z4g f gs (z2u o g) fun x hx y hy=>hf x ?_ y ?_
  ·rcases List.mem_append.mp hx with hx | hx
   ·rcases z2Y.mp hx with hx | hx
    ·exact List.mem_append_left _ hx
    ·rw [hx];simp
   ·exact List.mem_append_right _ (List.mem_cons_of_mem _ hx)
  ·rcases List.mem_append.mp hy with hy | hy
   ·rcases z2Y.mp hy with hy | hy
    ·exact List.mem_append_left _ hy
    ·rw [hy];simp
   ·exact List.mem_append_right _ (List.mem_cons_of_mem _ hy)
theorem z6x {l:List α} (h:l.Nodup):l.map (fun x=>((l.idxOf x:Nat):Int))=z0z l.length:=by
 refine List.ext_getElem (by rw [List.length_map,z0D]) fun i h1 h2=>?_
 rw [List.length_map] at h1
 rw [List.getElem_map,h.idxOf_getElem i h1]
 have:=z1t h1
 rw [List.getElem?_eq_getElem h2] at this
 exact (Option.some.inj this).symm
theorem zeD (o:List Int) (key:Int→α):z0I (o.map (nk o key))=z0z (z0I (o.map key)).length:=by
 have e:o.map (nk o key)=(o.map key).map (fun v=>(((z0I (o.map key)).idxOf v:Nat):Int)):=by
  rw [List.map_map];rfl
 rw [e]
 have:=z4g (fun v=>(((z0I (o.map key)).idxOf v:Nat):Int)) (o.map key) [] fun x hx y hy q=>by
  rw [List.nil_append] at hx hy
  exact zck (z0Y.mpr hx) (z0Y.mpr hy) (Int.ofNat.inj q)
 rw [List.map_nil] at this
 show z0d [] _=_
 rw [this]
 exact z6x (zbM (o.map key))
end
def run (M:List Row):Int→List Nat→Int
 | x,[]=>x
 | x,i::w=>run M ((row M x).2.getD i 0) w
def beh (M:List Row) (x:Int) (w:List Nat):List Int:=(row M (run M x w)).1
structure Cl (n:Nat) (M:List Row) (o:List Int):Prop where
 zero:0∈o
 cl:∀ r∈o,∀ g∈(row M r).2,g∈o
 len:∀ r∈o,(row M r).2.length=n
theorem Cl.go {n:Nat} {M:List Row} {o:List Int} (C:Cl n M o) {x:Int} (hx:x∈o) (i:Nat):(row M x).2.getD i 0∈o:=by
 by_cases h:i < (row M x).2.length
 ·rw [List.getD_eq_getElem?_getD,List.getElem?_eq_getElem h]
  exact C.cl x hx _ (List.getElem_mem h)
 ·rw [List.getD_eq_getElem?_getD,List.getElem?_eq_none (by lia)]
  exact C.zero
theorem z24 {n:Nat} {rows:List Row} (G:z0j n rows):Cl n rows (z0i rows):=by
 obtain ⟨L,cl⟩:=z0q G
 obtain ⟨t,e⟩:=L.hd
 exact ⟨by rw [e];simp,cl,fun r hr=>G.len _ (z0o (L.rg r hr).1 (L.rg r hr).2)⟩
def z82 {α:Type} (M:List Row) (o:List Int) (f:Int→α):Prop:=∀ x∈o,∀ y∈o,f x=f y↔beh M x=beh M y
structure zd3 {α:Type} (M:List Row) (o:List Int) (f:Int→α):Prop where
 all:∀ x∈o,∀ y∈o,beh M x=beh M y→f x=f y
 fst:∀ x∈o,∀ y∈o,f x=f y→(row M x).1=(row M y).1
def zbz {α β:Type} (M:List Row) (o:List Int) (f:Int→α) (f':Int→β):Prop:=∀ x∈o,∀ y∈o,f' x=f' y↔(f x=f y∧(row M x).2.map f=(row M y).2.map f)
theorem zd3.next {α β:Type} {n:Nat} {M:List Row} {o:List Int} {f:Int→α} {f':Int→β} (C:Cl n M o) (F:zd3 M o f) (S:zbz M o f f'):zd3 M o f':=by
 refine ⟨fun x hx y hy e=>(S x hx y hy).mpr ⟨F.all x hx y hy e,?_⟩,fun x hx y hy e=>F.fst x hx y hy ((S x hx y hy).mp e).1⟩
 refine List.ext_getElem (by rw [List.length_map,List.length_map,C.len x hx,C.len y hy]) fun i h1 h2=>?_
 rw [List.length_map] at h1 h2
 rw [List.getElem_map,List.getElem_map]
 have a1:=C.go hx i
 have a2:=C.go hy i
 have b1:(row M x).2.getD i 0=(row M x).2[i]:=by rw [List.getD_eq_getElem?_getD,List.getElem?_eq_getElem h1];rfl
 have b2:(row M y).2.getD i 0=(row M y).2[i]:=by rw [List.getD_eq_getElem?_getD,List.getElem?_eq_getElem h2];rfl
 rw [←b1,←b2]
 exact F.all _ a1 _ a2 (funext fun w=>congrFun e (i::w))
theorem zd3.right {α β:Type} {n:Nat} {M:List Row} {o:List Int} {f:Int→α} {f':Int→β} (C:Cl n M o) (F:zd3 M o f) (S:zbz M o f f') (hk:∀ x∈o,∀ y∈o,f x=f y→f' x=f' y):z82 M o f':=by
 have key:∀ (w:List Nat) (x y:Int),x∈o→y∈o→f x=f y→beh M x w=beh M y w:=by
  intro w
  induction w with
  | nil=>intro x y hx hy e;exact F.fst x hx y hy e
  | cons i w ih =>
   intro x y hx hy e
   refine ih _ _ (C.go hx i) (C.go hy i) ?_
   have h:=((S x hx y hy).mp (hk x hx y hy e)).2
   have h':=congrArg (fun l=>l[i]?) h
   simp only [List.getElem?_map] at h'
   rw [List.getD_eq_getElem?_getD,List.getD_eq_getElem?_getD]
   cases e1:(row M x).2[i]? with
   | none =>
    rw [e1] at h'
    cases e2:(row M y).2[i]? with
    | none=>rfl
    | some b=>rw [e2] at h';cases h'
   | some a =>
    rw [e1] at h'
    cases e2:(row M y).2[i]? with
    | none=>rw [e2] at h';cases h'
    | some b=>rw [e2] at h';exact Option.some.inj h'
 intro x hx y hy
 refine ⟨fun e=>funext fun w=>key w x y hx hy ((S x hx y hy).mp e).1,fun e=>(F.next C S).all x hx y hy e⟩
end Gu
namespace Gu
open PySem L2
theorem z2y (rows:List Row) (o:List Int) (f:Int→D) (r:Int):z3e rows o f r=D.int (nk o (z1W rows f) r):=rfl
theorem z9c {rows:List Row} {f:Int→D} {x y:Int}:z1W rows f x=z1W rows f y↔(f x=f y∧(row rows x).2.map f=(row rows y).2.map f):=by
 unfold z1W
 constructor
 ·intro e
  injection e with e
  injection e with e1 e2
  injection e2 with e2 _
  injection e2 with e2
  exact ⟨e1,e2⟩
 ·rintro ⟨e1,e2⟩
  rw [e1,e2]
theorem z7U (rows:List Row) (o:List Int) (f:Int→D):zbz rows o f (z3e rows o f):=fun x hx y hy=>by
 rw [z2y,z2y]
 constructor
 ·intro e
  injection e with e
  exact z9c.mp ((z6l hx hy).mp e)
 ·intro e
  rw [(z6l hx hy).mpr (z9c.mpr e)]
theorem z7V (rows:List Row) (o:List Int) (f:Int→D):z2O rows o f=(z0I (o.map (z3e rows o f))).length:=by
 have h1:z2O rows o f=(z0I (o.map (z1W rows f))).length:=rfl
 have h2:=(z2L (z3e rows o f) (z1W rows f) o fun x hx y hy e=>by rw [z2y,z2y,(z6l hx hy).mpr e]).1
 have h3:=(z2L (z1W rows f) (z3e rows o f) o fun x hx y hy e=>by
  rw [z2y,z2y] at e
  injection e with e
  exact (z6l hx hy).mp e).1
 lia
theorem z5s {n:Nat} {rows:List Row} {o:List Int} (C:Cl n rows o):∀ (m many:Nat) (f:Int→D),zd3 rows o f→(many=0∨many=(z0I (o.map f)).length)→many≤o.length→o.length+1≤m+many→z82 rows o (z4Q rows o m many f)
 | 0,many,f,F,hm,hl,hf=>by lia
 | m+1,many,f,F,hm,hl,hf=>by
  unfold z4Q
  have S:=z7U rows o f
  by_cases hc:many < z2O rows o f
  ·rw [if_pos hc]
   refine z5s C m _ _ (F.next C S) (.inr (z7V rows o f)) (z7S rows o f) (by lia)
  ·rw [if_neg hc]
   have h1:1≤z2O rows o f:=by
    have:z1W rows f 0∈z0I (z2t rows o f):=z0Y.mpr (List.mem_map.mpr ⟨0,C.zero,rfl⟩)
    exact List.length_pos_of_mem this
   have h2:many=(z0I (o.map f)).length:=by rcases hm with h | h;lia;exact h
   have h3:=z7V rows o f
   refine F.right C S ((z2L f (z3e rows o f) o fun x hx y hy e=>((S x hx y hy).mp e).1).2 (by lia))
theorem zhm (rows:List Row) (o:List Int):zd3 rows o fun r=>D.its (row rows r).1 :=
 ⟨fun x hx y hy e=>by
  have:=congrFun e []
  show D.its _=D.its _
  rw [show (row rows x).1=(row rows y).1 from this],fun x hx y hy e=>z5t e⟩
theorem z32 {n:Nat} {rows:List Row} (G:z0j n rows):z82 rows (z0i rows) (kOf rows):=by
 have hl:=(z0q G).1.len
 have h:=z5s (z24 G) (rows.length+2) 0 _ (zhm rows (z0i rows)) (.inl rfl) (by lia) (by lia)
 intro x hx y hy
 have:=h x hx y hy
 have e:z4Q rows (z0i rows) (rows.length+2) 0 (fun r=>D.its (row rows r).1)=fun r=>D.int (kOf rows r):=z5Q rows
 rw [e] at this
 rw [←this]
 exact ⟨fun q=>by show D.int _=D.int _;rw [q],fun q=>D.int.inj q⟩
def kf (ks:List Int) (x:Int):Int:=ks.getD x.toNat 0
theorem z33 {α:Type} [DecidableEq α] {L:Nat} {key:Int→α} {x:Int} (hx:x∈z0z L):kf (z2o ((z0z L).map key)) x=nk (z0z L) key x:=by
 have hx':=z0K.mp hx
 unfold kf z2o nk
 have hl:x.toNat < L:=by lia
 rw [List.getD_eq_getElem?_getD,List.getElem?_map,List.getElem?_map,z1t hl]
 have:((x.toNat:Nat):Int)=x:=by lia
 simp only [Option.map_some,Option.getD_some,this]
theorem z5d (fs:List Row) (g:Row→α):fs.map g=(z0z fs.length).map fun x=>g (row fs x):=by
 refine List.ext_getElem? fun i=>?_
 rw [List.getElem?_map,List.getElem?_map]
 by_cases h:i < fs.length
 ·rw [z1t h,List.getElem?_eq_getElem h]
  show some (g fs[i])=some (g (row fs (i:Int)))
  congr 2
  unfold row
  have:((i:Nat):Int).toNat=i:=by lia
  rw [this,List.getD_eq_getElem?_getD,List.getElem?_eq_getElem h];rfl
 ·rw [List.getElem?_eq_none (by lia),List.getElem?_eq_none (by rw [z0D];lia)]
  rfl
def zeT (fs:List Row) (ks:List Int) (x:Int):Int × List Int:=(kf ks x,(row fs x).2.map (kf ks))
theorem z4e {fs:List Row} {ks:List Int} (h:ks.length=fs.length):z3b ks fs=(z0z fs.length).map (zeT fs ks):=by
 unfold z3b
 refine List.ext_getElem? fun i=>?_
 rw [List.getElem?_map,List.getElem?_map]
 by_cases hi:i < fs.length
 ·have e1:(ks.zip fs)[i]?=some (ks[i]'(by lia),fs[i]):=List.getElem?_zip_eq_some.mpr ⟨List.getElem?_eq_getElem (by lia),List.getElem?_eq_getElem hi⟩
  rw [z1t hi,e1]
  simp only [Option.map_some]
  congr 1
  unfold zeT kf row
  have:((i:Nat):Int).toNat=i:=by lia
  rw [this,List.getD_eq_getElem?_getD,List.getElem?_eq_getElem (by lia:i < ks.length),List.getD_eq_getElem?_getD,List.getElem?_eq_getElem hi]
  rfl
 ·rw [List.getElem?_eq_none (by rw [List.length_zip];lia),List.getElem?_eq_none (by rw [z0D];lia)]
  rfl
theorem z4t {α:Type} [DecidableEq α] {xs:List α} (h:xs≠[]):cnt (z2o xs)=((z0I xs).length:Int):=by
 have hne:z2o xs≠[]:=fun z=>h (by
  have:=z3R xs
  rw [z] at this
  exact List.eq_nil_of_length_eq_zero this.symm)
 obtain ⟨h1,h2⟩:=z8x hne fun k hk=>(z6O hk).1
 have h3:=(z6O h1).2
 have hpos:0 < (z0I xs).length:=by
  cases xs with
  | nil=>exact absurd rfl h
  | cons a r=>exact List.length_pos_of_mem (z0Y.mpr (show a∈a::r by simp))
 have hm:(z0I xs)[(z0I xs).length - 1]'(by lia)∈xs:=z0Y.mp (List.getElem_mem _)
 have h4:(((z0I xs).length - 1:Nat):Int)∈z2o xs:=by
  unfold z2o
  refine List.mem_map.mpr ⟨_,hm,?_⟩
  rw [(zbM xs).idxOf_getElem]
 have:=h2 _ h4
 lia
theorem z6y {L:Nat} {α:Type} {g:Int→α} (h:1≤L):(z0z L).map g≠[]:=fun z=>by
 have:=congrArg List.length z
 rw [List.length_map,z0D] at this
 simp at this
 lia
theorem z6F {α:Type} [DecidableEq α] {L:Nat} {key:Int→α}:(z0I ((z0z L).map (kf (z2o ((z0z L).map key))))).length=(z0I ((z0z L).map key)).length:=by
 rw [←zct (z0z L) key]
 congr 2
 exact List.map_congr_left fun x hx=>z33 hx
theorem z6c {fs:List Row} (hgo:∀ x∈z0z fs.length,∀ g∈(row fs x).2,g∈z0z fs.length) {ks:List Int}:zbz fs (z0z fs.length) (kf ks) (kf (z2o ((z0z fs.length).map (zeT fs ks)))):=fun x hx y hy=>by
 rw [z33 hx,z33 hy,z6l hx hy]
 unfold zeT
 rw [Prod.mk.injEq]
theorem zg7 {n:Nat} {fs:List Row} (G:z40 n fs):Cl n fs (z0z fs.length):=by
 refine ⟨z0K.mpr ⟨by lia,by have:=G.some;lia⟩,fun r hr g hg=>?_,fun r hr=>?_⟩
 ·have h:=z0K.mp hr
  exact z0K.mpr (G.go _ (z0o h.1 h.2) g hg)
 ·have h:=z0K.mp hr
  exact G.len _ (z0o h.1 h.2)
theorem z4R {n:Nat} {fs:List Row} (G:z40 n fs):∀ (m:Nat) (c:Int) (ks:List Int),(∃ (α:Type) (_:DecidableEq α) (key:Int→α),ks=z2o ((z0z fs.length).map key))→zd3 fs (z0z fs.length) (kf ks) →
  (c=0∨∃ ks0:List Int,zd3 fs (z0z fs.length) (kf ks0)∧zbz fs (z0z fs.length) (kf ks0) (kf ks)∧c=((z0I ((z0z fs.length).map (kf ks0))).length:Int))→0≤c→c≤(fs.length:Int)→(fs.length:Int)+1≤m+c →
  z82 fs (z0z fs.length) (kf (z5e fs m c ks))∧∃ (α:Type) (_:DecidableEq α) (key:Int→α),z5e fs m c ks=z2o ((z0z fs.length).map key)
 | 0,c,ks,hk,F,hp,h0,h1,h2=>by lia
 | m+1,c,ks,hk,F,hp,h0,h1,h2=>by
  unfold z5e
  have C:=zg7 G
  obtain ⟨α,ia,key,rfl⟩:=hk
  have hcn:=z4t (z6y (g:=key) G.some)
  have hU:(z0I ((z0z fs.length).map key)).length≤fs.length:=by
   have:=z4N ((z0z fs.length).map key)
   rw [List.length_map,z0D] at this
   exact this
  have hUp:1≤(z0I ((z0z fs.length).map key)).length:=List.length_pos_of_mem (z0Y.mpr (List.mem_map.mpr ⟨0,C.zero,rfl⟩))
  by_cases hc:c < cnt (z2o ((z0z fs.length).map key))
  ·rw [if_pos hc,hcn,z4e (by rw [z3R,List.length_map,z0D])]
   refine z4R G m _ _ ⟨_,_,_,rfl⟩ (F.next C (z6c C.cl)) (.inr ⟨_,F,z6c C.cl,?_⟩) (by lia) (by lia) (by rw [hcn] at hc;lia)
   rw [z6F]
  ·rw [if_neg hc]
   refine ⟨?_,_,_,_,rfl⟩
   rcases hp with hp | ⟨ks0,F0,S0,hc0⟩
   ·rw [hcn] at hc;lia
   ·refine F0.right C S0 ((z2L _ _ _ fun x hx y hy e=>((S0 x hx y hy).mp e).1).2 ?_)
    rw [z6F]
    rw [hcn] at hc
    lia
theorem z5p {n:Nat} {fs:List Row} (G:z40 n fs):z82 fs (z0z fs.length) (kf (z2S fs))∧∃ (α:Type) (_:DecidableEq α) (key:Int→α),z2S fs=z2o ((z0z fs.length).map key):=by
 have C:=zg7 G
 unfold z2S
 refine z4R G (fs.length+1) 0 _ ⟨List Int,inferInstance,fun x=>(row fs x).1,by rw [z5d fs (·.1)]⟩ ?_ (.inl rfl) (by lia) (by lia) (by lia)
 rw [z5d fs (·.1)]
 refine ⟨fun x hx y hy e=>?_,fun x hx y hy e=>?_⟩
 ·rw [z33 hx,z33 hy,z6l hx hy]
  exact congrFun e []
 ·rw [z33 hx,z33 hy,z6l hx hy] at e
  exact e
inductive BF (M:List Row):Nat→List Int→List Int→Prop
 | stop {i:Nat} {o:List Int}:o.length≤i→BF M i o o
 | step {i:Nat} {o res:List Int} {r:Int}:o[i]?=some r→BF M (i+1) (z0d o (row M r).2) res→BF M i o res
theorem BF.det {M:List Row} {i:Nat} {o a b:List Int} (h:BF M i o a) (h':BF M i o b):a=b:=by
 induction h generalizing b with
 | stop hl =>
  cases h' with
  | stop _=>rfl
  | step e _=>rw [List.getElem?_eq_none hl] at e;cases e
 | step e _ ih =>
  cases h' with
  | stop hl=>rw [List.getElem?_eq_none hl] at e;cases e
  | step e' q =>
   rw [e] at e'
   cases e'
   exact ih q
theorem BF.sub {M:List Row} {i:Nat} {o a:List Int} (h:BF M i o a):∃ m,a=o++m:=by
 induction h with
 | stop _=>exact ⟨[],by simp⟩
 | @step i o res r e _ ih =>
  obtain ⟨m,em⟩:=ih
  obtain ⟨m',em'⟩:=z0N (row M r).2 o
  exact ⟨m'++m,by rw [em,em',List.append_assoc]⟩
theorem zfw {n:Nat} {rows:List Row} (G:z0j n rows):∀ (f i:Nat) (o:List Int),z7n rows o→i≤o.length→rows.length+1≤f+i→BF rows i o (bfs rows f i o)
 | 0,i,o,L,hi,hf=>by
  have:=L.len
  lia
 | f+1,i,o,L,hi,hf=>by
  cases e:o[i]? with
  | none =>
   rw [z3x (List.getElem?_eq_none_iff.mp e)]
   exact .stop (List.getElem?_eq_none_iff.mp e)
  | some r =>
   rw [z3A e]
   have hr:r∈o:=List.mem_of_getElem? e
   have hil:i < o.length:=(List.getElem?_eq_some_iff.mp e).1
   obtain ⟨m,em⟩:=z0N (row rows r).2 o
   exact .step e (zfw G f (i+1) _ (L.add G hr) (by rw [em,List.length_append];lia) (by lia))
theorem z3G {n:Nat} {rows:List Row} (G:z0j n rows):BF rows 0 [0] (z0i rows):=zfw G (rows.length+1) 0 [0] (zbC G) (by simp) (by lia)
theorem z5r {α β:Type} [DecidableEq α] [DecidableEq β] (h:α→β):∀ (gs o:List α),z0I ((z0d o gs).map h)=z0d (z0I (o.map h)) (gs.map h)
 | [],o=>rfl
 | g::gs,o=>by
  show z0I ((z0d (z2u o g) gs).map h)=z0d (z2u (z0I (o.map h)) (h g)) (gs.map h)
  rw [z5r h gs (z2u o g)]
  congr 1
  by_cases hg:g∈o
  ·rw [z0y hg,z0y (z0Y.mpr (List.mem_map.mpr ⟨g,hg,rfl⟩))]
  ·rw [z0x hg,List.map_append]
   exact z1T _ _
def Mor (M' M:List Row) (o':List Int) (h:Int→Int):Prop:=∀ x∈o',row M (h x)=((row M' x).1,(row M' x).2.map h)
theorem BF.map {M' M:List Row} {h:Int→Int} {i:Nat} {o res:List Int} (b:BF M' i o res):Mor M' M res h→(∀ j r,j < i→o[j]?=some r→∀ g∈(row M' r).2,g∈o)→i≤o.length →
  BF M (z0I ((o.take i).map h)).length (z0I (o.map h)) (z0I (res.map h)):=by
 induction b with
 | @stop i o hl =>
  intro _ _ _
  rw [List.take_of_length_le hl]
  exact .stop (Nat.le_refl _)
 | @step i o res r e b ih =>
  intro mo pc hi
  obtain ⟨m0,em0⟩:=b.sub
  obtain ⟨m,em⟩:=z0N (row M' r).2 o
  have hil:i < o.length:=(List.getElem?_eq_some_iff.mp e).1
  have hro:r∈o:=List.mem_of_getElem? e
  have hr:=mo r (by rw [em0,em];exact List.mem_append_left _ (List.mem_append_left _ hro))
  have ih':=ih mo (fun j r' hj er g hg=>?_) (by rw [em,List.length_append];lia)
  ·have et:(z0d o (row M' r).2).take (i+1)=o.take i++[r]:=by
    rw [em,List.take_append_of_le_length (by lia),List.take_add_one,e];rfl
   rw [et,List.map_append,show List.map h [r]=[h r] from rfl,z1T,z5r] at ih'
   by_cases hm:h r∈z0I ((o.take i).map h)
   ·rw [z0y hm,z5X] at ih'
    ·exact ih'
    ·intro g hg
     obtain ⟨r',hr',er'⟩:=List.mem_map.mp (z0Y.mp hm)
     obtain ⟨j,hj,ej⟩:=List.getElem_of_mem hr'
     rw [List.length_take] at hj
     rw [List.getElem_take] at ej
     have hmo:=mo r' (by rw [em0,em];exact List.mem_append_left _ (List.mem_append_left _ (List.mem_of_mem_take hr')))
     rw [er',hr] at hmo
     have e2:(row M' r).2.map h=(row M' r').2.map h:=congrArg Prod.snd hmo
     rw [e2] at hg
     obtain ⟨g',hg',eg⟩:=List.mem_map.mp hg
     have:=pc j r' (by lia) (by rw [List.getElem?_eq_getElem (by lia),ej]) g' hg'
     exact z0Y.mpr (List.mem_map.mpr ⟨g',this,eg⟩)
   ·rw [z0x hm,List.length_append] at ih'
    refine .step (r:=h r) ?_ ?_
    ·have eo:o=(o.take i++[r])++o.drop (i+1):=by
      have:o.take (i+1)=o.take i++[r]:=by rw [List.take_add_one,e];rfl
      rw [←this,List.take_append_drop]
     have e3:z0I (o.map h)=z0d (z0I ((o.take i).map h)++[h r]) ((o.drop (i+1)).map h):=by
      conv=>lhs;rw [eo]
      rw [List.map_append,z9d,List.map_append,show List.map h [r]=[h r] from rfl,z1T,z0x hm]
     obtain ⟨m2,em2⟩:=z0N ((o.drop (i+1)).map h) (z0I ((o.take i).map h)++[h r])
     rw [e3,em2,List.append_assoc,List.getElem?_append_right (Nat.le_refl _),Nat.sub_self]
     rfl
    ·rw [hr]
     exact ih'
  ·have hjo:j < o.length:=by lia
   have er':o[j]?=some r':=by rw [em,List.getElem?_append_left hjo] at er;exact er
   by_cases hji:j=i
   ·subst hji
    rw [e] at er'
    cases er'
    exact z0O.mpr (.inr hg)
   ·exact z0O.mpr (.inl (pc j r' (by lia) er' g hg))
theorem z7I {n n':Nat} {M' M:List Row} {h:Int→Int} (G':z0j n' M') (G:z0j n M) (h0:h 0=0) (mo:Mor M' M (z0i M') h):z0I ((z0i M').map h)=z0i M:=by
 have b:=(z3G G').map mo (fun j r hj=>absurd hj (Nat.not_lt_zero _)) (by simp)
 have e:z0I ([(0:Int)].map h)=[0]:=by
  rw [show [(0:Int)].map h=[h 0] from rfl,h0];rfl
 rw [e] at b
 exact b.det (z3G G)
theorem z69 (k:Int→Int):∀ l:List Int,(z0C k l.reverse).map k=z0I (l.reverse.map k)
 | []=>rfl
 | a::l=>by
  rw [List.reverse_cons,z1K,List.map_append,show List.map k [a]=[k a] from rfl,z1T,←z69 k l]
  unfold z0T
  by_cases h:k a∈(z0C k l.reverse).map k
  ·rw [if_pos h,z0y h]
  ·rw [if_neg h,z0x h,List.map_append];rfl
theorem z2r (k:Int→Int) (o:List Int):(z0C k o).map k=z0I (o.map k):=by
 have:=z69 k o.reverse
 rwa [List.reverse_reverse] at this
theorem z81 {k k':Int→Int}:∀ l:List Int,(∀ x∈l.reverse,∀ y∈l.reverse,k x=k y↔k' x=k' y)→z0C k l.reverse=z0C k' l.reverse
 | [],_=>rfl
 | a::l,h=>by
  rw [List.reverse_cons] at h ⊢
  rw [z1K,z1K,z81 l fun x hx y hy=>h x (List.mem_append_left _ hx) y (List.mem_append_left _ hy)]
  unfold z0T
  have hin:=(z1s k' l.reverse).2.1
  have:k a∈(z0C k' l.reverse).map k↔k' a∈(z0C k' l.reverse).map k':=by
   constructor
   ·intro hm
    obtain ⟨x,hx,e⟩:=List.mem_map.mp hm
    exact List.mem_map.mpr ⟨x,hx,(h x (List.mem_append_left _ (hin x hx)) a (by simp)).mp e⟩
   ·intro hm
    obtain ⟨x,hx,e⟩:=List.mem_map.mp hm
    exact List.mem_map.mpr ⟨x,hx,(h x (List.mem_append_left _ (hin x hx)) a (by simp)).mpr e⟩
  by_cases hm:k a∈(z0C k' l.reverse).map k
  ·rw [if_pos hm,if_pos (this.mp hm)]
  ·rw [if_neg hm,if_neg (fun z=>hm (this.mpr z))]
theorem z9V {k k':Int→Int} {o:List Int} (h:∀ x∈o,∀ y∈o,k x=k y↔k' x=k' y):z0C k o=z0C k' o:=by
 have:=z81 (k:=k) (k':=k') o.reverse (by rw [List.reverse_reverse];exact h)
 rwa [List.reverse_reverse] at this
theorem z5R (k h:Int→Int):∀ l:List Int,(z0C (fun x=>k (h x)) l.reverse).map h=z0C k (z0I (l.reverse.map h))
 | []=>rfl
 | a::l=>by
  rw [List.reverse_cons,z1K,List.map_append,show List.map h [a]=[h a] from rfl,z1T]
  have ih:=z5R k h l
  have e:(z0C (fun x=>k (h x)) l.reverse).map (fun x=>k (h x))=(z0C k (z0I (l.reverse.map h))).map k:=by
   rw [←ih,List.map_map];rfl
  unfold z0T
  by_cases hm:h a∈z0I (l.reverse.map h)
  ·have hk:k (h a)∈(z0C (fun x=>k (h x)) l.reverse).map (fun x=>k (h x)):=by
    rw [e]
    exact (z1s k _).1 _ hm
   rw [if_pos hk,z0y hm];exact ih
  ·rw [z0x hm,z1K]
   unfold z0T
   by_cases hk:k (h a)∈(z0C (fun x=>k (h x)) l.reverse).map (fun x=>k (h x))
   ·rw [if_pos hk,if_pos (by rw [←e];exact hk)];exact ih
   ·rw [if_neg hk,if_neg (by rw [←e];exact hk),List.map_append,ih];rfl
theorem z8N (k h:Int→Int) (o:List Int):(z0C (fun x=>k (h x)) o).map h=z0C k (z0I (o.map h)):=by
 have:=z5R k h o.reverse
 rwa [List.reverse_reverse] at this
theorem zaU {k k':Int→Int} {x:Int}:∀ {l:List Int},(∀ y∈l,k y=k x↔k' y=k' x)→(l.map k).idxOf (k x)=(l.map k').idxOf (k' x)
 | [],_=>rfl
 | b::l,h=>by
  rw [List.map_cons,List.map_cons,List.idxOf_cons,List.idxOf_cons,zaU fun y hy=>h y (List.mem_cons_of_mem _ hy)]
  have:=h b (by simp)
  have e:(k b == k x)=(k' b == k' x):=by
   rw [Bool.eq_iff_iff,beq_iff_eq,beq_iff_eq];exact this
  rw [e]
theorem zbI {n:Nat} {M' M:List Row} {o':List Int} {h:Int→Int} (C:Cl n M' o') (h0:h 0=0) (mo:Mor M' M o' h):∀ (w:List Nat) (x:Int),x∈o'→h (run M' x w)=run M (h x) w∧run M' x w∈o'
 | [],x,hx=>⟨rfl,hx⟩
 | i::w,x,hx=>by
  have e:(row M (h x)).2.getD i 0=h ((row M' x).2.getD i 0):=by
   rw [mo x hx,List.getD_eq_getElem?_getD,List.getD_eq_getElem?_getD,List.getElem?_map]
   cases (row M' x).2[i]? with
   | none=>exact h0.symm
   | some a=>rfl
  obtain ⟨h1,h2⟩:=zbI C h0 mo w _ (C.go hx i)
  refine ⟨?_,h2⟩
  show h (run M' ((row M' x).2.getD i 0) w)=run M ((row M (h x)).2.getD i 0) w
  rw [e];exact h1
theorem z61 {n n':Nat} {M' M:List Row} {h k k':Int→Int} (G':z0j n' M') (G:z0j n M) (h0:h 0=0) (mo:Mor M' M (z0i M') h) (R:z82 M (z0i M) k) (R':z82 M' (z0i M') k') :
  z2a M' k' (z0i M')=z2a M k (z0i M):=by
 have C':=z24 G'
 have eo:=z7I G' G h0 mo
 have hin:∀ x∈z0i M',h x∈z0i M:=fun x hx=>by rw [←eo];exact z0Y.mpr (List.mem_map.mpr ⟨x,hx,rfl⟩)
 have hb:∀ x∈z0i M',beh M' x=beh M (h x):=fun x hx=>funext fun w=>by
  obtain ⟨h1,h2⟩:=zbI C' h0 mo w x hx
  show (row M' (run M' x w)).1=(row M (run M (h x) w)).1
  rw [←h1,mo _ h2]
 have ker:∀ x∈z0i M',∀ y∈z0i M',k' x=k' y↔k (h x)=k (h y):=fun x hx y hy=>by
  rw [R' x hx y hy,R _ (hin x hx) _ (hin y hy),hb x hx,hb y hy]
 have hh:z0C k' (z0i M')=z0C (fun x=>k (h x)) (z0i M'):=z9V ker
 have hm:(z0C (fun x=>k (h x)) (z0i M')).map h=z0C k (z0i M):=by rw [z8N,eo]
 have hsub:∀ r∈z0C (fun x=>k (h x)) (z0i M'),r∈z0i M':=(z1s _ _).2.1
 unfold z2a
 rw [hh,←hm,List.map_map]
 refine List.map_congr_left fun r hr=>?_
 have hro:=hsub r hr
 show _=((row M (h r)).1,(row M (h r)).2.map _)
 rw [mo r hro]
 refine Prod.ext rfl ?_
 show List.map _ _=List.map _ (List.map h (row M' r).2)
 rw [List.map_map]
 refine List.map_congr_left fun g hg=>?_
 have hgo:=C'.cl r hro g hg
 show (((List.map k' (z0C (fun x=>k (h x)) (z0i M'))).idxOf (k' g):Nat):Int)=((((z0C (fun x=>k (h x)) (z0i M')).map h).map k).idxOf (k (h g)):Nat)
 rw [List.map_map]
 have:=zaU (k:=k') (k':=fun x=>k (h x)) (x:=g) (l:=z0C (fun x=>k (h x)) (z0i M')) fun y hy=>ker y (hsub y hy) g hgo
 rw [this]
 rfl
theorem z46 {n n':Nat} {M' M:List Row} {h:Int→Int} (G':z0j n' M') (G:z0j n M) (h0:h 0=0) (mo:Mor M' M (z0i M') h):shr M'=shr M :=
 z61 G' G h0 mo (z32 G) (z32 G')
theorem z40.m {n:Nat} {fs:List Row} (G:z40 n fs):z0j n fs:=⟨G.few,G.some,G.perm,G.len,G.go⟩
theorem z7Q {n:Nat} {rows:List Row} (G:z0j n rows) {x:Int} (hx:x∈z0i rows):row (z0F rows) ((((z0i rows).idxOf x:Nat):Int))=((row rows x).1,(row rows x).2.map fun g=>(((z0i rows).idxOf g:Nat):Int)):=by
 have hl:=List.idxOf_lt_length_of_mem hx
 unfold row z0F z1I
 have:((((z0i rows).idxOf x:Nat):Int)).toNat=(z0i rows).idxOf x:=by lia
 rw [this,List.getD_eq_getElem?_getD,List.getElem?_map,List.getElem?_eq_getElem hl,List.getElem_idxOf hl]
 rfl
theorem z8c (rows:List Row):(z0F rows).length=(z0i rows).length:=by unfold z0F z1I;rw [List.length_map]
theorem z3n {n:Nat} {rows:List Row} (G:z0j n rows):z0i (z0F rows)=z0z (z0F rows).length:=by
 obtain ⟨L,cl⟩:=z0q G
 obtain ⟨t,e⟩:=L.hd
 have h0:(((z0i rows).idxOf 0:Nat):Int)=0:=by rw [e];simp
 have h:=z7I (h:=fun x=>(((z0i rows).idxOf x:Nat):Int)) G (z2A G).m h0 fun x hx=>z7Q G hx
 rw [←h,z6x L.nd,z8c]
 exact zbX (z42 _)
theorem zay {n:Nat} {rows:List Row} (G:z0j n rows):Mor (z0F rows) rows (z0i (z0F rows)) fun i=>(z0i rows).getD i.toNat 0:=by
 obtain ⟨L,cl⟩:=z0q G
 intro i hi
 rw [z3n G,z8c] at hi
 obtain ⟨i0,i1⟩:=z0K.mp hi
 have hl:i.toNat < (z0i rows).length:=by lia
 have e1:(z0i rows).getD i.toNat 0=(z0i rows)[i.toNat]:=by rw [List.getD_eq_getElem?_getD,List.getElem?_eq_getElem hl];rfl
 have hx:(z0i rows)[i.toNat]∈z0i rows:=List.getElem_mem hl
 have e2:(((z0i rows).idxOf (z0i rows)[i.toNat]:Nat):Int)=i:=by rw [L.nd.idxOf_getElem];lia
 have e3:=z7Q G hx
 rw [e2] at e3
 show row rows ((z0i rows).getD i.toNat 0)=_
 rw [e1,e3]
 refine Prod.ext rfl ?_
 show (row rows (z0i rows)[i.toNat]).2=List.map _ (List.map _ _)
 rw [List.map_map]
 conv=>lhs;rw [←List.map_id (row rows (z0i rows)[i.toNat]).2]
 refine List.map_congr_left fun g hg=>?_
 have hg':=cl _ hx g hg
 have hl':=List.idxOf_lt_length_of_mem hg'
 show g=(z0i rows).getD ((((z0i rows).idxOf g:Nat):Int)).toNat 0
 have:((((z0i rows).idxOf g:Nat):Int)).toNat=(z0i rows).idxOf g:=by lia
 rw [this,List.getD_eq_getElem?_getD,List.getElem?_eq_getElem hl',List.getElem_idxOf hl']
 rfl
theorem z7Y {L i:Nat} (h:i≤L):(z0z L).take i=z0z i:=by
 refine List.ext_getElem? fun j=>?_
 by_cases hj:j < i
 ·rw [List.getElem?_take_of_lt hj,z1t (by lia),z1t hj]
 ·rw [List.getElem?_eq_none (by rw [List.length_take,z0D];lia),List.getElem?_eq_none (by rw [z0D];lia)]
theorem zda {c:Nat} {u m:List Int} (e:u++m=z0z c):u=z0z u.length:=by
 have hl:u.length≤c:=by have:=congrArg List.length e;rw [List.length_append,z0D] at this;lia
 have:=congrArg (List.take u.length) e
 rw [List.take_append_of_le_length (Nat.le_refl _),List.take_length,z7Y hl] at this
 exact this
theorem z4U (j:Nat):z0z (j+1)=z0z j++[(j:Int)]:=by
 unfold z0z
 rw [List.range_succ,List.map_append];rfl
theorem z4j {fs:List Row} {ks:List Int} (hl:ks.length=fs.length) (hn:∃ (α:Type) (_:DecidableEq α) (key:Int→α),ks=z2o ((z0z fs.length).map key)) (hgo:∀ r∈fs,∀ g∈r.2,0≤g∧g < (fs.length:Int)) :
  z5y fs ks=z2a fs (kf ks) (z0z fs.length):=by
 obtain ⟨α,ia,key,ek⟩:=hn
 have hU:z0I ((z0z fs.length).map (kf ks))=z0z (z0I ((z0z fs.length).map key)).length:=by
  have e:(z0z fs.length).map (kf ks)=(z0z fs.length).map (nk (z0z fs.length) key):=List.map_congr_left fun x hx=>by rw [ek];exact z33 hx
  rw [e]
  exact zeD (z0z fs.length) key
 generalize hc:(z0I ((z0z fs.length).map key)).length=c at hU
 have hpre:∀ i,i≤fs.length→z0I ((z0z i).map (kf ks))=z0z (z0I ((z0z i).map (kf ks))).length:=fun i hi=>by
  have e1:z0z fs.length=z0z i++(z0z fs.length).drop i:=by
   conv=>lhs;rw [←List.take_append_drop i (z0z fs.length)]
   rw [z7Y hi]
  rw [e1,List.map_append,z9d] at hU
  obtain ⟨m,em⟩:=z0N (((z0z fs.length).drop i).map (kf ks)) (z0I ((z0z i).map (kf ks)))
  rw [em] at hU
  exact zda hU
 have main:∀ i,i≤fs.length→z2D fs ks i=(z0C (kf ks) (z0z i)).map fun r=>((row fs r).1,(row fs r).2.map (kf ks)):=by
  intro i
  induction i with
  | zero=>intro _;rfl
  | succ i ih =>
   intro hi
   have ih:=ih (by lia)
   have hif:i < fs.length:=by lia
   have hik:i < ks.length:=by lia
   rw [z4O (r:=fs[i]) (k:=ks[i]) (List.getElem?_eq_getElem hif) (List.getElem?_eq_getElem hik),ih,z4U,z1K]
   have p1:=hpre i (by lia)
   have p2:=hpre (i+1) hi
   rw [z4U,List.map_append,show List.map (kf ks) [(i:Int)]=[kf ks i] from rfl,z1T] at p2
   have hm:=z2r (kf ks) (z0z i)
   have hlen:(z0C (kf ks) (z0z i)).length=(z0I ((z0z i).map (kf ks))).length:=by rw [←hm,List.length_map]
   have ek:ks[i]=kf ks (i:Int):=by
    unfold kf
    have:((i:Nat):Int).toNat=i:=by lia
    rw [this,List.getD_eq_getElem?_getD,List.getElem?_eq_getElem hik];rfl
   have er:fs[i]=row fs (i:Int):=by
    unfold row
    have:((i:Nat):Int).toNat=i:=by lia
    rw [this,List.getD_eq_getElem?_getD,List.getElem?_eq_getElem hif];rfl
   unfold z6u z0T
   rw [hm,List.length_map,hlen]
   by_cases hin:kf ks i∈z0I ((z0z i).map (kf ks))
   ·rw [if_pos hin,if_neg]
    show ¬ ks[i]=_
    rw [ek]
    rw [p1] at hin
    have:=z0K.mp hin
    lia
   ·rw [if_neg hin,if_pos]
    ·rw [List.map_append,er]
     rfl
    ·show ks[i]=_
     rw [ek]
     rw [z0x hin,List.length_append] at p2
     have e3:z0z ((z0I ((z0z i).map (kf ks))).length+[kf ks (i:Int)].length)=z0z (z0I ((z0z i).map (kf ks))).length++[((z0I ((z0z i).map (kf ks))).length:Int)]:=z4U _
     rw [e3,←p1] at p2
     have:=List.append_cancel_left p2
     simpa using this
 rw [←z68 hl,main fs.length (Nat.le_refl _)]
 unfold z2a
 refine List.map_congr_left fun r hr=>?_
 refine Prod.ext rfl ?_
 refine List.map_congr_left fun g hg=>?_
 have hr':=z0K.mp ((z1s (kf ks) (z0z fs.length)).2.1 r hr)
 have hg':=hgo _ (z0o hr'.1 hr'.2) g hg
 have hin:kf ks g∈z0I ((z0z fs.length).map (kf ks)):=z0Y.mpr (List.mem_map.mpr ⟨g,z0K.mpr hg',rfl⟩)
 rw [z2r]
 have hl':=List.idxOf_lt_length_of_mem hin
 have e:=List.getElem_idxOf hl'
 rw [hU] at hin hl' ⊢
 have h1:=z0K.mp hin
 have e2:(z0z c)[(z0z c).idxOf (kf ks g)]'hl'=kf ks g:=List.getElem_idxOf hl'
 have e3:=z1t (n:=c) (i:=(z0z c).idxOf (kf ks g)) (by rw [z0D] at hl';exact hl')
 rw [List.getElem?_eq_getElem hl',e2] at e3
 exact Option.some.inj e3
theorem z5m {n:Nat} {rows:List Row} (G:z0j n rows):least rows=shr rows:=by
 have GF:=z2A G
 obtain ⟨R,N⟩:=z5p GF
 obtain ⟨L,cl⟩:=z0q G
 obtain ⟨t,e⟩:=L.hd
 unfold least
 rw [z4j (z48 GF).len N GF.go]
 have h0:(fun i:Int=>(z0i rows).getD i.toNat 0) 0=0:=by
  show (z0i rows).getD (0:Int).toNat 0=0
  rw [e];rfl
 have R':z82 (z0F rows) (z0i (z0F rows)) (kf (z2S (z0F rows))):=by rw [z3n G];exact R
 have:=z61 (h:=fun i=>(z0i rows).getD i.toNat 0) GF.m G h0 (zay G) (z32 G) R'
 rw [z3n G] at this
 exact this
end Gu
namespace L2
open PySem PySem.Spec PyProof.Rows
section
variable {X:Cx} {pins:List (Addr × Obj)} {σ:St} {H:Hp} {s:Shared} {a:Addr} {kvs:List (Key × V)} {k:Key} {u:Value} {A:Around} {E:Value→Shared→Prop}
end
section
variable {X:Cx} {o e f:Expr} {apos cpos:Pos} {td ty tx:TE}
end
end L2
namespace HT
open PySem PySem.Spec PyProof.Rows
section
variable {prog:Program} {w:World} {A:Around} {E:Value→Shared→Prop} {s:Shared}
end
end HT
namespace L2
open PySem PySem.Spec PyProof.Rows
section
variable {X:Cx} {e st:Expr} {te ts:TE} {pos p2:Pos}
end
end L2
namespace L2
open PySem PySem.Spec PyProof.Rows
section
variable {X:Cx} {elts:List Expr} {tk:Nat} {tp:Pos}
end
end L2
namespace L2
open PySem PySem.Spec PyProof.Rows
section
variable {X:Cx}
end
end L2
namespace Gu
open PySem L2
def tw (T S:List Int) (i:Nat):Int:=T.getD (S.getD i 0).toNat 0
theorem BF.all {M:List Row} {i:Nat} {o res:List Int} {C:Int→Prop} (b:BF M i o res) (hc:∀ x,C x→∀ g∈(row M x).2,C g):(∀ x∈o,C x)→∀ x∈res,C x:=by
 induction b with
 | stop _=>exact fun h=>h
 | @step i o res r e b ih =>
  intro h
  refine ih fun x hx=>?_
  rcases z0O.mp hx with hx | hx
  ·exact h x hx
  ·exact hc r (h r (List.mem_of_getElem? e)) x hx
def GB (T S gs0:List Int) (H:Hp) (j:Nat) (ys:List V) (H2:Hp):Prop:=∃ gs:List Int,ys=gs.map V.int∧gs.length=j∧(∀ g∈gs,0≤g∧g < (T.length:Int))∧gs.map (fun g=>tw T S g.toNat)=gs0.take j∧z0h H H2
theorem z3T:∀ l:List Row,D.depL (z0s l)≤2
 | []=>by unfold z0s;simp only [List.map_nil,D.depL];lia
 | r::l=>by
  have h:=z3T l
  unfold z0s at h ⊢
  have h2:D.dep (z3I r)=2:=by
   unfold z3I
   simp only [D.dep,D.depL,D.depL_ints]
   decide
  simp only [List.map_cons,D.depL]
  lia
end Gu
namespace L2
open PySem PySem.Spec PyProof.Rows
def Fly (h0:Heap) (H:Hp) (h:Heap) (ea C:Addr):Prop:=h0.get? ea=none∧H ea=none∧∃ a0 oe vs T oT ts,h.get? ea=some oe∧(oe.cls=.ref C∧vs[0]?=some a0)∧oe.data=.fields vs∧vs[1]?=some (.ref T)∧T≠ea∧h0.get? T=none∧H T=none∧h.get? T=some oT∧oT.data=.fields ts∧ts[3]?=some .none
def zge (h0:Heap) (H:Hp) (h:Heap) (ea C:Addr):Prop:=h0.get? ea=none∧H ea=none∧∃ a0 oe vs,h.get? ea=some oe∧(oe.cls=.ref C∧vs[0]?=some a0)∧oe.data=.fields vs∧vs[1]?=some .none
theorem z31 {h base:Heap}:∀ {l:List Env},h.FunFrames base l→∀ b∈frs l,∃ o,h.get? b=some o∧∀ vs,o.data≠.fields vs
 | [],_,b,hb=>by simp [frs] at hb
 | env::r,hl,b,hb=>by
  obtain ⟨hk,⟨L,o,hf,hn,ho,hd⟩,hr⟩:=hl
  unfold frs at hb
  rw [List.filterMap_cons,hf] at hb
  rcases List.mem_cons.mp hb with z | z
  ·rw [z];exact ⟨o,ho,hd⟩
  ·exact z31 hr b z
theorem z1r {h base base':Heap}:∀ {l:List Env},h.FunFrames base l→(∀ b∈frs l,base'.get? b=none)→h.FunFrames base' l
 | [],_,_=>trivial
 | env::r,hl,hb=>by
  obtain ⟨hk,⟨L,o,hf,hn,ho,hd⟩,hr⟩:=hl
  have e:frs (env::r)=L::frs r:=by unfold frs;rw [List.filterMap_cons,hf]
  exact ⟨hk,⟨L,o,hf,hb L (by rw [e];simp),ho,hd⟩,z1r hr fun b hb'=>hb b (by rw [e];exact List.mem_cons_of_mem _ hb')⟩
section
variable {P:Program} {w:World}
theorem z9v {H:Hp} {h:Heap} {a:Addr} {o:HO} (x:z22 P w H h a o):∃ ob,h.get? a=some ob:=by
 cases o with
 | lst xs=>obtain ⟨_,_,_,_,e⟩:=x;exact ⟨_,e⟩
 | tup xs=>obtain ⟨_,_,_,_,e⟩:=x;exact ⟨_,e⟩
 | dK kvs=>obtain ⟨_,_,_,_,o,_,_,e,_⟩:=x;exact ⟨_,e⟩
 | dT kvs=>obtain ⟨_,_,_,_,o,_,_,e,_⟩:=x;exact ⟨_,e⟩
 | set S n=>obtain ⟨o,_,_,_,e,_⟩:=x;exact ⟨_,e⟩
 | ins C dx fs=>obtain ⟨_,_,_,e,_⟩:=x;exact ⟨_,e⟩
 | own y=>obtain ⟨_,e⟩:=x;exact ⟨_,e⟩
 | xd fs=>obtain ⟨_,⟨_,_,_,e,_⟩,_⟩:=x;exact ⟨_,e⟩
 | rng lo hi=>obtain ⟨_,_,_,e⟩:=x;exact ⟨_,e⟩
 | frz ob u=>obtain ⟨e,_⟩:=x;exact ⟨_,e⟩
 | tbl ps=>exact ⟨_,show h.get? a=some _ from x⟩
 | met f y=>exact ⟨_,show h.get? a=some _ from x⟩
 | ext φ=>obtain ⟨_,⟨_,e⟩,_⟩:=x;exact ⟨_,e⟩
theorem z6q {fr:List Addr} {H1 H':Hp} {h1 h h':Heap} {env:Env} {outer:List Env} {ea C:Addr} {a0:Value} {base:Heap} {hid:List Addr} (FF:h.FunFrames base (env::outer)) (u:Un fr [] H1 H' h1 h) (hok:HOk P w H' h)
  (hfr:∀ b∈frs (env::outer),H' b=none∧(b∈fr∨h1.get? b=none)) (hfr2:∀ b∈fr,b∈frs (env::outer)) (he1:h1.get? ea=none) (heH:H' ea=none) (hid1:∀ b∈hid,h1.get? b=none∧H' b=none)
  (lf:(PySem.W.hideAll h (ea::(hid++frs (env::outer)))).LeftW (env::outer) ea (.ref C) a0 h h') :
  Un fr [] H1 H' h1 h'∧HOk P w H' h'∧Fly h1 H' h' ea C:=by
 obtain ⟨st,ff,tr,sl⟩:=lf
 have keep:∀ b o,h.get? b=some o→b≠ea→b∉hid→b∉frs (env::outer)→h'.get? b=some o:=fun b o e n1 n2 n3 =>
  st b o (PySem.W.hideAll_get _ e fun z=>by
   rcases List.mem_cons.mp z with z | z
   ·exact n1 z
   ·rcases List.mem_append.mp z with z | z
    ·exact n2 z
    ·exact n3 z)
 have slot:∀ b o,h.get? b=some o→b∈frs (env::outer)→∃ s,h'.get? b=some { o with slots:=s }:=fun b o e hb=>by
  obtain ⟨o',e',hd⟩:=z31 FF b hb
  rw [e] at e'
  cases e'
  exact sl b o e hd
 have nh:∀ b o,h1.get? b=some o→b≠ea∧b∉hid:=fun b o e=>⟨fun z=>(by rw [z,he1] at e;cases e),fun z=>(by rw [(hid1 b z).1] at e;cases e)⟩
 refine ⟨⟨fun b o e n hb hx=>?_,fun b o e n hb hx=>?_,u.free,fun b o e hx=>?_,u.tups,u.frzs,u.tbls⟩,fun a o e=>?_,he1,heH,?_⟩
 ·have e2:=u.keep b o e n hb hx
  refine keep b o e2 (nh b o e).1 (nh b o e).2 fun z=>?_
  rcases (hfr b z).2 with z | z
  ·exact hb z
  ·rw [z] at e;cases e
 ·obtain ⟨s1,e2⟩:=u.slot b o e n hb hx
  obtain ⟨s2,e3⟩:=slot b _ e2 (hfr2 b hb)
  exact ⟨s2,e3⟩
 ·obtain ⟨o',e2⟩:=u.there b o e hx
  by_cases hb:b∈frs (env::outer)
  ·obtain ⟨s2,e3⟩:=slot b _ e2 hb
   exact ⟨_,e3⟩
  ·exact ⟨o',keep b o' e2 (nh b o e).1 (nh b o e).2 hb⟩
 ·refine (hok a o e).stay (fun b v hb q=>?_) (fun _ q=>q) fun _ _ q=>q
  have hbs:∃ ob,H' b=some ob:=by
   rcases hb with z | z
   ·rw [z];exact ⟨_,e⟩
   ·exact ⟨_,z⟩
  obtain ⟨ob,hob⟩:=hbs
  refine keep b v q (fun z=>?_) (fun z=>?_) fun z=>?_
  ·rw [z,heH] at hob;cases hob
  ·rw [(hid1 b z).2] at hob;cases hob
  ·rw [(hfr b z).1] at hob;cases hob
 ·obtain ⟨oe,vs,T,oT,ts,g1,g2,g3,g4,g5,g6,g7,g8,g9⟩:=tr
  have hT:h1.get? T=none∧H' T=none:=by
   cases eT:h.get? T with
   | none =>
    refine ⟨?_,?_⟩
    ·cases q:h1.get? T with
     | none=>rfl
     | some o =>
      obtain ⟨o',e2⟩:=u.there T o q (by simp)
      rw [eT] at e2;cases e2
    ·cases q:H' T with
     | none=>rfl
     | some o =>
      obtain ⟨ob,hob⟩:=z9v (hok T o q)
      rw [eT] at hob;cases hob
   | some oT' =>
    have hm:T∈ea::(hid++frs (env::outer)):=Classical.byContradiction fun nm=>by
     rw [PySem.W.hideAll_get _ eT nm] at g5;cases g5
    rcases List.mem_cons.mp hm with z | z
    ·exact absurd z g6
    ·rcases List.mem_append.mp z with z | z
     ·exact hid1 T z
     ·obtain ⟨o',e',hd⟩:=z31 ff T z
      rw [g7] at e'
      cases e'
      exact absurd g8 (hd ts)
  exact ⟨a0,oe,vs,T,oT,ts,g1,g2,g3,g4,g6,hT.1,hT.2,g7,g8,g9⟩
theorem zdG {M:Model} {A:Around} {E:Value→Shared→Prop} {Q:Unit→Shared→Prop} {s:Shared} {fr:List Addr} {H1 H':Hp} {h1:Heap} {env:Env} {outer:List Env} {L ea C:Addr} {base:Heap} (hA:A.frames=some (env::outer)) (hL:env.frame=some L) (FF:s.heap.FunFrames base (env::outer)) (u:Un fr [] H1 H' h1 s.heap) (hok:HOk P w H' s.heap)
  (hfr:∀ b∈frs (env::outer),H' b=none∧(b∈fr∨h1.get? b=none)) (hfr2:∀ b∈fr,b∈frs (env::outer)) (hf:zge h1 H' s.heap ea C∨Fly h1 H' s.heap ea C)
  (k:∀ h',Un fr [] H1 H' h1 h'→HOk P w H' h'→Fly h1 H' h' ea C→Q () { s with heap:=h' }):wpAny M A (leaving env (.ref ea)) Q E s:=by
 rcases hf with ⟨he1,heH,a0,oe,vs,g1,⟨g2,g20⟩,g3,g4⟩ | ⟨he1,heH,a0,oe,vs,T,oT,ts,g1,g2,g3,g4,g5,g6,g7,g8,g9,g10⟩
 ·have FF':s.heap.FunFrames (PySem.W.hideAll s.heap (ea::([]++frs (env::outer)))) (env::outer):=z1r FF fun b hb=>PySem.W.hideAll_none _ (by simp [hb])
  refine wpAny_leaving_firstW hA FF' hL g1 (fun b o e=>PySem.W.of_hideAll _ e) (PySem.W.hideAll_none _ (by simp)) g3 g4 g20 fun h' lf=>?_
  rw [g2] at lf
  obtain ⟨a,b,c⟩:=z6q (hid:=[]) FF u hok hfr hfr2 he1 heH (fun b hb=>by simp at hb) lf
  exact k h' a b c
 ·have FF':s.heap.FunFrames (PySem.W.hideAll s.heap (ea::([T]++frs (env::outer)))) (env::outer):=z1r FF fun b hb=>PySem.W.hideAll_none _ (by simp [hb])
  refine wpAny_leaving_nextW hA FF' hL ⟨oe,vs,T,oT,ts,g1,g2,g3,g4,PySem.W.hideAll_none _ (by simp),g5,g8,g9,g10⟩ (fun b o e=>PySem.W.of_hideAll _ e) (PySem.W.hideAll_none _ (by simp)) fun h' lf=>?_
  obtain ⟨a,b,c⟩:=z6q (hid:=[T]) FF u hok hfr hfr2 he1 heH (fun b hb=>by rw [List.mem_singleton.mp hb];exact ⟨g6,g7⟩) lf
  exact k h' a b c
def CXx (P:Program) (w:World):CXT:=fun outer H s E e s'=>∃ (ea C:Addr) (H':Hp),e=.ref ea∧s'.os=s.os∧AllBare s'.gens∧Un (frs outer) [] H H' s.heap s'.heap∧HOk P w H' s'.heap∧Fly s.heap H' s'.heap ea C∧E (.ref ea) (some C) H'
instance:NoE (CXx P w):=⟨fun ⟨_,_,_,_,_,_,_,_,_,h⟩=>h⟩
theorem zgu {K:PySem.W.Frag} {mg:Str→Option Value} {base:Heap} {N:List Str} {qual:Str} {scope:Scope} {f:Addr} {cd:Value} {A:Around} {outer:List Env} {s:Shared} {H:Hp} {E:XK} {pins:List (Addr × Obj)} {σ:St} {H':Hp} {s':Shared} {ea C:Addr}
  (J:Inv (z7o (CXx P w) P w K mg base N qual scope f cd A outer s H E) pins σ H' s') (hf:zge s.heap H' s'.heap ea C∨Fly s.heap H' s'.heap ea C) (hE:E (.ref ea) (some C) H'):(z7o (CXx P w) P w K mg base N qual scope f cd A outer s H E).xe (.ref ea) s':=by
 have hsub:=J.stkSub
 have hfree:=J.stkFree
 have hst:=J.stack
 have hfrm:=J.ok.frames
 show wpAny (model P w) (A.deeper (envOfC qual scope s.heap.objs.size f cd)) (leaving (envOfC qual scope s.heap.objs.size f cd) (.ref ea)) (fun _ s''=>CXx P w outer H s E (.ref ea) s'') (fun e' s''=>CXx P w outer H s E e' s'') s'
 refine zdG (P:=P) (w:=w) (fr:=frs outer) (H1:=H) (H':=H') (h1:=s.heap) (base:=base) hfrm rfl hst J.base J.hok (fun b hb=>⟨hfree b hb,?_⟩) (fun b hb=>List.mem_cons_of_mem _ hb) hf fun h' a b c=>?_
 ·rcases List.mem_cons.mp (hsub b hb) with z | z
  ·right
   rw [z]
   exact Heap.get?_none_of_le (Nat.le_refl _)
  ·exact .inl z
 ·exact ⟨ea,C,H',rfl,J.os,J.bare,a,b,c,hE⟩
theorem z3i {K:PySem.W.Frag} {mg:Str→Option Value} {base:Heap} {N:List Str} {qual:Str} {scope:Scope} {f:Addr} {cd:Value} {A:Around} {outer:List Env} {s:Shared} {H:Hp} {E E':XK} (hE:∀ e C H',E' e C H'→E e C H') :
  z4K (CXx P w) (z7o (CXx P w) P w K mg base N qual scope f cd A outer s H E) E':=by
 intro pins σ H1 s1 e s' I hx
 obtain ⟨ea,C,H',rfl,os,bare,un,hok,fly,q⟩:=hx
 have J:=I.call' (ch:=[]) os un hok bare (fun b z=>absurd z (by simp))
 refine zgu J (.inr ?_) (hE _ _ _ q)
 have up:∀ b,s1.heap.get? b=none→s.heap.get? b=none:=fun b z=>by
  cases q:s.heap.get? b with
  | none=>rfl
  | some o =>
   obtain ⟨o',e⟩:=I.base.there b o q (by simp [z7o])
   rw [z] at e;cases e
 obtain ⟨a1,a2,a0,oe,vs,T,oT,ts,g1,g2,g3,g4,g5,g6,r⟩:=fly
 exact ⟨up _ a1,a2,a0,oe,vs,T,oT,ts,g1,g2,g3,g4,g5,up _ g6,r⟩
end
end L2
namespace L2
open PySem PySem.Spec PyProof.Rows
theorem zbV {K:PySem.W.Frag} {h:Heap} {C:Addr} {bmB:List Value} {newId:String} (X:K.In h) (e:PySem.W.excIn K C bmB newId=true):∃ bm N nm q bs hdct sn sub ab col dd k0 k1 k2 k3 k5 mN,
  h.get? C=some (excClassObj nm q C N bs bm hdct sn sub ab col dd k0 k1 k2 k3 k5 newId)∧h.Ns N mN∧mN "__init__"=none∧OwnTail h bmB bm:=by
 unfold PySem.W.excIn at e
 split at e
 ·rename_i dict cd sl hl
  split at e
  ·rename_i C' bm a0 a1 a2 a3 n a5 hm hs
   simp only [Bool.and_eq_true,beq_iff_eq,Bool.not_eq_true'] at e
   obtain ⟨⟨⟨⟨⟨e1,e2⟩,e3⟩,e4⟩,e5⟩,e6⟩:=e
   have hC:=X C _ hl
   subst e1 e2
   have hsl:sl=#[a0,a1,a2,a3,some (Value.builtin n),a5]:=by rw [←Array.toArray_toList (xs:=sl),hs]
   obtain ⟨nm,bs,mro,ns,q,hd,sn,sub,ab,col,hdel⟩:=cd
   simp only at hm e3 e5 e6
   subst hm e3 hsl
   exact ⟨bm,ns,nm,q,bs,hd,sn,sub,ab,col,dict,a0,a1,a2,a3,a5,h.nsMap ns,hC,Heap.Ns.of_isNs (PySem.W.isNs_of_in X e5),PySem.W.nsMap_none_of_in X e5 e6,PySem.W.tail_of_in X e4⟩
  ·cases e
 ·cases e
theorem z9G {h:Heap} {bmB bm:List Value} {v:Value} (t:OwnTail h bmB bm) (hb:bmB.contains v=true):bm.contains v=true:=by
 induction t with
 | base=>exact hb
 | own _ _ _ _ ih=>rw [List.contains_cons,ih];simp
section
variable {P:Program} {w:World} {K:PySem.W.Frag} {mg:Str→Option Value} {base:Heap} {N:List Str} {qual:Str} {scope:Scope} {f:Addr} {cd:Value} {A:Around} {outer:List Env} {s0:Shared} {H0:Hp} {E:XK}
theorem z2N {x:Str} {C:Addr} {B newId initId:String} {bmB:List Value} {arg:Expr} {ta:TE} {np cpos pos:Pos} (hx:mg x=some (.ref C)) (hg:Gl (z7o (CXx P w) P w K mg base N qual scope f cd A outer s0 H0 E) x) (he:PySem.W.excIn K C bmB newId=true) (hB:ExcBaseFacts B newId initId bmB)
  (ha:PE (z7o (CXx P w) P w K mg base N qual scope f cd A outer s0 H0 E) arg ta)
  (htr:backTo cpos (starEach [arg] (z7o (CXx P w) P w K mg base N qual scope f cd A outer s0 H0 E).env)=[(false,eval arg (z7o (CXx P w) P w K mg base N qual scope f cd A outer s0 H0 E).env)]:=by rfl) (hdb:(x == ("__debug__":Str))=false:=by decide) :
  PS (z7o (CXx P w) P w K mg base N qual scope f cd A outer s0 H0 E) (.Raise (some (.Call (.Name x np) [arg] [] cpos)) none pos) (fun D σ H=>ta σ H fun v H1=>∀ ea,E (.ref ea) (some C) H1):=by
 intro pins s σ H D I h
 obtain ⟨bm,NN,nm,q,bs,hd,sn,sub,ab,col,dict,a0,a1,a2,a3,a5,mN,hC,hN,hi,ht⟩:=zbV I.ok.mod.kin he
 refine wpAny_Raise_call_subT (nm:=nm) (q:=q) (N:=NN) (bs:=bs) (hdct:=hd) (sn:=sn) (sub:=sub) (ab:=ab) (col:=col) (dd:=dict) (k0:=a0) (k1:=a1) (k2:=a2) (k3:=a3) (k5:=a5) hB (z9G ht hB.hasBase) (I.ok.hd rfl) (by rw [htr];rfl) hi (z58 I hg hx ⟨rfl,?_⟩ hdb)
 rw [htr]
 refine Calls.evalArgs_plain (Calls.spliced_cons (z23 (ha pins s σ H _ I h) fun u s2 v H2 I2 r2 q2=>Calls.spliced_nil ?_))
 have bk:=I2.bk
 refine ⟨rfl,by show 1≤sizeLine;decide,bk _ _ hC,hN.keeps bk,ht.keeps bk,fun h' e me=>?_⟩
 obtain ⟨kp,nw,t,g1,g2,g3⟩:=me
 have J:=I2.kept (h':=h') (t':=s2.toks) kp
 refine zgu J (.inl ⟨?_,?_,_,_,_,g1,⟨rfl,rfl⟩,rfl,rfl⟩) (q2 e)
 ·cases z:s0.heap.get? e with
  | none=>rfl
  | some o =>
   obtain ⟨o',e'⟩:=I2.base.there e o z (by simp [z7o])
   rw [nw] at e';cases e'
 ·cases z:H2 e with
  | none=>rfl
  | some o =>
   obtain ⟨ob,hob⟩:=z9v (I2.hok e o z)
   rw [nw] at hob;cases hob
end
end L2
namespace L2
open PySem PySem.Spec PyProof.Rows
section
variable {P:Program} {w:World}
theorem zdf {M:Model} {A:Around} {E:Value→Shared→Prop} {Q:Unit→Shared→Prop} {s:Shared} {fr:List Addr} {H1 H':Hp} {h1:Heap} {env:Env} {outer:List Env} {ea C:Addr} {base:Heap} (FF:s.heap.FunFrames base (env::outer)) (u:Un fr [] H1 H' h1 s.heap) (hok:HOk P w H' s.heap)
  (hfr:∀ b∈frs (env::outer),H' b=none∧(b∈fr∨h1.get? b=none)) (hfr2:∀ b∈fr,b∈frs (env::outer)) (hf:Fly h1 H' s.heap ea C)
  (k:∀ h',Un fr [] H1 H' h1 h'→HOk P w H' h'→Fly h1 H' h' ea C→Q () { s with heap:=h' }):wpAny M A (setFlight (.ref ea) none) Q E s:=by
 obtain ⟨he1,heH,a0,oe,vs,T,oT,ts,g1,g2,g3,g4,g5,g6,g7,g8,g9,g10⟩:=hf
 have FF':s.heap.FunFrames (PySem.W.hideAll s.heap (ea::([T]++frs (env::outer)))) (env::outer):=z1r FF fun b hb=>PySem.W.hideAll_none _ (by simp [hb])
 refine lands_againW (base:=PySem.W.hideAll s.heap (ea::([T]++frs (env::outer)))) (l:=env::outer) (cls:=.ref C) (a0:=a0) ⟨fun b o e=>PySem.W.of_hideAll _ e,PySem.W.hideAll_none _ (by simp),FF',oe,vs,T,oT,ts,g1,g2,g3,g4,PySem.W.hideAll_none _ (by simp),g5,g8,g9,g10⟩ fun h' fl up=>?_
 obtain ⟨f1,f2,f3,f4⟩:=fl
 obtain ⟨a,b,c⟩:=z6q (hid:=[T]) FF u hok hfr hfr2 he1 heH (fun b hb=>by rw [List.mem_singleton.mp hb];exact ⟨g6,g7⟩) ⟨f1,f3,f4,up⟩
 exact k h' a b c
theorem zf2 {M:Model} {A:Around} {E:Value→Shared→Prop} {Q:Unit→Shared→Prop} {s:Shared} {fr:List Addr} {H1 H':Hp} {h1:Heap} {env:Env} {outer:List Env} {L ea C:Addr} {base:Heap} (hA:A.frames=some (env::outer)) (hL:env.frame=some L) (FF:s.heap.FunFrames base (env::outer)) (u:Un fr [] H1 H' h1 s.heap) (hok:HOk P w H' s.heap)
  (hfr:∀ b∈frs (env::outer),H' b=none∧(b∈fr∨h1.get? b=none)) (hfr2:∀ b∈fr,b∈frs (env::outer)) (hf:Fly h1 H' s.heap ea C)
  (k:∀ h',Un fr [] H1 H' h1 h'→HOk P w H' h'→Fly h1 H' h' ea C→Q () { s with heap:=h' }):wpAny M A (noteFrame (.ref ea) env) (fun _ s2=>wpAny M A (setFlight (.ref ea) none) Q E s2) E s:=by
 obtain ⟨he1,heH,a0,oe,vs,T,oT,ts,g1,g2,g3,g4,g5,g6,g7,g8,g9,g10⟩:=hf
 have FF':s.heap.FunFrames (PySem.W.hideAll s.heap (ea::([T]++frs (env::outer)))) (env::outer):=z1r FF fun b hb=>PySem.W.hideAll_none _ (by simp [hb])
 refine wpAny_noteFrame_onW hA FF' hL ⟨oe,vs,T,oT,ts,g1,g2,g3,g4,PySem.W.hideAll_none _ (by simp),g5,g8,g9,g10⟩ (fun b o e=>PySem.W.of_hideAll _ e) (PySem.W.hideAll_none _ (by simp)) fun h2 nt=>?_
 obtain ⟨n1,n2,n3,n4⟩:=nt
 refine wpAny_landsW (L:=L) ⟨n1,PySem.W.hideAll_none _ (by simp),n2,n3⟩ fun h' fl up=>?_
 obtain ⟨f1,f2,f3,f4⟩:=fl
 have lw:(PySem.W.hideAll s.heap (ea::([T]++frs (env::outer)))).LeftW (env::outer) ea (.ref C) a0 s.heap h':=⟨f1,f3,f4,fun b o e hd=>by
  obtain ⟨s1,e1⟩:=n4 b o e hd
  obtain ⟨s2,e2⟩:=up b _ e1 hd
  exact ⟨s2,e2⟩⟩
 obtain ⟨a,b,c⟩:=z6q (hid:=[T]) FF u hok hfr hfr2 he1 heH (fun b hb=>by rw [List.mem_singleton.mp hb];exact ⟨g6,g7⟩) lw
 exact k h' a b c
end
abbrev Cx.sup (X:Cx) (e:Addr):Cx:={ X with A:=X.A.mark (some (.ref e)),calm:=false,xe:=fun _ _=>False }
abbrev Cx.tried (X:Cx) (pn:List (Addr × Obj)) (E:Value→Shared→Prop):Cx:={ X with pn:=pn,xe:=E }
theorem Cx.Ok.sup {X:Cx} (ok:X.Ok) (e:Addr):(X.sup e).Ok :=
 ⟨ok.mod,ok.kind,ok.glob,ok.blt,ok.above,ok.inj,ok.has,ok.cab,fun z=>(by cases z),ok.frames,ok.stk,ok.exf,ok.bs,ok.bsz,ok.noex,ok.exfs,ok.funs,ok.frf⟩
theorem Cx.Ok.tried {X:Cx} (ok:X.Ok) (pn:List (Addr × Obj)) (E:Value→Shared→Prop):(X.tried pn E).Ok :=
 ⟨ok.mod,ok.kind,ok.glob,ok.blt,ok.above,ok.inj,ok.has,ok.cab,ok.hd,ok.frames,ok.stk,ok.exf,ok.bs,ok.bsz,ok.noex,ok.exfs,ok.funs,ok.frf⟩
def XE (C:Addr) (n:Nat) (th:TS) (D:z3Z):XK:=fun _ C' H'=>C'=some C∧∀ σ:St,σ.length=n→th D σ H'
theorem zfX {X:Cx} {x:Str} {C:Addr} {newId:String} {bmB:List Value} {np hpos pos:Pos} {body suite:List Stmt} {b₀:Stmt} {tb:z3Z→TS} {th:TS} (hfr:X.env.frame=some X.env.locals) (hstk:X.stack=X.env::X.outer)
  (hx:X.mg x=some (.ref C)) (hg:Gl X x) (he:PySem.W.excIn X.K C bmB newId=true) (hB:bmB.contains (.type "BaseException")=true)
  (hb:∀ pn E1 D,z4K (CXx X.prog X.w) (X.tried pn E1) (XE C X.N.length th D)→PSs (X.tried pn E1) body (tb D))
  (hs:∀ e,PSs (X.sup e) (b₀::suite) th) (hdb:(x == ("__debug__":Str))=false:=by decide) :
  PS X (.Try body [.ExceptHandler (some (.Name x np)) none (b₀::suite) hpos] [] [] pos) (fun D σ H=>tb D D σ H):=by
 intro pins s σ H D I h
 refine wpAny_Try_except ?_
 have pass:z4K (CXx X.prog X.w) (X.tried (X.pn++pins) fun e s₁=>wpAny (model X.prog X.w) X.A (noteFrame e X.env) (fun _ s₂=>wpAny (model X.prog X.w) X.A (setFlight e none) (fun _ s₃=>wpAny (model X.prog X.w) X.A (handleBy e X.env [.ExceptHandler (some (.Name x np)) none (b₀::suite) hpos]) (SP X pins D) X.xe s₃) X.xe s₂) X.xe s₁) (XE C X.N.length th D):=by
  intro pins' σ' H1 s1 e s' I1 hx'
  obtain ⟨ea,Ce,H',rfl,os,bare,un,hok,fly,hC,hth⟩:=hx'
  cases hC
  have J:=I1.call' (ch:=[]) os un hok bare (fun b z=>absurd z (by simp))
  have FF:s'.heap.FunFrames X.base (X.env::X.outer):=by have:=J.stack;rw [show (X.tried (X.pn++pins) _).stack=X.stack from rfl,hstk] at this;exact this
  have un':Un (frs (X.env::X.outer)) [] H1 H' s1.heap s'.heap:=by rw [←hstk];exact un
  have hfree:∀ b∈frs (X.env::X.outer),H' b=none∧(b∈frs (X.env::X.outer)∨s1.heap.get? b=none):=fun b hb=>⟨J.stkFree b (by show b∈frs X.stack;rw [hstk];exact hb),.inl hb⟩
  refine zf2 (P:=X.prog) (w:=X.w) (fr:=frs (X.env::X.outer)) (H1:=H1) (H':=H') (h1:=s1.heap) (base:=X.base) (outer:=X.outer) (L:=X.env.locals) (by rw [I.ok.frames,hstk]) hfr FF un' hok hfree (fun b hb=>hb) fly fun h2 u2 k2 f2=>?_
  have mk:∀ h3,Un (frs (X.env::X.outer)) [] H1 H' s1.heap h3→HOk X.prog X.w H' h3→Inv (X.sup ea) pins σ' H' { s' with heap:=h3 }:=fun h3 u3 k3=>by
   have J3:=I1.call' (s':={ s' with heap:=h3 }) (ch:=[]) os (by show Un (frs X.stack) [] H1 H' s1.heap h3;rw [hstk];exact u3) k3 bare (fun b z=>absurd z (by simp))
   exact ⟨I.ok.sup ea,J3.os,J3.bare,J3.base,J3.loc,J3.cell,J3.free,J3.freeC,fun p hp=>J3.pin p (List.mem_append_left _ hp),J3.hok,J3.len⟩
  have J2:=mk h2 u2 k2
  obtain ⟨bm,NN,nm,q,bs,hd,sn,sub,ab,col,dict,a0,a1,a2,a3,a5,mN,hC,hN,hi,ht⟩:=zbV J2.kIn he
  refine wpAny_handleBy_cons (codeAny_handlers_test (z58 J2 hg hx ?_ hdb)) (by intro z;cases z)
  obtain ⟨_,_,b0,oe,vs,T,oT,ts,g1,⟨g2,_⟩,_⟩:=id f2
  refine wpAny_excMatches_sub_self hC g1 g2 (z9G ht hB) ?_
  refine codeAny_handlers_suite ?_
  refine zdf (P:=X.prog) (w:=X.w) (fr:=frs (X.env::X.outer)) (H1:=H1) (H':=H') (h1:=s1.heap) (base:=X.base) (env:=X.env) (outer:=X.outer) (by have:=J2.stack;rw [show (X.sup ea).stack=X.stack from rfl,hstk] at this;exact this) u2 k2 hfree (fun b hb=>hb) f2 fun h3 u3 k3 f3=>?_
  have J3:=mk h3 u3 k3
  refine wpAny_mono (hs ea pins _ σ' H' D J3 (hth σ' J3.len)) (fun f s4 sp=>?_) fun _ _ z=>False.elim z
  have z1q:∀ {σ4 H4},Inv (X.sup ea) pins σ4 H4 s4→Inv X pins σ4 H4 s4:=fun K4=>⟨I.ok,K4.os,K4.bare,K4.base,K4.loc,K4.cell,K4.free,K4.freeC,K4.pin,K4.hok,K4.len⟩
  cases f with
  | next=>obtain ⟨σ4,H4,K4,q⟩:=sp;exact ⟨σ4,H4,z1q K4,q⟩
  | brk=>obtain ⟨σ4,H4,K4,q⟩:=sp;exact ⟨σ4,H4,z1q K4,q⟩
  | cont=>obtain ⟨σ4,H4,K4,q⟩:=sp;exact ⟨σ4,H4,z1q K4,q⟩
  | ret u=>obtain ⟨v,σ4,H4,K4,r,q⟩:=sp;exact ⟨v,σ4,H4,z1q K4,r,q⟩
 have I0:∀ E,Inv (X.tried (X.pn++pins) E) [] σ H s:=fun E=>⟨I.ok.tried _ _,I.os,I.bare,I.base,I.loc,I.cell,I.free,I.freeC,fun p hp=>I.pin p (by rw [List.append_nil] at hp;exact hp),I.hok,I.len⟩
 refine wpAny_mono (hb (X.pn++pins) _ D pass [] s σ H D (I0 _) h) (fun f s1 sp=>?_) fun e s1 z=>z
 have z1q:∀ {E σ4 H4 s4},Inv (X.tried (X.pn++pins) E) [] σ4 H4 s4→Inv X pins σ4 H4 s4:=fun K4=>⟨I.ok,K4.os,K4.bare,K4.base,K4.loc,K4.cell,K4.free,K4.freeC,fun p hp=>K4.pin p (by rw [List.append_nil];exact hp),K4.hok,K4.len⟩
 cases f with
 | next=>obtain ⟨σ4,H4,K4,q⟩:=sp;exact wpAny_execs_nil ⟨σ4,H4,z1q K4,q⟩
 | brk=>obtain ⟨σ4,H4,K4,q⟩:=sp;exact ⟨σ4,H4,z1q K4,q⟩
 | cont=>obtain ⟨σ4,H4,K4,q⟩:=sp;exact ⟨σ4,H4,z1q K4,q⟩
 | ret u=>obtain ⟨v,σ4,H4,K4,r,q⟩:=sp;exact ⟨v,σ4,H4,z1q K4,r,q⟩
end L2
namespace L2
open PySem PySem.Spec PyProof.Rows PySem.SeqAt
section
variable {X:Cx}
end
end L2
namespace Gu
open PySem L2
def zaS (rows:List Row) (ks:List Int):Prop:=∃ (α:Type) (_:DecidableEq α) (key:Int→α),ks=z2o ((z0z rows.length).map key)
theorem zfP (rows:List Row):zaS rows (z2o (rows.map (·.1))):=⟨List Int,inferInstance,fun x=>(row rows x).1,by rw [z5d rows (·.1)]⟩
theorem zea {rows:List Row} {ks:List Int} (h:ks.length=rows.length):zaS rows (z2o (z3b ks rows)):=⟨Int × List Int,inferInstance,zeT rows ks,by rw [z4e h]⟩
theorem zdc {n:Nat} {rows:List Row} (G:z40 n rows) {ks:List Int} (h:zaS rows ks):cnt ks≤cnt (z2o (z3b ks rows)):=by
 obtain ⟨α,ia,key,rfl⟩:=h
 rw [z4e (by rw [z3R,List.length_map,z0D]),z4t (z6y G.some),z4t (z6y G.some)]
 have h1:=z6F (L:=rows.length) (key:=key)
 have h2:=(z2L (kf (z2o ((z0z rows.length).map key))) (zeT rows (z2o ((z0z rows.length).map key))) (z0z rows.length) fun x hx y hy e=>by
  unfold zeT at e
  exact (Prod.mk.inj e).1).1
 lia
theorem z66 {n:Nat} {rows:List Row} (G:z40 n rows):∀ (m:Nat) (c:Int) (ks:List Int),zaS rows ks→z5M rows ks→cnt ks≤cnt (z5e rows m c ks)
 | 0,c,ks,h,_=>Int.le_refl _
 | m+1,c,ks,h,hg=>by
  unfold z5e
  by_cases hc:c < cnt ks
  ·rw [if_pos hc]
   exact Int.le_trans (zdc G h) (z66 G m _ _ (zea hg.len) (zaR hg))
  ·rw [if_neg hc];exact Int.le_refl _
theorem zeu {n:Nat} {rows:List Row} (G:z0j n rows):((shr rows).length:Int)=cnt (z2S (z0F rows)):=by
 have GF:=z2A G
 obtain ⟨R,N⟩:=z5p GF
 rw [←z5m G]
 unfold least
 rw [z4j (z48 GF).len N GF.go]
 unfold z2a
 have hm:=z2r (kf (z2S (z0F rows))) (z0z (z0F rows).length)
 have:(z0C (kf (z2S (z0F rows))) (z0z (z0F rows).length)).length=(z0I ((z0z (z0F rows).length).map (kf (z2S (z0F rows))))).length:=by rw [←hm,List.length_map]
 rw [List.length_map,this]
 obtain ⟨α,ia,key,e⟩:=N
 rw [e,z6F,z4t (z6y GF.some)]
theorem z3y {n:Nat} {rows:List Row} (G:z0j n rows):(shr rows).length≤rows.length:=by
 obtain ⟨L,cl⟩:=z0q G
 have hl:=L.len
 have hh:=(z1s (kOf rows) (z0i rows)).2.2
 unfold shr z2a
 rw [List.length_map]
 lia
theorem z1E {n:Nat} {rows:List Row} (G:z0j n rows):z0j n (shr rows):=by
 obtain ⟨L,cl⟩:=z0q G
 obtain ⟨h1,h2,h3⟩:=z1s (kOf rows) (z0i rows)
 have hl:=z3y G
 have hf:=G.few
 obtain ⟨r0,t0,e0,_⟩:=zfT G
 have hm:∀ r∈shr rows,∃ x∈z0i rows,r=((row rows x).1,(row rows x).2.map fun g=>((((z0C (kOf rows) (z0i rows)).map (kOf rows)).idxOf (kOf rows g):Nat):Int)):=fun r hr=>by
  unfold shr z2a at hr
  obtain ⟨x,hx,e⟩:=List.mem_map.mp hr
  exact ⟨x,h2 x hx,e.symm⟩
 refine ⟨by lia,by rw [e0];simp,fun r hr=>?_,fun r hr=>?_,fun r hr g hg=>?_⟩
 ·obtain ⟨x,hx,rfl⟩:=hm r hr
  exact G.perm (row rows x) (z0o (L.rg x hx).1 (L.rg x hx).2)
 ·obtain ⟨x,hx,rfl⟩:=hm r hr
  show (List.map _ _).length=n
  rw [List.length_map]
  exact G.len _ (z0o (L.rg x hx).1 (L.rg x hx).2)
 ·obtain ⟨x,hx,rfl⟩:=hm r hr
  obtain ⟨y,hy,rfl⟩:=List.mem_map.mp hg
  have:=List.idxOf_lt_length_of_mem (h1 y (cl x hx y hy))
  rw [List.length_map] at this
  unfold shr z2a
  rw [List.length_map]
  lia
theorem zbH {n:Nat} {rows:List Row} (G:z0j n rows):shr (shr rows)=shr rows:=by
 obtain ⟨L,cl⟩:=z0q G
 have C:=z24 G
 have R:=z32 G
 obtain ⟨h1,h2,h3⟩:=z1s (kOf rows) (z0i rows)
 obtain ⟨t,et⟩:=L.hd
 refine (z46 (M':=rows) (M:=shr rows) (h:=fun x=>((((z0C (kOf rows) (z0i rows)).map (kOf rows)).idxOf (kOf rows x):Nat):Int)) G (z1E G) ?_ fun x hx=>?_).symm
 ·obtain ⟨t',et'⟩:=z7b (kOf rows) 0 t
  show ((((z0C (kOf rows) (z0i rows)).map (kOf rows)).idxOf (kOf rows 0):Nat):Int)=0
  rw [et,et',List.map_cons,List.idxOf_cons]
  simp
 ·have hy:∃ y,(z0C (kOf rows) (z0i rows))[((z0C (kOf rows) (z0i rows)).map (kOf rows)).idxOf (kOf rows x)]?=some y∧kOf rows y=kOf rows x:=by
   have hlt:=List.idxOf_lt_length_of_mem (h1 x hx)
   have hg:=List.getElem_idxOf hlt
   rw [List.length_map] at hlt
   rw [List.getElem_map] at hg
   exact ⟨_,List.getElem?_eq_getElem hlt,hg⟩
  show row (shr rows) ((((z0C (kOf rows) (z0i rows)).map (kOf rows)).idxOf (kOf rows x):Nat):Int)=_
  generalize ((z0C (kOf rows) (z0i rows)).map (kOf rows)).idxOf (kOf rows x)=j at hy ⊢
  obtain ⟨y,ey,hg⟩:=hy
  have hhd:y∈z0i rows:=h2 _ (List.mem_of_getElem? ey)
  have eb:=(R _ hhd x hx).mp hg
  have er:row (shr rows) ((j:Nat):Int)=((row rows y).1,(row rows y).2.map fun g=>((((z0C (kOf rows) (z0i rows)).map (kOf rows)).idxOf (kOf rows g):Nat):Int)):=by
   unfold row shr z2a
   have:((j:Nat):Int).toNat=j:=by lia
   rw [this,List.getD_eq_getElem?_getD,List.getElem?_map,ey]
   rfl
  rw [er]
  refine Prod.ext ?_ ?_
  ·exact congrFun eb []
  ·show List.map _ _=List.map _ _
   refine List.ext_getElem (by rw [List.length_map,List.length_map,C.len y hhd,C.len x hx]) fun i i1 i2=>?_
   rw [List.length_map] at i1 i2
   rw [List.getElem_map,List.getElem_map]
   have b1:(row rows y).2.getD i 0=(row rows y).2[i]:=by rw [List.getD_eq_getElem?_getD,List.getElem?_eq_getElem i1];rfl
   have b2:(row rows x).2.getD i 0=(row rows x).2[i]:=by rw [List.getD_eq_getElem?_getD,List.getElem?_eq_getElem i2];rfl
   have a1:=C.go hhd i
   have a2:=C.go hx i
   rw [b1] at a1
   rw [b2] at a2
   have hb:beh rows (row rows y).2[i]=beh rows (row rows x).2[i]:=by
    rw [←b1,←b2]
    exact funext fun w=>congrFun eb (i::w)
   rw [(R _ a1 _ a2).mpr hb]
def TMx (Ct:Addr) (E:XK) (H:Hp):Prop:=∀ (ea:Addr) (H':Hp),z0h H H'→E (.ref ea) (some Ct) H'
def z7d (K:PySem.W.Frag) (Ct:Addr):Sp:=fun vs H Q E=>∃ (a:Addr) (n:Nat) (rows:List Row),vs=[.ref a]∧z3W K H a rows∧z40 n rows∧n≤60∧(cnt (z2S rows)≤60→∀ (r:Addr) (H':Hp),z0h H H'→H' r=some (.lst ((z2S rows).map V.int))→Q (.ref r) H')∧(60 < cnt (z2S rows)→TMx Ct E H)
end Gu
namespace L2
open PySem PySem.Spec PyProof.Rows
theorem Fun.okx {CX:CXT} {P:Program} {w:World} {K:PySem.W.Frag} {mg:Str→Option Value} {base:Heap} {x qual:Str} {st:Stmt} {f:Addr} {fd:FuncData} {N ps:List Str} {k:Nat} {sp:Sp} (F:Fun K x qual st f fd) (S:z0n N ps (z06 st)) (len:∀ vs H Q E,sp vs H Q E→vs.length=ps.length)
  (hbody:∀ (cdv:Value) (A:Around) (outer:List Env) (s:Shared) (H:Hp) (vs:List V) (Q:VK) (E:XK),z3X k (A.deeper (envOfC qual (z06 st) s.heap.objs.size f cdv))→sp vs H Q E →
   ∃ t,PSs (z7o CX P w K mg base N qual (z06 st) f cdv A outer s H E) (z1a st) t∧t { nx:=fun _ H'=>Q .non H',rt:=Q } (z5K N vs) H):z0t P w K mg base CX (k+1) f fd ps sp:=by
 obtain ⟨oc,od,kV,doc,pm,an,cdv,ct,osl,rfl,lk,hcd⟩:=F.ex
 exact zfc lk hcd S len fun A outer s H vs Q E hr hsp=>hbody cdv A outer s H vs Q E hr hsp
end L2
namespace L2
open PySem PySem.Spec PyProof.Rows PySem.SeqAt
section
variable {X:Cx}
theorem zcg:OpR X (binaryOp .Add) (fun x y H Q=>∃ (a b:Addr) (xs ys:List V),x=.ref a∧y=.ref b∧H a=some (.tup xs)∧H b=some (.tup ys)∧xs.length+ys.length≤sizeLine ∧
  ∀ (p:Addr) (H':Hp),z0h H H'→H' p=some (.tup (xs++ys))→Q (.ref p) H'):=by
 intro pins s σ H x y v u Q I rx ry h
 obtain ⟨a,b,xs,ys,rfl,rfl,ha,hb,hz,q⟩:=h
 by_cases hx:xs=[]
 ·subst hx
  cases rx
  cases ry
  obtain ⟨its,r1,p1,_⟩:=I.tuple (SqT.of ha)
  obtain ⟨its2,r2,p2,_⟩:=I.tuple (SqT.of hb)
  cases r1
  obtain ⟨⟨cls,dd,data,sl⟩,ho,hc,n,hd⟩:=id p1
  obtain ⟨⟨cls2,dd2,data2,sl2⟩,ho2,hc2,n2,hd2⟩:=id p2
  simp only at hc hd hc2 hd2
  subst hc hd hc2 hd2
  exact concat_meets ⟨_,ho,rfl⟩ ⟨_,ho2,rfl⟩ noFill_tuple_add seq_tuple_add PySem.F.slot_tuple_add PySem.F.entry_tuple_add (PySem.F.args_tuple_add_2 _ _)
   (tuple_addW0 a b _ _ n n2 dd dd2 sl sl2 (by simp)) ⟨ho,ho2,⟨.ref b,H,I,rfl,q b H (z0h.refl H) hb⟩⟩
 ·exact zf9 pins s σ H _ _ v u Q I rx ry ⟨a,b,xs,ys,rfl,rfl,SqT.of ha,SqT.of hb,hx,hz,fun e=>by subst e;exact q a H (z0h.refl H) (by rw [List.append_nil];exact ha),fun _ p hp=>q p _ (Gu.same_up (z0h.refl H) hp) z04⟩
theorem zcK (xs:List V) (lo hi:Option Int) (h:HT.sIx xs.length 0 lo=0∧HT.sIx xs.length xs.length hi=xs.length):z3S xs lo hi=xs:=by
 unfold z3S
 rw [h.1,h.2]
 simp
theorem z3m {prog:Program} {w:World} {A:Around} {E:Value→Shared→Prop} {s:Shared} {t sl:Addr} {items:Array Value} {vl vu:Value} {lo hi:Option Int} {Q:Value→Shared→Prop} (ht:IsTup s.heap t items) (hs:s.heap.IsSliceOf sl vl vu .none) (pl:IsPart vl lo) (pu:IsPart vu hi)
  (hw:HT.sIx items.size 0 lo=0∧HT.sIx items.size items.size hi=items.size)
  (h:Q (.ref t) s):wpAny (model prog w) A (getItem (.ref t) (.ref sl)) Q E s:=by
 obtain ⟨os,hos,hcs,hds⟩:=id hs
 have hTs:s.TypeIs (.ref sl) "slice":=⟨os,hos,hcs⟩
 unfold getItem
 try with_reducible refine wpAny_holding ?_
 first | refine wpAny_bind (wpAny_pure ?_) | skip
 refine wpAny_bind (wpAny_sequenceKey ht.typeIs (by decide) ?_)
 refine wpAny_bind (wpAny_callSpecial?_slot (name:=Str.ofString "__getitem__") ht.typeIs PyProof.Rows.slot_tuple_getitem
  (wpAny_call_entry PyProof.Rows.slot_tuple_getitem ht.typeIs entry_tuple_getitem ?_ (args_tuple_getitem _ _)))
 show wpAny _ _ (Builtin.Tuple.tupleItemsOf (.ref t) >>= _) _ _ s
 refine wpAny_bind (tupleItemsOf_ ht ?_)
 refine wpAny_bind (wpAny_typeOf hTs ?_)
 rw [if_pos (by decide)]
 refine wpAny_bind (HT.sliceApplied_gen hs pl pu ?_)
 have hyes:(((HT.sIx items.size 0 lo:Nat):Int) == 0 && (1:Int) == 1 && (HT.sIx items.size items.size hi - HT.sIx items.size 0 lo) == items.size)=true:=by
  rw [hw.1,hw.2]
  simp
 show wpAny _ _ (if (((HT.sIx items.size 0 lo:Nat):Int) == 0 && (1:Int) == 1 && (HT.sIx items.size items.size hi - HT.sIx items.size 0 lo) == items.size)=true then _ else _) _ _ s
 rw [if_pos hyes]
 unfold Builtin.Tuple.tupleIsExact
 refine wpAny_bind (wpAny_bind (wpAny_typeOf ht.typeIs (wpAny_pure ?_)))
 rw [if_pos (by decide)]
 first
  | exact wpAny_bind (wpAny_bind (wpAny_pure ⟨_,rfl,wpAny_pure h⟩))
  | (wp_walk;exact ⟨_,rfl,h⟩)
  | (wp_walk;exact ⟨_,rfl,wpAny_pure h⟩)
theorem z52:SlR X (fun x lo hi H Q=>∃ (a:Addr) (xs:List V),x=.ref a∧H a=some (.tup xs)∧∀ (p:Addr) (H':Hp),z0h H H'→H' p=some (.tup (z3S xs lo hi))→Q (.ref p) H'):=by
 intro pins s σ H x v vl vu lo hi sl Q I rx hs pl pu h
 obtain ⟨a,xs,rfl,hx,q⟩:=h
 by_cases hw:HT.sIx xs.length 0 lo=0∧HT.sIx xs.length xs.length hi=xs.length
 ·cases rx
  obtain ⟨its,r,ht,hz⟩:=I.tuple (SqT.of hx)
  have hlen:its.toArray.size=xs.length:=by rw [List.size_toArray];exact r.length.symm
  refine ⟨"tuple",_,PyProof.Rows.slot_tuple_getitem.lookup,ht.typeIs,?_⟩
  exact z3m ht hs pl pu (by rw [hlen];exact hw) ⟨.ref a,H,I,rfl,q a H (z0h.refl H) (by rw [zcK xs lo hi hw];exact hx)⟩
 ·exact zfS pins s σ H _ v vl vu lo hi sl Q I rx hs pl pu ⟨a,xs,rfl,SqT.of hx,hw,fun p hp=>q p _ (Gu.same_up (z0h.refl H) hp) z04⟩
theorem zcG (l:Addr) (its:List Value) (n:Nat) (k:Int) (t:Tok) (h0:-1000≤k) (hk:k≤1000) (hne:its=[]∨k=1) :
  Meets (Builtin.«tuple.__mul__» ⟨[.ref l,.int k t],[]⟩) (fun _ R s=>s.heap.get? l=some { cls:=.type "tuple",dict:=none,data:=.seq its.toArray n,slots:=#[] }∧R (.ok (.ret (.ref l))) s) :=
 .of_wp fun prog w A R s h=>by
  obtain ⟨hp,g,d,tk,os⟩:=s
  obtain ⟨hl,h⟩:=h
  have hyes:(its.toArray.isEmpty || k == 1)=true:=by
   rcases hne with e | e
   ·subst e;simp
   ·subst e;simp
  wp_walk using wpAny_loadPart' hl
  refine wpAny_ite_split (fun hab=>absurd hab (by simp;lia)) (fun _=>?_)
  wp_walk using wpAny_loadPart' hl
  exact ⟨_,rfl,h⟩
theorem z9f (l:Addr) (its:List Value) (n:Nat) (k:Int) (t:Tok) (h0:-1000≤k) (hk:k≤0) (hne:its≠[]) :
  Meets (Builtin.«tuple.__mul__» ⟨[.ref l,.int k t],[]⟩) (fun _ R s=>s.heap.get? l=some { cls:=.type "tuple",dict:=none,data:=.seq its.toArray n,slots:=#[] } ∧
   R (.ok (.ret (.ref s.heap.objs.size))) { s with heap:=s.heap.push { cls:=.type "tuple",data:=.seq #[] } }) :=
 .of_wp fun prog w A R s h=>by
  obtain ⟨hp,g,d,tk,os⟩:=s
  obtain ⟨hl,h⟩:=h
  have hie:its.toArray.isEmpty=false:=by cases its with | nil=>exact absurd rfl hne | cons a r=>simp
  wp_walk using wpAny_loadPart' hl
  refine wpAny_ite_split (fun hab=>absurd hab (by simp;lia)) (fun _=>?_)
  wp_walk using wpAny_loadPart' hl
  have hk1:(k == 1)=false:=by simpa using (show k≠1 by lia)
  have hk0:decide (k≤0)=true:=by simpa using hk
  refine wpAny_ite_split (fun hab=>absurd hab (by rw [hie,hk1];decide)) (fun _=>?_)
  refine wpAny_ite_split (fun _=>?_) (fun hab=>absurd (by rw [hk0];rfl) hab)
  unfold Builtin.Tuple.tupleExact
  refine wpAny_bind (wpAny_newObj_type ?_ (by show (#[]:Array Value).size≤sizeLine;decide))
  exact wpAny_pure ⟨_,rfl,h⟩
theorem zeU:OpR X (binaryOp .Mult) (fun x y H Q=>∃ (l:Addr) (k:Int) (xs:List V),x=.ref l∧y=.int k∧H l=some (.tup xs)∧-1000≤k∧k≤1000∧xs.length*k.toNat≤sizeLine ∧
  ∀ (p:Addr) (H':Hp),z0h H H'→H' p=some (.tup (List.replicate k.toNat xs).flatten)→Q (.ref p) H'):=by
 intro pins s σ H x y v u Q I rx ry h
 obtain ⟨l,k,xs,rfl,rfl,hH,h0,hk,hz,q⟩:=h
 by_cases hs:xs≠[]∧2≤k
 ·exact zbW pins s σ H _ _ v u Q I rx ry ⟨l,k,xs,rfl,rfl,hH,hs.1,hs.2,hk,hz,fun p hp=>q p _ (Gu.same_up (z0h.refl H) hp) z04⟩
 ·cases rx
  obtain ⟨t,rfl⟩:=ry
  obtain ⟨z,its,n,r,e⟩:=I.hok l _ hH
  have hl:=r.length
  by_cases h1:its=[]∨k=1
  ·refine wpAny_binaryOp_repeat_ref (T:="tuple") (U:="int") (by decide) ⟨_,e,rfl⟩ (fun s'=>typeIs_int s' k t) z1C F.fills_int_mul F.slot_int_rmul z26 F.slot_int_index.lookup
    (call_meets F.slot_int_rmul (typeIs_int s k t) F.entry_int_rmul (F.args_int_rmul_2 _ _) (z1z k t l its.toArray n)
     ⟨e,rfl,⟨_,e,rfl⟩,call_meets F.slot_tuple_mul ⟨_,e,rfl⟩ F.entry_tuple_mul (F.args_tuple_mul_2 _ _) (zcG l its n k t h0 hk h1) ⟨e,?_⟩⟩)
   refine ⟨.ref l,H,I,rfl,q l H (z0h.refl H) ?_⟩
   have:(List.replicate k.toNat xs).flatten=xs:=by
    rcases h1 with w | w
    ·subst w
     have:xs=[]:=List.length_eq_zero_iff.mp (by simpa using hl)
     subst this
     simp
    ·subst w
     simp
   rw [this]
   exact hH
  ·have hne:its≠[]:=fun w=>h1 (.inl w)
   have hxs:xs≠[]:=fun w=>hne (List.length_eq_zero_iff.mp (by rw [←hl,w];rfl))
   have hk0:k≤0:=by
    have a1:k≠1:=fun w=>h1 (.inr w)
    have a2:¬ 2≤k:=fun w=>hs ⟨hxs,w⟩
    lia
   refine wpAny_binaryOp_repeat_ref (T:="tuple") (U:="int") (by decide) ⟨_,e,rfl⟩ (fun s'=>typeIs_int s' k t) z1C F.fills_int_mul F.slot_int_rmul z26 F.slot_int_index.lookup
    (call_meets F.slot_int_rmul (typeIs_int s k t) F.entry_int_rmul (F.args_int_rmul_2 _ _) (z1z k t l its.toArray n)
     ⟨e,rfl,⟨_,e,rfl⟩,call_meets F.slot_tuple_mul ⟨_,e,rfl⟩ F.entry_tuple_mul (F.args_tuple_mul_2 _ _) (z9f l its n k t h0 hk0 hne) ⟨e,?_⟩⟩)
   have e0:k.toNat=0:=by lia
   rw [e0] at q
   exact ⟨.ref _,_,I.laid (o:=.tup []) (t':=s.toks) (fun b u q=>Heap.get?_push_of_some _ q) (Nat.le_refl _) ⟨Nat.zero_le _,[],0,.nil,Heap.get?_push_size _ rfl⟩,rfl,q _ _ (Gu.same_up (z0h.refl H) I.fresh) z04⟩
theorem zer {ns ms:List Int}:(!((List.range (min ns.length ms.length)).all (fun j=>ns.getD j 0 == ms.getD j 0) && ns.length == ms.length))=!decide (ns=ms):=by
 congr 1
 rw [Bool.eq_iff_iff]
 simp only [Bool.and_eq_true,List.all_eq_true,List.mem_range,beq_iff_eq,decide_eq_true_eq]
 constructor
 ·rintro ⟨h,hl⟩
  refine List.ext_getElem hl fun i h1 h2=>?_
  have:=h i (by lia)
  rw [List.getD_eq_getElem?_getD,List.getD_eq_getElem?_getD,List.getElem?_eq_getElem h1,List.getElem?_eq_getElem h2] at this
  exact this
 ·rintro rfl
  exact ⟨fun _ _=>rfl,rfl⟩
theorem zee (hu:X.A.units < cLine):OpR X (compareOp .NotEq) (fun x y H Q=>∃ (a b:Addr) (ns ms:List Int),x=.ref a∧y=.ref b∧H a=some (.tup (ns.map V.int))∧H b=some (.tup (ms.map V.int))∧Q (.bl (!decide (ns=ms))) H):=by
 intro pins s σ H x y v u Q I rx ry h
 obtain ⟨a,b,ns,ms,rfl,rfl,ha,hb,q⟩:=h
 cases rx
 cases ry
 obtain ⟨its,rv,pl,_⟩:=I.tuple (SqT.of ha)
 obtain ⟨itt,rv',pl',_⟩:=I.tuple (SqT.of hb)
 have l1:its.length=ns.length:=by have:=rv.length;rw [List.length_map] at this;exact this.symm
 have l2:itt.length=ms.length:=by have:=rv'.length;rw [List.length_map] at this;exact this.symm
 have R:=RcNeAt.tuples (A:=X.A) (e:=fun j=>ns.getD j 0 == ms.getD j 0) pl pl' hu (fun j h1 h2=>by
  have h1':j < its.length:=by simpa using h1
  have h2':j < itt.length:=by simpa using h2
  obtain ⟨u1,k1,t1,q1⟩:=rv.get (i:=j) (x:=V.int (ns.getD j 0)) (by rw [List.getElem?_map,List.getElem?_eq_getElem (by lia),List.getD_eq_getElem?_getD,List.getElem?_eq_getElem (by lia)];rfl)
  obtain ⟨u2,k2,t2,q2⟩:=rv'.get (i:=j) (x:=V.int (ms.getD j 0)) (by rw [List.getElem?_map,List.getElem?_eq_getElem (by lia),List.getD_eq_getElem?_getD,List.getElem?_eq_getElem (by lia)];rfl)
  have z1:its.toArray[j]=Value.int (ns.getD j 0) t1:=by
   rw [List.getElem?_eq_getElem h1'] at k1
   have:=Option.some.inj k1
   rw [←q1,←this]
   simp
  have z2:itt.toArray[j]=Value.int (ms.getD j 0) t2:=by
   rw [List.getElem?_eq_getElem h2'] at k2
   have:=Option.some.inj k2
   rw [←q2,←this]
   simp
  rw [z1,z2]
  exact fun prog w E Q h=>wpAny_eqBool_int h)
 rw [List.size_toArray,List.size_toArray,l1,l2,zer] at R
 exact R _ _ _ _ ⟨.bl _,H,I,rfl,q⟩
end
end L2
namespace Gu
def lat (e:Row) (i:Nat):Int:=if i < e.1.length then e.1.getD i 0 else e.2.getD ((i - e.1.length) % e.2.length) 0
theorem z3r {e:Row} {i:Nat} (h:i < e.1.length):lat e i=e.1.getD i 0:=if_pos h
theorem z2v {e:Row} {i:Nat} (h:e.1.length≤i):lat e i=e.2.getD ((i - e.1.length) % e.2.length) 0:=if_neg (by lia)
def Pd (f:Nat→Int) (m p:Nat):Prop:=∀ i,m≤i→f (i+p)=f i
theorem z63 {e:Row} (h:e.2≠[]):Pd (lat e) e.1.length e.2.length:=fun i hi=>by
 have hl:0 < e.2.length:=List.length_pos_iff.mpr h
 rw [z2v hi,z2v (by lia)]
 have:i+e.2.length - e.1.length=(i - e.1.length)+e.2.length:=by lia
 rw [this,Nat.add_mod_right]
theorem Pd.mul {f:Nat→Int} {m p:Nat} (h:Pd f m p) (k:Nat):Pd f m (p*k):=by
 induction k with
 | zero=>exact fun i _=>rfl
 | succ k ih =>
  intro i hi
  rw [Nat.mul_succ,←Nat.add_assoc,h (i+p*k) (by lia)]
  exact ih i hi
theorem Pd.mono {f:Nat→Int} {m m' p:Nat} (h:Pd f m p) (hm:m≤m'):Pd f m' p:=fun i hi=>h i (by lia)
theorem Pd.down {f:Nat→Int} {m m' p q:Nat} (h:Pd f m p) (h':Pd f m' q) (hp:0 < p):Pd f m q:=fun i hi=>by
 have a:=h.mul m' (i+q) (by lia)
 have b:=h.mul m' i hi
 have ge:m'≤p*m':=Nat.le_mul_of_pos_left m' hp
 have c:=h' (i+p*m') (by lia)
 rw [←a,←b]
 have:i+q+p*m'=i+p*m'+q:=by lia
 rw [this]
 exact c
theorem Pd.gcd {f:Nat→Int} {m:Nat}:∀ {p q:Nat},Pd f m p→Pd f m q→Pd f m (Nat.gcd p q):=by
 intro p q
 induction p,q using Nat.gcd.induction with
 | H0 q=>intro _ h;rw [Nat.gcd_zero_left];exact h
 | H1 p q hp ih =>
  intro h1 h2
  rw [Nat.gcd_rec]
  refine ih (fun i hi=>?_) h1
  have a:=h1.mul (q / p) (i+q % p) (by lia)
  have e:i+q % p+p*(q / p)=i+q:=by have:=Nat.mod_add_div q p;lia
  rw [e] at a
  rw [←a]
  exact h2 i hi
structure z1V (e:Row):Prop where
 ring:e.2≠[]
 least:∀ d,0 < d→d < e.2.length→¬ Pd (lat e) e.1.length d
 cut:e.1=[]∨lat e (e.1.length - 1)≠lat e (e.1.length - 1+e.2.length)
theorem z1V.len {e e':Row} (h:z1V e) (h':z1V e') (s:∀ i,lat e i=lat e' i) (hm:e.1.length≤e'.1.length):e.2.length=e'.2.length∧e.1.length=e'.1.length:=by
 have ef:lat e=lat e':=funext s
 have P:=z63 h.ring
 have Q:=z63 h'.ring
 have hp:0 < e.2.length:=List.length_pos_iff.mpr h.ring
 have hq:0 < e'.2.length:=List.length_pos_iff.mpr h'.ring
 rw [←ef] at Q
 have e1:e.2.length=e'.2.length:=by
  by_cases h1:e'.2.length < e.2.length
  ·exact absurd (P.down Q hp) (h.least _ hq h1)
  ·by_cases h2:e.2.length < e'.2.length
   ·refine absurd ?_ (h'.least _ hp h2)
    rw [←ef]
    exact P.mono hm
   ·lia
 refine ⟨e1,?_⟩
 by_cases h3:e.1.length < e'.1.length
 ·rcases h'.cut with c | c
  ·rw [c] at h3;simp at h3
  ·refine absurd ?_ c
   rw [←ef,←e1]
   exact (P (e'.1.length - 1) (by lia)).symm
 ·lia
theorem z1y {l:List Int} {i:Nat} (h:i < l.length):l.getD i 0=l[i]:=by rw [List.getD_eq_getElem?_getD,List.getElem?_eq_getElem h];rfl
theorem z9o {e e':Row} (hl:e.1.length=e'.1.length) (hr:e.2.length=e'.2.length) (s:∀ i,lat e i=lat e' i):e=e':=by
 refine Prod.ext ?_ ?_
 ·refine List.ext_getElem hl fun i h1 h2=>?_
  have:=s i
  rw [z3r h1,z3r h2,z1y h1,z1y h2] at this
  exact this
 ·refine List.ext_getElem hr fun i h1 h2=>?_
  have:=s (e.1.length+i)
  rw [z2v (by lia),z2v (by lia),←hl,←hr,Nat.add_sub_cancel_left,Nat.mod_eq_of_lt h1,z1y h1,z1y h2] at this
  exact this
theorem z1V.one {e e':Row} (h:z1V e) (h':z1V e') (s:∀ i,lat e i=lat e' i):e=e':=by
 rcases Nat.le_total e.1.length e'.1.length with hm | hm
 ·obtain ⟨a,b⟩:=h.len h' s hm
  exact z9o b a s
 ·obtain ⟨a,b⟩:=h'.len h (fun i=>(s i).symm) hm
  exact z9o b.symm a.symm s
theorem zdP {f:Nat→Int} {e:Row} (h1:∀ i,i < e.1.length→e.1.getD i 0=f i) (h2:∀ j,j < e.2.length→e.2.getD j 0=f (e.1.length+j)) (hp:Pd f e.1.length e.2.length) (h0:e.2≠[]):∀ i,lat e i=f i:=fun i=>by
 by_cases hi:i < e.1.length
 ·rw [z3r hi];exact h1 i hi
 ·have hl:0 < e.2.length:=List.length_pos_iff.mpr h0
  rw [z2v (by lia),h2 _ (Nat.mod_lt _ hl)]
  have a:=hp.mul ((i - e.1.length) / e.2.length) (e.1.length+(i - e.1.length) % e.2.length) (by lia)
  rw [←a]
  congr 1
  have:=Nat.mod_add_div (i - e.1.length) e.2.length
  lia
def Per (r:List Int) (s:Nat):Prop:=s ∣ r.length∧∀ i,i+s < r.length→r.getD (i+s) 0=r.getD i 0
theorem z6A {r:List Int} {s:Nat} (h:Per r s) (hs:0 < s):∀ i,i < r.length→r.getD i 0=r.getD (i % s) 0:=by
 intro i
 induction i using Nat.strongRecOn with
 | ind i ih =>
  intro hi
  by_cases c:i < s
  ·rw [Nat.mod_eq_of_lt c]
  ·have a:=h.2 (i - s) (by lia)
   have e:i - s+s=i:=by lia
   rw [e] at a
   rw [a,ih (i - s) (by lia) (by lia),←Nat.mod_eq_sub_mod (by lia)]
theorem za4 {r:List Int} {s:Nat} (hd:s ∣ r.length) (h:∀ i,i < r.length→r.getD i 0=r.getD (i % s) 0):Per r s:=⟨hd,fun i hi=>by rw [h (i+s) hi,h i (by lia),Nat.add_mod_right]⟩
theorem zfu {e:Row} (h:e.2≠[]) {d:Nat} (hd:d ∣ e.2.length):Per e.2 d↔Pd (lat e) e.1.length d:=by
 have hl:0 < e.2.length:=List.length_pos_iff.mpr h
 have hd0:0 < d:=Nat.pos_of_dvd_of_pos hd hl
 constructor
 ·intro hp i hi
  rw [z2v hi,z2v (by lia),z6A hp hd0 _ (Nat.mod_lt _ hl),z6A hp hd0 ((i - e.1.length) % e.2.length) (Nat.mod_lt _ hl),Nat.mod_mod_of_dvd _ hd,Nat.mod_mod_of_dvd _ hd]
  have:i+d - e.1.length=i - e.1.length+d:=by lia
  rw [this,Nat.add_mod_right]
 ·intro hp
  refine ⟨hd,fun i hi=>?_⟩
  have:=hp (e.1.length+i) (by lia)
  rw [z2v (by lia),z2v (by lia)] at this
  have e1:e.1.length+i+d - e.1.length=i+d:=by lia
  rw [e1,Nat.add_sub_cancel_left,Nat.mod_eq_of_lt hi,Nat.mod_eq_of_lt (by lia)] at this
  exact this
structure z6r (r:List Int) (s:Nat):Prop where
 pos:0 < s
 per:Per r s
 no:∀ d,0 < d→d < s→¬ Per r d
theorem z6r.le {r:List Int} {s:Nat} (L:z6r r s) (h:r≠[]):s≤r.length:=Nat.le_of_dvd (List.length_pos_iff.mpr h) L.per.1
theorem z6r.none {e:Row} (h:e.2≠[]) {s:Nat} (L:z6r e.2 s) {m d:Nat} (hd:0 < d) (hs:d < s):¬ Pd (lat e) m d:=fun hp=>by
 have hl:0 < e.2.length:=List.length_pos_iff.mpr h
 have P:=z63 h
 have Q:=P.down hp hl
 have G:=Q.gcd P
 have g1:Nat.gcd d e.2.length ∣ e.2.length:=Nat.gcd_dvd_right _ _
 have g2:Nat.gcd d e.2.length≤d:=Nat.le_of_dvd hd (Nat.gcd_dvd_left _ _)
 exact L.no _ (Nat.gcd_pos_of_pos_left _ hd) (by lia) ((zfu h g1).mpr G)
structure z5Y (b r:List Int) (s c:Nat):Prop where
 le:c≤b.length
 eq:∀ j,j < c→b.getD (b.length - 1 - j) 0=r.getD (s - 1 - j % s) 0
 no:c=b.length∨b.getD (b.length - 1 - c) 0≠r.getD (s - 1 - c % s) 0
theorem z8U {k s:Nat} (hs:0 < s):(-1 - (k:Int)) % (s:Int)=((s - 1 - k % s:Nat):Int):=by
 have h1:k % s < s:=Nat.mod_lt _ hs
 have h2:(-1 - (k:Int))=((s - 1 - k % s:Nat):Int)+(s:Int)*(-((k / s:Nat):Int) - 1):=by
  have:=Nat.mod_add_div k s
  have e:(k:Int)=((k % s:Nat):Int)+(s:Int)*((k / s:Nat):Int):=by rw [←Int.natCast_mul,←Int.natCast_add,this]
  have e2:((s - 1 - k % s:Nat):Int)=(s:Int) - 1 - ((k % s:Nat):Int):=by lia
  rw [e2,Int.mul_sub,Int.mul_neg,Int.mul_one]
  lia
 rw [h2,Int.add_mul_emod_self_left,Int.emod_eq_of_lt (by lia) (by lia)]
theorem zbF {e:Row} (h:e.2≠[]) {s c:Nat} (L:z6r e.2 s) (R:z5Y e.1 e.2 s c):∀ i,e.1.length - c≤i→lat e i=e.2.getD (((i:Int) - (e.1.length:Int)) % (s:Int)).toNat 0:=fun i hi=>by
 have hl:0 < e.2.length:=List.length_pos_iff.mpr h
 have hle:=R.le
 by_cases c1:i < e.1.length
 ·have e1:=R.eq (e.1.length - 1 - i) (by lia)
  have e2:e.1.length - 1 - (e.1.length - 1 - i)=i:=by lia
  rw [e2] at e1
  rw [z3r c1,e1]
  have e3:(i:Int) - (e.1.length:Int)=-1 - ((e.1.length - 1 - i:Nat):Int):=by lia
  rw [e3,z8U L.pos,Int.toNat_natCast]
 ·rw [z2v (by lia),z6A L.per L.pos _ (Nat.mod_lt _ hl),Nat.mod_mod_of_dvd _ L.per.1]
  have e3:(i:Int) - (e.1.length:Int)=((i - e.1.length:Nat):Int):=by lia
  rw [e3,←Int.natCast_emod,Int.toNat_natCast]
def z3q (e:Row) (s c:Nat):Row:=(e.1.take (e.1.length - c),(z0z s).map fun k=>e.2.getD ((k - (c:Int)) % (s:Int)).toNat 0)
theorem z3p {e:Row} {s c:Nat}:(z3q e s c).1.length=e.1.length - c∧(z3q e s c).2.length=s:=by
 refine ⟨?_,?_⟩
 ·show (e.1.take _).length=_
  rw [List.length_take];lia
 ·show ((z0z s).map _).length=_
  rw [List.length_map,z0D]
theorem z55 {e:Row} (h:e.2≠[]) {s c:Nat} (L:z6r e.2 s) (R:z5Y e.1 e.2 s c):∀ i,lat (z3q e s c) i=lat e i:=by
 obtain ⟨l1,l2⟩:=z3p (e:=e) (s:=s) (c:=c)
 have hc:=zbF h L R
 refine zdP (fun i hi=>?_) (fun j hj=>?_) (fun i hi=>?_) (fun z=>?_)
 ·rw [l1] at hi
  rw [z3r (by lia)]
  show (e.1.take _).getD i 0=_
  rw [List.getD_eq_getElem?_getD,List.getElem?_take,if_pos hi,←List.getD_eq_getElem?_getD]
 ·rw [l2] at hj
  rw [l1,hc _ (by lia)]
  show ((z0z s).map _).getD j 0=_
  rw [List.getD_eq_getElem?_getD,List.getElem?_map,z1t hj]
  show e.2.getD (((j:Int) - (c:Int)) % (s:Int)).toNat 0=_
  have:=R.le
  have e1:((e.1.length - c+j:Nat):Int) - (e.1.length:Int)=(j:Int) - (c:Int):=by lia
  rw [e1]
 ·rw [l1] at hi
  rw [l2,hc _ hi,hc _ (by lia)]
  have e1:((i+s:Nat):Int) - (e.1.length:Int)=((i:Int) - (e.1.length:Int))+(s:Int):=by lia
  rw [e1,Int.add_emod_right]
 ·have:=L.pos
  rw [z] at l2
  simp at l2
  lia
theorem z6t {e:Row} (h:e.2≠[]) {s c:Nat} (L:z6r e.2 s) (R:z5Y e.1 e.2 s c):z1V (z3q e s c):=by
 obtain ⟨l1,l2⟩:=z3p (e:=e) (s:=s) (c:=c)
 have S:=z55 h L R
 have ef:lat (z3q e s c)=lat e:=funext S
 have hs:=L.pos
 refine ⟨fun z=>?_,fun d hd hds=>?_,?_⟩
 ·rw [z] at l2;simp at l2;lia
 ·rw [ef]
  rw [l2] at hds
  exact L.none h hd hds
 ·rcases R.no with z | z
  ·left
   exact List.length_eq_zero_iff.mp (by rw [l1];lia)
  ·by_cases hb:c=e.1.length
   ·left
    exact List.length_eq_zero_iff.mp (by rw [l1];lia)
   ·right
    have hle:=R.le
    rw [ef,l1,l2]
    have hl:0 < e.2.length:=List.length_pos_iff.mpr h
    have hc:=zbF h L R (e.1.length - c - 1+s) (by lia)
    rw [hc,z3r (by lia)]
    have e1:((e.1.length - c - 1+s:Nat):Int) - (e.1.length:Int)=(-1 - (c:Int))+(s:Int):=by lia
    rw [e1,Int.add_emod_right,z8U hs,Int.toNat_natCast]
    have e2:e.1.length - c - 1=e.1.length - 1 - c:=by lia
    rw [e2]
    exact z
end Gu
namespace Gu
open PySem L2
def hdW (e:Row) (m:Nat):List Int:=(List.range m).map (lat e)
def z4C (ns:List Int) (lo hi:Option Int):List Int:=(ns.drop (HT.sIx ns.length 0 lo)).take (HT.sIx ns.length ns.length hi - HT.sIx ns.length 0 lo)
theorem z3B (ns:List Int) (lo hi:Option Int):z3S (ns.map V.int) lo hi=(z4C ns lo hi).map V.int:=by
 unfold z3S z4C
 rw [List.length_map,List.map_take,List.map_drop]
theorem zd5 {ns:List Int} {lo hi:Option Int} {x:Int} (h:x∈z4C ns lo hi):x∈ns:=List.mem_of_mem_drop (List.mem_of_mem_take h)
theorem z71 {ns:List Int} {lo hi:Nat} (h:hi≤ns.length):(z4C ns (some (lo:Int)) (some (hi:Int))).length=hi - lo:=by
 unfold z4C
 rw [HT.sIx_nat,HT.sIx_nat,List.length_take,List.length_drop,Nat.min_eq_left h,Nat.min_eq_left (Nat.sub_le_sub_right h _)]
 rcases Nat.le_total lo ns.length with z | z
 ·rw [Nat.min_eq_left z]
 ·rw [Nat.min_eq_right z,Nat.sub_eq_zero_of_le h,Nat.sub_eq_zero_of_le (Nat.le_trans h z)]
theorem z6E (ns:List Int) (k:Nat):z4C ns none (some (k:Int))=ns.take k:=by
 unfold z4C
 rw [HT.sIx_none,HT.sIx_nat,List.drop_zero,Nat.sub_zero]
 rcases Nat.le_total k ns.length with h | h
 ·rw [Nat.min_eq_left h]
 ·rw [Nat.min_eq_right h,List.take_of_length_le (Nat.le_refl _),List.take_of_length_le h]
theorem zas (ns:List Int) (k:Nat):z4C ns (some (k:Int)) none=ns.drop k:=by
 unfold z4C
 rw [HT.sIx_none,HT.sIx_nat]
 rcases Nat.le_total k ns.length with h | h
 ·rw [Nat.min_eq_left h,List.take_of_length_le (by rw [List.length_drop];lia)]
 ·rw [Nat.min_eq_right h,List.drop_of_length_le (Nat.le_refl _),List.drop_of_length_le h]
  simp
def InN (n:Nat) (ns:List Int):Prop:=∀ x∈ns,0≤x∧x < (n:Int)
theorem InN.app {n:Nat} {a b:List Int} (h:InN n a) (h':InN n b):InN n (a++b):=fun x hx=>(List.mem_append.mp hx).elim (h x) (h' x)
theorem InN.cut {n:Nat} {a:List Int} (h:InN n a) {lo hi:Option Int}:InN n (z4C a lo hi):=fun x hx=>h x (zd5 hx)
theorem InN.rep {n:Nat} {a:List Int} (h:InN n a) {k:Nat}:InN n (List.replicate k a).flatten:=fun x hx=>by
 obtain ⟨l,hl,hx⟩:=List.mem_flatten.mp hx
 rw [(List.mem_replicate.mp hl).2] at hx
 exact h x hx
theorem z9B (k:Nat) (r:List Int):(List.replicate k (r.map V.int)).flatten=(List.replicate k r).flatten.map V.int:=by
 rw [List.map_flatten,List.map_replicate]
theorem z7g (k:Nat) (r:List Int):(List.replicate k r).flatten.length=k*r.length:=z4d r k
def z7f (K:PySem.W.Frag):Sp:=fun vs H Q _=>∃ (n:Nat) (c:Int) (m:Nat),vs=[.int n,.int c,.int m]∧2≤n∧n≤5∧1≤m∧m≤100 ∧
 ∀ (v:V) (H':Hp) (e:Row),z0h H H'→Dr K H' (z3I e) v→e.2≠[]→e.1.length≤4*m→e.2.length≤3*m→InN n e.1→InN n e.2→Q v H'
def zhk (n:Nat) (c:Int) (m:Nat) (ln:Addr) (ns:List Int) (H0:Hp) (σ:St) (H:Hp):Prop:=∃ (la lr:Addr) (as rs:List Int),σ=[some (.int n),some (.int c),some (.int m),some (.ref ln),some (.ref la),some (.ref lr)]∧z0h H0 H ∧
 H ln=some (.lst (ns.map V.int))∧H la=some (.lst (as.map V.int))∧H lr=some (.lst (rs.map V.int))∧rs≠[]∧as.length≤m∧rs.length≤3*m∧InN n as∧InN n rs
def tCo (n:Nat) (c:Int) (m:Nat) (ln:Addr) (ns:List Int) (H0:Hp):TS:=fun D σ H=>(∃ (la lr:Addr) (as rs:List Int),σ=[some (.int n),some (.int c),some (.int m),some (.ref ln),some (.ref la),some (.ref lr)]∧z0h H0 H ∧
 H ln=some (.lst (ns.map V.int))∧H la=some (.lst (as.map V.int))∧H lr=some (.lst (rs.map V.int))∧rs≠[]∧as.length≤m∧rs.length≤m∧InN n as∧InN n rs)∧∀ σ' H',zhk n c m ln ns H0 σ' H'→D.nx σ' H'
theorem z7X (l:List Int):∀ (k j:Nat),j < k*l.length→(List.replicate k l).flatten.getD j 0=l.getD (j % l.length) 0
 | 0,j,h=>by simp at h
 | k+1,j,h=>by
  rw [List.replicate_succ,List.flatten_cons,List.getD_eq_getElem?_getD,List.getElem?_append]
  by_cases c:j < l.length
  ·rw [if_pos c,Nat.mod_eq_of_lt c,List.getD_eq_getElem?_getD]
  ·rw [if_neg c,←List.getD_eq_getElem?_getD,z7X l k (j - l.length) (by rw [Nat.succ_mul] at h;lia),←Nat.mod_eq_sub_mod (by lia)]
end Gu
namespace L2
open PySem PySem.Spec PyProof.Rows
abbrev frO (o:Obj):HO:=.frz o (.ext fun _=>True)
section
variable {P:Program} {w:World} {H H1:Hp} {h:Heap} {a:Addr} {o:Obj}
theorem z7J (e:h.get? a=some o):z22 P w H h a (frO o):=⟨e,trivial,⟨o,e⟩,fun _ _ _ _=>trivial⟩
theorem z4f (x:HOk P w H h) (e:H a=some (frO o)):h.get? a=some o:=(x a _ e).1
end
def utk (H:Hp) (cs:List Addr):Hp:=fun b=>if b∈cs then none else H b
def rtk (H H1:Hp) (cs:List Addr):Hp:=fun b=>if b∈cs then H b else H1 b
theorem z5O {H:Hp} {cs:List Addr} {b:Addr} (h:b∈cs):utk H cs b=none:=if_pos h
theorem z1p {H:Hp} {cs:List Addr} {b:Addr} (h:b∉cs):utk H cs b=H b:=if_neg h
theorem zb9 {H H1:Hp} {cs:List Addr} {b:Addr} (h:b∈cs):rtk H H1 cs b=H b:=if_pos h
theorem z3f {H H1:Hp} {cs:List Addr} {b:Addr} (h:b∉cs):rtk H H1 cs b=H1 b:=if_neg h
theorem z0h.rtk {H H1:Hp} {cs:List Addr} (s:z0h (utk H cs) H1):z0h H (L2.rtk H H1 cs):=fun b o e=>by
 by_cases hb:b∈cs
 ·rw [zb9 hb];exact e
 ·rw [z3f hb];exact s b o (by rw [z1p hb];exact e)
theorem z0h.rtk' {H H1:Hp} {cs:List Addr} (hn:∀ c∈cs,H1 c=none):z0h H1 (L2.rtk H H1 cs):=fun b o e=>by
 have hb:b∉cs:=fun z=>by rw [hn b z] at e;cases e
 rw [z3f hb];exact e
theorem z8H {H:Hp} {cs:List Addr} (hc:∀ c∈cs,∃ ob,H c=some (frO ob)) {b:Addr} {o:HO} (e:H b=some o) (ne:∀ ob,o≠frO ob):utk H cs b=some o:=by
 have hb:b∉cs:=fun z=>by
  obtain ⟨ob,q⟩:=hc b z
  rw [e] at q
  exact ne ob (Option.some.inj q)
 rw [z1p hb];exact e
def z8M (H:Hp) (f:Addr) (params:Arguments) (body:Expr) (scope:Scope) (qual:Str) (N:List Str) (fv:St):Prop :=
 ∃ (clos:List (Str × Addr)) (cs:List Addr) (pm:Value) (c':Addr) (ctv:Value) (oc:Obj) (vs:Array Value) (t:Tok),H f=some (frO (PySem.W.kla_obj "<lambda>" qual params body scope clos pm c' ctv))∧H c'=some (frO oc)∧oc.data=.fields vs∧vs[1]?=some (.str qual t) ∧
  (∀ x y c,clos.lookup x=some c→clos.lookup y=some c→x=y)∧(∀ x c,clos.lookup x=some c→c∈cs)∧(∀ c∈cs,(∃ x,clos.lookup x=some c)∧∃ o u,H c=some (frO o)∧o.data=.cell u)∧(∀ x,scope.names.lookup x=some .free→∃ c,clos.lookup x=some c) ∧
  ∀ (i:Nat) x v,N[i]?=some x→fv[i]?=some (some v)→∃ c o u,clos.lookup x=some c∧H c=some (frO o)∧o.data=.cell (some u)∧z1n v u
theorem z8M.mono {H H':Hp} {f:Addr} {params:Arguments} {body:Expr} {scope:Scope} {qual:Str} {N:List Str} {fv:St} (h:z8M H f params body scope qual N fv) (s:z0h H H'):z8M H' f params body scope qual N fv:=by
 obtain ⟨clos,cs,pm,c',ctv,oc,vs,t,e1,e2,e3,e4,e5,e5',e6,e7,e8⟩:=h
 refine ⟨clos,cs,pm,c',ctv,oc,vs,t,s _ _ e1,s _ _ e2,e3,e4,e5,e5',fun c hc=>?_,e7,fun i x v h1 h2=>?_⟩
 ·obtain ⟨hx,o,u,q,d⟩:=e6 c hc
  exact ⟨hx,o,u,s _ _ q,d⟩
 ·obtain ⟨c,o,u,q1,q2,q3⟩:=e8 i x v h1 h2
  exact ⟨c,o,u,q1,s _ _ q2,q3⟩
structure zgA (N ps:List Str) (sc:Scope):Prop where
 kind:sc.kind=.function
 co:sc.isCoroutine=false
 gen:sc.isGenerator=false
 nd:N.Nodup
 pre:N.take ps.length=ps
 par:∀ x∈ps,sc.names.lookup x=some .local
 nocell:∀ y∈sc.names,y.2≠.cell
 fr:∀ x∈N.drop ps.length,sc.names.lookup x=some .free
def z8s (vs:List V) (fv:St):St:=vs.map some++fv.drop vs.length
def zcV (P:Program) (w:World) (K:PySem.W.Frag) (mg:Str→Option Value) (base:Heap) (N:List Str) (qual:Str) (scope:Scope) (f:Addr) (cd:Value) (clos:List (Str × Addr)) (A:Around) (outer:List Env) (s:Shared) (H:Hp):Cx where
 prog:=P
 w:=w
 K:=K
 mg:=mg
 base:=base
 A:=A.deeper (PySem.W.envX qual scope s.heap.objs.size f cd clos)
 N:=N
 s₀:=s
 H₀:=H
 env:=PySem.W.envX qual scope s.heap.objs.size f cd clos
 outer:=outer
 stack:=PySem.W.envX qual scope s.heap.objs.size f cd clos::outer
 ex:=[]
 calm:=true
 fn:=fun _=>false
 pn:=[]
 xe:=noE
theorem z7A {ps:List Str} {us:List Value} {i:Nat} {x:Str} {u:Value} (nd:ps.Nodup) (hp:ps[i]?=some x) (hu:us[i]?=some u):(ps.zip us).reverse.lookup x=some u:=by
 have hm:(x,u)∈(ps.zip us).reverse:=List.mem_reverse.mpr (List.mem_of_getElem? (i:=i) (by rw [List.getElem?_zip_eq_some];exact ⟨hp,hu⟩))
 have key:∀ l:List (Str × Value),(∀ v,(x,v)∈l→v=u)→(x,u)∈l→l.lookup x=some u:=by
  intro l
  induction l with
  | nil=>intro _ h;cases h
  | cons q r ih =>
   intro h1 h2
   obtain ⟨y,v⟩:=q
   rw [List.lookup_cons]
   by_cases e:x=y
   ·subst e
    rw [show (x == x)=true by simp]
    exact congrArg some (h1 v List.mem_cons_self)
   ·rw [show (x == y)=false by simpa using e]
    refine ih (fun v hv=>h1 v (List.mem_cons_of_mem _ hv)) ?_
    rcases List.mem_cons.mp h2 with z | z
    ·injection z with z1 _;exact absurd z1 e
    ·exact z
 refine key _ (fun v hv=>?_) hm
 obtain ⟨j,hj,ej⟩:=List.getElem_of_mem (List.mem_reverse.mp hv)
 have e1:(ps.zip us)[j]?=some (x,v):=by rw [List.getElem?_eq_getElem hj,ej]
 rw [List.getElem?_zip_eq_some] at e1
 have:j=i:=z6J nd e1.1 hp
 subst this
 rw [hu] at e1
 exact (Option.some.inj e1.2).symm
theorem zeW {CX:CXT} {P:Program} {w:World} {K:PySem.W.Frag} {mg:Str→Option Value} {base:Heap} {k:Nat} {H:Hp} {f:Addr} {params:Arguments} {body:Expr} {scope:Scope} {qual:Str} {N ps:List Str} {fv:St} (C:z8M H f params body scope qual N fv) (S:zgA N ps scope)
  (hbind:∀ (cl:List (Str × Addr)) (pm cdv ct:Value) (us:List Value),us.length=ps.length→bindArgs (PySem.W.kla_fn "<lambda>" qual params body scope cl pm cdv ct) ⟨us,[]⟩=pure (ps.zip us)) (hfv:fv.length=N.length)
  {A:Around} {outer:List Env} {s:Shared} {us:List Value} {vs:List V} {Q:VK} {E:XK} (hr:z3X (k+1) A) (e0:zfh P w K mg base A outer s H) (r:z1i vs us) (hl:vs.length=ps.length)
  (hbody:∀ (cd:Value) (clos:List (Str × Addr)) (cs:List Addr),z3X k (A.deeper (PySem.W.envX qual scope s.heap.objs.size f cd clos))→(∀ c∈cs,∃ o,H c=some (frO o)) →
   ∃ t,PE (zcV P w K mg base N qual scope f cd clos A outer s (utk H cs)) body t∧t (z8s vs fv) (utk H cs) fun v H1=>(∀ c∈cs,H1 c=none)→Q v (rtk H H1 cs)) :
  codeAny (model P w) A (.call (.ref f) ⟨us,[]⟩) (CR CX outer P w H s Q E) s:=by
 obtain ⟨clos,cs,pm,c',ctv,oc,vs',t,e1,e2,e3,e4,e5,hcl,e6',e7,e8⟩:=C
 have e6:∀ c∈cs,∃ o u,H c=some (frO o)∧o.data=.cell u:=fun c hc=>(e6' c hc).2
 obtain ⟨tb,hPE,hq⟩:=hbody (.ref c') clos cs (hr.deeper _) (fun c hc=>let ⟨o,_,q,_⟩:=e6 c hc;⟨o,q⟩)
 have KX:K.In s.heap:=e0.mod.kin.keeps fun b o e=>(e0.bs b o e).1
 have lim:s.heap.NoLimit:=e0.mod.nolimit.keeps fun b o e=>(e0.bs b o e).1
 have hul:us.length=ps.length:=by rw [←r.length];exact hl
 refine PySem.W.kla_callFunE hr.depth (z4f e0.hok e1) rfl S.co S.gen rfl ⟨c',oc,vs',t,rfl,z4f e0.hok e2,e3,e4⟩ ?_
 rw [hbind clos pm (.ref c') ctv us hul]
 refine wpAny_pure (wpAny_newFunctionEnv S.nocell (fun y hy=>S.par y.1 (List.of_mem_zip hy).1) (fun h₁ hns hsb=>?_) S.kind)
 have hk₁:∀ b o,s.heap.get? b=some o→h₁.get? b=some o:=fun b o e=>hsb.extBut b o (Nat.ne_of_lt (Heap.lt_size e)) (Heap.get?_push_of_some _ e)
 refine ⟨lim.keeps hk₁,?_⟩
 show codeAny _ _ (.expr body (PySem.W.envX qual scope s.heap.objs.size f (.ref c') clos)) _ _
 have hcu:∀ c∈cs,utk H cs c=none:=fun c hc=>z5O hc
 have hclt:∀ c∈cs,c < s.heap.objs.size:=fun c hc=>by
  obtain ⟨o,_,q,_⟩:=e6 c hc
  exact Heap.lt_size (z4f e0.hok q)
 have hokU:HOk P w (utk H cs) s.heap:=fun b u e=>by
  have hb:b∉cs:=fun z=>by rw [z5O z] at e;cases e
  rw [z1p hb] at e
  refine (e0.hok b u e).stay (fun _ _ _ q=>q) (fun c q=>?_) fun c xs q=>?_
  ·exact z8H (fun c hc=>let ⟨o,_,q,_⟩:=e6 c hc;⟨o,q⟩) q (fun ob z=>by cases z)
  ·exact z8H (fun c hc=>let ⟨o,_,q,_⟩:=e6 c hc;⟨o,q⟩) q (fun ob z=>by cases z)
 have noA:∀ b:Addr,b∉(zcV P w K mg base N qual scope f (.ref c') clos A outer s (utk H cs)).ex:=fun b z=>absurd (show b∈([]:List Addr) from z) (by simp)
 have nonU:∀ {b:Addr},H b=none→utk H cs b=none:=fun {b} e=>by
  by_cases hb:b∈cs
  ·exact z5O hb
  ·rw [z1p hb];exact e
 have I:Inv (zcV P w K mg base N qual scope f (.ref c') clos A outer s (utk H cs)) [] (z8s vs fv) (utk H cs) { s with heap:=h₁,toks:=s.toks+(ps.zip us).length }:=by
  refine ⟨⟨e0.mod,S.kind,rfl,rfl,Nat.le_refl _,e5,fun y hy=>?_,fun y c hf _=>?_,fun _=>hr.hd,Around.frames_deeper e0.frames,.inr ⟨rfl,rfl⟩,fun b z=>absurd z (noA b),fun b o e=>⟨(e0.bs b o e).1,nonU (e0.bs b o e).2⟩,e0.bsz,fun b _ _=>noA b,fun b z=>absurd z (noA b),e0.funs,fun b hb=>nonU (e0.frf b hb)⟩,
   rfl,e0.bare,Un.kept hk₁,⟨_,hns,fun i y v h1 h2 h3=>?_⟩,fun y c h=>?_,?_,fun y c h=>hcu c (hcl y c h),fun p hp=>absurd (show p∈([]:List (Addr × Obj)) from hp) (by simp),hokU.kept hk₁,?_⟩
  ·rcases hy with hy | hy
   ·exact absurd rfl (S.nocell _ (PySem.mem_of_lookup hy))
   ·exact e7 y hy
  ·exact absurd (show false=true from hf) Bool.false_ne_true
  ·by_cases hi:i < vs.length
   ·have ha:vs[i]?=some v:=by
     unfold z8s at h2
     rw [List.getElem?_append_left (by simpa using hi),List.getElem?_map] at h2
     cases e:vs[i]? with
     | none=>rw [e] at h2;cases h2
     | some a=>rw [e] at h2;cases h2;rfl
    obtain ⟨u,hu,rv⟩:=r.get ha
    have hp:ps[i]?=some y:=by
     rw [←S.pre,List.getElem?_take_of_lt (by lia)];exact h1
    have ndP:ps.Nodup:=by rw [←S.pre];exact S.nd.sublist (List.take_sublist _ _)
    exact ⟨u,rv,.inl ⟨S.par y (List.mem_of_getElem? hp),z7A ndP hp hu⟩⟩
   ·have h2':fv[i]?=some (some v):=by
     unfold z8s at h2
     rw [List.getElem?_append_right (by simpa using hi),List.length_map,List.getElem?_drop] at h2
     rw [show vs.length+(i - vs.length)=i by lia] at h2
     exact h2
    obtain ⟨c,o,u,q1,q2,q3,q4⟩:=e8 i y v h1 h2'
    have hkk:scope.names.lookup y=some .local∨scope.names.lookup y=some .cell∨scope.names.lookup y=some .free:=h3
    refine ⟨u,q4,?_⟩
    rcases hkk with z | z | z
    ·have hm:y∈N.drop ps.length:=List.mem_of_getElem? (i:=i - ps.length) (by rw [List.getElem?_drop,show ps.length+(i - ps.length)=i by lia];exact h1)
     rw [S.fr y hm] at z
     cases z
    ·exact absurd rfl (S.nocell _ (PySem.mem_of_lookup z))
    ·exact .inr ⟨.inr z,c,q1,⟨o,hk₁ _ _ (z4f e0.hok q2),q3⟩⟩
  ·obtain ⟨o,u,q,d⟩:=e6 c (hcl y c h)
   exact ⟨u,o,hk₁ _ _ (z4f e0.hok q),d⟩
  ·exact nonU (e0.hok.fresh (Nat.le_refl _))
  ·unfold z8s
   show _=N.length
   have hpl:ps.length≤N.length:=by have:=congrArg List.length S.pre;rw [List.length_take] at this;lia
   rw [List.length_append,List.length_map,List.length_drop,hfv]
   lia
 refine PySem.W.kla_codeExpr (wpAny_mono (hPE [] _ (z8s vs fv) (utk H cs) _ I hq) (fun v' s' hs=>?_) fun e' s' hs=>False.elim hs)
 obtain ⟨v,H1,J,rv,q1⟩:=hs
 have hn1:∀ c∈cs,H1 c=none:=fun c hc=>by
  obtain ⟨⟨x,hx⟩,_⟩:=e6' c hc
  exact J.freeC x c hx
 have U:Un (frs outer) [] (utk H cs) H1 s.heap s'.heap:=J.base
 have hcs':∀ c∈cs,∃ ob,H c=some (frO ob):=fun c hc=>let ⟨o,_,q,_⟩:=e6 c hc;⟨o,q⟩
 have out:∀ {b:Addr},H b=none→b∉cs:=fun {b} e z=>by obtain ⟨o,q⟩:=hcs' b z;rw [e] at q;cases q
 have got:∀ {b:Addr} {o:HO},(∀ ob,o≠frO ob)→H b=some o→b∉cs:=fun {b o} ne e z=>by obtain ⟨ob,q⟩:=hcs' b z;rw [e] at q;exact ne ob (Option.some.inj q)
 refine ⟨v,rtk H H1 cs,J.os,J.bare,⟨fun b o e n hb hx=>?_,fun b o e n hb hx=>?_,fun b o e n hx=>?_,fun b o e hx=>U.there b o e hx,fun b xs e=>?_,fun b o u e=>?_,fun b ps e=>?_⟩,fun b u e=>?_,rv,q1 hn1⟩
 ·exact U.keep b o e (nonU n) hb hx
 ·exact U.slot b o e (nonU n) hb hx
 ·rw [z3f (out n)];exact U.free b o e (nonU n) hx
 ·have hb:=got (fun ob z=>by cases z) e
  rw [z3f hb];exact U.tups b xs (by rw [z1p hb];exact e)
 ·by_cases hb:b∈cs
  ·rw [zb9 hb];exact e
  ·rw [z3f hb];exact U.frzs b o u (by rw [z1p hb];exact e)
 ·have hb:=got (fun ob z=>by cases z) e
  obtain ⟨more,q⟩:=U.tbls b ps (by rw [z1p hb];exact e)
  exact ⟨more,by rw [z3f hb];exact q⟩
 ·by_cases hb:b∈cs
  ·rw [zb9 hb] at e
   obtain ⟨ob,q⟩:=hcs' b hb
   rw [q] at e
   have:=Option.some.inj e
   subst this
   refine z7J (U.keep b ob (z4f e0.hok q) (hcu b hb) (fun z=>?_) (by simp))
   have:=e0.frf b z
   rw [q] at this
   cases this
  ·rw [z3f hb] at e
   refine (J.hok b u e).stay (fun _ _ _ q=>q) (fun c q=>?_) fun c xs q=>?_
   ·exact z0h.rtk' hn1 c _ q
   ·exact z0h.rtk' hn1 c _ q
def z3V (P:Program) (w:World) (K:PySem.W.Frag) (mg:Str→Option Value) (base:Heap) (CX:CXT) (k:Nat) (H:Hp) (f:Addr) (sp:List V→Hp→VK→Prop):Prop :=
 (∃ (o:Obj) (fd:FuncData),H f=some (frO o)∧o.data=.func fd) ∧
 ∀ (H':Hp),z0h H H'→∀ (A:Around) (outer:List Env) (s:Shared) (us:List Value) (vs:List V) (Q:VK),z3X k A→zfh P w K mg base A outer s H'→z1i vs us→sp vs H' Q →
  codeAny (model P w) A (.call (.ref f) ⟨us,[]⟩) (CR CX outer P w H' s Q E0) s
theorem z3V.mono {P:Program} {w:World} {K:PySem.W.Frag} {mg:Str→Option Value} {base:Heap} {CX:CXT} {k:Nat} {H H1:Hp} {f:Addr} {sp:List V→Hp→VK→Prop} (h:z3V P w K mg base CX k H f sp) (s:z0h H H1):z3V P w K mg base CX k H1 f sp:=by
 obtain ⟨⟨o,fd,e,d⟩,r⟩:=h
 exact ⟨⟨o,fd,s _ _ e,d⟩,fun H' s'=>r H' (s.trans s')⟩
def zfY (P:Program) (w:World) (K:PySem.W.Frag) (mg:Str→Option Value) (base:Heap) (CX:CXT) (k:Nat) (i:Nat) (t:TA):TE:=fun σ H Q=>∃ (f:Addr) (sp:List V→Hp→VK→Prop),σ[i]?=some (some (.ref f))∧(∃ (o:Obj) (fd:FuncData),H f=some (frO o)∧o.data=.func fd) ∧
 t σ H fun vs H1=>z3V P w K mg base CX k H1 f sp∧sp vs H1 Q
section
variable {X:Cx} {CX:CXT} {k:Nat} {x:Str} {p pos:Pos} {e:Expr} {es:List Expr} {t:TA}
theorem z9n [N:NoE CX] (i:Nat) (hr:z3X k X.A) (ha:PA X (e::es) t) (hN:X.N[i]?=some x:=by rfl) (hv:Vis X.env.scope x:=by first | exact Or.inl rfl | exact Or.inr (Or.inl rfl) | exact Or.inr (Or.inr rfl)) (hd:(x == ("__debug__":Str))=false:=by decide)
  (hcd:(x == ("__classdict__":Str))=false:=by decide) (he:starEach (e::es) X.env=(false,eval e X.env)::starEach es X.env:=by rfl) (hpl:(backTo pos (starEach es X.env)).any (·.1)=false:=by rfl) :
  PE X (.Call (.Name x p) (e::es) [] pos) (zfY X.prog X.w X.K X.mg X.base CX k i t):=by
 intro pins s σ H Q I h
 obtain ⟨f,sp,ef,⟨o,fd,eo,od⟩,h⟩:=h
 refine wpAny_Call_Name_kw (z23 (zdK hN hv hd hcd pins s σ H (fun v H1=>v=.ref f∧H1=H) I ⟨_,ef,rfl,rfl⟩) fun u s1 v H1 I1 r1 hz9=>?_)
 obtain ⟨hv1,hH1⟩:=hz9
 subst hv1 hH1
 cases r1
 have h':=ha pos pins s1 σ H1 _ I1 h
 rw [he] at h' ⊢
 refine PySem.W.callWith_of (P:=fun hp=>hp.get? f=some o∨∃ o' fd',hp.get? f=some o'∧o'.data=.func fd') (by show ((false || (backTo pos (starEach es X.env)).any (·.1)) || false)=false;rw [hpl];rfl)
  (fun hp hX=>?_) (PySem.Calls.evalArgs_plain (thn h' fun us s2 ⟨vs,H2,I2,r,cv,q⟩=>?_))
 ·have hX':∃ o' fd',hp.get? f=some o'∧o'.data=.func fd':=hX.elim (fun z=>⟨o,fd,z,od⟩) id
  obtain ⟨o',fd',z,d'⟩:=hX'
  refine ⟨.frame,.inl rfl,?_⟩
  obtain ⟨cls,dd,data,sl⟩:=o'
  simp only at d'
  subst d'
  exact (PySem.W.Looks.ld (part:=none) z).andThen .now
 ·obtain ⟨⟨o',fd',z,d'⟩,run⟩:=cv
  refine ⟨.inr ⟨o',fd',z4f I2.hok z,d'⟩,?_⟩
  refine wpAny_call (codeAny_mono (run H2 (z0h.refl _) X.A X.stack s2 us vs Q hr I2.env0 r q) fun r s' hq=>?_)
  cases r with
  | error e=>exact absurd hq N.no
  | ok fl =>
   cases fl with
   | ret u=>exact I2.after hq
   | next=>exact False.elim hq
   | brk=>exact False.elim hq
   | cont=>exact False.elim hq
end
end L2
namespace L2
open PySem PySem.Spec PyProof.Rows
structure Tb where
 at_:Addr
 pos:Pos
 qual:Str
def zcy (T:Tb) (H:Hp):Prop:=H T.at_=some (.tbl #[])∨∃ (c':Addr) (oc:Obj) (vs:Array Value) (t:Tok),H T.at_=some (.tbl #[rawInt T.pos.line,rawInt T.pos.col,.ref c'])∧H c'=some (frO oc)∧oc.data=.fields vs∧vs[1]?=some (.str T.qual t)
def z6H (Ts:List Tb) (H:Hp):Prop:=∀ T∈Ts,zcy T H
structure z1w (Ts:List Tb) (H H':Hp):Prop where
 at_:∀ b o,(∀ ps,o≠.tbl ps)→H b=some o→H' b=some o
 tabs:z6H Ts H→z6H Ts H'
theorem zcy.mono {T:Tb} {H H':Hp} (h:zcy T H) (s:z0h H H'):zcy T H':=by
 rcases h with e | ⟨c',oc,vs,t,e1,e2,e3⟩
 ·exact .inl (s _ _ e)
 ·exact .inr ⟨c',oc,vs,t,s _ _ e1,s _ _ e2,e3⟩
theorem z0h.l {Ts:List Tb} {H H':Hp} (s:z0h H H'):z1w Ts H H':=⟨fun b o _ e=>s b o e,fun h T hT=>(h T hT).mono s⟩
theorem z1w.refl {Ts:List Tb} (H:Hp):z1w Ts H H:=(z0h.refl H).l
theorem z1w.trans {Ts:List Tb} {H H1 H2:Hp} (a:z1w Ts H H1) (b:z1w Ts H1 H2):z1w Ts H H2:=⟨fun c o n e=>b.at_ c o n (a.at_ c o n e),fun h=>b.tabs (a.tabs h)⟩
class NT (o:HO):Prop where
 no:∀ ps,o≠.tbl ps
instance NT.lst {xs:List V}:NT (.lst xs):=⟨fun _ z=>by cases z⟩
instance NT.tup {xs:List V}:NT (.tup xs):=⟨fun _ z=>by cases z⟩
instance NT.dK {xs:List (Key × V)}:NT (.dK xs):=⟨fun _ z=>by cases z⟩
instance NT.ext {f:Heap→Prop}:NT (.ext f):=⟨fun _ z=>by cases z⟩
instance NT.frz {o:Obj} {u:HO}:NT (.frz o u):=⟨fun _ z=>by cases z⟩
theorem z1w.g {Ts:List Tb} {H H':Hp} (s:z1w Ts H H') {b:Addr} {o:HO} [n:NT o] (e:H b=some o):H' b=some o:=s.at_ b o n.no e
theorem z1w.seq {Ts:List Tb} {K:PySem.W.Frag} {H H':Hp} {a:Addr} {xs:List V} (s:z1w Ts H H') (h:SqL K H a xs):SqL K H' a xs:=by
 rcases h with (h | ⟨o,h⟩) | h
 ·exact .inl (.inl (s.g h))
 ·exact .inl (.inr ⟨o,s.g h⟩)
 ·exact .inr h
mutual
theorem Dr.monoL {Ts:List Tb} {K:PySem.W.Frag} {H H':Hp} (s:z1w Ts H H'):∀ {d:D} {v:V},Dr K H d v→Dr K H' d v
 | .non,_,h=>by simp only [Dr] at h ⊢;exact h
 | .bl _,_,h=>by simp only [Dr] at h ⊢;exact h
 | .int _,_,h=>by simp only [Dr] at h ⊢;exact h
 | .str _,_,h=>by simp only [Dr] at h ⊢;exact h
 | .tup ds,_,h=>by
  simp only [Dr] at h ⊢
  obtain ⟨a,vs,e,q,r⟩:=h
  exact ⟨a,vs,e,s.g q,DrL.monoL s r⟩
 | .lst ds,_,h=>by
  simp only [Dr] at h ⊢
  obtain ⟨a,vs,e,q,r⟩:=h
  exact ⟨a,vs,e,s.seq q,DrL.monoL s r⟩
theorem DrL.monoL {Ts:List Tb} {K:PySem.W.Frag} {H H':Hp} (s:z1w Ts H H'):∀ {ds:List D} {vs:List V},DrL K H ds vs→DrL K H' ds vs
 | [],_,h=>by simp only [DrL] at h ⊢;exact h
 | d::ds,_,h=>by
  simp only [DrL] at h ⊢
  obtain ⟨v,r,e,q,q'⟩:=h
  exact ⟨v,r,e,Dr.monoL s q,DrL.monoL s q'⟩
end
def zdd (H:Hp) (cs:List Addr) (ob:Addr→Obj):Hp:=fun b=>if b∈cs then some (frO (ob b)) else H b
theorem z5b {H:Hp} {cs:List Addr} {ob:Addr→Obj} {b:Addr} (h:b∈cs):zdd H cs ob b=some (frO (ob b)):=if_pos h
theorem z1v {H:Hp} {cs:List Addr} {ob:Addr→Obj} {b:Addr} (h:b∉cs):zdd H cs ob b=H b:=if_neg h
section
variable {X:Cx} {pins:List (Addr × Obj)} {σ:St} {H:Hp} {s s':Shared} {cs:List Addr} {ob:Addr→Obj}
theorem Inv.cellFree (I:Inv X pins σ H s) {x:Str} {c:Addr} (hc:X.env.cells.lookup x=some c) (hge:X.s₀.heap.objs.size≤c):c∉frs X.stack∧X.base.get? c=none:=by
 refine ⟨fun z=>?_,Heap.get?_none_of_le (Nat.le_trans I.ok.bsz hge)⟩
 rcases List.mem_cons.mp (I.stkSub c z) with q | q
 ·exact I.cne x c hc q
 ·obtain ⟨_,o,ho,_⟩:=I.ok.funs.mem q
  exact absurd (Nat.lt_of_lt_of_le (Heap.lt_size ho) hge) (Nat.lt_irrefl _)
theorem Inv.env0T (I:Inv X pins σ H s) (h1:∀ c∈cs,s.heap.get? c=some (ob c)) (h2:∀ c∈cs,H c=none) (h3:∀ c∈cs,c∉frs X.stack∧X.base.get? c=none):zfh X.prog X.w X.K X.mg X.base X.A X.stack s (zdd H cs ob):=by
 have E:=I.env0
 have out:∀ {b:Addr} {o:HO},H b=some o→b∉cs:=fun {b o} e z=>by rw [h2 b z] at e;cases e
 refine ⟨E.frames,E.mod,fun b o e=>⟨(E.bs b o e).1,?_⟩,E.bsz,E.funs,fun b hb=>?_,fun b u e=>?_,E.bare⟩
 ·have hb:b∉cs:=fun z=>by rw [(h3 b z).2] at e;cases e
  rw [z1v hb];exact (E.bs b o e).2
 ·have hb':b∉cs:=fun z=>(h3 b z).1 hb
  rw [z1v hb'];exact E.frf b hb
 ·by_cases hb:b∈cs
  ·rw [z5b hb] at e
   have:=Option.some.inj e
   subst this
   exact z7J (h1 b hb)
  ·rw [z1v hb] at e
   exact (I.hok b u e).stay (fun _ _ _ q=>q) (fun c q=>by rw [z1v (out q)];exact q) fun c xs q=>by rw [z1v (out q)];exact q
theorem unT {fr:List Addr} {H':Hp} {h h':Heap} {P:Program} {w:World} (h1:∀ c∈cs,h.get? c=some (ob c)) (h2:∀ c∈cs,H c=none) (h3:∀ c∈cs,c∉fr) (U:Un fr [] (zdd H cs ob) H' h h') (hok:HOk P w H' h') :
  Un fr [] H (utk H' cs) h h'∧HOk P w (utk H' cs) h':=by
 have out:∀ {b:Addr} {o:HO},H b=some o→b∉cs:=fun {b o} e z=>by rw [h2 b z] at e;cases e
 have at':∀ c∈cs,H' c=some (frO (ob c)):=fun c hc=>U.frzs c _ _ (z5b hc)
 have got:∀ {b:Addr} {o:HO},(∀ x,o≠frO x)→H' b=some o→b∉cs:=fun {b o} ne e z=>by rw [at' b z] at e;exact ne _ (Option.some.inj e).symm
 refine ⟨⟨fun b o e n hb hx=>?_,fun b o e n hb hx=>?_,fun b o e n hx=>?_,fun b o e hx=>U.there b o e hx,fun b xs e=>?_,fun b o u e=>?_,fun b ps e=>?_⟩,fun b u e=>?_⟩
 ·by_cases hc:b∈cs
  ·have q:=z4f hok (at' b hc)
   have q':=h1 b hc
   rw [e] at q'
   rw [q,Option.some.inj q']
  ·exact U.keep b o e (by rw [z1v hc];exact n) hb hx
 ·have hc:b∉cs:=fun z=>h3 b z hb
  exact U.slot b o e (by rw [z1v hc];exact n) hb hx
 ·by_cases hc:b∈cs
  ·exact z5O hc
  ·rw [z1p hc];exact U.free b o e (by rw [z1v hc];exact n) hx
 ·rw [z1p (out e)];exact U.tups b xs (by rw [z1v (out e)];exact e)
 ·rw [z1p (out e)];exact U.frzs b o u (by rw [z1v (out e)];exact e)
 ·obtain ⟨more,q⟩:=U.tbls b ps (by rw [z1v (out e)];exact e)
  exact ⟨more,by rw [z1p (out e)];exact q⟩
 ·have hc:b∉cs:=fun z=>by rw [z5O z] at e;cases e
  rw [z1p hc] at e
  refine (hok b u e).stay (fun _ _ _ q=>q) (fun c q=>?_) fun c xs q=>?_
  ·rw [z1p (got (fun x z=>by cases z) q)];exact q
  ·rw [z1p (got (fun x z=>by cases z) q)];exact q
theorem Inv.afterT {Q:VK} {u:Value} (I:Inv X pins σ H s) (h1:∀ c∈cs,s.heap.get? c=some (ob c)) (h2:∀ c∈cs,H c=none) (h3:∀ c∈cs,c∉frs X.stack∧X.base.get? c=none)
  (h:CE X.stack X.prog X.w (zdd H cs ob) s (fun v H'=>Q v (utk H' cs)) u s'):EP X pins σ Q u s':=by
 obtain ⟨v,H',os,bare,un,hok,r,q⟩:=h
 obtain ⟨un2,hok2⟩:=unT h1 h2 (fun c hc=>(h3 c hc).1) un hok
 exact I.after ⟨v,utk H' cs,os,bare,un2,hok2,r,q⟩
theorem zid {P:Program} {w:World} {outer:List Env} {E:XK} {e:Value} (h1:∀ c∈cs,s.heap.get? c=some (ob c)) (h2:∀ c∈cs,H c=none) (h3:∀ c∈cs,c∉frs outer) (h:CXx P w outer (zdd H cs ob) s (fun e C H'=>E e C (utk H' cs)) e s'):CXx P w outer H s E e s':=by
 obtain ⟨ea,C,H',e1,os,bare,un,hok,fly,q⟩:=h
 obtain ⟨un2,hok2⟩:=unT h1 h2 h3 un hok
 have no:∀ {b:Addr},H' b=none→utk H' cs b=none:=fun {b} z=>by
  by_cases hc:b∈cs
  ·exact z5O hc
  ·rw [z1p hc];exact z
 obtain ⟨f1,f2,a0,oe,vs,T,oT,ts,g1,g2,g3,g4,g5,g6,g7,g8⟩:=fly
 exact ⟨ea,C,utk H' cs,e1,os,bare,un2,hok2,⟨f1,no f2,a0,oe,vs,T,oT,ts,g1,g2,g3,g4,g5,g6,no g7,g8⟩,q⟩
end
end L2
namespace L2
open PySem PySem.Spec PyProof.Rows
def z5L (base:Heap) (mg:Str→Option Value):Prop:=∃ bm o,mg "__builtins__"=some (.ref bm)∧bm≠builtinsNs∧bm≠mainGlobals∧base.get? bm=some o∧o.cls=.type "module"∧o.dict=some builtinsNs∧o.data=.plain
def zc7 (Ts:List Tb) (H H':Hp) (fa:Addr) (clos:List (Str × Addr)) (params:Arguments) (body:Expr) (scope:Scope) (qual:Str):Prop :=
 (∀ b o,(∀ ps,o≠.tbl ps)→H b=some o→H' b=some o)∧z6H Ts H'∧∃ (pm:Value) (c':Addr) (ctv:Value) (oc:Obj) (vs:Array Value) (t:Tok),H' fa=some (frO (PySem.W.kla_obj "<lambda>" qual params body scope clos pm c' ctv))∧H' c'=some (frO oc)∧oc.data=.fields vs∧vs[1]?=some (.str qual t)
def zhw (Ts:List Tb) (clos:List (Str × Addr)) (params:Arguments) (body:Expr) (scope:Scope) (qual:Str):TE:=fun _ H Q=>z6H Ts H∧∀ (fa:Addr) (H':Hp),zc7 Ts H H' fa clos params body scope qual→Q (.ref fa) H'
section
variable {X:Cx} {N:List Str} {ix:List (Option Nat)} {params:Arguments} {body:Expr} {lsc:Scope} {lpos:Pos} {c:Addr} {T:Tb} {Ts:List Tb}
theorem zfK (S:z1l X.N X.env.scope N ix lsc) (hcode:X.env.code=.ref c) (hC:PySem.W.CodeHd X.base c T.at_) (hB:z5L X.base X.mg) (hT:T∈Ts) (hTn:∀ T'∈Ts,T'.at_=T.at_→T'=T) (hTp:T.pos=lpos) (hTq:T.qual=X.env.qual++"<lambda>")
  (hdef:defaultsOf params X.env=([],[])):PE X (.Lambda params body lsc lpos) (zhw Ts (z0E X.env.cells lsc.names []) params body lsc T.qual):=by
 intro pins s σ H Q I h
 obtain ⟨ht,h⟩:=h
 subst hTp
 refine PySem.W.kla_eval hdef ?_
 rw [←hTq]
 have hcl:=z1N (scope:=lsc) (env:=X.env) (z0R I S)
 have hns:s.heap.Ns mainGlobals X.mg:=I.mod.glob.keeps I.bk
 have C:PySem.W.CodeHd s.heap c T.at_:=hC.keeps I.bk
 obtain ⟨bm,ob,b1,b2,b3,b4,b5,b6,b7⟩:=hB
 have tP:∀ {ps:Array Value},H T.at_=some (.tbl ps)→s.heap.get? T.at_=some (PySem.W.tabObj ps):=fun e=>I.hok _ _ e
 have neP:∀ {ps:Array Value} {b:Addr},H T.at_=some (.tbl ps)→H b=none→b≠T.at_:=fun e n z=>by rw [z,e] at n;cases n
 rcases ht T hT with e | ⟨c',oc,vs,t,e,ec,d1,d2⟩
 ·have hbP:bm≠T.at_:=neP e (I.bs _ _ b4).2
  have hgP:mainGlobals≠T.at_:=fun z=>by
   obtain ⟨o,es,ep,q,qd,_⟩:=hns
   rw [z,tP e] at q
   cases q
   cases qd
  refine PySem.W.kla_makeFunction (mg:=X.mg) hcl I.ok.glob hns hcode C (tP e) trivial rfl hgP ⟨bm,ob,b1,b2,b3,hbP,I.bk _ _ b4,b5,b6,b7⟩ fun c' ctv h' tk hx hge hlt hrec htb=>?_
  obtain ⟨c2,oc,vs,t,ee,hoc,d1,d2⟩:=hrec
  cases ee
  have hPlt:T.at_ < s.heap.objs.size:=Heap.lt_size (tP e)
  have nPc:T.at_≠c':=Nat.ne_of_lt (Nat.lt_of_lt_of_le hPlt hge)
  have nPf:T.at_≠h'.objs.size:=Nat.ne_of_lt (Nat.lt_trans (Nat.lt_of_lt_of_le hPlt hge) hlt)
  have ncf:c'≠h'.objs.size:=Nat.ne_of_lt hlt
  have Hc:H c'=none:=I.hok.fresh hge
  have Hf:H h'.objs.size=none:=I.hok.fresh (Nat.le_trans hge (Nat.le_of_lt hlt))
  generalize hfo:PySem.W.kla_obj "<lambda>" T.qual params body lsc (z0E X.env.cells lsc.names []) ((X.mg "__name__").getD .none) c' ctv=fo
  have hfg:(h'.push fo).get? h'.objs.size=some fo:=Heap.get?_push_size _ (by rw [←hfo];rfl)
  let H':Hp:=upd (upd (upd H T.at_ (.tbl #[rawInt T.pos.line,rawInt T.pos.col,.ref c'])) c' (frO oc)) h'.objs.size (frO fo)
  have gP:H' T.at_=some (.tbl #[rawInt T.pos.line,rawInt T.pos.col,.ref c']):=by show upd _ _ _ _=_;rw [z09 nPf,z09 nPc,z04]
  have gc:H' c'=some (frO oc):=by show upd _ _ _ _=_;rw [z09 ncf,z04]
  have gf:H' h'.objs.size=some (frO fo):=z04
  have go:∀ {b:Addr},b≠T.at_→b≠c'→b≠h'.objs.size→H' b=H b:=fun {b} n1 n2 n3=>by show upd _ _ _ _=_;rw [z09 n3,z09 n2,z09 n1]
  have gt:∀ {b:Addr} {o:HO},b≠T.at_→H b=some o→H' b=some o:=fun {b o} n1 q=>by rw [go n1 (z0f q Hc) (z0f q Hf)];exact q
  have hk:∀ b o,b≠T.at_→s.heap.get? b=some o→(h'.push fo).get? b=some o:=fun b o n q=>Heap.get?_push_of_some _ (hx b o n q)
  have I':Inv X pins σ H' { s with heap:=h'.push fo,toks:=tk }:=by
   refine I.un ⟨fun b o q n _ _=>hk b o (neP e n) q,fun b o q n _ _=>⟨o.slots,hk b o (neP e n) q⟩,fun b o q n _=>?_,fun b o q _=>?_,fun b xs q=>?_,fun b o u q=>?_,fun b ps q=>?_⟩ (fun b u q=>?_)
   ·have hb:=Heap.lt_size q
    rw [go (neP e n) (Nat.ne_of_lt (Nat.lt_of_lt_of_le hb hge)) (Nat.ne_of_lt (Nat.lt_trans (Nat.lt_of_lt_of_le hb hge) hlt))];exact n
   ·by_cases hb:b=T.at_
    ·exact ⟨_,by rw [hb];exact Heap.get?_push_of_some _ htb⟩
    ·exact ⟨_,hk b o hb q⟩
   ·exact gt (fun z=>by rw [z,e] at q;cases q) q
   ·exact gt (fun z=>by rw [z,e] at q;cases q) q
   ·by_cases hb:b=T.at_
    ·subst hb
     rw [e] at q
     cases q
     exact ⟨#[rawInt T.pos.line,rawInt T.pos.col,.ref c'],by rw [gP];simp⟩
    ·exact ⟨#[],by rw [gt hb q];simp⟩
   ·by_cases hf:b=h'.objs.size
    ·subst hf
     rw [gf] at q
     cases q
     exact z7J hfg
    ·by_cases hc:b=c'
     ·subst hc
      rw [gc] at q
      cases q
      exact z7J (Heap.get?_push_of_some _ hoc)
     ·by_cases hb:b=T.at_
      ·subst hb
       rw [gP] at q
       cases q
       show (h'.push fo).get? T.at_=some (PySem.W.tabObj _)
       have:=Heap.get?_push_of_some fo htb
       simpa using this
      ·rw [go hb hc hf] at q
       refine (I.hok b u q).stay (fun d o hd q'=>hk d o ?_ q') (fun d q'=>gt (fun z=>by rw [z,e] at q';cases q') q') fun d xs q'=>gt (fun z=>by rw [z,e] at q';cases q') q'
       rcases hd with z | z
       ·rw [z];exact hb
       ·exact fun z'=>by rw [z',e] at z;cases z
  refine ⟨.ref h'.objs.size,H',I',rfl,h _ _ ⟨fun b o no q=>gt (fun z=>by rw [z,e] at q;exact no _ (Option.some.inj q).symm) q,fun T' hT'=>?_,_,c',ctv,oc,vs,t,by rw [hfo];exact gf,gc,d1,d2⟩⟩
  by_cases hb:T'.at_=T.at_
  ·have:=hTn T' hT' hb
   subst this
   exact .inr ⟨c',oc,vs,t,gP,gc,d1,d2⟩
  ·rcases ht T' hT' with q | ⟨c3,oc3,vs3,t3,q1,q2,q3⟩
   ·exact .inl (gt hb q)
   ·exact .inr ⟨c3,oc3,vs3,t3,gt hb q1,gt (fun z=>by rw [z,e] at q2;cases q2) q2,q3⟩
 ·have hbP:bm≠T.at_:=neP e (I.bs _ _ b4).2
  refine PySem.W.kla_makeFunctionHit (mg:=X.mg) (cv:=.ref c') hcl I.ok.glob hns hcode C (tP e) (by simp [TriplesOk,rawInt]) (by simp [codeAmong,rawInt]) ⟨bm,ob,b1,b2,b3,hbP,I.bk _ _ b4,b5,b6,b7⟩ fun ctv h' tk hk hsz=>?_
  have Hf:H h'.objs.size=none:=I.hok.fresh hsz
  have gt:∀ {b:Addr} {o:HO} {u:HO},H b=some o→upd H h'.objs.size u b=some o:=fun q=>by rw [z09 (z0f q Hf)];exact q
  refine ⟨.ref h'.objs.size,_,I.laid (a:=h'.objs.size) (o:=frO (PySem.W.kla_obj "<lambda>" T.qual params body lsc (z0E X.env.cells lsc.names []) ((X.mg "__name__").getD .none) c' ctv)) (t':=tk) (fun b o q=>Heap.get?_push_of_some _ (hk b o q)) hsz (z7J (Heap.get?_push_size _ rfl)),rfl,h _ _ ⟨fun b o _ q=>gt q,fun T' hT'=>?_,_,c',ctv,oc,vs,t,z04,gt ec,d1,d2⟩⟩
  rcases ht T' hT' with q | ⟨c3,oc3,vs3,t3,q1,q2,q3⟩
  ·exact .inl (gt q)
  ·exact .inr ⟨c3,oc3,vs3,t3,gt q1,gt q2,q3⟩
def zgh (Ts:List Tb) (params:Arguments) (body:Expr) (lsc:Scope) (qual:Str) (N:List Str) (ix:List (Option Nat)) (sp:Sp) (E:XK) (t0:TE):TE:=fun σ H Q=>t0 σ H fun v0 H1=>z6H Ts H1∧∀ (fa:Addr) (H2:Hp) (cs:List Addr),(∀ b o,(∀ ps,o≠.tbl ps)→H1 b=some o→H2 b=some o) →
 (∀ H3,z0h H2 H3→z1w Ts H1 (utk H3 cs))→(∀ c∈cs,∃ ob,H2 c=some (frO ob))→z8M H2 fa params body lsc qual N (z1k ix σ)→sp [v0,.ref fa] H2 (fun v H3=>Q v (utk H3 cs)) (fun e C H3=>E e C (utk H3 cs))
variable {k:Nat} {g:Addr} {gd:FuncData} {ps:List Str} {sp:Sp} {E:XK} {x:Str} {p pos:Pos} {e0:Expr} {t0:TE}
theorem z9F (G:z0t X.prog X.w X.K X.mg X.base (CXx X.prog X.w) k g gd ps sp) (hr:z3X k X.A) (hg:Gl X x) (hm:X.mg x=some (.ref g)) (hk:PySem.W.keepIn X.K (.ref g)=true) (hb:z0k X.K gd ps []) (hx:z4K (CXx X.prog X.w) X E)
  (h0:PE X e0 t0) (m0:∀ σ H (Q Q':VK),(∀ v H1,Q v H1→Q' v H1)→t0 σ H Q→t0 σ H Q') (S:z1l X.N X.env.scope N ix lsc) (hcode:X.env.code=.ref c) (hC:PySem.W.CodeHd X.base c T.at_) (hB:z5L X.base X.mg) (hfn:∀ y,X.fn y=true) (hT:T∈Ts) (hTn:∀ T'∈Ts,T'.at_=T.at_→T'=T) (hTp:T.pos=lpos) (hTq:T.qual=X.env.qual++"<lambda>")
  (hdef:defaultsOf params X.env=([],[]):=by rfl) (hdb:(x == ("__debug__":Str))=false:=by decide)
  (he:starEach [e0,.Lambda params body lsc lpos] X.env=(false,eval e0 X.env)::starEach [.Lambda params body lsc lpos] X.env:=by rfl) (he2:starEach [.Lambda params body lsc lpos] X.env=(false,eval (.Lambda params body lsc lpos) X.env)::starEach [] X.env:=by rfl) (hpl:(backTo pos (starEach [.Lambda params body lsc lpos] X.env)).any (·.1)=false:=by rfl) :
  PE X (.Call (.Name x p) [e0,.Lambda params body lsc lpos] [] pos) (zgh Ts params body lsc T.qual N ix sp E t0):=by
 intro pins s σ H Q I h
 refine wpAny_Call_Name_kw (z58 I hg hm ?_ hdb)
 have hPA:PA X [e0,.Lambda params body lsc lpos] (z8u t0 (z8u (zhw Ts (z0E X.env.cells lsc.names []) params body lsc T.qual) zfU)):=z02 h0 (z02 (zfK S hcode hC hB hT hTn hTp hTq hdef) z05 he2) he
 refine PySem.W.callWith_K (h₀:=X.base) I.ok.mod.kin hk (thn (hPA pos pins s σ H (fun us H2=>∃ (v0:V) (fa:Addr) (H1:Hp),us=[v0,.ref fa]∧(z6H Ts H1∧∀ (fa:Addr) (H2:Hp) (cs:List Addr),(∀ b o,(∀ ps,o≠.tbl ps)→H1 b=some o→H2 b=some o) →
 (∀ H3,z0h H2 H3→z1w Ts H1 (utk H3 cs))→(∀ c∈cs,∃ ob,H2 c=some (frO ob))→z8M H2 fa params body lsc T.qual N (z1k ix σ)→sp [v0,.ref fa] H2 (fun v H3=>Q v (utk H3 cs)) (fun e C H3=>E e C (utk H3 cs)))∧zc7 Ts H1 H2 fa (z0E X.env.cells lsc.names []) params body lsc T.qual) I ?_) fun us s2 ⟨vs,H2,I2,r,q⟩=>⟨I2.kIn,?_⟩) he hpl
 ·exact m0 σ H _ _ (fun v0 H1 ⟨ht,hq⟩=>⟨ht,fun fa H' made=>⟨v0,fa,H1,rfl,⟨ht,hq⟩,made⟩⟩) h
 ·obtain ⟨v0,fa,H1,rfl,⟨ht,hq⟩,mfr,mtb,pm,c',ctv,oc,vsc,t,m1,m2,m3,m4⟩:=q
  let clos:=z0E X.env.cells lsc.names []
  let cs:List Addr:=(lsc.names.map (·.1)).filterMap (fun y=>List.lookup y clos)
  let ob:Addr→Obj:=fun c=>(s2.heap.get? c).getD { cls:=.none,data:=.plain }
  have lk:∀ {y:Str} {c:Addr},clos.lookup y=some c→X.env.cells.lookup y=some c:=fun e=>z1S I2 S e
  have mem:∀ {c:Addr},c∈cs→∃ y,clos.lookup y=some c:=fun {c} hc=>by
   obtain ⟨y,_,e⟩:=List.mem_filterMap.mp hc
   exact ⟨y,e⟩
  have inn:∀ y c,clos.lookup y=some c→c∈cs:=fun y c e=>by
   refine List.mem_filterMap.mpr ⟨y,?_,e⟩
   by_cases hm':(y,NameKind.free)∈lsc.names
   ·exact List.mem_map.mpr ⟨_,hm',rfl⟩
   ·have:=z44 (cells:=X.env.cells) lsc.names [] y hm'
    rw [show (z0E X.env.cells lsc.names []).lookup y=some c from e] at this
    cases this
  have h1:∀ c∈cs,s2.heap.get? c=some (ob c):=fun c hc=>by
   obtain ⟨y,e⟩:=mem hc
   obtain ⟨v,o,ho,_⟩:=I2.cell y c (lk e)
   show _=some ((s2.heap.get? c).getD _)
   rw [ho];rfl
  have h2:∀ c∈cs,H2 c=none:=fun c hc=>by
   obtain ⟨y,e⟩:=mem hc
   exact I2.freeC y c (lk e)
  have h3:∀ c∈cs,c∉frs X.stack∧X.base.get? c=none:=fun c hc=>by
   obtain ⟨y,e⟩:=mem hc
   exact I2.cellFree (lk e) (I2.ok.cab y c (hfn y) (lk e))
  have out:∀ {b:Addr} {o:HO},H2 b=some o→b∉cs:=fun {b o} e z=>by rw [h2 b z] at e;cases e
  have tr:∀ {b:Addr} {o:HO},H2 b=some o→zdd H2 cs ob b=some o:=fun e=>by rw [z1v (out e)];exact e
  have spq:=hq fa (zdd H2 cs ob) cs (fun b o no e=>tr (mfr b o no e)) (fun H3 s3=>?_) (fun c hc=>⟨ob c,z5b hc⟩) ?_
  ·refine wpAny_call (codeAny_mono (G.run X.A X.stack s2 (zdd H2 cs ob) ⟨us,[]⟩ us [v0,.ref fa] _ _ hr (I2.env0T h1 h2 h3) (by have:=hb s2 us I2.kIn (by rw [List.append_nil,←r.length];exact G.len _ _ _ _ spq);rw [List.append_nil] at this;exact this) r spq) fun r s' hq=>?_)
   cases r with
   | error e=>exact hx pins σ H2 s2 e s' I2 (zid h1 h2 (fun c hc=>(h3 c hc).1) hq)
   | ok fl =>
    cases fl with
    | ret u=>exact I2.afterT h1 h2 h3 hq
    | next=>exact False.elim hq
    | brk=>exact False.elim hq
    | cont=>exact False.elim hq
  ·have out3:∀ {b:Addr} {o:HO},H2 b=some o→utk H3 cs b=some o:=fun e=>by rw [z1p (out e)];exact s3 _ _ (tr e)
   refine ⟨fun b o no e=>out3 (mfr b o no e),fun _ T' hT'=>?_⟩
   rcases mtb T' hT' with q | ⟨c3,oc3,vs3,t3,q1,q2,q3⟩
   ·exact .inl (out3 q)
   ·exact .inr ⟨c3,oc3,vs3,t3,out3 q1,out3 q2,q3⟩
  ·refine ⟨clos,cs,pm,c',ctv,oc,vsc,t,tr m1,tr m2,m3,m4,fun y z c e1 e2=>I2.ok.inj y z c (lk e1) (lk e2),inn,fun c hc=>⟨mem hc,?_⟩,fun y hy=>?_,fun i y v e1 e2=>?_⟩
   ·obtain ⟨y,e⟩:=mem hc
    obtain ⟨v,o,ho,hd⟩:=I2.cell y c (lk e)
    refine ⟨ob c,v,z5b hc,?_⟩
    have:=h1 c hc
    rw [ho] at this
    rw [←Option.some.inj this];exact hd
   ·have hm':(y,NameKind.free)∈lsc.names:=PySem.mem_of_lookup hy
    obtain ⟨c,e⟩:=z0R I2 S y hm'
    exact ⟨c,(z29 lsc.names [] y (z0R I2 S) (.inl hm')).trans e⟩
   ·obtain ⟨j,f1,f2,f3⟩:=S.at_ e1 e2
    have hm':(y,NameKind.free)∈lsc.names:=PySem.mem_of_lookup f2
    obtain ⟨m,hn,hl⟩:=I2.loc
    have hvis:=S.frees _ hm' rfl
    obtain ⟨u,ru,look⟩:=hl j y v f1 f3 (.inr hvis)
    rcases look with ⟨hk',_⟩ | ⟨_,c,ec,cell⟩
    ·have hk'':X.env.scope.names.lookup y=some .local:=hk'
     rcases hvis with z | z
     ·rw [z] at hk'';cases hk''
     ·rw [z] at hk'';cases hk''
    ·have hcl:clos.lookup y=some c:=(z29 lsc.names [] y (z0R I2 S) (.inl hm')).trans ec
     have hc:=inn y c hcl
     obtain ⟨o,ho,hd⟩:=cell
     refine ⟨c,ob c,u,hcl,z5b hc,?_,ru⟩
     have:=h1 c hc
     rw [ho] at this
     rw [←Option.some.inj this];exact hd
end
end L2
namespace L2
open PySem PySem.Spec PyProof.Rows
def NFr (H H':Hp):Prop:=∀ b o,(∀ ob,o≠frO ob)→H b=some o→H' b=some o
theorem NFr.seq {K:PySem.W.Frag} {H H':Hp} {a:Addr} {xs:List V} (s:NFr H H') (h:SqL K H a xs):SqL K H' a xs:=by
 rcases h with (h | ⟨o,h⟩) | h
 ·exact .inl (.inl (s _ _ (fun _ z=>by cases z) h))
 ·exact .inl (.inr ⟨o,s _ _ (fun _ z=>by cases z) h⟩)
 ·exact .inr h
mutual
theorem Dr.nfr {K:PySem.W.Frag} {H H':Hp} (s:NFr H H'):∀ {d:D} {v:V},Dr K H d v→Dr K H' d v
 | .non,_,h=>by simp only [Dr] at h ⊢;exact h
 | .bl _,_,h=>by simp only [Dr] at h ⊢;exact h
 | .int _,_,h=>by simp only [Dr] at h ⊢;exact h
 | .str _,_,h=>by simp only [Dr] at h ⊢;exact h
 | .tup ds,_,h=>by
  simp only [Dr] at h ⊢
  obtain ⟨a,vs,e,q,r⟩:=h
  exact ⟨a,vs,e,s _ _ (fun _ z=>by cases z) q,DrL.nfr s r⟩
 | .lst ds,_,h=>by
  simp only [Dr] at h ⊢
  obtain ⟨a,vs,e,q,r⟩:=h
  exact ⟨a,vs,e,s.seq q,DrL.nfr s r⟩
theorem DrL.nfr {K:PySem.W.Frag} {H H':Hp} (s:NFr H H'):∀ {ds:List D} {vs:List V},DrL K H ds vs→DrL K H' ds vs
 | [],_,h=>by simp only [DrL] at h ⊢;exact h
 | d::ds,_,h=>by
  simp only [DrL] at h ⊢
  obtain ⟨v,r,e,q,q'⟩:=h
  exact ⟨v,r,e,Dr.nfr s q,DrL.nfr s q'⟩
end
theorem NFr.utk {H H3:Hp} {cs:List Addr} (hc:∀ c∈cs,∃ ob,H c=some (frO ob)) (s:z0h H H3):NFr H3 (L2.utk H3 cs):=fun b o n e=>z8H (fun c h=>let ⟨ob,q⟩:=hc c h;⟨ob,s _ _ q⟩) e n
theorem Fun.okL {CX:CXT} {P:Program} {w:World} {K:PySem.W.Frag} {mg:Str→Option Value} {base:Heap} {x qual:Str} {st:Stmt} {f c:Addr} {fd:FuncData} {N ps:List Str} {k:Nat} {sp:Sp} (F:Fun K x qual st f fd) (hc:fd.code=.ref c) (S:z0n N ps (z06 st)) (len:∀ vs H Q E,sp vs H Q E→vs.length=ps.length)
  (hbody:∀ (A:Around) (outer:List Env) (s:Shared) (H:Hp) (vs:List V) (Q:VK) (E:XK),z3X k (A.deeper (envOfC qual (z06 st) s.heap.objs.size f (.ref c)))→sp vs H Q E →
   ∃ t,PSs (z7o CX P w K mg base N qual (z06 st) f (.ref c) A outer s H E) (z1a st) t∧t { nx:=fun _ H'=>Q .non H',rt:=Q } (z5K N vs) H):z0t P w K mg base CX (k+1) f fd ps sp:=by
 obtain ⟨oc,od,kV,doc,pm,an,cdv,ct,osl,rfl,lk,hcd⟩:=F.ex
 have:cdv=.ref c:=hc
 subst this
 exact zfc lk hcd S len fun A outer s H vs Q E hr hsp=>hbody A outer s H vs Q E hr hsp
theorem zcc {P:Program} {w:World} {K:PySem.W.Frag} {mg mb:Str→Option Value} {CX:CXT} {k:Nat} {fa a:Addr} {fd:FuncData} {x:Str} {sp:Sp} {s₁:Shared} {vs:List Value} {ns:List Int} {Ts:List Tb}
  (KX:K.In s₁.heap) (hns:s₁.heap.Ns mainGlobals mg) (hb:s₁.heap.Ns builtinsNs mb) (hbb:∀ x:Str,x≠"__name__"→mb x=bootBuiltins x) (hlim:s₁.heap.NoLimit) (hg:s₁.gens=#[])
  (ha:s₁.heap.get? a=some { cls:=.type "list",data:=.seq vs.toArray }) (hi:IntsAre vs ns) (hl:ns.length≤sizeLine) (hr:z3X k callerA)
  (hT:∀ T∈Ts,s₁.heap.get? T.at_=some (PySem.W.tabObj #[])∧K.lookup T.at_=none∧∃ c,PySem.W.CodeHd s₁.heap c T.at_) (hbm:z5L s₁.heap mg)
  (F:∀ base:Heap,K.In base→base.Ns mainGlobals mg→z5L base mg→z0t P w K mg base CX k fa fd [x] sp) (hbind:∀ (s:Shared) (u:Value),BindsTo s fd ⟨[u],[]⟩ [(x,u)])
  (hsp:∀ H:Hp,z6H Ts H→SqL K H a (ns.map V.int)→sp [.ref a] H (fun v _=>v=.bl true) fun _ _ _=>False)
  (hCX:∀ H e s',CX [] H s₁ (fun _ _ _=>False) e s'→False) :
  codeAny (model P w) callerA (.call (.ref fa) ⟨[.ref a],[]⟩) (fun r s'=>r=.ok (.ret (.bool true))∧OldK s₁.heap s'.heap∧s'.os=s₁.os∧AllBare s'.gens) s₁:=by
 have rv:=z80 hi
 have lenV:=hi.length
 have isT:∀ b,(∃ T∈Ts,T.at_=b)→s₁.heap.get? b=some (PySem.W.tabObj #[])∧K.lookup b=none∧∃ c,PySem.W.CodeHd s₁.heap c b:=fun b ⟨T,hT1,e⟩=>e ▸ hT T hT1
 have core:∀ H:Hp,z6H Ts H→SqL K H a (ns.map V.int)→HOk P w H s₁.heap→(∀ b,H b≠none→(b=a∧K.lookup a=none∧∃ o xs,H b=some (.frz o (.lst xs)))∨((∃ T∈Ts,T.at_=b)∧H b=some (.tbl #[]))) →
   codeAny (model P w) callerA (.call (.ref fa) ⟨[.ref a],[]⟩) (fun r s'=>r=.ok (.ret (.bool true))∧OldK s₁.heap s'.heap∧s'.os=s₁.os∧AllBare s'.gens) s₁:=by
  intro H hO hS hok hA
  have base_of:∀ {b:Addr} {o:Obj},s₁.heap.get? b=some o→H b=none→(zcn s₁.heap H).get? b=some o:=fun e n=>zcz e n
  have noA:∀ {b:Addr} {o:Obj},s₁.heap.get? b=some o→(∀ xs,o.data≠.seq xs)→(∀ xs,o.data≠.fields xs)→H b=none:=fun {b o} e d1 d2=>by
   cases q:H b with
   | none=>rfl
   | some u =>
    rcases hA b (by rw [q];simp) with ⟨e',_⟩ | ⟨e',_⟩
    ·subst e'
     rw [ha] at e;cases e
     exact absurd rfl (d1 _)
    ·rw [(isT b e').1] at e;cases e
     exact absurd rfl (d2 _)
  have nsK:∀ {b:Addr} {m:Str→Option Value},s₁.heap.Ns b m→(zcn s₁.heap H).Ns b m:=fun {b m} ⟨o,es,ep,e,d,r⟩=>⟨o,es,ep,base_of e (noA e (fun xs z=>by rw [z] at d;cases d) (fun xs z=>by rw [z] at d;cases d)),d,r⟩
  have hKb:K.In (zcn s₁.heap H):=fun b o e=>base_of (KX b o e) (by
   cases q:H b with
   | none=>rfl
   | some u =>
    rcases hA b (by rw [q];simp) with ⟨e',hk,_⟩ | ⟨e',_⟩
    ·subst e'
     rw [hk] at e;cases e
    ·rw [(isT b e').2.1] at e;cases e)
  have hM:Mod K mg (zcn s₁.heap H):=⟨hKb,nsK hns,⟨mb,nsK hb,hbb⟩,let ⟨mc,h1,h2⟩:=hlim;⟨mc,nsK h1,h2⟩⟩
  have hBM:z5L (zcn s₁.heap H) mg:=by
   obtain ⟨bm,o,b1,b2,b3,b4,b5,b6,b7⟩:=hbm
   exact ⟨bm,o,b1,b2,b3,base_of b4 (noA b4 (fun xs z=>by rw [z] at b7;cases b7) (fun xs z=>by rw [z] at b7;cases b7)),b5,b6,b7⟩
  have e0:zfh P w K mg (zcn s₁.heap H) callerA [] s₁ H:=⟨rfl,hM,fun b o e=>zez e,Nat.le_of_eq (zbB _ _),trivial,fun b hb=>absurd (show b∈([]:List Addr) from hb) (by simp),hok,.of_eq hg⟩
  refine codeAny_mono ((F _ hKb (nsK hns) hBM).run callerA [] s₁ H ⟨[.ref a],[]⟩ [.ref a] [.ref a] _ _ hr e0 (hbind s₁ (.ref a)) (.cons rfl .nil) (hsp H hO hS)) fun r s' h=>?_
  cases r with
  | error e=>exact (hCX H e s' h).elim
  | ok fl =>
   cases fl with
   | next=>exact False.elim h
   | brk=>exact False.elim h
   | cont=>exact False.elim h
   | ret u =>
    obtain ⟨v,H',os,bare,un,hok',r',q⟩:=h
    have q':v=.bl true:=q
    subst q'
    obtain rfl:u=Value.bool true:=r'
    have key:∀ b o,s₁.heap.get? b=some o→s'.heap.get? b=some o∨((∃ T∈Ts,T.at_=b)∧∃ more,s'.heap.get? b=some (PySem.W.tabObj (#[]++more))):=fun b o e=>by
     cases q:H b with
     | none=>exact .inl (un.keep b o e q (by intro z;exact absurd (show b∈([]:List Addr) from z) (by simp)) (by simp))
     | some u =>
      rcases hA b (by rw [q];simp) with ⟨_,_,ob,xs,z⟩ | ⟨e',z⟩
      ·have z2:=un.frzs b ob _ z
       obtain ⟨e1,_⟩:=hok b _ z
       obtain ⟨e2,_⟩:=hok' b _ z2
       rw [e] at e1;cases e1
       exact .inl e2
      ·obtain ⟨more,z2⟩:=un.tbls b #[] z
       exact .inr ⟨e',more,hok' b _ z2⟩
    refine ⟨rfl,⟨fun b o e=>?_,fun b o e=>?_⟩,os,bare⟩
    ·rcases key b o e with z | ⟨e',more,z⟩
     ·exact .inl z
     ·obtain ⟨h1,_,c,hc⟩:=isT b e'
      rw [e] at h1
      cases h1
      refine .inr (.inl ⟨?_,rfl,#[],more,rfl,z⟩)
      obtain ⟨o,vs,_,_,_,_,_,_,_,g1,g2,g3,g4,_⟩:=hc
      exact ⟨c,o,vs,g1,g2,g3,g4⟩
    ·rcases key b o e with z | ⟨e',more,z⟩
     ·exact ⟨_,z⟩
     ·exact ⟨_,z⟩
 have naT:∀ T∈Ts,T.at_≠a:=fun T h z=>by
  have:=(hT T h).1
  rw [z,ha] at this
  cases this
 open Classical in
 cases hk:K.lookup a with
 | some o =>
  have e:=KX a o hk
  rw [ha] at e
  cases e
  refine core (fun b=>if (∃ T∈Ts,T.at_=b) then some (.tbl #[]) else none) (fun T h=>.inl (if_pos ⟨T,h,rfl⟩)) (.inr ⟨_,vs.toArray,_,hk,rfl,rfl,rfl,by rw [List.size_toArray,lenV];exact hl,by simpa using rv⟩) (fun b u z=>?_) fun b z=>?_
  ·by_cases hb:∃ T∈Ts,T.at_=b
   ·have z':=(if_pos hb).symm.trans z
    cases z'
    exact (isT b hb).1
   ·have z':=(if_neg hb).symm.trans z
    cases z'
  ·by_cases hb:∃ T∈Ts,T.at_=b
   ·exact .inr ⟨hb,if_pos hb⟩
   ·exact absurd (if_neg hb) z
 | none =>
  have cA:∀ b,b=a→(if b=a then some (HO.frz { cls:=.type "list",data:=.seq vs.toArray } (.lst (ns.map V.int))) else if (∃ T∈Ts,T.at_=b) then some (.tbl #[]) else none)=some (HO.frz { cls:=.type "list",data:=.seq vs.toArray } (.lst (ns.map V.int))):=fun b e=>if_pos e
  have cT:∀ b,b≠a→(∃ T∈Ts,T.at_=b)→(if b=a then some (HO.frz { cls:=.type "list",data:=.seq vs.toArray } (.lst (ns.map V.int))) else if (∃ T∈Ts,T.at_=b) then some (.tbl #[]) else none)=some (.tbl #[]):=fun b e h=>by rw [if_neg e,if_pos h]
  have cN:∀ b,b≠a→¬ (∃ T∈Ts,T.at_=b)→(if b=a then some (HO.frz { cls:=.type "list",data:=.seq vs.toArray } (.lst (ns.map V.int))) else if (∃ T∈Ts,T.at_=b) then some (.tbl #[]) else none)=none:=fun b e h=>by rw [if_neg e,if_neg h]
  refine core (fun b=>if b=a then some (.frz { cls:=.type "list",data:=.seq vs.toArray } (.lst (ns.map V.int))) else if (∃ T∈Ts,T.at_=b) then some (.tbl #[]) else none) (fun T h=>.inl (cT _ (naT T h) ⟨T,h,rfl⟩)) (.inl (.inr ⟨{ cls:=.type "list",data:=.seq vs.toArray },if_pos rfl⟩)) (fun b u z=>?_) (fun b z=>?_)
  ·by_cases hb:b=a
   ·have z':=(cA b hb).symm.trans z
    cases z'
    subst hb
    exact ⟨ha,by rw [List.length_map];exact hl,vs,_,rv,ha⟩
   ·by_cases hb2:∃ T∈Ts,T.at_=b
    ·have z':=(cT b hb hb2).symm.trans z
     cases z'
     exact (isT b hb2).1
    ·have z':=(cN b hb hb2).symm.trans z
     cases z'
  ·by_cases hb:b=a
   ·exact .inl ⟨hb,hk,_,_,cA b hb⟩
   ·by_cases hb2:∃ T∈Ts,T.at_=b
    ·exact .inr ⟨hb2,cT b hb hb2⟩
    ·exact absurd (cN b hb hb2) z
theorem walk_of2 {l:PySem.W.OpenLaw} {n k:Nat} {q:Program} {loose:List Str} {XP:(Str→Option Value)→Heap→Prop} {YP:World→Heap→Prop} {d:DefRec} {K:Params→PySem.W.Frag} {CX:World→CXT} {sp:World→Sp} {x:Str} {Ts:List Tb}
  (hn:l.most=some n) (hn2:n≤sizeLine) (hdf:d.params.defaults=[]) (hr:z3X k callerA)
  (hY:∀ (w:World) (h:Heap),YP w h→(K w.params).In h∧∀ P∈Ts.map (·.at_),h.get? P=some (PySem.W.tabObj #[]))
  (F:∀ (w:World) (mg:Str→Option Value) (fa:Addr) (h:Heap),(K w.params).In h→h.Ns mainGlobals mg→mg d.name=some (.ref fa) →
   ∃ fd:FuncData,(∀ (s:Shared) (u:Value),BindsTo s fd ⟨[u],[]⟩ [(x,u)])∧(∀ T∈Ts,(K w.params).lookup T.at_=none∧∃ c,PySem.W.codeHdIn (K w.params) c T.at_=true) ∧
    ∀ base:Heap,(K w.params).In base→base.Ns mainGlobals mg→z5L base mg→z0t l.prog w (K w.params) mg base (CX w) k fa fd [x] (sp w))
  (hsp:∀ (w:World) (H:Hp) (a:Addr) (ns:List Int),ns.length≤n→z6H Ts H→SqL (K w.params) H a (ns.map V.int)→sp w [.ref a] H (fun v _=>v=.bl true) fun _ _ _=>False)
  (hCX:∀ (w:World) (H:Hp) (s:Shared) (e:Value) (s':Shared),CX w [] H s (fun _ _ _=>False) e s'→False) :
  PySem.W.WalkO q loose XP YP l.row.toRowW d [] (fun f vs=>PySem.call f vs):=by
 refine Att.attach_call hn hdf fun w s₀ s₁ mg mb fa o pm cd doc a vs ns G Y ho hd hcd hmg hobj hints hlen hg=>?_
 obtain ⟨KX,hTb⟩:=hY w _ Y
 obtain ⟨fd,hb,hT,hF⟩:=F w mg fa _ KX G.T.g hmg
 refine zcc (Ts:=Ts) KX G.T.g G.T.b G.T.builtins G.T.nolimit hg hobj hints (Nat.le_trans hlen hn2) hr (fun T h=>⟨hTb _ (List.mem_map.mpr ⟨T,h,rfl⟩),(hT T h).1,?_⟩) ?_ hF hb (fun H hO hS=>hsp w H a ns hlen hO hS) fun H e s'=>hCX w H s₁ e s'
 ·obtain ⟨c,e⟩:=(hT T h).2
  exact ⟨c,PySem.W.codeHd_of_K KX e⟩
 ·obtain ⟨bm,ob,b1,b2,b3,b4,b5,b6⟩:=G.T.bmain
  refine ⟨bm,ob,b1,b2,fun z=>?_,b3,b4,b5,b6⟩
  obtain ⟨o,es,ep,e,d,_⟩:=G.T.g
  rw [z] at b3
  rw [b3] at e
  cases e
  rw [b6] at d
  cases d
theorem zaW {Ts:List Tb} {T:Tb} (h:(Ts.map (·.at_)).Nodup) (hT:T∈Ts):∀ T'∈Ts,T'.at_=T.at_→T'=T:=by
 induction Ts with
 | nil=>cases hT
 | cons a r ih =>
  rw [List.map_cons,List.nodup_cons] at h
  intro T' hT' e
  rcases List.mem_cons.mp hT with z | z
  ·rcases List.mem_cons.mp hT' with y | y
   ·rw [y,z]
   ·exact absurd (List.mem_map.mpr ⟨T',y,by rw [e,z]⟩) h.1
  ·rcases List.mem_cons.mp hT' with y | y
   ·exact absurd (List.mem_map.mpr ⟨T,z,by rw [←e,y]⟩) h.1
   ·exact ih h.2 z T' y e
end L2
namespace Gu
open PySem L2
abbrev nV (nm:Int→Int) (i:Int):V:=.int (nm i)
abbrev kN (nm:Int→Int) (i:Int):Key:=Sum.inl (nm i)
theorem zar {nm:Int→Int} (h:∀ x y,nm x=nm y→x=y) (x y:Int) (e:kN nm x=kN nm y):x=y:=h x y (Sum.inl.inj e)
def zdO (nm:Int→Int) (r:Row):Row:=(r.1,r.2.map nm)
theorem zaL (r:Row):zdO (fun i=>i) r=r:=by unfold zdO;rw [List.map_id']
def zcJ (K:PySem.W.Frag) (rows:List Row) (nm:Int→Int):List V→Hp→VK→Prop:=fun vs H Q=>∃ i:Int,vs=[.int (nm i)]∧0≤i∧i < (rows.length:Int)∧z2X K H Q (z3I (zdO nm (row rows i)))
section
variable (P:Program) (w:World) (K:PySem.W.Frag) (mg:Str→Option Value) (base:Heap) (CX:CXT) (k:Nat)
def z8l:Sp:=fun vs H Q _=>∃ (f:Addr) (n:Nat) (rows:List Row) (nm:Int→Int),vs=[.int (nm 0),.ref f]∧(∀ x y,nm x=nm y→x=y)∧z3V P w K mg base CX k H f (zcJ K rows nm)∧z0j n rows∧n≤60∧∀ (r:Addr) (H':Hp),z0h H H'→z3W K H' r (z0F rows)→Q (.ref r) H'
def z6o (Ct:Addr):Sp:=fun vs H Q E=>∃ (f:Addr) (n:Nat) (rows:List Row) (nm:Int→Int),vs=[.int (nm 0),.ref f]∧(∀ x y,nm x=nm y→x=y)∧z3V P w K mg base CX k H f (zcJ K rows nm)∧z0j n rows∧n≤60 ∧
 ((shr rows).length≤60→z2X K H Q (D.tup (z0s (shr rows))))∧(60 < (shr rows).length→TMx Ct E H)
end
def zaz (Ts:List Tb) (K:PySem.W.Frag) (H:Hp) (Q:VK) (d:D):Prop:=∀ v H',z1w Ts H H'→Dr K H' d v→Q v H'
def zfl (Ts:List Tb) (Ct:Addr) (E:XK) (H:Hp):Prop:=∀ (ea:Addr) (H':Hp),z1w Ts H H'→E (.ref ea) (some Ct) H'
def z94 (Ts:List Tb) (K:PySem.W.Frag):Sp:=fun vs H Q _=>∃ (a:Addr) (ns:List Int),vs=[.ref a]∧SqL K H a (ns.map V.int)∧ns.length≤63∧z6H Ts H∧∀ H',Q (.bl true) H'
theorem z6H.mono {Ts:List Tb} {H H':Hp} (h:z6H Ts H) (s:z0h H H'):z6H Ts H':=(z0h.l s).tabs h
def z7T:List Stmt→Pos
 | [.Return (some (.Call _ [_,.Lambda _ _ _ p] _ _)) _]=>p
 | _::r=>z7T r
 | []=>⟨0,0,0,0⟩
end Gu
namespace L2
open PySem PySem.Spec PyProof.Rows
theorem z3V.lam {CX:CXT} {P:Program} {w:World} {K:PySem.W.Frag} {mg:Str→Option Value} {base:Heap} {k:Nat} {H:Hp} {f:Addr} {params:Arguments} {body:Expr} {scope:Scope} {qual:Str} {N ps:List Str} {fv:St} {sp:List V→Hp→VK→Prop} (C:z8M H f params body scope qual N fv) (S:zgA N ps scope)
  (hbind:∀ (cl:List (Str × Addr)) (pm cdv ct:Value) (us:List Value),us.length=ps.length→bindArgs (PySem.W.kla_fn "<lambda>" qual params body scope cl pm cdv ct) ⟨us,[]⟩=pure (ps.zip us)) (hfv:fv.length=N.length)
  (len:∀ vs H Q,sp vs H Q→vs.length=ps.length)
  (hbody:∀ (H':Hp),z0h H H'→∀ (A:Around) (outer:List Env) (s:Shared) (cd:Value) (clos:List (Str × Addr)) (cs:List Addr) (vs:List V) (Q:VK),z3X k (A.deeper (PySem.W.envX qual scope s.heap.objs.size f cd clos))→NFr H' (utk H' cs)→sp vs H' Q →
   ∃ t,PE (zcV P w K mg base N qual scope f cd clos A outer s (utk H' cs)) body t∧t (z8s vs fv) (utk H' cs) fun v H1=>(∀ c∈cs,H1 c=none)→Q v (rtk H' H1 cs)):z3V P w K mg base CX (k+1) H f sp:=by
 obtain ⟨clos,cs,pm,c',ctv,oc,vs',t,e1,_⟩:=id C
 refine ⟨⟨_,_,e1,rfl⟩,fun H' s' A outer s us vs Q hr e0 r hsp=>?_⟩
 exact zeW (C.mono s') S hbind hfv hr e0 r (len _ _ _ hsp) fun cd clos cs hr' hcs=>hbody H' s' A outer s cd clos cs vs Q hr' (NFr.utk hcs (z0h.refl _)) hsp
def SqS (K:PySem.W.Frag) (H:Hp) (a:Addr) (xs:List V):Prop:=SqL K H a xs∨SqT K H a xs
theorem SqS.mono {K:PySem.W.Frag} {H H':Hp} {a:Addr} {xs:List V} (h:SqS K H a xs) (s:z0h H H'):SqS K H' a xs:=by
 rcases h with h | h
 ·exact .inl (s.seq h)
 ·refine .inr ?_
  rcases h with (h | ⟨o,h⟩) | h
  ·exact .inl (.inl (s _ _ h))
  ·exact .inl (.inr ⟨o,s _ _ h⟩)
  ·exact .inr h
def zi4 (K:PySem.W.Frag):R2:=fun x y H Q=>∃ p xs i v,x=.ref p∧y=.int i∧SqS K H p xs∧atI xs i=some v∧Q v H
theorem ixQ {X:Cx} (K:PySem.W.Frag) (h:X.K=K):IxR X (zi4 K):=by
 subst h
 intro value slice pins s σ H x y v u Q I rx ry q hs
 obtain ⟨p,xs,i,z,e1,e2,hq,e3,q⟩:=q
 rcases hq with hq | hq
 ·exact z1f value slice pins s σ H x y v u Q I rx ry ⟨p,xs,i,z,e1,e2,hq,e3,q⟩ hs
 ·exact z1G value slice pins s σ H x y v u Q I rx ry ⟨p,xs,i,z,e1,e2,hq,e3,q⟩ hs
end L2
namespace Gu
open PySem L2
def z7x (K:PySem.W.Frag) (H:Hp) (us:List V) (rows:List Row) (nm:Int→Int):Prop:=∀ i:Int,0≤i→i < (rows.length:Int)→0≤nm i∧∃ v,us[(nm i).toNat]?=some v∧Dr K H (z3I (zdO nm (row rows i))) v
theorem z7x.mono {K:PySem.W.Frag} {H H':Hp} {us:List V} {rows:List Row} {nm:Int→Int} (h:z7x K H us rows nm) (s:z0h H H'):z7x K H' us rows nm:=fun i h0 h1=>by
 obtain ⟨a,v,e,d⟩:=h i h0 h1
 exact ⟨a,v,e,d.mono s⟩
theorem z7x.of {K:PySem.W.Frag} {H:Hp} {us:List V} {rows:List Row} (h:DrL K H (z0s rows) us):z7x K H us rows (fun i=>i):=fun i h0 h1=>by
 obtain ⟨v,ev,dv⟩:=z37 h (z43 h0 h1)
 exact ⟨h0,v,ev,by rw [zaL];exact dv⟩
section
variable {K:PySem.W.Frag} {H H':Hp} {f:Int→D} {r:Int} {nm:Int→Int}
def MkN (nm:Int→Int) (K:PySem.W.Frag) (H:Hp) (o:List Int) (f:Int→D) (kvs:List (Key × V)):Prop:=∃ vs,kvs=mk (o.map nm) vs∧DrL K H (o.map f) vs
theorem MkN.nil:MkN nm K H [] f []:=⟨[],rfl,DrL.nil⟩
theorem MkN.get (ni:∀ x y,nm x=nm y→x=y):∀ {o:List Int} {kvs:List (Key × V)},MkN nm K H o f kvs→r∈o→∃ v,z3k kvs (kN nm r)=some v∧Dr K H (f r) v
 | [],_,_,h=>by simp at h
 | b::o,_,⟨vs,rfl,d⟩,h=>by
  rw [List.map_cons] at d
  simp only [DrL] at d
  obtain ⟨v,r',rfl,d1,d2⟩:=d
  by_cases e:b=r
  ·subst e
   exact ⟨v,z38 (p:=(kN nm b,v)) rfl,d1⟩
  ·obtain ⟨v',h1,h2⟩:=MkN.get ni (o:=o) ⟨r',rfl,d2⟩ (by rcases List.mem_cons.mp h with z | z;exact absurd z.symm e;exact z)
   refine ⟨v',?_,h2⟩
   show z3k ((kN nm b,v)::mk (o.map nm) r') (kN nm r)=_
   rw [z2H (p:=(kN nm b,v)) (fun z=>e (ni _ _ (Sum.inl.inj z)))]
   exact h1
theorem MkN.no (ni:∀ x y,nm x=nm y→x=y):∀ {o:List Int} {kvs:List (Key × V)},MkN nm K H o f kvs→r∉o→z3k kvs (kN nm r)=none
 | [],_,⟨vs,rfl,d⟩,_=>rfl
 | b::o,_,⟨vs,rfl,d⟩,h=>by
  rw [List.map_cons] at d
  simp only [DrL] at d
  obtain ⟨v,r',rfl,d1,d2⟩:=d
  show z3k ((kN nm b,v)::mk (o.map nm) r') (kN nm r)=_
  rw [z2H (p:=(kN nm b,v)) (fun z=>h (by rw [ni _ _ (Sum.inl.inj z)];simp))]
  exact MkN.no ni (o:=o) ⟨r',rfl,d2⟩ (fun z=>h (List.mem_cons_of_mem _ z))
theorem MkN.len {o:List Int} {kvs:List (Key × V)} (h:MkN nm K H o f kvs):kvs.length=o.length:=by
 obtain ⟨vs,rfl,d⟩:=h
 have:=d.length
 rw [List.length_map] at this
 unfold mk
 rw [List.length_map,List.length_zip,List.length_map];lia
theorem MkN.put (ni:∀ x y,nm x=nm y→x=y) {v:V} {o:List Int} {kvs:List (Key × V)} (h:MkN nm K H o f kvs) (hr:r∉o) (h':MkN nm K H' o f kvs) (dv:Dr K H' (f r) v):MkN nm K H' (o++[r]) f (z2P kvs (kN nm r) v):=by
 rw [z9K _ (h.no ni hr)]
 obtain ⟨vs,rfl,d⟩:=h'
 have hl:=d.length
 rw [List.length_map] at hl
 refine ⟨vs++[v],?_,by rw [List.map_append];exact DrL.append d (DrL.one dv)⟩
 unfold mk
 rw [List.map_append,List.zip_append (by rw [List.length_map];exact hl),List.map_append]
 rfl
theorem MkN.mono {o:List Int} {kvs:List (Key × V)} (h:MkN nm K H o f kvs) (s:z0h H H'):MkN nm K H' o f kvs:=by
 obtain ⟨vs,e,d⟩:=h
 exact ⟨vs,e,d.mono s⟩
theorem MkN.keyed {o:List Int} {kvs:List (Key × V)} (h:MkN nm K H o f kvs) (k:z19 H H') (hf:FK f):MkN nm K H' o f kvs:=by
 obtain ⟨vs,e,d⟩:=h
 exact ⟨vs,e,d.keyed k (hf.keyL o)⟩
end
def z4X (K:PySem.W.Frag):Sp:=fun vs H Q _=>∃ (a l m:Addr) (n:Nat) (rows:List Row) (nm:Int→Int) (us:List V) (o:List Int) (k:Int→Int) (kvs:List (Key × V)),vs=[.ref a,.ref l,.ref m]∧SqS K H a us∧z7x K H us rows nm∧(∀ x y,nm x=nm y→x=y)∧z0j n rows∧n≤60∧H l=some (.lst (o.map (nV nm)))∧H m=some (.dK kvs) ∧
 MkN nm K H o (fun r=>D.int (k r)) kvs∧z7n rows o∧(∀ r∈o,∀ g∈(row rows r).2,g∈o)∧z2X K H Q (D.tup (z0s (z2a rows k o)))
def z5a (K:PySem.W.Frag):Sp:=fun vs H Q _=>∃ (a:Addr) (n:Nat) (rows:List Row) (nm:Int→Int) (us:List V),vs=[.ref a,.int (nm 0)]∧SqS K H a us∧z7x K H us rows nm∧(∀ x y,nm x=nm y→x=y)∧z0j n rows∧n≤60∧z2X K H Q (D.tup (z0s (shr rows)))
theorem z2I {n:Nat} {rows:List Row} (G:z0j n rows):∃ h:Int→Int,h 0=0∧Mor rows (shr rows) (z0i rows) h:=by
 obtain ⟨L,cl⟩:=z0q G
 have C:=z24 G
 have R:=z32 G
 obtain ⟨h1,h2,h3⟩:=z1s (kOf rows) (z0i rows)
 obtain ⟨t,et⟩:=L.hd
 refine ⟨fun x=>((((z0C (kOf rows) (z0i rows)).map (kOf rows)).idxOf (kOf rows x):Nat):Int),?_,fun x hx=>?_⟩
 ·obtain ⟨t',et'⟩:=z7b (kOf rows) 0 t
  show ((((z0C (kOf rows) (z0i rows)).map (kOf rows)).idxOf (kOf rows 0):Nat):Int)=0
  rw [et,et',List.map_cons,List.idxOf_cons]
  simp
 ·have hy:∃ y,(z0C (kOf rows) (z0i rows))[((z0C (kOf rows) (z0i rows)).map (kOf rows)).idxOf (kOf rows x)]?=some y∧kOf rows y=kOf rows x:=by
   have hlt:=List.idxOf_lt_length_of_mem (h1 x hx)
   have hg:=List.getElem_idxOf hlt
   rw [List.length_map] at hlt
   rw [List.getElem_map] at hg
   exact ⟨_,List.getElem?_eq_getElem hlt,hg⟩
  show row (shr rows) ((((z0C (kOf rows) (z0i rows)).map (kOf rows)).idxOf (kOf rows x):Nat):Int)=_
  generalize ((z0C (kOf rows) (z0i rows)).map (kOf rows)).idxOf (kOf rows x)=j at hy ⊢
  obtain ⟨y,ey,hg⟩:=hy
  have hhd:y∈z0i rows:=h2 _ (List.mem_of_getElem? ey)
  have eb:=(R _ hhd x hx).mp hg
  have er:row (shr rows) ((j:Nat):Int)=((row rows y).1,(row rows y).2.map fun g=>((((z0C (kOf rows) (z0i rows)).map (kOf rows)).idxOf (kOf rows g):Nat):Int)):=by
   unfold row shr z2a
   have:((j:Nat):Int).toNat=j:=by lia
   rw [this,List.getD_eq_getElem?_getD,List.getElem?_map,ey]
   rfl
  rw [er]
  refine Prod.ext ?_ ?_
  ·exact congrFun eb []
  ·show List.map _ _=List.map _ _
   refine List.ext_getElem (by rw [List.length_map,List.length_map,C.len y hhd,C.len x hx]) fun i i1 i2=>?_
   rw [List.length_map] at i1 i2
   rw [List.getElem_map,List.getElem_map]
   have b1:(row rows y).2.getD i 0=(row rows y).2[i]:=by rw [List.getD_eq_getElem?_getD,List.getElem?_eq_getElem i1];rfl
   have b2:(row rows x).2.getD i 0=(row rows x).2[i]:=by rw [List.getD_eq_getElem?_getD,List.getElem?_eq_getElem i2];rfl
   have a1:=C.go hhd i
   have a2:=C.go hx i
   rw [b1] at a1
   rw [b2] at a2
   have hb:beh rows (row rows y).2[i]=beh rows (row rows x).2[i]:=by
    rw [←b1,←b2]
    exact funext fun w=>congrFun eb (i::w)
   rw [(R _ a1 _ a2).mpr hb]
theorem z6Q {n:Nat} {M F:List Row} {h:Int→Int} (G:z0j n M) (GF:z0j n F) (hz:h 0=0) (mo:Mor M F (z0i M) h) {x:Int} (hx:x∈z0i M):0≤h x∧h x < (F.length:Int):=by
 have hs:=GF.some
 have:=(z3G G).all (C:=fun x=>x∈z0i M∧0≤h x∧h x < (F.length:Int)) (fun x hx g hg=>?_) (fun x hx=>?_) x hx
 ·exact this.2
 ·obtain ⟨hm,x0,x1⟩:=hx
  refine ⟨(z24 G).cl x hm g hg,?_⟩
  refine GF.go _ (z0o x0 x1) (h g) ?_
  rw [mo x hm]
  exact List.mem_map.mpr ⟨g,hg,rfl⟩
 ·rw [List.mem_singleton.mp hx]
  exact ⟨(z24 G).zero,by rw [hz];lia⟩
theorem z3w {L:Nat} {i:Int} (h0:0≤i) (h1:i < (L:Int)):(z0z L)[i.toNat]?=some i:=by
 unfold z0z
 rw [List.getElem?_map,List.getElem?_range (by lia)]
 show some ((i.toNat:Nat):Int)=some i
 congr 1;lia
def goW (M:List Row):Int→List Int→Int
 | x,[]=>x
 | x,l::w=>goW M ((row M x).2.getD l.toNat 0) w
theorem z7j (M:List Row):∀ (w w':List Int) (x:Int),goW M x (w++w')=goW M (goW M x w) w'
 | [],_,_=>rfl
 | l::w,w',x=>z7j M w w' _
def LW (n:Nat) (w:List Int):Prop:=∀ l∈w,0≤l∧l < (n:Int)
theorem LW.tail {n:Nat} {l:Int} {w:List Int} (h:LW n (l::w)):LW n w:=fun x hx=>h x (List.mem_cons_of_mem _ hx)
theorem zb3 {n:Nat} {M:List Row} {C:Int→Prop} (hl:∀ x,C x→(row M x).2.length=n) (hc:∀ x,C x→∀ g∈(row M x).2,C g):∀ (w:List Int) (x:Int),LW n w→C x→C (goW M x w)
 | [],_,_,h=>h
 | l::w,x,hw,h=>by
  obtain ⟨l0,l1⟩:=hw l List.mem_cons_self
  have hi:l.toNat < (row M x).2.length:=by rw [hl x h];lia
  refine zb3 hl hc w _ hw.tail ?_
  rw [List.getD_eq_getElem?_getD,List.getElem?_eq_getElem hi]
  exact hc x h _ (List.getElem_mem hi)
theorem zc8 {n:Nat} {M:List Row} (G:z0j n M) {w:List Int} {x:Int} (hw:LW n w) (h0:0≤x) (h1:x < (M.length:Int)):0≤goW M x w∧goW M x w < (M.length:Int) :=
 zb3 (n:=n) (C:=fun x=>0≤x∧x < (M.length:Int)) (fun x hx=>G.len _ (z0o hx.1 hx.2)) (fun x hx=>G.go _ (z0o hx.1 hx.2)) w x hw ⟨h0,h1⟩
end Gu
namespace L2
open PySem PySem.Spec PyProof.Rows
theorem z0t.sub {P:Program} {w:World} {K:PySem.W.Frag} {mg:Str→Option Value} {base:Heap} {CX:CXT} {k:Nat} {f:Addr} {fd:FuncData} {ps:List Str} {sp sp':Sp} (h:z0t P w K mg base CX k f fd ps sp) (i:∀ vs H Q E,sp' vs H Q E→sp vs H Q E):z0t P w K mg base CX k f fd ps sp' :=
 { h with len:=fun vs H Q E q=>h.len vs H Q E (i vs H Q E q),run:=fun A outer s H args us vs Q E hr e0 b r q=>h.run A outer s H args us vs Q E hr e0 b r (i vs H Q E q) }
end L2
namespace Gu
open PySem L2
theorem za3 {K:PySem.W.Frag} (vs:List V) (H:Hp) (Q:VK) (E:XK) (h:z8R K vs H Q E):z5a K vs H Q E:=by
 obtain ⟨a,n,rows,rfl,⟨us,ea,da⟩,GM,hn,q⟩:=h
 exact ⟨a,n,rows,fun i=>i,us,rfl,.inl (SqL.of ea),z7x.of da,fun _ _ e=>e,GM,hn,q⟩
instance LW.dec (n:Nat) (w:List Int):Decidable (LW n w):=by unfold LW;infer_instance
def z3D (K:PySem.W.Frag) (Ct:Addr):Sp:=fun vs H Q E=>∃ (n:Nat) (u:V) (w:List Int),vs=[.int n,u]∧Dr K H (D.its w) u∧w.length≤5000∧(LW n w→∀ H',z0h H H'→Q .non H')∧(¬ LW n w→TMx Ct E H)
def z8r (K:PySem.W.Frag):Sp:=fun vs H Q _=>∃ (n:Nat) (c:Int) (m:Nat),vs=[.int n,.int c,.int m]∧2≤n∧n≤5∧m≤100∧∀ (v:V) (H':Hp) (w:List Int),z0h H H'→Dr K H' (D.its w) v→LW n w→w.length≤m→Q v H'
def hds:Nat→List (List Row)→List Int
 | _,[]=>[]
 | o,g::gs=>(o:Int)::hds (o+g.length) gs
end Gu
namespace L2
open PySem PySem.Spec PyProof.Rows
def zfR (P:Program) (w:World) (K:PySem.W.Frag) (tk tv:TE):TE:=fun σ H Q=>∀ p,H p=none→∀ ob0,DD P w K (upd H p ob0) p []→tk σ (upd H p ob0) fun y H1=>tv σ H1 fun v H2=>∃ d,DD P w K H2 p []∧zeo K H2 d y∧∀ ob,DD P w K (upd H2 p ob) p (z2P [] d v)→Q (.ref p) (upd H2 p ob)
section
variable {X:Cx} {K:PySem.W.Frag} {k v:Expr} {tk tv:TE} {pos:Pos}
theorem zdB (hu:X.A.units+9 < cLine) (hk:PE X k tk) (hv:PE X v tv):PE X (.Dict [some k] [v] pos) (zfR X.prog X.w K tk tv):=by
 intro pins s σ H Q I h
 have hb:(s.heap.objs.size == sysModules)=false:=beq_eq_false_iff_ne.mpr (Ne.symm (Nat.ne_of_lt I.big))
 have I1:Inv X pins σ (upd H s.heap.objs.size (zbx X.prog X.w s.heap.objs.size [])) { s with heap:=s.heap.push { cls:=.type "dict",data:=.dict #[] } }:=by
  refine I.laid (a:=s.heap.objs.size) (o:=zbx X.prog X.w s.heap.objs.size []) (t':=s.toks) (fun _ _ q=>Heap.get?_push_of_some _ q) (Nat.le_refl _) ⟨⟨hb,_,#[],0,Heap.get?_push_size _ rfl,⟨rfl,rfl,rfl⟩,rfl,rfl⟩,⟨_,Heap.get?_push_size _ rfl⟩,fun h1 h2 p k=>?_⟩
  obtain ⟨p0,o1,es1,ep1,p1,p2,p3,p4⟩:=p
  exact ⟨p0,o1,es1,ep1,k _ p1,p2,p3,p4⟩
 have hq:=h _ I.fresh _ ⟨[],z04,.nil,List.nodup_nil,Nat.zero_le _⟩
 refine wpAny_Dict_any rfl rfl (by simp) (by simp) (thn ((z6S hk hv z8j:PPs X pos [some k] [v] [(tk,tv)]) pins _ σ _ (fun ps H2=>match ps with | [(y,v)]=>∃ d,DD X.prog X.w K H2 s.heap.objs.size []∧zeo K H2 d y∧∀ ob,DD X.prog X.w K (upd H2 s.heap.objs.size ob) s.heap.objs.size (z2P [] d v)→Q (.ref s.heap.objs.size) (upd H2 s.heap.objs.size ob) | _=>False) I1 hq) fun ws s2 hz8=>?_)
 obtain ⟨ps,H2,I2,rel,q⟩:=hz8
 match ps,rel,q with
 | [],_,q=>exact False.elim q
 | _::_::_,_,q=>exact False.elim q
 | [(y,v)],rel,q =>
  obtain ⟨d,g,⟨⟨b,eb⟩,k1,k2,k3⟩,q⟩:=q
  subst eb
  cases rel with
  | @cons a bb as bs hh t =>
   cases t
   obtain ⟨u1,u2⟩:=bb
   obtain ⟨ry,rv⟩:=hh
   obtain rfl:u1=Value.ref b:=ry
   obtain ⟨hsm,xs,e,rr,dd⟩:=g.at I2
   have rr':=rr
   cases rr
   unfold storeAll
   rw [List.forIn_cons]
   refine wpAny_bind (wpAny_bind (wpAny_dictSet_heap (hsz:=Nat.zero_le _) (show X.A.units+8 < cLine by lia) (z7u I2 k1 k2 k3) dd fun h' dd' hsb=>wpAny_pure ?_))
   show wpAny _ _ (forIn ([]:List (Value × Value)) PUnit.unit _) _ _ _
   rw [List.forIn_nil]
   refine wpAny_pure ?_
   obtain ⟨q',es,ep,hq',h2,h3,h4,_,h5⟩:=dd'
   have Iw:Inv X pins σ (upd H2 s.heap.objs.size (zbx X.prog X.w s.heap.objs.size (storedH [] d b u2))) { s2 with heap:=h',toks:=s2.toks+(z2M X.prog X.w).draws d }:=by
    refine z5h I2 (by rw [e];exact True.intro) hsb ⟨q',hq'⟩ ⟨⟨hsm,q',es,ep,hq',h2,h3,h4⟩,⟨q',hq'⟩,fun h1 h2' p k=>?_⟩
    obtain ⟨p0,o1,es1,ep1,p1,p2,p3,p4⟩:=p
    exact ⟨p0,o1,es1,ep1,k _ p1,p2,p3,p4⟩
   have kt:∀ c ys,H2 c=some (.tup ys)→upd H2 s.heap.objs.size (zbx X.prog X.w s.heap.objs.size (storedH [] d b u2)) c=some (.tup ys):=fun c ys ec=>by
    rw [z09 (z9j g c ys ec)];exact ec
   refine ⟨.ref s.heap.objs.size,_,Iw,rfl,q _ ⟨_,z04,(rr'.put d ⟨k1,k2,k3⟩ rv).mono fun d' v' kd q=>q.keyed kt kd,?_,?_⟩⟩
   ·have ek:=(rr'.put d ⟨k1,k2,k3⟩ rv).keys
    rw [ek]
    exact h5
   ·have:=z2e ([]:List (D × V)) d v
    exact Nat.le_trans this (by decide)
end
end L2
namespace L2
open PySem PySem.Spec PyProof.Rows
structure ZA (z TI TO i1 i2:Addr) (fp1 fp2:List Addr):Prop where
 TIz:TI≠z
 TOz:TO≠z
 i1z:i1≠z
 i2z:i2≠z
 TITO:TI≠TO
 TIi1:TI≠i1
 TIi2:TI≠i2
 TOi1:TO≠i1
 TOi2:TO≠i2
 i12:i1≠i2
 f1z:z∉fp1
 f1T:TO∉fp1
 f1i:i2∉fp1
 f2z:z∉fp2
 f2T:TO∉fp2
 f2i:i1∉fp2
section
variable {prog:Program} {w:World} {A:Around} {E:Value→Shared→Prop} {s:Shared} {z TI TO i1 i2:Addr} {fp1 fp2:List Addr} {n1 n2:Nat} {P1 P2:Nat→Value→Prop} {S1 S2:Nat→Heap→Prop}
theorem ndr {it:Addr} {fp:List Addr} {n:Nat} {P:Nat→Value→Prop} {St:Nat→Heap→Prop} (D:Draws prog w A it fp n P St) {i:Nat} {h h':Heap} {a:Addr} (st:St i h) (hs:Heap.SameBut a h h') (ha:a∉fp):St i h' :=
 D.frame i h h' st fun b hb o e=>hs.extBut b o (fun q=>ha (q ▸ hb)) e
theorem zcm {k1 k2:Nat} {a b:Value} {Q:Value→Shared→Prop} (D1:Draws prog w A i1 fp1 n1 P1 S1) (D2:Draws prog w A i2 fp2 n2 P2 S2) (Z:ZA z TI TO i1 i2 fp1 fp2) (hz:IsZip s.heap z TI TO .none) (hTI:IsPair s.heap TI (.ref i1) (.ref i2)) (hTO:IsPair s.heap TO a b)
  (t1:S1 k1 s.heap) (t2:S2 k2 s.heap) (l1:k1 < n1) (l2:k2 < n2)
  (hQ:∀ x y h' tk,P1 k1 x→P2 k2 y→IsZip h' z TI TO (rawInt s.heap.objs.size)→IsPair h' TO x y→S1 (k1+1) h'→S2 (k2+1) h'→IsPair h' s.heap.objs.size x y →
   (∀ c o,c≠z→c≠TO→c≠i1→c≠i2→s.heap.get? c=some o→h'.get? c=some o)→Q (.ref s.heap.objs.size) { s with heap:=h',toks:=tk }) :
  wpAny (model prog w) A (Builtin.«zip.__next__» ⟨[.ref z],[]⟩) (fun fin s'=>∃ v,fin=.done (.ret v)∧Q v s') E s:=by
 show wpAny _ _ (field (.ref z) 2 >>= _) _ _ _
 refine wpAny_bind (wpAny_field hz rfl (x:=.bool false) rfl ?_)
 show wpAny _ _ (field (.ref z) 3 >>= _) _ _ _
 refine wpAny_bind (wpAny_field hz rfl (x:=.ref TI) rfl (wpAny_bind (wpAny_seqItems hTI rfl ?_)))
 show wpAny _ _ (Builtin.SmallTypes.ownedTupleIsFree (.ref z) >>= _) _ _ _
 refine wpAny_bind ?_
 unfold Builtin.SmallTypes.ownedTupleIsFree
 refine wpAny_bind (wpAny_field hz rfl (x:=.none) rfl (wpAny_pure ?_))
 simp only [if_true]
 refine wpAny_bind (wpAny_rule (wpAny_bind (wpAny_field hz rfl (x:=.ref TO) rfl (wpAny_bind (wpAny_setField_rec hz (by simp) fun ha za sa=>?_)))))
 replace za:IsZip ha z TI TO .ellipsis:=za
 refine wpAny_bind ?_
 simp only [List.zipIdx_cons,List.zipIdx_nil,List.forIn_cons,List.forIn_nil]
 refine wpAny_bind (wpAny_bind (wpAny_onRaise ?_))
 show wpAny _ _ (Builtin.SmallTypes.nextOf (.ref i1) >>= _) _ _ _
 refine wpAny_bind (D1.item k1 _ _ _ l1 (ndr D1 t1 sa Z.f1z) fun x hb tb px t1b sb=>wpAny_pure ?_)
 have Tb:IsPair hb TO a b:=sb.extBut _ _ Z.TOi1 (sa.extBut _ _ Z.TOz hTO)
 refine wpAny_bind (wpAny_seqItems Tb rfl (wpAny_bind (wpAny_updateSeq_pair Tb fun hc Tc sc=>?_)))
 replace Tc:IsPair hc TO x b:=Tc
 refine wpAny_bind (wpAny_letGo (wpAny_pure ?_))
 refine wpAny_bind (wpAny_bind (wpAny_onRaise ?_))
 show wpAny _ _ (Builtin.SmallTypes.nextOf (.ref i2) >>= _) _ _ _
 refine wpAny_bind (D2.item k2 _ _ _ l2 (ndr D2 (ndr D2 (ndr D2 t2 sa Z.f2z) sb Z.f2i) sc Z.f2T) fun y hd td py t2d sd=>wpAny_pure ?_)
 have Td:IsPair hd TO x b:=sd.extBut _ _ Z.TOi2 Tc
 refine wpAny_bind (wpAny_seqItems Td rfl (wpAny_bind (wpAny_updateSeq_pair Td fun he Te se=>?_)))
 replace Te:IsPair he TO x y:=Te
 refine wpAny_bind (wpAny_letGo (wpAny_pure (wpAny_pure ?_)))
 refine wpAny_bind (wpAny_seqItems Te rfl (wpAny_bind (wpAny_newTuple ?_)))
 have hsz:he.objs.size=s.heap.objs.size:=by rw [se.1,sd.1,sc.1,sb.1,sa.1]
 have ze:IsZip he z TI TO .ellipsis:=se.extBut _ _ Z.TOz.symm (sd.extBut _ _ Z.i2z.symm (sc.extBut _ _ Z.TOz.symm (sb.extBut _ _ Z.i1z.symm za)))
 have ke:∀ c o,c≠z→c≠TO→c≠i1→c≠i2→s.heap.get? c=some o→he.get? c=some o:=fun c o c1 c2 c3 c4 e=>se.extBut _ _ c2 (sd.extBut _ _ c4 (sc.extBut _ _ c2 (sb.extBut _ _ c3 (sa.extBut _ _ c1 e))))
 have t1e:=ndr D1 (ndr D1 (ndr D1 t1b sc Z.f1T) sd Z.f1i) se Z.f1T
 have t2e:=ndr D2 t2d se Z.f2T
 have zlt:z < he.objs.size:=Heap.lt_size ze
 show wpAny _ _ (Builtin.SmallTypes.ownedTupleHandOut (.ref z) (.ref he.objs.size) >>= _) _ _ _
 refine wpAny_bind ?_
 unfold Builtin.SmallTypes.ownedTupleHandOut
 have zf:IsZip (he.push { cls:=.type "tuple",data:=.seq #[x,y] }) z TI TO .ellipsis:=Heap.get?_push_of_some _ ze
 refine wpAny_bind (wpAny_setField_rec zf (by simp) fun hg zg sg=>?_)
 replace zg:IsZip hg z TI TO (rawInt he.objs.size):=zg
 refine wpAny_setField_rec zg (by simp) fun hh zh sh=>?_
 replace zh:IsZip hh z TI TO (rawInt he.objs.size):=zh
 have up:∀ c o,c≠z→he.get? c=some o→hh.get? c=some o:=fun c o c1 e=>sh.extBut _ _ c1 (sg.extBut _ _ c1 (Heap.get?_push_of_some _ e))
 have pr:IsPair hh he.objs.size x y:=sh.extBut _ _ (Nat.ne_of_gt zlt) (sg.extBut _ _ (Nat.ne_of_gt zlt) (Heap.get?_push_size _ rfl))
 rw [hsz] at zh pr
 refine wpAny_pure ⟨_,rfl,?_⟩
 show Q (.ref he.objs.size) _
 rw [hsz]
 exact hQ x y hh _ px py zh (up _ _ Z.TOz Te) (D1.frame _ _ _ t1e fun b hb o e=>up b o (fun q=>Z.f1z (q ▸ hb)) e) (D2.frame _ _ _ t2e fun b hb o e=>up b o (fun q=>Z.f2z (q ▸ hb)) e) pr fun c o c1 c2 c3 c4 e=>up c o c1 (ke c o c1 c2 c3 c4 e)
theorem zcP {a b:Value} {Q:Fin→Shared→Prop} (D1:Draws prog w A i1 fp1 n1 P1 S1) (Z:ZA z TI TO i1 i2 fp1 fp2) (hz:IsZip s.heap z TI TO .none) (hTI:IsPair s.heap TI (.ref i1) (.ref i2)) (hTO:IsPair s.heap TO a b)
  (t1:S1 n1 s.heap)
  (hE:∀ h' e,(∀ c o,c≠z→c≠TO→c≠i1→c≠i2→s.heap.get? c=some o→h'.get? c=some o)→(∃ o,h'.get? e=some o∧o.cls=.type "StopIteration")→E (.ref e) { s with heap:=h' }) :
  wpAny (model prog w) A (Builtin.«zip.__next__» ⟨[.ref z],[]⟩) Q E s:=by
 show wpAny _ _ (field (.ref z) 2 >>= _) _ _ _
 refine wpAny_bind (wpAny_field hz rfl (x:=.bool false) rfl ?_)
 show wpAny _ _ (field (.ref z) 3 >>= _) _ _ _
 refine wpAny_bind (wpAny_field hz rfl (x:=.ref TI) rfl (wpAny_bind (wpAny_seqItems hTI rfl ?_)))
 show wpAny _ _ (Builtin.SmallTypes.ownedTupleIsFree (.ref z) >>= _) _ _ _
 refine wpAny_bind ?_
 unfold Builtin.SmallTypes.ownedTupleIsFree
 refine wpAny_bind (wpAny_field hz rfl (x:=.none) rfl (wpAny_pure ?_))
 simp only [if_true]
 refine wpAny_bind (wpAny_rule (wpAny_bind (wpAny_field hz rfl (x:=.ref TO) rfl (wpAny_bind (wpAny_setField_rec hz (by simp) fun ha za sa=>?_)))))
 replace za:IsZip ha z TI TO .ellipsis:=za
 refine wpAny_bind ?_
 simp only [List.zipIdx_cons,List.zipIdx_nil,List.forIn_cons,List.forIn_nil]
 refine wpAny_bind (wpAny_bind (wpAny_onRaise ?_))
 show wpAny _ _ (Builtin.SmallTypes.nextOf (.ref i1) >>= _) _ _ _
 refine wpAny_bind (D1.done _ _ _ (ndr D1 t1 sa Z.f1z) fun hb e sb he=>?_)
 obtain ⟨oe,hoe,hce⟩:=he
 have zb:IsZip hb z TI TO .ellipsis:=sb _ _ Z.i1z.symm za
 have hez:e≠z:=fun x=>by subst x;rw [zb] at hoe;cases hoe;simp at hce
 exact wpAny_setField_rec zb (by simp) fun hc _ sc=>hE hc e (fun c o c1 _ c3 _ x=>sc.extBut _ _ c1 (sb _ _ c3 (sa.extBut _ _ c1 x))) ⟨oe,sc.extBut _ _ hez hoe,hce⟩
end
end L2
namespace L2
open PySem PySem.Spec PyProof.Rows
abbrev zt1 (h:Heap) (a:Addr):Heap:=h.push { cls:=.type "tuple_iterator",data:=.fields #[.ref a,.int 0 0] }
abbrev zt2 (h:Heap) (a b:Addr):Heap:=(zt1 h a).push { cls:=.type "tuple_iterator",data:=.fields #[.ref b,.int 0 0] }
abbrev zt3 (h:Heap) (a b:Addr):Heap:=(zt2 h a b).push { cls:=.type "tuple",data:=.seq #[.ref h.objs.size,.ref (zt1 h a).objs.size] }
abbrev zt4 (h:Heap) (a b:Addr):Heap:=(zt3 h a b).push { cls:=.type "tuple",data:=.seq #[.none,.none] }
abbrev zt5 (h:Heap) (a b:Addr):Heap:=(zt4 h a b).push { cls:=.type "zip",data:=.fields #[.none,.bool false,.bool false,.ref (zt2 h a b).objs.size,.ref (zt3 h a b).objs.size] }
theorem z7a (a b:Addr) (xs ys:Array Value) :
  Meets (Builtin.«zip.__new__» ⟨[.type "zip",.ref a,.ref b],[]⟩) (fun _ R s=>s.heap.IsTuple a xs∧s.heap.IsTuple b ys∧R (.ok (.ret (.ref (zt4 s.heap a b).objs.size))) { s with heap:=zt5 s.heap a b }) :=
 .of_wp fun prog w A R s h=>by
  obtain ⟨hp,g,d,tk,os⟩:=s
  obtain ⟨hl1,hl2,h⟩:=h
  have hsub:=sub_zip
  have hL1:Heap.IsTuple (Shared.heap ⟨hp,g,d,tk,os⟩) a xs:=hl1
  have hL2:Heap.IsTuple (Shared.heap ⟨hp.push { cls:=.type "tuple_iterator",data:=.fields #[.ref a,.int 0 0] },g,d,tk,os⟩) b ys:=by
   obtain ⟨o,e,r⟩:=hl2
   exact ⟨o,Heap.get?_push_of_some _ e,r⟩
  wp_walk using wpAny_pyIter_tuple hL1,wpAny_pyIter_tuple hL2
  exact ⟨_,rfl,h⟩
section
variable {prog:Program} {w:World} {A:Around} {E:Value→Shared→Prop} {s:Shared}
theorem z7s {a b:Addr} {xs ys:Array Value} {Q:Value→Shared→Prop} (hl1:s.heap.IsTuple a xs) (hl2:s.heap.IsTuple b ys)
  (h:∀ h',IsZip h' (s.heap.objs.size+4) (s.heap.objs.size+2) (s.heap.objs.size+3) .none→IsPair h' (s.heap.objs.size+2) (.ref s.heap.objs.size) (.ref (s.heap.objs.size+1)) →
   IsPair h' (s.heap.objs.size+3) .none .none→h'.IsTupleIter s.heap.objs.size a 0→h'.IsTupleIter (s.heap.objs.size+1) b 0→h'.objs.size=s.heap.objs.size+5 →
   (∀ c o,s.heap.get? c=some o→h'.get? c=some o)→Q (.ref (s.heap.objs.size+4)) { s with heap:=h' }) :
  wpAny (model prog w) A (call (.type "zip") [.ref a,.ref b]) Q E s:=by
 refine callType_new F.called_zip (by decide) (F.typeCall_zip_2 _ _) (F.newCall_zip_2 _ _) (fun obj=>F.args_object_init_3 obj _ _) F.entry_zip_new (z7a a b xs ys) ⟨hl1,hl2,?_⟩
 have e1:(zt1 s.heap a).objs.size=s.heap.objs.size+1:=Heap.size_push ..
 have e2:(zt2 s.heap a b).objs.size=s.heap.objs.size+2:=by rw [Heap.size_push,e1]
 have e3:(zt3 s.heap a b).objs.size=s.heap.objs.size+3:=by rw [Heap.size_push,e2]
 have e4:(zt4 s.heap a b).objs.size=s.heap.objs.size+4:=by rw [Heap.size_push,e3]
 have e5:(zt5 s.heap a b).objs.size=s.heap.objs.size+5:=by rw [Heap.size_push,e4]
 have p:∀ {h:Heap} {o u:Obj} {c:Addr},h.get? c=some u→(h.push o).get? c=some u:=fun e=>Heap.get?_push_of_some _ e
 have g5:(zt5 s.heap a b).get? (zt4 s.heap a b).objs.size=some _:=Heap.get?_push_size _ rfl
 have g4:(zt5 s.heap a b).get? (zt3 s.heap a b).objs.size=some _:=p (Heap.get?_push_size _ rfl)
 have g3:(zt5 s.heap a b).get? (zt2 s.heap a b).objs.size=some _:=p (p (Heap.get?_push_size _ rfl))
 have g2:(zt5 s.heap a b).get? (zt1 s.heap a).objs.size=some _:=p (p (p (Heap.get?_push_size _ rfl)))
 have g1:(zt5 s.heap a b).get? s.heap.objs.size=some _:=p (p (p (p (Heap.get?_push_size _ rfl))))
 show _∧_
 rw [e2,e3,e4] at g5
 rw [e1,e2] at g3
 rw [e3] at g4
 rw [e1] at g2
 rw [e4]
 exact ⟨⟨_,g5,rfl⟩,h _ g5 g3 g4 ⟨_,g1,rfl,rfl⟩ ⟨_,g2,rfl,rfl⟩ e5 fun c o x=>p (p (p (p (p x))))⟩
end
def zgH (K:PySem.W.Frag) (a b:Addr):It :=
 ⟨fun i H=>∃ xs ys x y,SqT K H a xs∧SqT K H b ys∧xs[i]?=some x∧ys[i]?=some y,
  fun i H v H'=>∃ p x y,v=.ref p∧H p=none∧(∀ xs,SqT K H a xs→xs[i]?=some x)∧(∀ ys,SqT K H b ys→ys[i]?=some y)∧H'=upd H p (.tup [x,y]),
  fun i H=>∃ xs ys,SqT K H a xs∧SqT K H b ys∧xs.length=i∧ys.length=i⟩
section
variable {X:Cx} {elts:List Expr} {tk:Nat} {tp:Pos}
theorem zbt {P:Program} {w:World} {K:PySem.W.Frag} (a b z TI TO i1 i2:Addr) (D:TI≠z∧TO≠z∧i1≠z∧i2≠z∧TI≠TO∧TI≠i1∧TI≠i2∧TO≠i1∧TO≠i2∧i1≠i2) (aT:a≠TO) (bT:b≠TO) :
  zcr P w K (.Tuple elts tk tp) (zgH K a b) [z,TI,TO,i1,i2] z (fun i h=>IsZip h z TI TO .none∧IsPair h TI (.ref i1) (.ref i2)∧(∃ u v,IsPair h TO u v)∧h.IsTupleIter i1 a i∧h.IsTupleIter i2 b i) where
 mem:=by simp
 obj:=fun i h st c hc=>by
  obtain ⟨hz,hTI,⟨u,v,hTO⟩,⟨o1,e1,c1,d1⟩,⟨o2,e2,c2,d2⟩⟩:=st
  simp at hc
  rcases hc with q | q | q | q | q
  ·rw [q];exact ⟨_,hz,fun v z=>by cases z⟩
  ·rw [q];exact ⟨_,hTI,fun v z=>by cases z⟩
  ·rw [q];exact ⟨_,hTO,fun v z=>by cases z⟩
  ·rw [q];exact ⟨_,e1,fun v z=>by rw [d1] at z;cases z⟩
  ·rw [q];exact ⟨_,e2,fun v z=>by rw [d2] at z;cases z⟩
 keep:=fun i h h' st k=>by
  obtain ⟨hz,hTI,⟨u,v,hTO⟩,⟨o1,e1,c1⟩,⟨o2,e2,c2⟩⟩:=st
  exact ⟨k z (by simp) _ hz,k TI (by simp) _ hTI,⟨u,v,k TO (by simp) _ hTO⟩,⟨o1,k i1 (by simp) _ e1,c1⟩,⟨o2,k i2 (by simp) _ e2,c2⟩⟩
 item:=by
  intro X hP hw hK hc i pins s σ H E I hf st hg
  subst hP hw hK
  obtain ⟨hz,hTI,⟨u,v,hTO⟩,h1,h2⟩:=st
  obtain ⟨xs,ys,x,y,hxs,hys,hx,hy⟩:=hg
  obtain ⟨its,rv,p,_⟩:=I.tuple hxs
  obtain ⟨itt,rw',p',_⟩:=I.tuple hys
  obtain ⟨ux,hux,rux⟩:=rv.get hx
  obtain ⟨uy,huy,ruy⟩:=rw'.get hy
  obtain ⟨d1,d2,d3,d4,d5,d6,d7,d8,d9,d10⟩:=D
  have Da:∀ {l:Addr} {its:Array Value},s.heap.IsTuple l its→l≠z∧l≠i1∧l≠i2:=fun {l its} hl=>by
   obtain ⟨o,e,c,_⟩:=hl
   obtain ⟨o1,e1,c1,_⟩:=id h1
   obtain ⟨o2,e2,c2,_⟩:=id h2
   exact ⟨z2n e hz c rfl (by decide),z2n e e1 c c1 (by decide),z2n e e2 c c2 (by decide)⟩
  obtain ⟨a1,a3,a4⟩:=Da p
  obtain ⟨b1,b3,b4⟩:=Da p'
  have D1:=z3H (prog:=X.prog) (w:=X.w) (A:=X.A.in1) (I.ok.hd hc) i1 a a3 its.toArray
  have D2:=z3H (prog:=X.prog) (w:=X.w) (A:=X.A.in1) (I.ok.hd hc) i2 b b4 itt.toArray
  have Z:ZA z TI TO i1 i2 [i1,a] [i2,b]:=⟨d1,d2,d3,d4,d5,d6,d7,d8,d9,d10,by simp [Ne.symm d3,Ne.symm a1],by simp [d8,Ne.symm aT],by simp [Ne.symm d10,Ne.symm a4],by simp [Ne.symm d4,Ne.symm b1],by simp [d9,Ne.symm bT],by simp [d10,Ne.symm b3]⟩
  have l1:i < its.toArray.size:=by have:=(List.getElem?_eq_some_iff.mp hux).1;simpa using this
  have l2:i < itt.toArray.size:=by have:=(List.getElem?_eq_some_iff.mp huy).1;simpa using this
  have hT:s.TypeIs (.ref z) "zip":=⟨_,hz,rfl⟩
  unfold pyNext
  refine wpAny_bind (wpAny_attempt (wpAny_callSpecial?_slot (name:=Str.ofString "__next__") hT F.slot_zip_next (wpAny_call_entry F.slot_zip_next hT F.entry_zip_next
   (zcm D1 D2 Z hz hTI hTO ⟨h1,p⟩ ⟨h2,p'⟩ l1 l2 fun x' y' h' tk px py q1 q2 q3 q4 q5 hk=>wpAny_pure ?_) (F.args_zip_next_1 _))))
  have ex:x'=ux:=by
   have e1:its.toArray[i]?=some ux:=by simpa using hux
   rw [e1] at px;exact (Option.some.inj px).symm
  have ey:y'=uy:=by
   have e1:itt.toArray[i]?=some uy:=by simpa using huy
   rw [e1] at py;exact (Option.some.inj py).symm
  subst ex ey
  refine ⟨_,rfl,wpAny_letOwnedTupleGo_zip q1 fun h2' hz2 hs2=>?_⟩
  have zlt:z < s.heap.objs.size:=Heap.lt_size hz
  have kk:∀ c o,c∉[z,TO,i1,i2]→s.heap.get? c=some o→h2'.get? c=some o:=fun c o hc q=>by
   simp at hc
   exact (hs2.2 c hc.1).trans (hk c o hc.1 hc.2.1 hc.2.2.1 hc.2.2.2 q)
  have sub:∀ c∈[z,TO,i1,i2],c∈[z,TI,TO,i1,i2]:=fun c hc=>by simp at hc ⊢;rcases hc with q | q | q | q<;>simp [q]
  have I1:Inv X pins σ (upd H s.heap.objs.size (.tup [x,y])) { s with heap:=h2',toks:=tk }:=by
   refine I.turnedNew (ch:=[z,TO,i1,i2]) kk (Nat.le_refl _) ?_ (fun c hc=>hf c (sub c hc))
   exact ⟨by show 2≤sizeLine;decide,[x',y'],0,.cons rux (.cons ruy .nil),(hs2.2 _ (Nat.ne_of_gt zlt)).trans q5⟩
  have up:∀ {c:Addr} {o:Obj},c≠z→h'.get? c=some o→h2'.get? c=some o:=fun {c o} hc q=>(hs2.2 c hc).trans q
  obtain ⟨⟨o3,e3,c3⟩,_⟩:=q3
  obtain ⟨⟨o4,e4,c4⟩,_⟩:=q4
  refine ⟨.ref s.heap.objs.size,_,I1,rfl,⟨s.heap.objs.size,x,y,rfl,I.fresh,fun zs hz'=>by rw [I.tuple_inj hz' hxs];exact hx,fun zs hz'=>by rw [I.tuple_inj hz' hys];exact hy,rfl⟩,⟨hz2,?_,⟨_,_,up d2 q2⟩,⟨o3,up d3 e3,c3⟩,⟨o4,up d4 e4,c4⟩⟩,fun c hc=>?_⟩
  ·exact up d1 (hk TI _ d1 d5 d6 d7 hTI)
  ·have c0:=(hf c hc).1
   have lt:c < s.heap.objs.size:=by
    obtain ⟨o1,e1,_⟩:=id h1
    obtain ⟨o2,e2,_⟩:=id h2
    simp at hc
    rcases hc with q | q | q | q | q
    ·rw [q];exact zlt
    ·rw [q];exact Heap.lt_size hTI
    ·rw [q];exact Heap.lt_size hTO
    ·rw [q];exact Heap.lt_size e1
    ·rw [q];exact Heap.lt_size e2
   rw [z09 (Nat.ne_of_lt lt)];exact c0
 done:=by
  intro X hP hw hK hc i pins s σ H E I hf st hg
  subst hP hw hK
  obtain ⟨hz,hTI,⟨u,v,hTO⟩,h1,h2⟩:=st
  obtain ⟨xs,ys,hxs,hys,hx,hy⟩:=hg
  obtain ⟨its,rv,p,_⟩:=I.tuple hxs
  obtain ⟨itt,rw',p',_⟩:=I.tuple hys
  obtain ⟨d1,d2,d3,d4,d5,d6,d7,d8,d9,d10⟩:=D
  have Da:∀ {l:Addr} {its:Array Value},s.heap.IsTuple l its→l≠z∧l≠i1∧l≠i2:=fun {l its} hl=>by
   obtain ⟨o,e,c,_⟩:=hl
   obtain ⟨o1,e1,c1,_⟩:=id h1
   obtain ⟨o2,e2,c2,_⟩:=id h2
   exact ⟨z2n e hz c rfl (by decide),z2n e e1 c c1 (by decide),z2n e e2 c c2 (by decide)⟩
  obtain ⟨a1,a3,a4⟩:=Da p
  obtain ⟨b1,b3,b4⟩:=Da p'
  have l1:=rv.length
  have D1:=z3H (prog:=X.prog) (w:=X.w) (A:=X.A.in1) (I.ok.hd hc) i1 a a3 its.toArray
  have Z:ZA z TI TO i1 i2 [i1,a] [i2,b]:=⟨d1,d2,d3,d4,d5,d6,d7,d8,d9,d10,by simp [Ne.symm d3,Ne.symm a1],by simp [d8,Ne.symm aT],by simp [Ne.symm d10,Ne.symm a4],by simp [Ne.symm d4,Ne.symm b1],by simp [d9,Ne.symm bT],by simp [d10,Ne.symm b3]⟩
  have hT:s.TypeIs (.ref z) "zip":=⟨_,hz,rfl⟩
  have ei:i=its.toArray.size:=by simp;lia
  unfold pyNext
  refine wpAny_bind (wpAny_attempt (wpAny_callSpecial?_slot (name:=Str.ofString "__next__") hT F.slot_zip_next (wpAny_call_entry F.slot_zip_next hT F.entry_zip_next
   (zcP D1 Z hz hTI hTO ⟨ei ▸ h1,p⟩ fun h' e hk he=>?_) (F.args_zip_next_1 _))))
  obtain ⟨o,ho,hcl⟩:=he
  refine wpAny_bind (wpAny_isInstance (T:="StopIteration") (b:=true) ⟨o,ho,hcl⟩ isSubtype_stop (wpAny_pure ⟨rfl,?_⟩))
  refine I.turnedL (ch:=[z,TO,i1,i2]) (t':=s.toks) (fun c o hcc q=>?_) (fun c hcc=>hf c ?_)
  ·simp at hcc
   exact hk c o hcc.1 hcc.2.1 hcc.2.2.1 hcc.2.2.2 q
  ·simp at hcc ⊢;rcases hcc with q | q | q | q<;>simp [q]
 self:=fun A i s Q E st h=>wpAny_pyIter_zip st.1 h
def zgU (K:PySem.W.Frag) (ta:TA):TI:=fun σ H R=>ta σ H fun vs H1=>∃ a b:Addr,vs=[.ref a,.ref b]∧(∃ xs,SqT K H1 a xs)∧(∃ ys,SqT K H1 b ys)∧R (zgH K a b) H1
theorem zeF {a b:Expr} {ta:TA} {p pos:Pos} (hg:Gl X "zip") (hm:X.mg "zip"=none) (ha:PA X [a,b] ta) (hs:starEach [a,b] X.env=[(false,eval a X.env),(false,eval b X.env)]:=by rfl) (hs2:starEach [b] X.env=[(false,eval b X.env)]:=by rfl) :
  PI X (.Tuple elts tk tp) (.Call (.Name "zip" p) [a,b] [] pos) (zgU X.K ta):=by
 intro pins s σ H R I h
 refine Call_ (z5n I hg hm boot_zip (PyProof.Rows.callWith_type1 (thn (ha pos pins s σ H _ I h) fun us s1 hz8=>?_) (by rw [hs,hs2]) (by rw [hs2];rfl)))
 obtain ⟨vs,H1,I1,r1,q1⟩:=hz8
 obtain ⟨a,b,e,⟨xs,hq⟩,⟨ys,hq'⟩,q⟩:=q1
 subst e
 obtain ⟨u,v,rfl,ru,rv'⟩:=zeG r1
 cases ru
 cases rv'
 obtain ⟨its,rv,pl,hz⟩:=I1.tuple hq
 obtain ⟨its2,rv2,pl2,hz2⟩:=I1.tuple hq'
 have lt:∀ {l:Addr} {its:Array Value},s1.heap.IsTuple l its→l < s1.heap.objs.size:=fun ⟨o,e,_⟩=>Heap.lt_size e
 have la:=lt pl
 have lb:=lt pl2
 refine z7s pl pl2 fun h' z1 z2 z3 z4 z5 z6 hk=>wpAny_pyIter_zip z1 ?_
 have I2:Inv X pins σ H1 { s1 with heap:=h' }:=I1.kept (t':=s1.toks) hk
 refine ⟨s1.heap.objs.size+4,[s1.heap.objs.size+4,s1.heap.objs.size+2,s1.heap.objs.size+3,s1.heap.objs.size,s1.heap.objs.size+1],_,_,H1,rfl,I2,
  zbt a b (s1.heap.objs.size+4) (s1.heap.objs.size+2) (s1.heap.objs.size+3) s1.heap.objs.size (s1.heap.objs.size+1) (by refine ⟨?_,?_,?_,?_,?_,?_,?_,?_,?_,?_⟩<;>(show @Ne Nat _ _;lia)) (Nat.ne_of_lt (Nat.lt_trans la (by lia))) (Nat.ne_of_lt (Nat.lt_trans lb (by lia))),⟨z1,z2,⟨_,_,z3⟩,z4,z5⟩,fun c hb=>?_,q⟩
 have hb':s1.heap.objs.size≤c:=by
  simp only [List.mem_cons,List.not_mem_nil,or_false] at hb
  rcases hb with q | q | q | q | q<;>(have q:@Eq Nat c _:=q;lia)
 exact I1.fpOk hb' (I1.hok.fresh hb')
end
theorem zbP {K:PySem.W.Frag} {a b l:Addr} {xs zs:List V} {ix:List (Option Nat)} {g:TG} {te:TE} {σ:St} {H0:Hp} {Qe:Hp→Prop} (hlen:xs.length=zs.length) (Pv:Nat→List V→Hp→Prop) (h0:Pv 0 [] H0) (hl:∀ i ys H,i≤xs.length→Pv i ys H→SqT K H a xs∧SqT K H b zs) (hz:xs.length≤sizeLine)
  (hn:∀ i ys H,Pv i ys H→ys.length=i)
  (hs:∀ i x y p ys H,xs[i]?=some x→zs[i]?=some y→Pv i ys H→H l=some (.lst ys)→H p=none→g (.ref p) (z1k ix σ) (upd H p (.tup [x,y])) fun σ2 H2=>te σ2 H2 fun v H3=>H3 l=some (.lst ys)∧Pv (i+1) (ys++[v]) (upd H3 l (.lst (ys++[v]))))
  (hd:∀ ys H,Pv xs.length ys H→H l=some (.lst ys)→Qe H):z7E ix (zgH K a b) g te σ l H0 Qe:=by
 refine z54 (n:=xs.length) Pv h0 (fun i ys H hi p hy=>?_) fun ys H p hy=>⟨⟨xs,zs,(hl _ ys H (Nat.le_refl _) p).1,(hl _ ys H (Nat.le_refl _) p).2,rfl,hlen.symm⟩,hd ys H p hy⟩
 obtain ⟨q,q'⟩:=hl i ys H (Nat.le_of_lt hi) p
 refine ⟨⟨xs,zs,xs[i],zs[i]'(by lia),q,q',by simp [hi],by simp [show i < zs.length by lia]⟩,by rw [hn i ys H p];exact Nat.lt_of_lt_of_le hi hz,fun x H' y=>?_⟩
 obtain ⟨c,z,z',rfl,hb,hz,hz',rfl⟩:=y
 exact hs i z z' c ys H (hz xs q) (hz' zs q') p hy hb
end L2
namespace Gu
open PySem L2
def pr (m:Nat) (i:Int):D:=.tup [.int (i / (m:Int)),.int (i % (m:Int))]
theorem zb0 (m:Nat) (x y:Int) (e:pr m x=pr m y):x=y:=by
 unfold pr at e
 injection e with e
 injection e with e1 e2
 injection e1 with e1
 injection e2 with e2 _
 injection e2 with e2
 have h1:=Int.mul_ediv_add_emod x (m:Int)
 have h2:=Int.mul_ediv_add_emod y (m:Int)
 rw [←h1,←h2,e1,e2]
theorem z4h (m:Nat) (i:Int):D.key (pr m i)∧D.dep (pr m i)≤8∧∃ es,pr m i=.tup es:=by
 unfold pr
 refine ⟨?_,?_,_,rfl⟩
 ·simp only [D.key,D.keyL];exact ⟨trivial,trivial,trivial⟩
 ·simp only [D.dep,D.depL];decide
theorem z70 (m:Nat):∀ o:List Int,D.keyL (o.map (pr m))
 | []=>by simp only [List.map_nil,D.keyL]
 | i::o=>by simp only [List.map_cons,D.keyL];exact ⟨(z4h m i).1,z70 m o⟩
theorem zdY {K:PySem.W.Frag} {H:Hp} {m:Nat} {i:Int} {v:V} (h:Dr K H (pr m i) v):∃ a,v=.ref a∧H a=some (.tup [.int (i / (m:Int)),.int (i % (m:Int))]):=by
 unfold pr at h
 simp only [Dr,DrL] at h
 obtain ⟨a,vs,e,s,x,l,rfl,hx,y,l',rfl,hy,rfl⟩:=h
 subst hx hy
 exact ⟨a,e,s⟩
theorem zh1 {K:PySem.W.Frag} {H:Hp} {m:Nat} {i:Int} {a:Addr} (h:H a=some (.tup [.int (i / (m:Int)),.int (i % (m:Int))])):Dr K H (pr m i) (.ref a):=by
 unfold pr
 exact Dr.tup h (DrL.cons (Dr.int _) (DrL.cons (Dr.int _) DrL.nil))
def zfJ (m:Nat) (r:Row):D:=.tup [D.its r.1,.tup (r.2.map (pr m))]
theorem zdh {K:PySem.W.Frag} {H:Hp} {m:Nat} {r:Row} {v:V} (h:Dr K H (zfJ m r) v):∃ a b c ws,v=.ref a∧H a=some (.tup [.ref b,.ref c])∧H b=some (.tup (r.1.map V.int))∧H c=some (.tup ws)∧DrL K H (r.2.map (pr m)) ws:=by
 unfold zfJ at h
 simp only [Dr,DrL] at h
 obtain ⟨a,vs,rfl,e,x,l,rfl,hx,y,l',rfl,hy,rfl⟩:=h
 obtain ⟨b,us,rfl,eb,rb⟩:=hx
 obtain ⟨c,ws,rfl,ec,rc⟩:=hy
 have e1:=DrL.ints_inv rb
 subst e1
 exact ⟨a,b,c,ws,rfl,e,eb,ec,rc⟩
def z97 (K:PySem.W.Frag) (rows:List Row) (m:Nat):List V→Hp→VK→Prop:=fun vs H Q=>∃ (i:Int) (v:V),vs=[v]∧Dr K H (pr m i) v∧0≤i∧i < (rows.length:Int)∧z2X K H Q (zfJ m (row rows i))
section
variable (P:Program) (w:World) (K:PySem.W.Frag) (mg:Str→Option Value) (base:Heap) (CX:CXT) (k:Nat)
def z8w:Sp:=fun vs H Q _=>∃ (f:Addr) (v0:V) (n:Nat) (rows:List Row) (m:Nat),vs=[v0,.ref f]∧Dr K H (pr m 0) v0∧z3V P w K mg base CX k H f (z97 K rows m)∧z0j n rows∧n≤60∧∀ (r:Addr) (H':Hp),z0h H H'→z3W K H' r (z0F rows)→Q (.ref r) H'
def z6k (Ct:Addr):Sp:=fun vs H Q E=>∃ (f:Addr) (v0:V) (n:Nat) (rows:List Row) (m:Nat),vs=[v0,.ref f]∧Dr K H (pr m 0) v0∧z3V P w K mg base CX k H f (z97 K rows m)∧z0j n rows∧n≤60 ∧
 ((shr rows).length≤60→z2X K H Q (D.tup (z0s (shr rows))))∧(60 < (shr rows).length→TMx Ct E H)
end
end Gu
namespace Gu
open PySem L2
def zbj (m:Nat) (R S:Row):Row:=(z1L R.1 S.1,(List.range R.1.length).map fun k=>R.2.getD k 0*(m:Int)+S.2.getD (R.1.getD k 0).toNat 0)
def z0J (one other:List Row):List Row:=(z0z (one.length*other.length)).map fun i=>zbj other.length (row one (i / (other.length:Int))) (row other (i % (other.length:Int)))
theorem z0A (one other:List Row):(z0J one other).length=one.length*other.length:=by unfold z0J;rw [List.length_map,z0D]
theorem pix {one other:List Row} {i:Int} (h0:0≤i) (h1:i < ((one.length*other.length:Nat):Int)):(0≤i / (other.length:Int)∧i / (other.length:Int) < (one.length:Int))∧0≤i % (other.length:Int)∧i % (other.length:Int) < (other.length:Int):=by
 have hm:(0:Int) < (other.length:Int):=by
  rcases Nat.eq_zero_or_pos other.length with z | z
  ·rw [z,Nat.mul_zero] at h1;lia
  ·lia
 refine ⟨⟨Int.ediv_nonneg h0 (by lia),?_⟩,Int.emod_nonneg _ (by lia),Int.emod_lt_of_pos _ hm⟩
 refine Int.ediv_lt_of_lt_mul hm ?_
 rw [Int.natCast_mul] at h1
 exact h1
theorem z18 {one other:List Row} {i:Int} (h0:0≤i) (h1:i < ((one.length*other.length:Nat):Int)):row (z0J one other) i=zbj other.length (row one (i / (other.length:Int))) (row other (i % (other.length:Int))):=by
 unfold z0J
 show (List.map _ _).getD _ _=_
 rw [List.getD_eq_getElem?_getD,List.getElem?_map,z3w h0 h1]
 rfl
theorem z9M {n:Nat} {p q:List Int} (hp:IsP n p) (hq:IsP n q):IsP n (z1L p q):=by
 have h1:(z1L p q).Perm (z1L (z0z n) q):=by
  unfold z1L
  exact List.Perm.map _ hp
 have h2:z1L (z0z n) q=q:=by
  unfold z1L z0z
  rw [List.map_map]
  refine List.ext_getElem (by rw [List.length_map,List.length_range,hq.len]) fun i i1 i2=>?_
  rw [List.getElem_map,List.getElem_range]
  show q.getD ((i:Int)).toNat 0=q[i]
  rw [show ((i:Int)).toNat=i by lia,List.getD_eq_getElem?_getD,List.getElem?_eq_getElem i2]
  rfl
 rw [h2] at h1
 exact h1.trans hq
theorem z8q {n m:Nat} {R S:Row} {N:Nat} (hR:IsP n R.1) (hRl:R.2.length=n) (hRg:∀ g∈R.2,0≤g∧g < (N:Int)) (hSl:S.2.length=n) (hSg:∀ g∈S.2,0≤g∧g < (m:Int)) {k:Nat} (hk:k < n) :
  ∃ (l:Nat) (g e:Int),R.1[k]?=some (l:Int)∧l < n∧R.2[k]?=some g∧S.2[l]?=some e∧R.2.getD k 0=g∧S.2.getD (R.1.getD k 0).toNat 0=e∧0≤g∧g < (N:Int)∧0≤e∧e < (m:Int):=by
 have hl:=hR.len
 have e1:R.1[k]?=some R.1[k]:=List.getElem?_eq_getElem (by lia)
 obtain ⟨l0,l1⟩:=z0K.mp (hR.mem_iff.mp (List.getElem_mem (show k < R.1.length by lia)))
 obtain ⟨l,hl'⟩:=z2B l0
 have e2:R.2[k]?=some R.2[k]:=List.getElem?_eq_getElem (by lia)
 have ll:l < n:=by lia
 have e3:S.2[l]?=some S.2[l]:=List.getElem?_eq_getElem (by lia)
 obtain ⟨g0,g1⟩:=hRg _ (List.getElem_mem (show k < R.2.length by lia))
 obtain ⟨s0,s1⟩:=hSg _ (List.getElem_mem (show l < S.2.length by lia))
 refine ⟨l,R.2[k],S.2[l],by rw [e1,hl'],ll,e2,e3,?_,?_,g0,g1,s0,s1⟩
 ·rw [List.getD_eq_getElem?_getD,e2];rfl
 ·rw [List.getD_eq_getElem?_getD (l:=R.1),e1]
  show S.2.getD (R.1[k]).toNat 0=_
  rw [hl',show ((l:Int)).toNat=l by lia,List.getD_eq_getElem?_getD,e3];rfl
theorem z53 {g e:Int} {N m:Nat} (g0:0≤g) (g1:g < (N:Int)) (e0:0≤e) (e1:e < (m:Int)):0≤g*(m:Int)+e∧g*(m:Int)+e < ((N*m:Nat):Int):=by
 have h1:0≤g*(m:Int):=Int.mul_nonneg g0 (by lia)
 have h2:(g+1)*(m:Int)≤(N:Int)*(m:Int):=Int.mul_le_mul_of_nonneg_right (by lia) (by lia)
 rw [Int.add_mul,Int.one_mul] at h2
 rw [Int.natCast_mul]
 lia
theorem z1e {n:Nat} {one other:List Row} (G:z0j n one) (G':z0j n other) (h4:one.length*other.length≤4000):z0j n (z0J one other):=by
 have h1:=G.some
 have h2:=G'.some
 have hm:∀ r∈z0J one other,∃ R∈one,∃ S∈other,r=zbj other.length R S:=fun r hr=>by
  unfold z0J at hr
  obtain ⟨i,hi,e⟩:=List.mem_map.mp hr
  obtain ⟨i0,i1⟩:=z0K.mp hi
  obtain ⟨⟨a0,a1⟩,b0,b1⟩:=pix (one:=one) (other:=other) i0 i1
  exact ⟨_,z0o a0 a1,_,z0o b0 b1,e.symm⟩
 refine ⟨by rw [z0A];exact h4,by rw [z0A];exact Nat.mul_pos h1 h2,fun r hr=>?_,fun r hr=>?_,fun r hr g hg=>?_⟩
 ·obtain ⟨R,hR,S,hS,rfl⟩:=hm r hr
  exact z9M (G.perm R hR) (G'.perm S hS)
 ·obtain ⟨R,hR,S,hS,rfl⟩:=hm r hr
  show (List.map _ _).length=n
  rw [List.length_map,List.length_range,(G.perm R hR).len]
 ·obtain ⟨R,hR,S,hS,rfl⟩:=hm r hr
  obtain ⟨k,hk,rfl⟩:=List.mem_map.mp (show g∈(List.range R.1.length).map _ from hg)
  have hk':k < n:=by have:=List.mem_range.mp hk;rw [(G.perm R hR).len] at this;exact this
  obtain ⟨l,g',e,_,_,_,_,q1,q2,g0,g1,e0,e1⟩:=z8q (m:=other.length) (N:=one.length) (G.perm R hR) (G.len R hR) (G.go R hR) (G'.len S hS) (G'.go S hS) hk'
  rw [q1,q2,z0A]
  exact z53 g0 g1 e0 e1
theorem zh8 {m:Nat} {g e:Int} (e0:0≤e) (e1:e < (m:Int)):pr m (g*(m:Int)+e)=.tup [.int g,.int e]:=by
 have hm:(0:Int) < (m:Int):=by lia
 unfold pr
 have q1:(g*(m:Int)+e) / (m:Int)=g:=by
  rw [Int.add_comm,Int.add_mul_ediv_right _ _ (by lia),Int.ediv_eq_zero_of_lt e0 e1];lia
 have q2:(g*(m:Int)+e) % (m:Int)=e:=by
  rw [Int.add_comm,Int.add_mul_emod_self_right,Int.emod_eq_of_lt e0 e1]
 rw [q1,q2]
def z6f (K:PySem.W.Frag):Sp:=fun vs H Q _=>∃ (a b:V) (p q:List Int),vs=[a,b]∧Dr K H (D.its p) a∧Dr K H (D.its q) b∧(∀ x∈p,0≤x∧x < (q.length:Int))∧p.length≤1000∧z2X K H Q (D.its (z1L p q))
def zc4 (K:PySem.W.Frag):Sp:=fun vs H Q _=>∃ (v1 v2 v3:V) (n:Nat) (one other:List Row) (i:Int),vs=[v1,v2,v3]∧Dr K H (D.tup (z0s one)) v1∧Dr K H (D.tup (z0s other)) v2∧Dr K H (pr other.length i) v3∧z0j n one∧z0j n other∧n≤60∧0≤i∧i < ((one.length*other.length:Nat):Int)∧z2X K H Q (zfJ other.length (row (z0J one other) i))
def z4B (Ts:List Tb) (K:PySem.W.Frag) (Ct:Addr):Sp:=fun vs H Q E=>∃ (v1 v2:V) (n:Nat) (one other:List Row),vs=[v1,v2]∧z6H Ts H∧Dr K H (D.tup (z0s one)) v1∧Dr K H (D.tup (z0s other)) v2∧z0j n one∧z0j n other∧n≤60∧one.length*other.length≤4000 ∧
 ((shr (z0J one other)).length≤60→zaz Ts K H Q (D.tup (z0s (shr (z0J one other)))))∧(60 < (shr (z0J one other)).length→zfl Ts Ct E H)
theorem z5u {n:Nat} {p:List Int} (h:IsP n p) {k:Nat} (hk:k < n):∃ j:Nat,j < n∧(z1q p)[k]?=some (j:Int)∧p[j]?=some (k:Int):=by
 have hm:(k:Int)∈p:=h.mem_iff.mpr (z0K.mpr ⟨by lia,by lia⟩)
 have hlt:=List.idxOf_lt_length_of_mem hm
 refine ⟨p.idxOf (k:Int),by rw [h.len] at hlt;exact hlt,?_,?_⟩
 ·unfold z1q
  rw [List.getElem?_map,h.len]
  have:=z3w (L:=n) (i:=(k:Int)) (by lia) (by lia)
  rw [Int.toNat_natCast] at this
  rw [this]
  rfl
 ·rw [List.getElem?_eq_getElem hlt,List.getElem_idxOf hlt]
theorem z9a {n:Nat} {p:List Int} (h:IsP n p):IsP n (z1q p):=by
 have e:=z6x h.nodup
 rw [h.len] at e
 unfold z1q
 rw [h.len]
 have q:((z0z n).map fun k=>((p.idxOf k:Nat):Int)).Perm (p.map fun k=>((p.idxOf k:Nat):Int)):=List.Perm.map _ (List.Perm.symm h)
 rw [e] at q
 exact q
theorem z7z {n:Nat} {p:List Int} (h:IsP n p):z1q (z1q p)=p:=by
 refine (zaP (z9a h) h.len fun m x e=>?_).symm
 have hm:m < n:=by have:=(List.getElem?_eq_some_iff.mp e).1;rw [z1P,h.len] at this;exact this
 obtain ⟨j,_,e1,e2⟩:=z5u h hm
 rw [e1] at e
 cases e
 rw [Int.toNat_natCast];exact e2
def z5C (r:Row):Row:=(z1q r.1,(z1q r.1).map fun l=>r.2.getD l.toNat 0)
def z2g (rows:List Row):List Row:=rows.map z5C
theorem z0Z (rows:List Row):(z2g rows).length=rows.length:=List.length_map _
theorem z1O {rows:List Row} {i:Int} (h0:0≤i) (h1:i < (rows.length:Int)):row (z2g rows) i=z5C (row rows i):=by
 have:=z43 h0 h1
 unfold z2g row at *
 rw [List.getD_eq_getElem?_getD,List.getElem?_map,this]
 rfl
theorem zaw {n:Nat} {r:Row} (hp:IsP n r.1) (hl:r.2.length=n) {k:Nat} (hk:k < n):∃ j:Nat,j < n∧(z1q r.1)[k]?=some (j:Int)∧r.1[j]?=some (k:Int)∧∃ g,r.2[j]?=some g∧(z5C r).2[k]?=some g:=by
 obtain ⟨j,hj,e1,e2⟩:=z5u hp hk
 have e3:r.2[j]?=some r.2[j]:=List.getElem?_eq_getElem (by lia)
 refine ⟨j,hj,e1,e2,r.2[j],e3,?_⟩
 unfold z5C
 rw [List.getElem?_map,e1]
 show some (r.2.getD ((j:Int)).toNat 0)=_
 rw [Int.toNat_natCast,List.getD_eq_getElem?_getD,e3]
 rfl
theorem z77 {n:Nat} {r:Row} (hp:IsP n r.1):(z5C r).2.length=n:=by
 show (List.map _ _).length=n
 rw [List.length_map,z1P,hp.len]
theorem z9R {n:Nat} {r:Row} (hp:IsP n r.1) (hl:r.2.length=n) {g:Int} (hg:g∈(z5C r).2):g∈r.2:=by
 obtain ⟨k,hk,e⟩:=List.getElem_of_mem hg
 rw [z77 hp] at hk
 obtain ⟨j,_,_,_,g',e3,e4⟩:=zaw hp hl hk
 rw [List.getElem?_eq_getElem (by rw [z77 hp];exact hk),e] at e4
 rw [Option.some.inj e4]
 exact List.mem_of_getElem? e3
theorem zaK {n:Nat} {r:Row} (hp:IsP n r.1) (hl:r.2.length=n):z5C (z5C r)=r:=by
 have hpl:=hp.len
 refine Prod.ext (z7z hp) ?_
 show (z1q (z1q r.1)).map _=r.2
 rw [z7z hp]
 refine List.ext_getElem? fun k=>?_
 by_cases hk:k < n
 ·have e1:r.1[k]?=some r.1[k]:=List.getElem?_eq_getElem (by rw [hp.len];exact hk)
  obtain ⟨l0,l1⟩:=z0K.mp (hp.mem_iff.mp (List.getElem_mem (show k < r.1.length by rw [hp.len];exact hk)))
  obtain ⟨l,hl'⟩:=z2B l0
  obtain ⟨j,_,e2,e3,g,e4,e5⟩:=zaw hp hl (show l < n by lia)
  have hb:=z6w hp e1
  rw [hl',Int.toNat_natCast,e2] at hb
  have:j=k:=by have:=Option.some.inj hb;lia
  subst this
  rw [List.getElem?_map,e1]
  show some ((z5C r).2.getD (r.1[j]).toNat 0)=_
  rw [hl',Int.toNat_natCast,List.getD_eq_getElem?_getD,e5,e4];rfl
 ·rw [List.getElem?_eq_none (by rw [List.length_map,hp.len];lia),List.getElem?_eq_none (by lia)]
theorem z9g {n:Nat} {r:Row} {h:Int→Int} (hp:IsP n r.1) (hl:r.2.length=n):z5C (r.1,r.2.map h)=((z5C r).1,(z5C r).2.map h):=by
 refine Prod.ext rfl ?_
 show (z1q r.1).map _=((z1q r.1).map _).map h
 rw [List.map_map]
 refine List.map_congr_left fun l hl0=>?_
 obtain ⟨k,hk,e⟩:=List.getElem_of_mem hl0
 rw [z1P,hp.len] at hk
 obtain ⟨j,hj,e1,_⟩:=z5u hp hk
 rw [List.getElem?_eq_getElem (by rw [z1P,hp.len];exact hk),e] at e1
 rw [Option.some.inj e1]
 show (r.2.map h).getD ((j:Int)).toNat 0=h (r.2.getD ((j:Int)).toNat 0)
 rw [Int.toNat_natCast,List.getD_eq_getElem?_getD,List.getD_eq_getElem?_getD,List.getElem?_map,List.getElem?_eq_getElem (show j < r.2.length by lia)]
 rfl
theorem z0M {n:Nat} {rows:List Row} (G:z0j n rows):z0j n (z2g rows):=by
 refine ⟨by rw [z0Z];exact G.few,by rw [z0Z];exact G.some,fun r hr=>?_,fun r hr=>?_,fun r hr g hg=>?_⟩
 ·obtain ⟨q,hq,rfl⟩:=List.mem_map.mp hr
  exact z9a (G.perm q hq)
 ·obtain ⟨q,hq,rfl⟩:=List.mem_map.mp hr
  exact z77 (G.perm q hq)
 ·obtain ⟨q,hq,rfl⟩:=List.mem_map.mp hr
  rw [z0Z]
  exact G.go q hq g (z9R (G.perm q hq) (G.len q hq) hg)
theorem zce {n:Nat} {rows:List Row} (G:z0j n rows):z2g (z2g rows)=rows:=by
 unfold z2g
 rw [List.map_map]
 have:∀ r∈rows,(z5C ∘ z5C) r=r:=fun r hr=>zaK (G.perm r hr) (G.len r hr)
 rw [List.map_congr_left this,List.map_id']
theorem z5x {n:Nat} {rows:List Row} (G:z0j n rows):∀ x∈z0i (z2g rows),x∈z0i rows:=by
 have C:=z24 G
 have L:=(z0q G).1
 refine (z3G (z0M G)).all (C:=fun x=>x∈z0i rows) (fun x hx g hg=>?_) (fun x hx=>?_)
 ·obtain ⟨x0,x1⟩:=L.rg x hx
  rw [z1O x0 x1] at hg
  have hr:=z0o x0 x1
  exact C.cl x hx g (z9R (G.perm _ hr) (G.len _ hr) hg)
 ·rw [List.mem_singleton.mp hx];exact C.zero
theorem zcu {n:Nat} {one:List Row} (G:z0j n one):shr (z2g (shr (z2g one)))=shr one:=by
 have GA:=z0M G
 have GF:=z1E GA
 obtain ⟨h,hz,mo⟩:=z2I GA
 have:=z46 (M':=z2g (z2g one)) (M:=z2g (shr (z2g one))) (h:=h) (z0M GA) (z0M GF) hz fun x hx=>?_
 ·rw [zce G] at this;exact this.symm
 ·have xm:=z5x GA x hx
  obtain ⟨x0,x1⟩:=(z0q GA).1.rg x xm
  obtain ⟨f0,f1⟩:=z6Q GA GF hz mo xm
  have hr:=z0o x0 x1
  rw [z1O f0 f1,mo x xm,z1O x0 x1]
  exact z9g (GA.perm _ hr) (GA.len _ hr)
theorem z8Y {n:Nat} {M:List Row} (G:z0j n M) (h:∀ x∈z0i M,(row M x).1=z0z n):shr M=[(z0z n,List.replicate n 0)]:=by
 have GS:z0j n [(z0z n,List.replicate n (0:Int))]:=⟨by simp,by simp,fun r hr=>by rw [List.mem_singleton.mp hr];exact z4y n,fun r hr=>by rw [List.mem_singleton.mp hr];simp,fun r hr g hg=>by
  rw [List.mem_singleton.mp hr] at hg
  have:=(List.mem_replicate.mp (show g∈List.replicate n (0:Int) from hg)).2
  rw [this];simp⟩
 have e:=z46 (M':=M) (M:=[(z0z n,List.replicate n (0:Int))]) (h:=fun _=>0) G GS rfl fun x hx=>?_
 ·rw [e,←z5m GS]
  exact za2 GS fun r hr=>by rw [List.mem_singleton.mp hr]
 ·obtain ⟨x0,x1⟩:=(z0q G).1.rg x hx
  show (z0z n,List.replicate n (0:Int))=_
  rw [h x hx]
  refine Prod.ext rfl ?_
  show List.replicate n (0:Int)=(row M x).2.map fun _=>0
  rw [List.map_const',G.len _ (z0o x0 x1)]
def z6h (K:PySem.W.Frag):Sp:=fun vs H Q _=>∃ (a:V) (p:List Int) (n:Nat),vs=[a]∧Dr K H (D.its p) a∧IsP n p∧n≤1000∧z2X K H Q (D.its (z1q p))
def z4E (K:PySem.W.Frag):Sp:=fun vs H Q _=>∃ (v:V) (r:Row) (n:Nat),vs=[v]∧Dr K H (z3I r) v∧IsP n r.1∧r.2.length=n∧n≤60∧z2X K H Q (z3I (z5C r))
def zb1 (Ts:List Tb) (K:PySem.W.Frag) (Ct:Addr):Sp:=fun vs H Q E=>∃ (v:V) (n:Nat) (one:List Row),vs=[v]∧z6H Ts H∧Dr K H (D.tup (z0s one)) v∧z0j n one∧n≤60 ∧
 ((shr (z2g one)).length≤60→zaz Ts K H Q (D.tup (z0s (shr (z2g one)))))∧(60 < (shr (z2g one)).length→zfl Ts Ct E H)
theorem z5w {r:List Int} {s i:Nat} (h:i < s):(r.take s).getD i 0=r.getD i 0:=by
 rw [List.getD_eq_getElem?_getD,List.getElem?_take,if_pos h,←List.getD_eq_getElem?_getD]
theorem zaD {r:List Int} {s:Nat} (hs:0 < s) (hle:s≤r.length) (hd:s ∣ r.length):(List.replicate (r.length / s) (r.take s)).flatten=r↔Per r s:=by
 have lt:(r.take s).length=s:=by rw [List.length_take];lia
 have e1:r.length / s*s=r.length:=Nat.div_mul_cancel hd
 have lf:(List.replicate (r.length / s) (r.take s)).flatten.length=r.length:=by rw [z7g,lt,e1]
 have g:∀ i,i < r.length→(List.replicate (r.length / s) (r.take s)).flatten.getD i 0=r.getD (i % s) 0:=fun i hi=>by
  rw [z7X _ _ _ (by rw [lt,e1];exact hi),lt,z5w (Nat.mod_lt _ hs)]
 constructor
 ·intro h
  rw [h] at g
  exact za4 hd g
 ·intro h
  refine List.ext_getElem lf fun i h1 h2=>?_
  have a:=g i h2
  rw [←z6A h hs i h2,z1y h1,z1y h2] at a
  exact a
theorem zeN {r:List Int}:Per r r.length:=⟨Nat.dvd_refl _,fun i hi=>by lia⟩
theorem zeM {α:Type} {xs:List α} {c:Nat} (h:c < xs.length):atI xs (-1 - (c:Int))=xs[xs.length - 1 - c]?:=by
 have e:ixN xs.length (-1 - (c:Int))=some (xs.length - 1 - c):=by
  unfold ixN
  rw [if_neg (by lia),if_pos (by lia)]
  congr 1
  lia
 unfold atI
 rw [e]
 rfl
theorem zaE {r:List Int} {c:Nat} (h:c < r.length):atI (r.map V.int) (-1 - (c:Int))=some (V.int (r.getD (r.length - 1 - c) 0)):=by
 rw [zeM (by rw [List.length_map];exact h),List.length_map,List.getElem?_map,List.getElem?_eq_getElem (by lia),z1y (by lia)]
 rfl
theorem z8t {b r:List Int} {s c:Nat} (hs:0 < s) (h:z5Y b (r.take s) s c):z5Y b r s c:=by
 have g:∀ j,(r.take s).getD (s - 1 - j % s) 0=r.getD (s - 1 - j % s) 0:=fun j=>z5w (by have:=Nat.mod_lt j hs;lia)
 exact ⟨h.le,fun j hj=>by rw [h.eq j hj,g],by have:=h.no;rw [g] at this;exact this⟩
theorem zd2 {r:List Int} {s c:Nat} (hs:0 < s) (hle:s≤r.length):(r.take s).drop (s - c % s)++(r.take s).take (s - c % s)=(z0z s).map fun k=>r.getD ((k - (c:Int)) % (s:Int)).toNat 0:=by
 have hm:c % s < s:=Nat.mod_lt _ hs
 have lt:(r.take s).length=s:=by rw [List.length_take];lia
 have e2:∀ i:Nat,(((i:Int) - (c:Int)) % (s:Int))=(((s - c % s+i) % s:Nat):Int):=fun i=>by
  rw [Int.natCast_emod]
  have e3:((s - c % s+i:Nat):Int)=((i:Int) - (c:Int))+(s:Int)*(((c / s:Nat):Int)+1):=by
   have:=Nat.mod_add_div c s
   have e4:(c:Int)=((c % s:Nat):Int)+(s:Int)*((c / s:Nat):Int):=by rw [←Int.natCast_mul,←Int.natCast_add,this]
   rw [Int.mul_add,Int.mul_one]
   lia
  rw [e3,Int.add_mul_emod_self_left]
 have gt:∀ i,i < s→(r.take s)[i]?=some (r.getD i 0):=fun i hi=>by rw [List.getElem?_take,if_pos hi,List.getElem?_eq_getElem (by lia),z1y (by lia)]
 have e0:∀ (k:Nat) (l:List Int),k≤s→l.length=s→(l.drop k++l.take k).length=s:=fun k l hk hl=>by rw [List.length_append,List.length_drop,List.length_take];lia
 generalize r.take s=l at *
 obtain ⟨k,hk⟩:∃ k,k=s - c % s:=⟨_,rfl⟩
 have hk0:0 < k:=by lia
 have hks:k≤s:=by lia
 rw [←hk]
 refine List.ext_getElem (by rw [e0 _ _ hks lt,List.length_map,z0D]) fun i h1 h2=>?_
 have hi:i < s:=by rw [e0 _ _ hks lt] at h1;exact h1
 have e1:((z0z s).map fun k=>r.getD ((k - (c:Int)) % (s:Int)).toNat 0)[i]?=some (r.getD ((k+i) % s) 0):=by
  rw [List.getElem?_map,z1t hi]
  show some (r.getD (((i:Int) - (c:Int)) % (s:Int)).toNat 0)=_
  rw [e2 i,←hk,Int.toNat_natCast]
 have e5:(l.drop k++l.take k)[i]?=some (r.getD ((k+i) % s) 0):=by
  rw [List.getElem?_append,List.length_drop,lt]
  by_cases h:i < s - k
  ·rw [if_pos h,List.getElem?_drop,gt _ (by lia),Nat.mod_eq_of_lt (by lia)]
  ·have e6:(k+i) % s=i - (s - k):=by
    rw [show k+i=(i - (s - k))+s by lia,Nat.add_mod_right,Nat.mod_eq_of_lt (by lia)]
   rw [if_neg h,List.getElem?_take,if_pos (by lia),gt _ (by lia),e6]
 rw [List.getElem?_eq_getElem h1] at e5
 rw [List.getElem?_eq_getElem h2] at e1
 exact (Option.some.inj e5).trans (Option.some.inj e1).symm
def z75 (K:PySem.W.Frag):Sp:=fun vs H Q _=>∃ (v u:V) (b r:List Int),vs=[v,u]∧Dr K H (D.its b) v∧Dr K H (D.its r) u∧r≠[]∧∀ (c:Nat),z5Y b r r.length c→Q (.int c) H
def zey (K:PySem.W.Frag) (H:Hp) (Q:VK) (b r:List Int):Prop:=∀ (x:V) (H':Hp) (e:Row),z0h H H'→Dr K H' (z3I e) x→z1V e→(∀ i,lat e i=lat (b,r) i)→e.1.length≤b.length→e.2.length≤r.length→Q x H'
def z1j (M:List Row):Int→List Int→List Int
 | _,[]=>[]
 | x,l::w=>(row M x).1.getD l.toNat 0::z1j M ((row M x).2.getD l.toNat 0) w
theorem z1h (M:List Row):∀ (w:List Int) (x:Int),(z1j M x w).length=w.length
 | [],_=>rfl
 | _::w,x=>by show (z1j M _ w).length+1=w.length+1;rw [z1h M w]
theorem z3L (M:List Row):∀ (w w':List Int) (x:Int),z1j M x (w++w')=z1j M x w++z1j M (goW M x w) w'
 | [],_,_=>rfl
 | l::w,w',x=>by show _::z1j M _ (w++w')=_::(z1j M _ w++z1j M (goW M _ w) w');rw [z3L M w w']
theorem zcj (M:List Row) (w:List Int) (x:Int) (k:Nat):(z1j M x w).take k=z1j M x (w.take k):=by
 have e:=z3L M (w.take k) (w.drop k) x
 rw [List.take_append_drop] at e
 rw [e]
 by_cases h:k≤w.length
 ·have hl:(z1j M x (w.take k)).length=k:=by rw [z1h,List.length_take];lia
  rw [List.take_append_of_le_length (by lia),List.take_of_length_le (by lia)]
 ·have:w.drop k=[]:=List.drop_eq_nil_of_le (by lia)
  rw [this]
  show (z1j M x (w.take k)++[]).take k=_
  rw [List.append_nil,List.take_of_length_le (by rw [z1h,List.length_take];lia)]
theorem zbD {n:Nat} {M:List Row} (G:z0j n M):∀ (w:List Int) (x:Int),LW n w→0≤x→x < (M.length:Int)→LW n (z1j M x w)
 | [],_,_,_,_=>fun _ h=>by simp [z1j] at h
 | l::w,x,hw,h0,h1=>fun y hy=>by
  obtain ⟨l0,l1⟩:=hw l List.mem_cons_self
  have hm:=z0o h0 h1
  have hi:l.toNat < (row M x).2.length:=by rw [G.len _ hm];lia
  have hp:=G.perm _ hm
  have hi1:l.toNat < (row M x).1.length:=by rw [hp.len];lia
  rcases List.mem_cons.mp hy with rfl | hy
  ·rw [List.getD_eq_getElem?_getD,List.getElem?_eq_getElem hi1]
   exact z0K.mp (hp.mem_iff.mp (List.getElem_mem hi1))
  ·have hg:0≤(row M x).2.getD l.toNat 0∧(row M x).2.getD l.toNat 0 < (M.length:Int):=by
    rw [List.getD_eq_getElem?_getD,List.getElem?_eq_getElem hi]
    exact G.go _ hm _ (List.getElem_mem hi)
   exact zbD G w _ hw.tail hg.1 hg.2 y hy
def z8Z (K:PySem.W.Frag) (Ct:Addr):Sp:=fun vs H Q E=>∃ (u:V) (r:List Int),vs=[u]∧Dr K H (D.its r) u∧(r≠[]→Q .non H)∧(r=[]→TMx Ct E H)
def z6Y (K:PySem.W.Frag):Sp:=fun vs H Q _=>∃ (v u:V) (rows:List Row) (n:Nat) (w:List Int) (s:Int),vs=[v,.int s,u]∧Dr K H (D.tup (z0s rows)) v∧Dr K H (D.its w) u∧z0j n rows∧n≤60∧w.length≤4900∧LW n w∧0≤s∧s < (rows.length:Int) ∧
 ∀ (r t:Addr) (H':Hp),z0h H H'→H' r=some (.tup [.ref t,.int (goW rows s w)])→H' t=some (.tup ((z1j rows s w).map V.int))→Q (.ref r) H'
def zbJ (K:PySem.W.Frag) (Ct:Addr):Sp:=fun vs H Q E=>∃ (v u:V) (rows:List Row) (n:Nat) (w:List Int),vs=[v,u]∧Dr K H (D.tup (z0s rows)) v∧Dr K H (D.its w) u∧z0j n rows∧n≤60∧w.length≤4900∧(LW n w→∀ (t:Addr) (H':Hp),z0h H H'→H' t=some (.tup ((z1j rows 0 w).map V.int))→Q (.ref t) H')∧(¬ LW n w→TMx Ct E H)
end Gu
namespace L2
open PySem PySem.Spec PyProof.Rows
section
variable {M:Model} {A:Around} {E:Value→Shared→Prop}
variable {nm q:Str} {C N:Addr} {bs bm:List Value} {hdct:Bool} {sn:List Str} {sub:List Value} {ab:Bool} {col:Option Bool} {dd:Option Addr} {k0 k1 k2 k3 k5:Option Value} {newId:String}
variable {nm' q':Str} {C' N':Addr} {bs' bm':List Value} {hdct':Bool} {sn':List Str} {sub':List Value} {ab':Bool} {col':Option Bool} {dd':Option Addr} {k0' k1' k2' k3' k5':Option Value} {newId':String}
end
end L2
namespace Gu
open PySem L2
theorem dvm {m:Nat} {g e:Int} (e0:0≤e) (e1:e < (m:Int)):(g*(m:Int)+e) / (m:Int)=g∧(g*(m:Int)+e) % (m:Int)=e:=by
 have hm:(0:Int) < (m:Int):=by lia
 constructor
 ·rw [Int.add_comm,Int.add_mul_ediv_right _ _ (by lia),Int.ediv_eq_zero_of_lt e0 e1];lia
 ·rw [Int.add_comm,Int.add_mul_emod_self_right,Int.emod_eq_of_lt e0 e1]
theorem z2E {f:Int→Int} {l:List Int} {k:Nat} (h:k < l.length):(l.map f).getD k 0=f (l.getD k 0):=by
 rw [List.getD_eq_getElem?_getD,List.getD_eq_getElem?_getD,List.getElem?_map,List.getElem?_eq_getElem h]
 rfl
theorem z4D {n:Nat} {p:List Int} (h:IsP n p) {k:Nat} (hk:k < n):0≤p.getD k 0∧p.getD k 0 < (n:Int):=by
 have hl:=h.len
 rw [List.getD_eq_getElem?_getD,List.getElem?_eq_getElem (by lia)]
 exact z0K.mp (h.mem_iff.mp (List.getElem_mem (show k < p.length by lia)))
theorem z88 {n:Nat} {M:List Row} (G:z0j n M) {x:Int} (x0:0≤x) (x1:x < (M.length:Int)) {k:Nat} (hk:k < n):0≤(row M x).2.getD k 0∧(row M x).2.getD k 0 < (M.length:Int)∧(row M x).2.getD k 0∈(row M x).2:=by
 have hm:=z0o x0 x1
 have hl:=G.len _ hm
 rw [List.getD_eq_getElem?_getD,List.getElem?_eq_getElem (by lia)]
 have:=List.getElem_mem (show k < (row M x).2.length by lia)
 exact ⟨(G.go _ hm _ this).1,(G.go _ hm _ this).2,this⟩
theorem z7i {n:Nat} {A' A B' B:List Row} {hA hB:Int→Int} (GA':z0j n A') (GA:z0j n A) (GB':z0j n B') (GB:z0j n B) (zA:hA 0=0) (zB:hB 0=0) (mA:Mor A' A (z0i A') hA) (mB:Mor B' B (z0i B') hB)
  (h4':A'.length*B'.length≤4000) (h4:A.length*B.length≤4000):shr (z0J A' B')=shr (z0J A B):=by
 have GP':=z1e GA' GB' h4'
 have GP:=z1e GA GB h4
 have LA:=(z0q GA').1
 have LB:=(z0q GB').1
 have CA:=z24 GA'
 have CB:=z24 GB'
 have cl:=(z3G GP').all (C:=fun i=>i / (B'.length:Int)∈z0i A'∧i % (B'.length:Int)∈z0i B'∧0≤i∧i < ((A'.length*B'.length:Nat):Int)) (fun i hi g hg=>?_) (fun i hi=>?_)
 ·refine z46 (h:=fun i=>hA (i / (B'.length:Int))*(B.length:Int)+hB (i % (B'.length:Int))) GP' GP ?_ fun i hi=>?_
  ·show hA ((0:Int) / _)*_+hB ((0:Int) % _)=0
   rw [Int.zero_ediv,Int.zero_emod,zA,zB]
   lia
  ·obtain ⟨ha,hb,i0,i1⟩:=cl i hi
   rw [z18 i0 i1]
   show row (z0J A B) (hA (i / (B'.length:Int))*(B.length:Int)+hB (i % (B'.length:Int)))=_
   generalize i / (B'.length:Int)=a at ha
   generalize i % (B'.length:Int)=b at hb
   obtain ⟨a0,a1⟩:=LA.rg a ha
   obtain ⟨b0,b1⟩:=LB.rg b hb
   obtain ⟨p0,p1⟩:=z6Q GA' GA zA mA ha
   obtain ⟨q0,q1⟩:=z6Q GB' GB zB mB hb
   obtain ⟨j0,j1⟩:=z53 p0 p1 q0 q1
   rw [z18 j0 j1,(dvm q0 q1).1,(dvm q0 q1).2,mA a ha,mB b hb]
   refine Prod.ext rfl ?_
   show List.map _ _=List.map _ (List.map _ _)
   rw [List.map_map]
   refine List.map_congr_left fun k hk=>?_
   have hm:=z0o a0 a1
   have hkn:k < n:=by have:=List.mem_range.mp hk;rw [(GA'.perm _ hm).len] at this;exact this
   have hl:=GA'.len _ hm
   have hlB:=GB'.len _ (z0o b0 b1)
   obtain ⟨e0,e1⟩:=z4D (GA'.perm _ hm) hkn
   obtain ⟨l,hl'⟩:=z2B e0
   have hln:l < n:=by lia
   obtain ⟨g0,g1,_⟩:=z88 GB' b0 b1 hln
   show ((row A' a).2.map hA).getD k 0*(B.length:Int)+((row B' b).2.map hB).getD (((row A' a).1).getD k 0).toNat 0=hA (((row A' a).2.getD k 0*(B'.length:Int)+(row B' b).2.getD ((row A' a).1.getD k 0).toNat 0) / (B'.length:Int))*(B.length:Int)+hB (((row A' a).2.getD k 0*(B'.length:Int)+(row B' b).2.getD ((row A' a).1.getD k 0).toNat 0) % (B'.length:Int))
   rw [hl',Int.toNat_natCast,z2E (by lia),z2E (by lia),(dvm g0 g1).1,(dvm g0 g1).2]
 ·obtain ⟨ha,hb,i0,i1⟩:=hi
  rw [z18 i0 i1] at hg
  generalize i / (B'.length:Int)=a at ha hg
  generalize i % (B'.length:Int)=b at hb hg
  obtain ⟨a0,a1⟩:=LA.rg a ha
  obtain ⟨b0,b1⟩:=LB.rg b hb
  have hm:=z0o a0 a1
  obtain ⟨k,hk,rfl⟩:=List.mem_map.mp (show g∈(List.range (row A' a).1.length).map _ from hg)
  have hkn:k < n:=by have:=List.mem_range.mp hk;rw [(GA'.perm _ hm).len] at this;exact this
  obtain ⟨e0,e1⟩:=z4D (GA'.perm _ hm) hkn
  obtain ⟨l,hl'⟩:=z2B e0
  have hln:l < n:=by lia
  obtain ⟨g0,g1,gm⟩:=z88 GB' b0 b1 hln
  obtain ⟨f0,f1,fm⟩:=z88 GA' a0 a1 hkn
  rw [hl',Int.toNat_natCast]
  obtain ⟨r0,r1⟩:=z53 f0 f1 g0 g1
  rw [(dvm g0 g1).1,(dvm g0 g1).2]
  exact ⟨CA.cl a ha _ fm,CB.cl b hb _ gm,r0,r1⟩
 ·rw [List.mem_singleton.mp hi,Int.zero_ediv,Int.zero_emod]
  have h1:=GP'.some
  rw [z0A] at h1
  exact ⟨CA.zero,CB.zero,Int.le_refl 0,by lia⟩
theorem zed {n:Nat} {M:List Row} (G:z0j n M):Mor M M (z0i M) fun x=>x:=fun x _=>by
 rw [List.map_id'' (fun _=>rfl)]
theorem zdA {n:Nat} {A B:List Row} (GA:z0j n A) (GB:z0j n B) (h4:A.length*B.length≤4000):shr (z0J (shr A) (shr B))=shr (z0J A B):=by
 obtain ⟨h,hz,mo⟩:=z2I GA
 obtain ⟨h',hz',mo'⟩:=z2I GB
 exact (z7i GA (z1E GA) GB (z1E GB) hz hz' mo mo' h4 (Nat.le_trans (Nat.mul_le_mul (z3y GA) (z3y GB)) h4)).symm
theorem zbq {n:Nat} {A B:List Row} (GA:z0j n A) (GB:z0j n B) (h4:A.length*B.length≤4000):shr (z0J (shr A) B)=shr (z0J A B):=by
 obtain ⟨h,hz,mo⟩:=z2I GA
 exact (z7i GA (z1E GA) GB GB hz rfl mo (zed GB) h4 (Nat.le_trans (Nat.mul_le_mul (z3y GA) (Nat.le_refl _)) h4)).symm
theorem zc3 {n:Nat} {A B:List Row} (GA:z0j n A) (GB:z0j n B) (h4:A.length*B.length≤4000):shr (z0J A (shr B))=shr (z0J A B):=by
 obtain ⟨h,hz,mo⟩:=z2I GB
 exact (z7i GA GA GB (z1E GB) rfl hz (zed GA) mo h4 (Nat.le_trans (Nat.mul_le_mul (Nat.le_refl _) (z3y GB)) h4)).symm
theorem zew {n:Nat} {A:List Row} (G:z0j n A):shr (z2g (shr A))=shr (z2g A):=by
 have GF:=z1E G
 obtain ⟨h,hz,mo⟩:=z2I G
 refine (z46 (M':=z2g A) (M:=z2g (shr A)) (h:=h) (z0M G) (z0M GF) hz fun x hx=>?_).symm
 have xm:=z5x G x hx
 obtain ⟨x0,x1⟩:=(z0q G).1.rg x xm
 obtain ⟨f0,f1⟩:=z6Q G GF hz mo xm
 have hr:=z0o x0 x1
 rw [z1O f0 f1,mo x xm,z1O x0 x1]
 exact z9g (G.perm _ hr) (G.len _ hr)
theorem zby {n:Nat} {q:List Int} (hq:q.length=n):z1L (z0z n) q=q:=by
 unfold z1L z0z
 rw [List.map_map]
 refine List.ext_getElem (by rw [List.length_map,List.length_range,hq]) fun i i1 i2=>?_
 rw [List.getElem_map,List.getElem_range]
 show q.getD ((i:Int)).toNat 0=q[i]
 rw [show ((i:Int)).toNat=i by lia,List.getD_eq_getElem?_getD,List.getElem?_eq_getElem i2]
 rfl
def z0w (n:Nat):List Row:=[(z0z n,List.replicate n 0)]
theorem z25 {n:Nat}:z0j n (z0w n):=⟨by simp [z0w],by simp [z0w],fun r hr=>by rw [List.mem_singleton.mp hr];exact z4y n,fun r hr=>by rw [List.mem_singleton.mp hr];simp,fun r hr g hg=>by
  rw [List.mem_singleton.mp hr] at hg
  have:=(List.mem_replicate.mp (show g∈List.replicate n (0:Int) from hg)).2
  rw [this];simp [z0w]⟩
theorem zbR {n:Nat}:shr (z0w n)=z0w n:=z8Y z25 fun x hx=>by
 obtain ⟨x0,x1⟩:=(z0q (z25 (n:=n))).1.rg x hx
 have:x=0:=by simp [z0w] at x1;lia
 rw [this];rfl
theorem zaI {n:Nat}:shr (z2g (z0w n))=z0w n:=by
 refine z8Y (z0M z25) fun x hx=>?_
 have xm:=z5x z25 x hx
 obtain ⟨x0,x1⟩:=(z0q (z25 (n:=n))).1.rg x xm
 have:x=0:=by simp [z0w] at x1;lia
 rw [z1O x0 x1,this]
 show z1q (z0z n)=z0z n
 have e:=zaG (z4y n)
 rw [zby (by rw [z1P,z0D])] at e
 exact e
theorem z9S {n:Nat} {p q r:List Int} (hp:IsP n p) (hq:q.length=n):z1L (z1L p q) r=z1L p (z1L q r):=by
 unfold z1L
 rw [List.map_map]
 refine List.map_congr_left fun x hx=>?_
 obtain ⟨x0,x1⟩:=z0K.mp (hp.mem_iff.mp hx)
 show r.getD (q.getD x.toNat 0).toNat 0=(q.map fun x=>r.getD x.toNat 0).getD x.toNat 0
 rw [z2E (f:=fun x=>r.getD x.toNat 0) (by lia)]
theorem z3v {p q:List Int} {k:Nat} (h:k < p.length):(z1L p q).getD k 0=q.getD (p.getD k 0).toNat 0:=by
 unfold z1L
 rw [z2E (f:=fun x=>q.getD x.toNat 0) h]
theorem z2V {m:Nat} {R S:Row} {k:Nat} (h:k < R.1.length):(zbj m R S).2.getD k 0=R.2.getD k 0*(m:Int)+S.2.getD (R.1.getD k 0).toNat 0:=by
 show (List.map _ (List.range R.1.length)).getD k 0=_
 rw [List.getD_eq_getElem?_getD,List.getElem?_map,List.getElem?_range h]
 rfl
theorem zgq {L:Nat} {k:Nat} (h:k < L):(z0z L)[k]?=some (k:Int):=by
 have:=z3w (L:=L) (i:=(k:Int)) (by lia) (by lia)
 rw [Int.toNat_natCast] at this
 exact this
theorem z8y {M M':List Row} (hl:M.length=M'.length) (h:∀ i:Int,0≤i→i < (M.length:Int)→row M i=row M' i):M=M':=by
 refine List.ext_getElem hl fun k k1 k2=>?_
 have:=h (k:Int) (by lia) (by lia)
 unfold row at this
 rw [Int.toNat_natCast,List.getD_eq_getElem?_getD,List.getD_eq_getElem?_getD,List.getElem?_eq_getElem k1,List.getElem?_eq_getElem k2] at this
 exact this
theorem zai {n:Nat} {A B C:List Row} (GA:z0j n A) (GB:z0j n B) (GC:z0j n C):z0J (z0J A B) C=z0J A (z0J B C):=by
 have hC:=GC.some
 have hB:=GB.some
 refine z8y (by rw [z0A,z0A,z0A,z0A,Nat.mul_assoc]) fun i i0 i1=>?_
 rw [z0A] at i1
 obtain ⟨⟨u0,u1⟩,c0,c1⟩:=pix i0 i1
 rw [z18 i0 i1]
 rw [z0A] at u1
 obtain ⟨⟨a0,a1⟩,b0,b1⟩:=pix u0 u1
 rw [z18 u0 u1]
 have ei:i=(i / (C.length:Int) / (B.length:Int))*((B.length*C.length:Nat):Int)+((i / (C.length:Int) % (B.length:Int))*(C.length:Int)+i % (C.length:Int)):=by
  have e1:=Int.mul_ediv_add_emod i (C.length:Int)
  have e2:=Int.mul_ediv_add_emod (i / (C.length:Int)) (B.length:Int)
  rw [Int.natCast_mul,←Int.mul_assoc,←Int.add_assoc,←Int.add_mul,Int.mul_comm (i / (C.length:Int) / (B.length:Int)),e2,Int.mul_comm]
  exact e1.symm
 generalize i / (C.length:Int) / (B.length:Int)=a at ei a0 a1
 generalize i / (C.length:Int) % (B.length:Int)=b at ei b0 b1
 generalize i % (C.length:Int)=c at ei c0 c1
 obtain ⟨v0,v1⟩:=z53 b0 b1 c0 c1
 obtain ⟨w0,w1⟩:=z53 a0 a1 v0 v1
 rw [ei,z18 (one:=A) (other:=z0J B C) (by rw [←ei];exact i0) (by rw [z0A];exact w1),z0A,(dvm v0 v1).1,(dvm v0 v1).2,z18 v0 v1,(dvm c0 c1).1,(dvm c0 c1).2]
 have pa:=GA.perm _ (z0o a0 a1)
 have pb:=GB.perm _ (z0o b0 b1)
 have la:=pa.len
 have lb:=pb.len
 refine Prod.ext (z9S pa lb) ?_
 show (List.range (z1L _ _).length).map _=(List.range _).map _
 have el:(z1L (row A a).1 (row B b).1).length=(row A a).1.length:=by unfold z1L;rw [List.length_map]
 rw [el]
 refine List.map_congr_left fun k hk=>?_
 have hk':=List.mem_range.mp hk
 have hkn:k < n:=by lia
 obtain ⟨e0,e1⟩:=z4D pa hkn
 have hll:((row A a).1.getD k 0).toNat < (row B b).1.length:=by lia
 show (zbj B.length (row A a) (row B b)).2.getD k 0*(C.length:Int)+(row C c).2.getD ((z1L (row A a).1 (row B b).1).getD k 0).toNat 0=(row A a).2.getD k 0*((B.length*C.length:Nat):Int)+(zbj C.length (row B b) (row C c)).2.getD ((row A a).1.getD k 0).toNat 0
 rw [z2V hk',z2V hll,z3v hk',Int.natCast_mul,Int.add_mul,←Int.mul_assoc,Int.add_assoc]
theorem z65 {n:Nat} {A:List Row} (G:z0j n A):z0J (z0w n) A=A:=by
 refine z8y (by rw [z0A];simp [z0w]) fun i i0 i1=>?_
 rw [z0A] at i1
 have i1':i < (A.length:Int):=by simp [z0w] at i1;exact i1
 rw [z18 i0 i1,Int.ediv_eq_zero_of_lt i0 i1',Int.emod_eq_of_lt i0 i1']
 have hm:=z0o i0 i1'
 have hl:=G.len _ hm
 refine Prod.ext (zby (G.perm _ hm).len) ?_
 show (List.range (z0z n).length).map _=_
 rw [z0D]
 refine List.ext_getElem (by rw [List.length_map,List.length_range,hl]) fun k k1 k2=>?_
 rw [List.getElem_map,List.getElem_range]
 have hkn:k < n:=by lia
 show (List.replicate n (0:Int)).getD k 0*_+(row A i).2.getD ((z0z n).getD k 0).toNat 0=_
 rw [List.getD_eq_getElem?_getD (l:=z0z n),zgq hkn]
 show (List.replicate n (0:Int)).getD k 0*_+(row A i).2.getD (k:Int).toNat 0=_
 rw [Int.toNat_natCast,z39,Int.zero_mul,Int.zero_add,List.getD_eq_getElem?_getD,List.getElem?_eq_getElem k2]
 rfl
theorem z9X {n:Nat} {A:List Row} (G:z0j n A):z0J A (z0w n)=A:=by
 refine z8y (by rw [z0A];simp [z0w]) fun i i0 i1=>?_
 rw [z0A] at i1
 have i1':i < (A.length:Int):=by simp [z0w] at i1;exact i1
 rw [z18 i0 i1]
 show zbj 1 (row A (i / (1:Int))) (row (z0w n) (i % (1:Int)))=_
 rw [Int.ediv_one,Int.emod_one]
 have hm:=z0o i0 i1'
 have hl:=G.len _ hm
 have hp:=G.perm _ hm
 refine Prod.ext ?_ ?_
 ·show z1L (row A i).1 (z0z n)=_
  unfold z1L
  conv=>rhs;rw [←List.map_id (row A i).1]
  refine List.map_congr_left fun x hx=>?_
  obtain ⟨x0,x1⟩:=z0K.mp (hp.mem_iff.mp hx)
  rw [List.getD_eq_getElem?_getD,z3w x0 x1]
  rfl
 ·show (List.range (row A i).1.length).map _=_
  refine List.ext_getElem (by rw [List.length_map,List.length_range,hl,hp.len]) fun k k1 k2=>?_
  rw [List.getElem_map,List.getElem_range]
  show (row A i).2.getD k 0*_+(List.replicate n (0:Int)).getD _ 0=_
  rw [z39,List.getD_eq_getElem?_getD,List.getElem?_eq_getElem k2]
  show (row A i).2[k]*((1:Nat):Int)+0=_
  lia
theorem zcE (r q:Row) (e:z3I r=z3I q):r=q:=by
 unfold z3I at e
 injection e with e
 injection e with e1 e2
 injection e2 with e2 _
 exact Prod.ext (z5t e1) (z5t e2)
theorem z7R:∀ (X Y:List Row),z0s X=z0s Y→X=Y
 | [],[],_=>rfl
 | [],_::_,e=>by simp [z0s] at e
 | _::_,[],e=>by simp [z0s] at e
 | r::X,q::Y,e=>by
  simp only [z0s,List.map_cons,List.cons.injEq] at e
  rw [zcE r q e.1,z7R X Y e.2]
theorem z2G:∀ (X Y:List Row),D.okL (z0s X) (z0s Y)
 | [],[]=>by simp [z0s,D.okL]
 | [],_::_=>by simp [z0s,D.okL]
 | _::_,[]=>by simp [z0s,D.okL]
 | r::X,q::Y=>by
  simp only [z0s,List.map_cons,D.okL]
  refine ⟨?_,z2G X Y⟩
  unfold z3I
  simp only [D.ok,D.okL]
  exact ⟨z78 _ _,z78 _ _,trivial⟩
theorem z6g (X Y:List Row):D.eq (.tup (z0s X)) (.tup (z0s Y))=decide (X=Y):=by
 by_cases h:X=Y
 ·subst h
  rw [decide_eq_true rfl]
  exact D.eq_refl _
 ·rw [decide_eq_false h]
  cases e:D.eq (.tup (z0s X)) (.tup (z0s Y)) with
  | false=>rfl
  | true =>
   have:=D.eq_of e
   injection this with this
   exact absurd (z7R X Y this) h
theorem z60 (X:List Row):D.dep (.tup (z0s X))≤50:=by
 have:=z3T X
 simp only [D.dep]
 lia
def pw (n:Nat) (one:List Row):Nat→List Row
 | 0=>z0w n
 | j+1=>shr (z0J (pw n one j) one)
theorem z5G {n:Nat} {one:List Row} (G:z0j n one) (h60:one.length≤60):∀ j,(∀ i,i < j→(pw n one i).length≤60)→z0j n (pw n one j)∧shr (pw n one j)=pw n one j
 | 0,_=>⟨z25,zbR⟩
 | j+1,h=>by
  have ih:=z5G G h60 j fun i hi=>h i (by lia)
  have hl:=h j (by lia)
  have GP:=z1e ih.1 G (Nat.le_trans (Nat.mul_le_mul hl h60) (by decide))
  exact ⟨z1E GP,zbH GP⟩
theorem zg2 {n:Nat} {one:List Row} (G:z0j n one) (hf:shr one=one):pw n one 1=one:=by
 show shr (z0J (z0w n) one)=one
 rw [z65 G,hf]
def z8i (n:Nat) (one:List Row):Nat→Nat→V
 | _,0=>.non
 | c,k+1=>if 60 < (pw n one c).length then .str "many" else if pw n one c=z0w n then .int (c:Int) else z8i n one (c+1) k
def Frm (n:Nat) (one:List Row):Prop:=z0j n one∧shr one=one∧one.length≤60∧2≤n∧n≤60
def z8Q (Ts:List Tb) (K:PySem.W.Frag) (Ct Cb:Addr):Sp:=fun vs H Q E=>∃ (v:V) (one:List Row) (n:Nat) (most:Int),vs=[v,.int most]∧z6H Ts H∧Dr K H (D.tup (z0s one)) v∧Frm n one ∧
 ((1≤most∧most≤64)→z8i n one 1 most.toNat≠.str "many"→∀ H',z1w Ts H H'→Q (z8i n one 1 most.toNat) H')∧((1≤most∧most≤64)→z8i n one 1 most.toNat=.str "many"→zfl Ts Ct E H)∧(¬ (1≤most∧most≤64)→zfl Ts Cb E H)
end Gu
namespace L2
open PySem PySem.Spec PyProof.Rows
section
variable {X:Cx} {e st:Expr} {te ts:TE} {pos p2:Pos}
end
end L2
namespace Gu
open PySem L2
def z8h (n:Int) (w:List Int):Int:=w.foldl (fun a l=>a*n+l) 0
theorem zaZ (n:Int) (w:List Int) (l:Int):z8h n (w++[l])=z8h n w*n+l:=by
 unfold z8h
 rw [List.foldl_append]
 rfl
def lit (n:Int):Nat→Int→List Int
 | 0,_=>[]
 | k+1,x=>x % n::lit n k (x / n)
def zhC (n:Int) (k:Nat) (x:Int):List Int:=(lit n k x).reverse
theorem z9P {n:Nat} (hn:0 < n):∀ (r:List Int),LW n r.reverse→zhC n r.length (z8h n r.reverse)=r.reverse∧0≤z8h n r.reverse∧z8h n r.reverse < (n:Int) ^ r.length
 | [],_=>⟨rfl,by simp [z8h],by simp [z8h]⟩
 | l::r,h=>by
  rw [List.reverse_cons] at h ⊢
  obtain ⟨e,h0,h1⟩:=z9P hn r fun x hx=>h x (List.mem_append_left _ hx)
  obtain ⟨l0,l1⟩:=h l (by simp)
  rw [zaZ]
  have hm:(0:Int) < (n:Int):=by lia
  obtain ⟨q1,q2⟩:=dvm (m:=n) (g:=z8h n r.reverse) l0 l1
  refine ⟨?_,?_,?_⟩
  ·show (lit n (r.length+1) _).reverse=_
   show ((z8h n r.reverse*(n:Int)+l) % (n:Int)::lit n r.length ((z8h n r.reverse*(n:Int)+l) / (n:Int))).reverse=_
   rw [q1,q2,List.reverse_cons]
   exact congrArg (·++[l]) e
  ·have:=Int.mul_nonneg h0 (Int.le_of_lt hm)
   lia
  ·rw [List.length_cons,Int.pow_succ]
   have h2:(z8h n r.reverse+1)*(n:Int)≤(n:Int) ^ r.length*(n:Int):=Int.mul_le_mul_of_nonneg_right (by lia) (by lia)
   rw [Int.add_mul,Int.one_mul] at h2
   lia
theorem z5i {n:Nat} (hn:0 < n) {w:List Int} (h:LW n w):zhC n w.length (z8h n w)=w∧0≤z8h n w∧z8h n w < (n:Int) ^ w.length:=by
 have:=z9P hn w.reverse (by rw [List.reverse_reverse];exact h)
 rw [List.reverse_reverse,List.length_reverse] at this
 exact this
theorem zbv {n m:Nat} (n2:2≤n) (h:n ^ m≤1024):m≤10:=by
 rcases Nat.lt_or_ge 10 m with z | z
 ·have h1:2 ^ 11≤2 ^ m:=Nat.pow_le_pow_right (by decide) z
  have h2:2 ^ m≤n ^ m:=Nat.pow_le_pow_left n2 m
  have:(2:Nat) ^ 11=2048:=by decide
  lia
 ·exact z
def zf7 (n:Nat):Int:=if n=2 then 10 else if n=3 then 6 else if n=4 then 5 else 4
theorem zff {n:Nat} (n2:2≤n) (n5:n≤5):atI [V.int 10,V.int 6,V.int 5,V.int 4] ((n:Int) - 2)=some (V.int (zf7 n)):=by
 have cs:n=2∨n=3∨n=4∨n=5:=by lia
 rcases cs with rfl | rfl | rfl | rfl
 ·exact z0B (j:=0) rfl
 ·exact z0B (j:=1) rfl
 ·exact z0B (j:=2) rfl
 ·exact z0B (j:=3) rfl
theorem zdq {n:Nat} (n2:2≤n) (n5:n≤5) (m:Nat):(m:Int) > zf7 n↔1024 < n ^ m:=by
 have up:∀ (b k:Nat),1≤b→1024 < b ^ k→k≤m→1024 < b ^ m:=fun b k hb h hk=>Nat.lt_of_lt_of_le h (Nat.pow_le_pow_right hb hk)
 have dn:∀ (b k:Nat),1≤b→b ^ k≤1024→m≤k→¬ 1024 < b ^ m:=fun b k hb h hk=>by have:=Nat.pow_le_pow_right hb hk;lia
 have cs:n=2∨n=3∨n=4∨n=5:=by lia
 rcases cs with rfl | rfl | rfl | rfl
 ·show (m:Int) > 10↔_
  exact ⟨fun h=>up 2 11 (by decide) (by decide) (by lia),fun h=>Decidable.byContradiction fun z=>dn 2 10 (by decide) (by decide) (by lia) h⟩
 ·show (m:Int) > 6↔_
  exact ⟨fun h=>up 3 7 (by decide) (by decide) (by lia),fun h=>Decidable.byContradiction fun z=>dn 3 6 (by decide) (by decide) (by lia) h⟩
 ·show (m:Int) > 5↔_
  exact ⟨fun h=>up 4 6 (by decide) (by decide) (by lia),fun h=>Decidable.byContradiction fun z=>dn 4 5 (by decide) (by decide) (by lia) h⟩
 ·show (m:Int) > 4↔_
  exact ⟨fun h=>up 5 5 (by decide) (by decide) (by lia),fun h=>Decidable.byContradiction fun z=>dn 5 4 (by decide) (by decide) (by lia) h⟩
def z3U (K:PySem.W.Frag) (Ct Cb:Addr):Sp:=fun vs H Q E=>∃ (n:Nat) (many:Int),vs=[.int n,.int many]∧2≤n∧n≤5∧many < 2 ^ 61∧(many < 0→TMx Cb E H)∧(0≤many→1024 < n ^ many.toNat→TMx Ct E H)∧(0≤many→n ^ many.toNat≤1024→Q (.int ((n ^ many.toNat:Nat):Int)) H)
def z5c (K:PySem.W.Frag):Sp:=fun vs H Q _=>∃ (n:Nat),vs=[.int n]∧2≤n∧n≤5∧∀ H',z0h H H'→Q (.int (zf7 n)) H'
theorem zgt {l:List Int} (h:l.Nodup) {i j:Nat} (hi:i < l.length) (hj:j < l.length) (e:l[i]=l[j]):i=j:=by
 rcases Nat.lt_trichotomy i j with z | z | z
 ·exact absurd e (List.pairwise_iff_getElem.mp h i j hi hj z)
 ·exact z
 ·exact absurd e.symm (List.pairwise_iff_getElem.mp h j i hj hi z)
theorem z95 {n:Nat} {M:List Row} (G:z0j n M):∀ (w w':List Int) (x:Int),LW n w→LW n w'→0≤x→x < (M.length:Int)→w.length=w'.length→z1j M x w=z1j M x w'→w=w'
 | [],[],_,_,_,_,_,_,_=>rfl
 | [],_::_,_,_,_,_,_,h,_=>by simp at h
 | _::_,[],_,_,_,_,_,h,_=>by simp at h
 | l::w,l'::w',x,h,h',x0,x1,hl,e=>by
  have hm:=z0o x0 x1
  have hp:=G.perm _ hm
  have hpl:=hp.len
  obtain ⟨a0,a1⟩:=h l List.mem_cons_self
  obtain ⟨b0,b1⟩:=h' l' List.mem_cons_self
  have e':(row M x).1.getD l.toNat 0::z1j M ((row M x).2.getD l.toNat 0) w=(row M x).1.getD l'.toNat 0::z1j M ((row M x).2.getD l'.toNat 0) w':=e
  injection e' with e1 e2
  have nd:(row M x).1.Nodup:=hp.nodup_iff.mpr (z42 n)
  have i1:l.toNat < (row M x).1.length:=by lia
  have i2:l'.toNat < (row M x).1.length:=by lia
  rw [List.getD_eq_getElem?_getD,List.getD_eq_getElem?_getD,List.getElem?_eq_getElem i1,List.getElem?_eq_getElem i2] at e1
  have e3:l.toNat=l'.toNat:=zgt nd i1 i2 e1
  have e4:l=l':=by lia
  subst e4
  obtain ⟨g0,g1,_⟩:=z88 G x0 x1 (show l.toNat < n by lia)
  rw [z95 G w w' _ h.tail h'.tail g0 g1 (by simpa using hl) e2]
def itW (M:List Row):Nat→List Int→List Int
 | 0,w=>w
 | k+1,w=>z1j M 0 (itW M k w)
theorem z3l (M:List Row):∀ (k:Nat) (w:List Int),(itW M k w).length=w.length
 | 0,_=>rfl
 | k+1,w=>by show (z1j M 0 _).length=_;rw [z1h,z3l M k w]
theorem z4n {n:Nat} {M:List Row} (G:z0j n M):∀ (k:Nat) (w:List Int),LW n w→LW n (itW M k w)
 | 0,_,h=>h
 | k+1,w,h=>zbD G _ 0 (z4n G k w h) (Int.le_refl 0) (by have:=G.some;lia)
theorem z79 (M:List Row) (j:Nat):∀ (k:Nat) (w:List Int),itW M (k+j) w=itW M k (itW M j w)
 | 0,w=>by rw [Nat.zero_add];rfl
 | k+1,w=>by
  rw [Nat.succ_add]
  show z1j M 0 (itW M (k+j) w)=z1j M 0 (itW M k (itW M j w))
  rw [z79 M j k w]
theorem zbg {n:Nat} {M:List Row} (G:z0j n M):∀ (k:Nat) (w w':List Int),LW n w→LW n w'→w.length=w'.length→itW M k w=itW M k w'→w=w'
 | 0,_,_,_,_,_,e=>e
 | k+1,w,w',h,h',hl,e=>zbg G k w w' h h' hl (z95 G _ _ 0 (z4n G k w h) (z4n G k w' h') (Int.le_refl 0) (by have:=G.some;lia) (by rw [z3l,z3l,hl]) e)
def z96 (M:List Row) (w:List Int) (r:Nat):Prop:=1≤r∧itW M r w=w∧∀ k,1≤k→k < r→itW M k w≠w
theorem zdT (p:Nat→Prop):∀ (N:Nat),(∃ k,1≤k∧k≤N∧p k)→∃ r,1≤r∧p r∧∀ k,1≤k→k < r→¬ p k
 | 0,h=>by obtain ⟨k,h1,h2,_⟩:=h;lia
 | N+1,h=>by
  by_cases e:∃ k,1≤k∧k≤N∧p k
  ·exact zdT p N e
  ·obtain ⟨k,h1,h2,hp⟩:=h
   have:k=N+1:=Classical.byContradiction fun z=>e ⟨k,h1,by lia,hp⟩
   subst this
   exact ⟨N+1,h1,hp,fun j j1 j2 z=>e ⟨j,j1,by lia,z⟩⟩
theorem z7Z {L:Nat} {f:Nat→Int} (h:¬ ((List.range L).map f).Nodup):∃ i j,i < j∧j < L∧f i=f j:=by
 refine Classical.byContradiction fun z=>h ?_
 rw [List.nodup_iff_pairwise_ne,List.pairwise_map]
 refine List.Pairwise.imp_of_mem (R:=fun a b=>a < b) (fun {a b} ha hb hab e=>?_) List.pairwise_lt_range
 exact z ⟨a,b,hab,List.mem_range.mp hb,e⟩
theorem zdm {n:Nat} {M:List Row} (G:z0j n M) (n0:0 < n) {w:List Int} (h:LW n w):∃ r,z96 M w r∧r≤n ^ w.length:=by
 have nn:¬ ((List.range (n ^ w.length+1)).map fun k=>z8h n (itW M k w)).Nodup:=fun z=>by
  have:=z3O (n:=n ^ w.length) z fun x hx=>by
   obtain ⟨k,_,rfl⟩:=List.mem_map.mp hx
   obtain ⟨_,h0,h1⟩:=z5i n0 (z4n G k w h)
   rw [z3l] at h1
   exact ⟨h0,by rw [Int.natCast_pow];exact h1⟩
  rw [List.length_map,List.length_range] at this
  lia
 obtain ⟨i,j,hij,hj,e⟩:=z7Z nn
 have ei:itW M i w=itW M j w:=by
  have h1:=(z5i n0 (z4n G i w h)).1
  have h2:=(z5i n0 (z4n G j w h)).1
  rw [z3l] at h1 h2
  rw [←h1,←h2,e]
 have ej:j=i+(j - i):=by lia
 rw [ej,z79] at ei
 have z1q:=zbg G i w (itW M (j - i) w) h (z4n G _ w h) (by rw [z3l]) ei
 obtain ⟨r,r1,rp,rm⟩:=zdT (fun k=>itW M k w=w) (j - i) ⟨j - i,by lia,Nat.le_refl _,z1q.symm⟩
 refine ⟨r,⟨r1,rp,rm⟩,?_⟩
 have:r≤j - i:=Nat.le_of_not_lt fun z=>rm (j - i) (by lia) z z1q.symm
 lia
theorem zdg {n:Nat} (n0:0 < n) (m:Nat):LW n (List.replicate m 0):=fun x hx=>by rw [(List.mem_replicate.mp hx).2];lia
def z4p (K:PySem.W.Frag) (Cw Ct:Addr):Sp:=fun vs H Q E=>∃ (v u:V) (one:List Row) (n:Nat) (w:List Int),vs=[v,u]∧Dr K H (D.tup (z0s one)) v∧Dr K H (D.its w) u∧z0j n one∧2≤n∧n≤5∧w.length≤4900∧(LW n w→n ^ w.length≤1024→∀ r,z96 one w r→∀ H',z0h H H'→Q (.int (r:Int)) H')∧(LW n w→1024 < n ^ w.length→TMx Ct E H)∧(¬ LW n w→TMx Cw E H)
def z6W (K:PySem.W.Frag) (Ct Cb:Addr):Sp:=fun vs H Q E=>∃ (v:V) (one:List Row) (n:Nat) (many:Int),vs=[v,.int many]∧Dr K H (D.tup (z0s one)) v∧z0j n one∧2≤n∧n≤5∧many < 2 ^ 61∧(many < 0→TMx Cb E H)∧(0≤many→1024 < n ^ many.toNat→TMx Ct E H)∧(0≤many→n ^ many.toNat≤1024→∀ r,z96 one (List.replicate many.toNat 0) r→∀ H',z0h H H'→Q (.bl (decide (r=n ^ many.toNat))) H')
theorem z8o {l:List Int} {k:Nat} {x:Int} (e:l[k]?=some x):l.getD k 0=x:=by rw [List.getD_eq_getElem?_getD,e];rfl
theorem bk {n:Nat} {p:List Int} (h:IsP n p) {k:Nat} (hk:k < n):∃ l:Nat,l < n∧(z1q p).getD k 0=(l:Int)∧p.getD l 0=(k:Int):=by
 obtain ⟨l,hl,e1,e2⟩:=z5u h hk
 exact ⟨l,hl,z8o e1,z8o e2⟩
theorem z9H {l l':List Int} (hl:l.length=l'.length) (h:∀ k,k < l.length→l.getD k 0=l'.getD k 0):l=l':=by
 refine List.ext_getElem hl fun k k1 k2=>?_
 have:=h k k1
 rw [List.getD_eq_getElem?_getD,List.getD_eq_getElem?_getD,List.getElem?_eq_getElem k1,List.getElem?_eq_getElem k2] at this
 exact this
theorem z4V {r:Row} {k:Nat} (h:k < (z1q r.1).length):(z5C r).2.getD k 0=r.2.getD ((z1q r.1).getD k 0).toNat 0:=by
 show ((z1q r.1).map fun l=>r.2.getD l.toNat 0).getD k 0=_
 rw [z2E (f:=fun l=>r.2.getD l.toNat 0) h]
theorem zdn {n:Nat} {A B:List Row} (GA:z0j n A) (GB:z0j n B) (h4:A.length*B.length≤4000):shr (z2g (z0J A B))=shr (z0J (z2g B) (z2g A)):=by
 have GP:=z1e GA GB h4
 have GC:=z0M GP
 have GQ:=z1e (z0M GB) (z0M GA) (by rw [z0Z,z0Z,Nat.mul_comm];exact h4)
 have hB:=GB.some
 have hA:=GA.some
 refine z46 (h:=fun i=>(i % (B.length:Int))*(A.length:Int)+i / (B.length:Int)) GC GQ ?_ fun i hi=>?_
 ·show ((0:Int) % _)*_+(0:Int) / _=0
  rw [Int.zero_ediv,Int.zero_emod]
  lia
 obtain ⟨i0,i1⟩:=(z0q GC).1.rg i hi
 rw [z0Z,z0A] at i1
 rw [z1O i0 (by rw [z0A];exact i1),z18 i0 i1]
 show row (z0J (z2g B) (z2g A)) ((i % (B.length:Int))*(A.length:Int)+i / (B.length:Int))=_
 obtain ⟨⟨a0,a1⟩,b0,b1⟩:=pix i0 i1
 generalize i / (B.length:Int)=a at a0 a1
 generalize i % (B.length:Int)=b at b0 b1
 obtain ⟨j0,j1⟩:=z53 b0 b1 a0 a1
 rw [show (A.length:Int)=((z2g A).length:Int) by rw [z0Z]] at j0 j1 ⊢
 rw [z18 j0 (by rw [z0Z B];rw [z0Z] at j1 ⊢;exact j1)]
 have a1':a < ((z2g A).length:Int):=by rw [z0Z];exact a1
 rw [(dvm a0 a1').1,(dvm a0 a1').2,z1O b0 b1,z1O a0 a1]
 have mr:=z0o a0 a1
 have ms:=z0o b0 b1
 have hp:=GA.perm _ mr
 have hq:=GB.perm _ ms
 have lp:=hp.len
 have lq:=hq.len
 have hpq:=z9M hp hq
 have bl1:(z1q (row B b).1).length=n:=by rw [z1P,lq]
 have bl2:(z1q (row A a).1).length=n:=by rw [z1P,lp]
 have bl3:(z1q (z1L (row A a).1 (row B b).1)).length=n:=by rw [z1P,hpq.len]
 have key:∀ k,k < n→∃ l j:Nat,l < n∧j < n∧(z1q (row B b).1).getD k 0=(l:Int)∧(z1q (row A a).1).getD l 0=(j:Int)∧(row A a).1.getD j 0=(l:Int)∧(z1q (z1L (row A a).1 (row B b).1)).getD k 0=(j:Int):=fun k hk=>by
  obtain ⟨l,hl,e1,e2⟩:=bk hq hk
  obtain ⟨j,hj,e3,e4⟩:=bk hp hl
  refine ⟨l,j,hl,hj,e1,e3,e4,?_⟩
  have e5:(z1L (row A a).1 (row B b).1)[j]?=some (k:Int):=by
   have:(z1L (row A a).1 (row B b).1).getD j 0=(k:Int):=by rw [z3v (by lia),e4,Int.toNat_natCast,e2]
   have hj':j < (z1L (row A a).1 (row B b).1).length:=by rw [hpq.len];exact hj
   rw [List.getD_eq_getElem?_getD,List.getElem?_eq_getElem hj'] at this
   rw [List.getElem?_eq_getElem hj']
   exact congrArg some this
  have:=z6w hpq e5
  rw [Int.toNat_natCast] at this
  exact z8o this
 refine Prod.ext ?_ ?_
 ·show z1L (z1q (row B b).1) (z1q (row A a).1)=z1q (z1L (row A a).1 (row B b).1)
  refine z9H (by unfold z1L;rw [List.length_map,bl1,z1P,List.length_map,lp]) fun k hk=>?_
  have hkn:k < n:=by unfold z1L at hk;rw [List.length_map,bl1] at hk;exact hk
  obtain ⟨l,j,hl,hj,e1,e3,e4,e6⟩:=key k hkn
  rw [z3v (by lia),e1,Int.toNat_natCast,e3,e6]
 ·refine z9H ?_ fun k hk=>?_
  ·show (List.map _ (List.range (z1q (row B b).1).length)).length=(List.map _ (List.map _ _)).length
   rw [List.length_map,List.length_range,List.length_map,List.length_map]
   show _=(z1q (z1L (row A a).1 (row B b).1)).length
   rw [bl1,bl3]
  ·have hkn:k < n:=by
    have:(zbj (z2g A).length (z5C (row B b)) (z5C (row A a))).2.length=(z1q (row B b).1).length:=by
     show (List.map _ (List.range (z1q (row B b).1).length)).length=_
     rw [List.length_map,List.length_range]
    rw [this,bl1] at hk
    exact hk
   obtain ⟨l,j,hl,hj,e1,e3,e4,e6⟩:=key k hkn
   have lg:=GA.len _ mr
   have lh:=GB.len _ ms
   obtain ⟨g0,g1,_⟩:=z88 GB b0 b1 hl
   rw [z2V (by show k < (z1q (row B b).1).length;lia)]
   rw [z4V (by lia),e1,Int.toNat_natCast]
   show _*_+(z5C (row A a)).2.getD ((z1q (row B b).1).getD k 0).toNat 0=_
   rw [e1,Int.toNat_natCast,z4V (by lia),e3,Int.toNat_natCast]
   rw [z2E (by
    show k < ((z1q (z1L (row A a).1 (row B b).1)).map _).length
    rw [List.length_map];lia)]
   rw [z4V (by show k < (z1q (z1L (row A a).1 (row B b).1)).length;lia)]
   show _=(fun i=>(i % (B.length:Int))*((z2g A).length:Int)+i / (B.length:Int)) ((zbj B.length (row A a) (row B b)).2.getD ((z1q (z1L (row A a).1 (row B b).1)).getD k 0).toNat 0)
   rw [e6,Int.toNat_natCast,z2V (by lia),e4,Int.toNat_natCast]
   show _=(((row A a).2.getD j 0*(B.length:Int)+(row B b).2.getD l 0) % (B.length:Int))*((z2g A).length:Int)+((row A a).2.getD j 0*(B.length:Int)+(row B b).2.getD l 0) / (B.length:Int)
   rw [(dvm g0 g1).1,(dvm g0 g1).2]
theorem z9b {n:Nat} {F:List Row} (G:z0j n F) (hf:shr F=F):(shr (z2g F)).length=F.length:=by
 have h1:=z3y (z0M G)
 rw [z0Z] at h1
 have h2:=z3y (z0M (z1E (z0M G)))
 rw [zcu G,hf,z0Z] at h2
 lia
theorem zaO {n:Nat} {S:List Row} (G:z0j n S) (h8:S.length≤8):∀ j,(∀ i,i≤j→(pw n S i).length≤60)→shr (z0J S (pw n S j))=shr (z0J (pw n S j) S)
 | 0,_=>by
  show shr (z0J S (z0w n))=shr (z0J (z0w n) S)
  rw [z9X G,z65 G]
 | j+1,h=>by
  have hj:=h j (by lia)
  obtain ⟨Gj,_⟩:=z5G G (by lia) j fun i hi=>h i (by lia)
  have b1:(pw n S j).length*S.length≤60*8:=Nat.mul_le_mul hj h8
  have b2:S.length*(pw n S j).length≤8*60:=Nat.mul_le_mul h8 hj
  have G1:=z1e Gj G (by lia)
  have G2:=z1e G Gj (by lia)
  have b3:S.length*((pw n S j).length*S.length)≤8*(60*8):=Nat.mul_le_mul h8 b1
  have b4:S.length*(pw n S j).length*S.length≤8*60*8:=Nat.mul_le_mul b2 h8
  show shr (z0J S (shr (z0J (pw n S j) S)))=shr (z0J (shr (z0J (pw n S j) S)) S)
  rw [zc3 G G1 (by rw [z0A];lia),←zai G Gj G,←zbq G2 G (by rw [z0A];lia),zaO G h8 j (fun i hi=>h i (by lia))]
theorem z8m {n:Nat} {one:List Row} (G:z0j n one) (h8:one.length≤8):∀ j,(∀ i,i < j→(pw n one i).length≤60)→shr (z2g (pw n one j))=pw n (shr (z2g one)) j
 | 0,_=>zaI
 | j+1,h=>by
  have GC:=z0M G
  have GS:=z1E GC
  have hS:(shr (z2g one)).length≤8:=by have:=z3y GC;rw [z0Z] at this;lia
  have hj:=h j (by lia)
  obtain ⟨Gj,fj⟩:=z5G G (by lia) j fun i hi=>h i (by lia)
  have same:∀ i,i≤j→(pw n (shr (z2g one)) i).length≤60:=fun i hi=>by
   obtain ⟨Gi,fi⟩:=z5G G (by lia) i fun k hk=>h k (by lia)
   rw [←z8m G h8 i fun k hk=>h k (by lia),z9b Gi fi]
   exact h i (by lia)
  have b1:(pw n one j).length*one.length≤60*8:=Nat.mul_le_mul hj h8
  have b2:(z2g one).length*(z2g (pw n one j)).length≤8*60:=by rw [z0Z,z0Z];exact Nat.mul_le_mul h8 hj
  show shr (z2g (shr (z0J (pw n one j) one)))=shr (z0J (pw n (shr (z2g one)) j) (shr (z2g one)))
  rw [zew (z1e Gj G (by lia)),zdn Gj G (by lia),←zdA GC (z0M Gj) (by lia),z8m G h8 j fun i hi=>h i (by lia),zaO GS hS j same]
def zgz (n:Nat) (one:List Row) (m:Nat):Prop:=∀ i,i≤m→(pw n one i).length≤60
def tmS (n:Nat) (one:List Row) (many:Int):List Row:=pw n (if many < 0 then shr (z2g one) else one) many.natAbs
def zii (n:Nat) (one:List Row):Prop:=z0j n one∧shr one=one∧one.length≤8∧2≤n∧n≤60
def z8E (Ts:List Tb) (K:PySem.W.Frag) (Ct Cb:Addr):Sp:=fun vs H Q E=>∃ (v:V) (one:List Row) (n:Nat) (many:Int),vs=[v,.int many]∧z6H Ts H∧Dr K H (D.tup (z0s one)) v∧zii n one ∧
 (¬ (-64≤many∧many≤64)→zfl Ts Cb E H)∧(-64≤many∧many≤64→¬ zgz n one many.natAbs→zfl Ts Ct E H)∧(-64≤many∧many≤64→zgz n one many.natAbs→zaz Ts K H Q (D.tup (z0s (tmS n one many))))
theorem zi8 (i:Int):(if i < 0 then -i else i)=((i.natAbs:Nat):Int):=by
 by_cases h:i < 0
 ·rw [if_pos h];lia
 ·rw [if_neg h];lia
theorem zfF {α:Type} {us:List α} (h:us.length=1):∃ a,us=[a]:=by
 cases us with
 | nil=>cases h
 | cons a r =>
  cases r with
  | nil=>exact ⟨a,rfl⟩
  | cons _ _=>simp at h
theorem zh9 {α:Type} {us:List α} (h:us.length=2):∃ a b,us=[a,b]:=by
 cases us with
 | nil=>cases h
 | cons a r =>
  obtain ⟨b,rfl⟩:=zfF (show r.length=1 by simpa using h)
  exact ⟨a,b,rfl⟩
theorem zi5 {α:Type} {us:List α} (h:us.length=3):∃ a b c,us=[a,b,c]:=by
 cases us with
 | nil=>cases h
 | cons a r =>
  obtain ⟨b,c,rfl⟩:=zh9 (show r.length=2 by simpa using h)
  exact ⟨a,b,c,rfl⟩
section
variable (P:Program) (w:World) (K:PySem.W.Frag) (mg:Str→Option Value) (base:Heap) (CX:CXT) (k:Nat)
def z8A (Cm:V→Addr→Hp→List Row→Prop):Sp:=fun vs H Q _=>∃ (f:Addr) (v0:V) (n:Nat) (rows:List Row),vs=[v0,.ref f]∧Cm v0 f H rows∧z0j n rows∧n≤60∧∀ (r:Addr) (H':Hp),z0h H H'→z3W K H' r (z0F rows)→Q (.ref r) H'
def z76 (Cm:V→Addr→Hp→List Row→Prop) (Ct:Addr):Sp:=fun vs H Q E=>∃ (f:Addr) (v0:V) (n:Nat) (rows:List Row),vs=[v0,.ref f]∧Cm v0 f H rows∧z0j n rows∧n≤60 ∧
 ((shr rows).length≤60→z2X K H Q (D.tup (z0s (shr rows))))∧(60 < (shr rows).length→TMx Ct E H)
def CmF:V→Addr→Hp→List Row→Prop:=fun v0 f H rows=>∃ nm:Int→Int,v0=.int (nm 0)∧(∀ x y,nm x=nm y→x=y)∧z3V P w K mg base CX k H f (zcJ K rows nm)
def CmP:V→Addr→Hp→List Row→Prop:=fun v0 f H rows=>∃ m:Nat,Dr K H (pr m 0) v0∧z3V P w K mg base CX k H f (z97 K rows m)
end
section
variable {P:Program} {w:World} {K:PySem.W.Frag} {mg:Str→Option Value} {base:Heap} {CX:CXT} {k:Nat} {Ct:Addr}
theorem zgn (vs:List V) (H:Hp) (Q:VK) (E:XK) (h:z8A K (CmF P w K mg base CX k) vs H Q E):z8l P w K mg base CX k vs H Q E:=by
 obtain ⟨f,v0,n,rows,rfl,⟨nm,rfl,ni,hV⟩,G,hn,q⟩:=h
 exact ⟨f,n,rows,nm,rfl,ni,hV,G,hn,q⟩
theorem zfr (vs:List V) (H:Hp) (Q:VK) (E:XK) (h:z8A K (CmP P w K mg base CX k) vs H Q E):z8w P w K mg base CX k vs H Q E:=by
 obtain ⟨f,v0,n,rows,rfl,⟨m,d,hV⟩,G,hn,q⟩:=h
 exact ⟨f,v0,n,rows,m,rfl,d,hV,G,hn,q⟩
theorem zeq (vs:List V) (H:Hp) (Q:VK) (E:XK) (h:z6o P w K mg base CX k Ct vs H Q E):z76 K (CmF P w K mg base CX k) Ct vs H Q E:=by
 obtain ⟨f,n,rows,nm,rfl,ni,hV,G,hn,q⟩:=h
 exact ⟨f,_,n,rows,rfl,⟨nm,rfl,ni,hV⟩,G,hn,q⟩
theorem zfj (vs:List V) (H:Hp) (Q:VK) (E:XK) (h:z6k P w K mg base CX k Ct vs H Q E):z76 K (CmP P w K mg base CX k) Ct vs H Q E:=by
 obtain ⟨f,v0,n,rows,m,rfl,d,hV,G,hn,q⟩:=h
 exact ⟨f,v0,n,rows,rfl,⟨m,d,hV⟩,G,hn,q⟩
end
end Gu
namespace Gu
open PySem L2
theorem zeC {K:PySem.W.Frag} {a:Addr} {xs:List V} {g:TG} {tb:TS} {D:z3Z} {σ:St} {H:Hp} (Pv:Nat→St→Hp→Prop) (h0:Pv 0 σ H) (hl:∀ i σ H,i≤xs.length→Pv i σ H→SqL K H a xs)
  (hs:∀ i x σ H,xs[i]?=some x→Pv i σ H→∀ Ed:z3Z,(∀ σ' H',Pv (i+1) σ' H'→Ed.nx σ' H')→g x σ H fun σ2 H2=>tb Ed σ2 H2) (hd:∀ σ H,Pv xs.length σ H→D.nx σ H) :
  ∃ W:Nat→Nat→St→Hp→Prop,(∃ m,W 0 m σ H)∧∀ i m σ H,W i m σ H →
   ((Itl K a).stop i H∧D.nx σ H)∨((Itl K a).go i H∧∃ N:St→Hp→Prop,(∀ σ' H',N σ' H'→∃ m',m' < m∧W (i+1) m' σ' H')∧∀ x H',(Itl K a).yld i H x H'→g x σ H' fun σ2 H2=>tb { D with nx:=N,ct:=N,bk:=D.nx } σ2 H2) :=
 zcH Pv h0 hl (fun i x σ H hx p=>hs i x σ H hx p _ fun _ _ z=>z) hd
theorem zgM {K:PySem.W.Frag} {a:Addr} {xs:List V} {g:TG} {tb:TS} {D:z3Z} {σ:St} {H:Hp} (Pv:Nat→St→Hp→Prop) (h0:Pv 0 σ H) (hl:∀ i σ H,i≤xs.length→Pv i σ H→SqT K H a xs)
  (hs:∀ i x σ H,xs[i]?=some x→Pv i σ H→∀ Ed:z3Z,(∀ σ' H',Pv (i+1) σ' H'→Ed.nx σ' H')→g x σ H fun σ2 H2=>tb Ed σ2 H2) (hd:∀ σ H,Pv xs.length σ H→D.nx σ H) :
  ∃ W:Nat→Nat→St→Hp→Prop,(∃ m,W 0 m σ H)∧∀ i m σ H,W i m σ H →
   ((Itt K a).stop i H∧D.nx σ H)∨((Itt K a).go i H∧∃ N:St→Hp→Prop,(∀ σ' H',N σ' H'→∃ m',m' < m∧W (i+1) m' σ' H')∧∀ x H',(Itt K a).yld i H x H'→g x σ H' fun σ2 H2=>tb { D with nx:=N,ct:=N,bk:=D.nx } σ2 H2) :=
 zc5 Pv h0 hl (fun i x σ H hx p=>hs i x σ H hx p _ fun _ _ z=>z) hd
theorem ze5 {W:Nat→St→Hp→Prop} {m:Nat} {T:(St→Hp→Prop)→Prop} (h:∀ N:St→Hp→Prop,(∀ m' σ' H',m' < m→W m' σ' H'→N σ' H')→T N):∃ N:St→Hp→Prop,(∀ σ' H',N σ' H'→∃ m',m' < m∧W m' σ' H')∧T N :=
 ⟨fun σ' H'=>∃ m',m' < m∧W m' σ' H',fun _ _ z=>z,h _ fun m' σ' H' a b=>⟨m',a,b⟩⟩
theorem z8g {lo:Int} {n:Nat} {g:TG} {tb:TS} {D:z3Z} {σ:St} {H:Hp} (Pv:Nat→St→Hp→Prop) (h0:Pv 0 σ H)
  (hs:∀ i σ H,i < n→Pv i σ H→∀ Ed:z3Z,(∀ σ' H',Pv (i+1) σ' H'→Ed.nx σ' H')→g (.int (lo+i)) σ H fun σ2 H2=>tb Ed σ2 H2) (hd:∀ σ H,Pv n σ H→D.nx σ H) :
  ∃ W:Nat→Nat→St→Hp→Prop,(∃ m,W 0 m σ H)∧∀ i m σ H,W i m σ H →
   ((Itr lo n).stop i H∧D.nx σ H)∨((Itr lo n).go i H∧∃ N:St→Hp→Prop,(∀ σ' H',N σ' H'→∃ m',m' < m∧W (i+1) m' σ' H')∧∀ x H',(Itr lo n).yld i H x H'→g x σ H' fun σ2 H2=>tb { D with nx:=N,ct:=N,bk:=D.nx } σ2 H2) :=
 z4J Pv h0 (fun i σ H hi p=>hs i σ H hi p _ fun _ _ z=>z) hd
theorem zhN {c:TT} {tb:TS} {D:z3Z} {σ:St} {H:Hp} (Post:St→Hp→Prop) (h1:∀ Ed:z3Z,(∀ σ' H',Post σ' H'→Ed.nx σ' H')→z8e c tb Ed σ H) (h2:∀ σ' H',Post σ' H'→D.nx σ' H'):z8e c tb D σ H:=h1 D h2
theorem zhS {t1 t2:TS} {D:z3Z} {σ:St} {H:Hp} (Post:St→Hp→Prop) (h1:∀ Ed:z3Z,(∀ σ' H',Post σ' H'→Ed.nx σ' H')→t1 Ed σ H) (h2:∀ σ' H',Post σ' H'→t2 D σ' H'):zgE t1 t2 D σ H:=h1 _ h2
theorem zhV {K:PySem.W.Frag} {a b:Addr} {xs ys:List V} {g:TG} {tb:TS} {D:z3Z} {σ:St} {H:Hp} (hlen:xs.length=ys.length) (Pv:Nat→St→Hp→Prop) (h0:Pv 0 σ H) (hl:∀ i σ H,i≤xs.length→Pv i σ H→SqL K H a xs∧SqL K H b ys)
  (hs:∀ i x y p σ H,xs[i]?=some x→ys[i]?=some y→Pv i σ H→H p=none→∀ Ed:z3Z,(∀ σ' H',Pv (i+1) σ' H'→Ed.nx σ' H')→g (.ref p) σ (upd H p (.tup [x,y])) fun σ2 H2=>tb Ed σ2 H2) (hd:∀ σ H,Pv xs.length σ H→D.nx σ H) :
  ∃ W:Nat→Nat→St→Hp→Prop,(∃ m,W 0 m σ H)∧∀ i m σ H,W i m σ H →
   ((Itz K a b).stop i H∧D.nx σ H)∨((Itz K a b).go i H∧∃ N:St→Hp→Prop,(∀ σ' H',N σ' H'→∃ m',m' < m∧W (i+1) m' σ' H')∧∀ x H',(Itz K a b).yld i H x H'→g x σ H' fun σ2 H2=>tb { D with nx:=N,ct:=N,bk:=D.nx } σ2 H2) :=
 zeQ hlen Pv h0 hl (fun i x y p σ H hx hy h hp=>hs i x y p σ H hx hy h hp _ fun _ _ z=>z) hd
theorem zho {K:PySem.W.Frag} {a:Addr} {xs:List V} {g:TG} {tb:TS} {D:z3Z} {σ:St} {H:Hp} (Pv:Nat→St→Hp→Prop) (h0:Pv 0 σ H) (hl:∀ i σ H,i≤xs.length→Pv i σ H→SqT K H a xs)
  (hs:∀ i x p σ H,xs[i]?=some x→Pv i σ H→H p=none→∀ Ed:z3Z,(∀ σ' H',Pv (i+1) σ' H'→Ed.nx σ' H')→g (.ref p) σ (upd H p (.tup [.int (i:Nat),x])) fun σ2 H2=>tb Ed σ2 H2) (hd:∀ σ H,Pv xs.length σ H→D.nx σ H) :
  ∃ W:Nat→Nat→St→Hp→Prop,(∃ m,W 0 m σ H)∧∀ i m σ H,W i m σ H →
   ((Ite K a).stop i H∧D.nx σ H)∨((Ite K a).go i H∧∃ N:St→Hp→Prop,(∀ σ' H',N σ' H'→∃ m',m' < m∧W (i+1) m' σ' H')∧∀ x H',(Ite K a).yld i H x H'→g x σ H' fun σ2 H2=>tb { D with nx:=N,ct:=N,bk:=D.nx } σ2 H2) :=
 zdp Pv h0 hl (fun i x p σ H hx h hp=>hs i x p σ H hx h hp _ fun _ _ z=>z) hd
theorem zev {n:Nat} {A B:List Row} (GA:z0j n A) (GB:z0j n B) {a b:Int} (a0:0≤a) (a1:a < (A.length:Int)) (b0:0≤b) (b1:b < (B.length:Int)):row (z0J A B) (a*(B.length:Int)+b)=zbj B.length (row A a) (row B b):=by
 obtain ⟨v0,v1⟩:=z53 a0 a1 b0 b1
 rw [z18 v0 v1,(dvm b0 b1).1,(dvm b0 b1).2]
end Gu
namespace L2
open PySem PySem.Spec PyProof.Rows PySem.SeqAt
section
variable {X:Cx} (K:PySem.W.Frag)
theorem zbf (hK:X.K=K) (hu:X.A.units+64 < cLine):OpR X (compareOp .NotEq) (fun x y H Q=>∃ (ds es:List D),Dr K H (.tup ds) x∧Dr K H (.tup es) y∧D.okL ds es∧D.depL ds≤50∧Q (.bl (!D.eq (.tup ds) (.tup es))) H):=by
 subst hK
 intro pins s σ H x y v u Q I rx ry h
 obtain ⟨ds,es,hx,hy,o,hd,q⟩:=h
 simp only [Dr] at hx hy
 obtain ⟨l,vs,rfl,q1,r⟩:=hx
 obtain ⟨b,us,rfl,q2,r'⟩:=hy
 cases rx
 cases ry
 obtain ⟨its,rv,pl,_⟩:=I.tuple (SqT.of q1)
 obtain ⟨itt,rv',pl',_⟩:=I.tuple (SqT.of q2)
 have R:=RcNeAt.tuples (A:=X.A) (e:=D.at_ ds es) pl pl' (by lia) (fun j h1 h2=>by
  have l1:=rv.length
  have l2:=rv'.length
  have l3:=r.length
  have l4:=r'.length
  have h1':j < its.length:=by simpa using h1
  have h2':j < itt.length:=by simpa using h2
  have e1:ds[j]?=some ds[j]:=List.getElem?_eq_getElem (by lia)
  have e2:es[j]?=some es[j]:=List.getElem?_eq_getElem (by lia)
  obtain ⟨x1,g1,d1⟩:=r.get e1
  obtain ⟨x2,g2,d2⟩:=r'.get e2
  obtain ⟨u1,k1,z5⟩:=rv.get g1
  obtain ⟨u2,k2,z6⟩:=rv'.get g2
  have z1:u1=its.toArray[j]:=by
   rw [List.getElem?_eq_getElem h1'] at k1
   have:=Option.some.inj k1
   simpa using this.symm
  have z2:u2=itt.toArray[j]:=by
   rw [List.getElem?_eq_getElem h2'] at k2
   have:=Option.some.inj k2
   simpa using this.symm
  have z3:D.at_ ds es j=D.eq ds[j] es[j]:=by unfold D.at_;rw [e1,e2]
  rw [z3,←z1,←z2]
  exact (zg4 I 50 X.A.in1 (Nat.le_trans (D.depL_get e1) hd) (by show X.A.units+1+50 < cLine;lia) d1 d2 (D.okL_get o e1 e2) z5 z6).1)
 have e1:its.toArray.size=ds.length:=by rw [r.length,rv.length];simp
 have e2:itt.toArray.size=es.length:=by rw [r'.length,rv'.length];simp
 rw [e1,e2,D.all_eqL] at R
 have e3:D.eq (.tup ds) (.tup es)=D.eqL ds es:=by simp only [D.eq]
 rw [e3] at q
 exact R _ _ _ _ ⟨.bl _,H,I,rfl,q⟩
end
end L2
namespace Gu
open PySem L2
theorem zbu {K:PySem.W.Frag} {H:Hp} {ds:List D} {v:V} (h:Dr K H (.tup ds) v):∃ a,v=.ref a:=by
 simp only [Dr] at h
 obtain ⟨a,_,e,_⟩:=h
 exact ⟨a,e⟩
def fuL:List Int→List Int→Nat
 | a::as,b::bs=>if a=b then fuL as bs+1 else 0
 | _,_=>0
def pgo (m:Nat) (R S:Row):List Int:=(List.range R.2.length).map fun k=>R.2.getD k 0*(m:Int)+S.2.getD k 0
def prM (one other:List Row):List Row:=(z0z (one.length*other.length)).map fun c=>((row one (c / (other.length:Int))).1,pgo other.length (row one (c / (other.length:Int))) (row other (c % (other.length:Int))))
theorem zeI {n N:Nat} {gs:List Int} (hl:gs.length=n) (hg:∀ g∈gs,0≤g∧g < (N:Int)) {k:Nat} (hk:k < n):gs[k]?=some (gs.getD k 0)∧0≤gs.getD k 0∧gs.getD k 0 < (N:Int):=by
 have e:gs[k]?=some gs[k]:=List.getElem?_eq_getElem (by lia)
 rw [List.getD_eq_getElem?_getD,e]
 exact ⟨rfl,hg _ (List.getElem_mem (by lia))⟩
def zfd (w:List Int):List Int→List (List Int)→Nat→List Int→List (List Int)
 | _,ws,_,[]=>ws
 | o,ws,k,g::gs=>if g∈o then zfd w o ws (k+1) gs else zfd w (o++[g]) (ws++[w++[(k:Int)]]) (k+1) gs
def pb (one other:List Row):Nat→List Int→List (List Int)→Nat→Option (List Int)
 | 0,_,_,_=>none
 | f+1,o,ws,i=>match o[i]?,ws[i]? with
  | some c,some w=>if (row one (c / (other.length:Int))).1=(row other (c % (other.length:Int))).1 then pb one other f (z0d o (row (prM one other) c).2) (zfd w o ws 0 (row (prM one other) c).2) (i+1)
   else some (w++[((fuL (row one (c / (other.length:Int))).1 (row other (c % (other.length:Int))).1:Nat):Int)])
  | _,_=>none
def zh5 (one other:List Row):Option (List Int):=pb one other (one.length*other.length+1) [0] [[]] 0
end Gu
namespace L2
open PySem PySem.Spec PyProof.Rows
section
variable {prog:Program} {w:World} {A:Around} {E:Value→Shared→Prop} {s:Shared} {z TI TO i1 i2:Addr} {fp1 fp2:List Addr} {n1 n2:Nat} {P1 P2:Nat→Value→Prop} {S1 S2:Nat→Heap→Prop}
end
end L2
namespace L2
open PySem PySem.Spec PyProof.Rows
section
variable {X:Cx} {elts:List Expr} {tk:Nat} {tp:Pos}
end
end L2
namespace Gu
open PySem L2
theorem z6G:∀ ws:List (List Int),D.keyL (ws.map D.its)
 | []=>by simp only [List.map_nil,D.keyL]
 | w::ws=>by simp only [List.map_cons,D.keyL];exact ⟨z2W w,z6G ws⟩
theorem its_inv {K:PySem.W.Frag} {H:Hp} {w:List Int} {v:V} (h:Dr K H (D.its w) v):∃ a,v=.ref a∧H a=some (.tup (w.map V.int)):=by
 simp only [Dr] at h
 obtain ⟨a,vs,e,s,d⟩:=h
 rw [DrL.ints_inv d] at s
 exact ⟨a,e,s⟩
theorem z3c {K:PySem.W.Frag} {H:Hp} {w:List Int} {a:Addr} (h:H a=some (.tup (w.map V.int))):Dr K H (D.its w) (.ref a):=Dr.tup h (DrL.ints _)
end Gu
namespace L2
open PySem PySem.Spec PyProof.Rows
variable {X:Cx}
end L2
namespace Gu
open PySem L2
end Gu
namespace L2
open PySem PySem.Spec PyProof.Rows
section
variable {prog:Program} {w:World} {A:Around} {R:Result→Shared→Prop} {s:Shared}
theorem z8z (elt t1 i1 t2 i2:Expr) (scope:Scope) (pos:Pos) (it acc:Value) (env:Env) :
  compTurn (.ListComp elt [⟨t1,i1,[],0⟩,⟨t2,i2,[],0⟩] scope pos) 1 it acc env=(standAt i2.pos >>= fun _=>pyNext it >>= fun r=>match r with
   | none=>pure (.done .next)
   | some v=>letOwnedTupleGo t2 it v >>= fun _=>assign t2 env v >>= fun _ =>
    (eval elt env >>= fun x=>call (.builtin "list.append") [acc,x] >>= fun _=>pure ()) >>= fun _ =>
     again (.compLoop (.ListComp elt [⟨t1,i1,[],0⟩,⟨t2,i2,[],0⟩] scope pos) 1 it acc env)):=by rfl
theorem z7C (elt t1 i1 t2 i2:Expr) (scope:Scope) (pos:Pos) (it acc:Value) (env:Env) :
  compTurn (.ListComp elt [⟨t1,i1,[],0⟩,⟨t2,i2,[],0⟩] scope pos) 0 it acc env=(standAt i1.pos >>= fun _=>pyNext it >>= fun r=>match r with
   | none=>pure (.done .next)
   | some v=>letOwnedTupleGo t1 it v >>= fun _=>assign t1 env v >>= fun _ =>
    eval i2 env >>= fun x=>standAt i2.pos >>= fun _=>foldedSetIterable i2 env x >>= fun x=>holding [x] (pyIter x) >>= fun it2=>runOwn (.compStart (.ListComp elt [⟨t1,i1,[],0⟩,⟨t2,i2,[],0⟩] scope pos) 1 it2 acc env) env >>= fun _ =>
     again (.compLoop (.ListComp elt [⟨t1,i1,[],0⟩,⟨t2,i2,[],0⟩] scope pos) 0 it acc env)):=by rfl
theorem z8F {elt t1 i1 t2 i2:Expr} {scope:Scope} {pos:Pos} {it acc:Value} {env:Env} (I:Nat→Shared→Prop)
  (z1L:∀ n s,I n s→wpAny (model prog w) A (pyNext it) (fun r s1=>match r with
   | none=>R (.ok .next) s1
   | some v=>wpAny (model prog w) A (letOwnedTupleGo t2 it v) (fun _ s2=>wpAny (model prog w) A (assign t2 env v) (fun _ s3=>wpAny (model prog w) A (eval elt env) (fun x s4 =>
     wpAny (model prog w) A (call (.builtin "list.append") [acc,x]) (fun _ s5=>∃ m,m < n∧I m s5) noE s4) noE s3) noE s2) noE s1) noE s)
  (n:Nat) (h:I n s):codeAny (model prog w) A (.compLoop (.ListComp elt [⟨t1,i1,[],0⟩,⟨t2,i2,[],0⟩] scope pos) 1 it acc env) R s:=by
 have no:∀ (P:Value→Shared→Prop) (a:Value) (b:Shared),noE a b→P a b:=fun _ _ _ z=>False.elim z
 refine codeAny_loop rfl I (fun n s hI=>?_) n h
 show wpAny _ _ ((compTurn (.ListComp elt [⟨t1,i1,[],0⟩,⟨t2,i2,[],0⟩] scope pos) 1 it acc env).onRaise
  (fun x=>do noteFrame x env;theTreesLotGoes x)) _ _ s
 refine wpAny_noted ?_
 rw [z8z]
 refine wpAny_bind (wpAny_standAt (wpAny_bind (wpAny_mono (z1L n s hI) (fun r s1 h1=>?_) (no _))))
 cases r with
 | none=>exact wpAny_pure h1
 | some v =>
  refine wpAny_bind (wpAny_mono h1 (fun _ s2 h2=>?_) (no _))
  refine wpAny_bind (wpAny_mono h2 (fun _ s3 h3=>?_) (no _))
  refine wpAny_bind (wpAny_bind (wpAny_mono h3 (fun x s4 h4=>?_) (no _)))
  exact wpAny_bind (wpAny_mono h4 (fun _ s5 h5=>wpAny_pure (wpAny_pure ⟨rfl,h5⟩)) (no _))
theorem z8B {elt t1 i1 t2 i2:Expr} {scope:Scope} {pos:Pos} {it acc:Value} {env:Env} (hs:∀ x,foldedSetIterable i2 env x=pure x) (I:Nat→Shared→Prop)
  (z1L:∀ n s,I n s→wpAny (model prog w) A (pyNext it) (fun r s1=>match r with
   | none=>R (.ok .next) s1
   | some v=>wpAny (model prog w) A (letOwnedTupleGo t1 it v) (fun _ s2=>wpAny (model prog w) A (assign t1 env v) (fun _ s3=>wpAny (model prog w) A (eval i2 env) (fun x s4 =>
     wpAny (model prog w) A (pyIter x) (fun it2 s5=>∀ R':Result→Shared→Prop,(∀ s6,(∃ m,m < n∧I m s6)→R' (.ok .next) s6)→codeAny (model prog w) A (.compStart (.ListComp elt [⟨t1,i1,[],0⟩,⟨t2,i2,[],0⟩] scope pos) 1 it2 acc env) R' s5) noE s4) noE s3) noE s2) noE s1) noE s)
  (n:Nat) (h:I n s):codeAny (model prog w) A (.compLoop (.ListComp elt [⟨t1,i1,[],0⟩,⟨t2,i2,[],0⟩] scope pos) 0 it acc env) R s:=by
 have no:∀ (P:Value→Shared→Prop) (a:Value) (b:Shared),noE a b→P a b:=fun _ _ _ z=>False.elim z
 refine codeAny_loop rfl I (fun n s hI=>?_) n h
 show wpAny _ _ ((compTurn (.ListComp elt [⟨t1,i1,[],0⟩,⟨t2,i2,[],0⟩] scope pos) 0 it acc env).onRaise
  (fun x=>do noteFrame x env;theTreesLotGoes x)) _ _ s
 refine wpAny_noted ?_
 rw [z7C]
 refine wpAny_bind (wpAny_standAt (wpAny_bind (wpAny_mono (z1L n s hI) (fun r s1 h1=>?_) (no _))))
 cases r with
 | none=>exact wpAny_pure h1
 | some v =>
  refine wpAny_bind (wpAny_mono h1 (fun _ s2 h2=>?_) (no _))
  refine wpAny_bind (wpAny_mono h2 (fun _ s3 h3=>?_) (no _))
  refine wpAny_bind (wpAny_mono h3 (fun x s4 h4=>?_) (no _))
  refine wpAny_bind (wpAny_standAt ?_)
  rw [hs]
  refine wpAny_bind (wpAny_pure (wpAny_bind (wpAny_holding (wpAny_mono h4 (fun it2 s5 h5=>?_) (no _)))))
  exact wpAny_bind (wpAny_runOwn (h5 _ fun s6 h6=>wpAny_pure ⟨rfl,h6⟩))
theorem z8a {elt t1 i1 t2 i2 scope pos it acc env}
  (h0:codeAny (model prog w) A (.compLoop (.ListComp elt [⟨t1,i1,[],0⟩,⟨t2,i2,[],0⟩] scope pos) 1 it acc env) R s)
  (h:wpAny (model prog w) A (pyIter it) (fun it' s'=>codeAny (model prog w) A (.compLoop (.ListComp elt [⟨t1,i1,[],0⟩,⟨t2,i2,[],0⟩] scope pos) 1 it' acc env) R s')
   (notedBy (model prog w) A env fun x s'=>R (.error x) s') s) :
  codeAny (model prog w) A (.compStart (.ListComp elt [⟨t1,i1,[],0⟩,⟨t2,i2,[],0⟩] scope pos) 1 it acc env) R s:=by
 refine codeAny_of_tree ?_
 show wpAny _ _ ((compStart (.ListComp elt [⟨t1,i1,[],0⟩,⟨t2,i2,[],0⟩] scope pos) 1 it acc env).onRaise (fun x=>do noteFrame x env;standAt theWindowsPlace)) _ _ s
 refine wpAny_notedAt ?_
 unfold compStart
 show wpAny _ _ (ask >>= _) _ _ s
 refine wpAny_bind (wpAny_askSetting (wpAny_ite ?_))
 split
 ·first
   | exact wpAny_bind (wpAny_pure (wpAny_pure (And.intro rfl h0)))
   | exact wpAny_pure (And.intro rfl h0)
 ·refine wpAny_bind (wpAny_rule ?_)
  refine wpAny_bind (wpAny_standAt (wpAny_bind (wpAny_mono h (fun it' s' h'=>wpAny_pure (And.intro rfl h')) fun _ _ z=>z)))
end
def inW (J2:It) (g2:TG) (te:TE) (σ2:St) (l:Addr) (ys:List V) (H3:Hp) (N:List V→Hp→Prop):Prop :=
 ∃ W:Nat→Nat→List V→St→Hp→Prop,(∃ m,W 0 m ys σ2 H3)∧∀ j m zs σ3 H,W j m zs σ3 H→H l=some (.lst zs) →
  (J2.stop j H∧N zs H)∨(J2.go j H∧zs.length < sizeLine∧∃ N2:List V→St→Hp→Prop,(∀ zs' σ' H',N2 zs' σ' H'→∃ m',m' < m∧W (j+1) m' zs' σ' H')∧∀ x H',J2.yld j H x H'→g2 x σ3 H' fun σ4 H4=>te σ4 H4 fun v H5 =>
   H5 l=some (.lst zs)∧N2 (zs++[v]) σ4 (upd H5 l (.lst (zs++[v]))))
def zb4 (ix:List (Option Nat)) (J:It) (g:TG) (wi2:TI) (g2:TG) (te:TE) (σ:St) (l:Addr) (H0:Hp) (Qe:Hp→Prop):Prop :=
 ∃ W:Nat→Nat→List V→Hp→Prop,(∃ m,W 0 m [] H0)∧∀ i m ys H,W i m ys H→H l=some (.lst ys) →
  (J.stop i H∧Qe H)∨(J.go i H∧∃ N:List V→Hp→Prop,(∀ zs H',N zs H'→∃ m',m' < m∧W (i+1) m' zs H')∧∀ x H',J.yld i H x H'→g x (z1k ix σ) H' fun σ2 H2=>wi2 σ2 H2 fun J2 H3 =>
   H3 l=some (.lst ys)∧inW J2 g2 te σ2 l ys H3 N)
def zfB (ix:List (Option Nat)) (wi:TI) (g:TG) (wi2:TI) (g2:TG) (te:TE):TE:=fun σ H Q=>wi σ H fun J H1=>∀ l,H1 l=none→zb4 ix J g wi2 g2 te σ l (upd H1 l (.lst [])) fun H'=>Q (.ref l) H'
section
variable {X:Cx} {pins:List (Addr × Obj)} {σ:St} {H:Hp} {s:Shared} {N:List Str} {ix:List (Option Nat)} {scope:Scope} {elt iter tg iter2 tg2:Expr} {pos:Pos} {g g2:TG} {wi2:TI} {te:TE} {E:Value→Shared→Prop}
theorem za6 {Y:Cx} {l it2:Addr} {t1 i1:Expr} {fp2:List Addr} {tn2:Nat→Heap→Prop} {J2:It} {pins:List (Addr × Obj)} {σ2:St} {H3:Hp} {s:Shared} {ys:List V} {NN:List V→Hp→Prop} {R:Result→Shared→Prop} (hx:Y.xe=noE) (hc:Y.calm=true)
  (hg:PG Y tg2 g2) (he:PE Y elt te) (I:Inv Y pins σ2 H3 s) (T:zcr Y.prog Y.w Y.K tg2 J2 fp2 it2 tn2) (st:tn2 0 s.heap) (hf:∀ b∈fp2,z6i Y pins H3 b) (hl:H3 l=some (.lst ys)) (hw:inW J2 g2 te σ2 l ys H3 NN)
  (hR:∀ s' σ' H' zs,Inv Y pins σ' H' s'→H' l=some (.lst zs)→NN zs H'→R (.ok .next) s') :
  codeAny (model Y.prog Y.w) Y.A (.compStart (.ListComp elt [⟨t1,i1,[],0⟩,⟨tg2,iter2,[],0⟩] scope pos) 1 (.ref it2) (.ref l) Y.env) R s:=by
 obtain ⟨W,⟨m0,w0⟩,z1L⟩:=hw
 have stat:∀ {H':Hp},(∀ b∈fp2,H' b=none)→∀ b∈fp2,z6i Y pins H' b:=fun hn b hb=>⟨hn b hb,(hf b hb).2⟩
 have loop:codeAny (model Y.prog Y.w) Y.A (.compLoop (.ListComp elt [⟨t1,i1,[],0⟩,⟨tg2,iter2,[],0⟩] scope pos) 1 (.ref it2) (.ref l) Y.env) R s:=by
  refine z8F (fun n s'=>∃ j zs σ' Hc,Inv Y pins σ' Hc s'∧tn2 j s'.heap∧(∀ b∈fp2,Hc b=none)∧Hc l=some (.lst zs)∧W j n zs σ' Hc) ?_ m0 ⟨0,ys,σ2,H3,I,st,fun b hb=>(hf b hb).1,hl,w0⟩
  rintro n s5 ⟨j,zs,σ5,Hc,J5,st5,fr5,hl5,w5⟩
  rcases z1L j n zs σ5 Hc w5 hl5 with ⟨stop,qe⟩ | ⟨go,hz,N2,hN2,step⟩
  ·refine thn (T.done Y rfl rfl rfl hc j pins s5 σ5 Hc noE J5 (stat fr5) st5 stop) fun r s6 h6=>?_
   obtain ⟨hr,J6⟩:=h6
   subst hr
   exact hR s6 σ5 Hc zs J6 hl5 qe
  ·refine thn (T.item Y rfl rfl rfl hc j pins s5 σ5 Hc noE J5 (stat fr5) st5 go) fun r s6 h6=>?_
   obtain ⟨u,hr,h6⟩:=h6
   subst hr
   refine thn h6 fun _ s7 h7=>?_
   obtain ⟨x,H7,J7,r7,y7,st7,fr7⟩:=h7
   have J7':=J7.pinned (stat fr7) (T.obj _ _ st7)
   have hgY:=hg _ s7 σ5 H7 x u _ J7' r7 (step x H7 y7)
   rw [hx] at hgY
   refine thn hgY fun _ s8 h8=>?_
   obtain ⟨σ8,H8,J8,q8⟩:=h8
   have heY:=he _ s8 σ8 H8 _ J8 q8
   rw [hx] at heY
   refine thn heY fun y s9 h9=>?_
   obtain ⟨v,H9,J9,r9,hl9,n9⟩:=h9
   obtain ⟨m',hm',w9⟩:=hN2 _ _ _ n9
   have hmt:=z0P (X:=Y) _ s9 σ8 H9 (.ref l) [v] (.ref l) [y] (fun z Hz=>z=.non∧Hz=upd H9 l (.lst (zs++[v]))) J9 rfl (.cons r9 .nil) ⟨_,zs,v,rfl,rfl,hl9,hz,rfl,rfl⟩
   rw [hx] at hmt
   refine thn hmt fun _ s10 h10=>?_
   obtain ⟨_,H10,J10,_,_,e10⟩:=h10
   subst e10
   refine ⟨m',hm',j+1,zs++[v],σ8,_,J10.unpinned,T.keep _ _ _ st7 fun b hb o e=>(J10.pin (b,o) (List.mem_append_right _ (List.mem_append_right _ (z1B hb e)))).1,fun b hb=>?_,z04,w9⟩
   obtain ⟨o,e,d⟩:=T.obj _ _ st7 b hb
   exact (J10.pin (b,o) (List.mem_append_right _ (List.mem_append_right _ (z1B hb e)))).2.1
 exact z8a loop (T.self _ 0 _ _ _ st loop)
theorem z8n {it:Addr} {fp:List Addr} {tn:Nat→Heap→Prop} {J:It} {Qe:Addr→Hp→Prop} {RR:Value→Addr→Result→Shared→Prop} (hc:X.calm=true) (S:z1l X.N X.env.scope N ix scope)
  (hg:∀ cl C ex s H,PG (z0S X N scope cl C ex s H) tg g) (hi2:∀ cl C ex s H,PI (z0S X N scope cl C ex s H) tg2 iter2 wi2) (hg2:∀ cl C ex s H,PG (z0S X N scope cl C ex s H) tg2 g2) (he:∀ cl C ex s H,PE (z0S X N scope cl C ex s H) elt te)
  (hs2:∀ env x,foldedSetIterable iter2 env x=pure x)
  (I:Inv X pins σ H s) (T:zcr X.prog X.w X.K tg J fp it tn) (st:tn 0 s.heap) (hf:∀ b∈fp,z6i X pins H b)
  (hw:∀ l,H l=none→zb4 ix J g wi2 g2 te σ l (upd H l (.lst [])) (Qe l))
  (hRR:∀ l C s' H' m,s'.heap.Ns C m→Inv X pins σ H' s'→z6i X pins H' C→Qe l H'→RR (.ref l) C (.ok .next) s') :
  wpAny (model X.prog X.w) X.A (newList []) (fun acc s3=>wpAny (model X.prog X.w) X.A (newFunctionEnv scope X.env.globals (z0E X.env.cells scope.names []) [] X.env.qual none .none (some X.env)) (fun cenv s4 =>
   codeAny (model X.prog X.w) X.A (.compStart (.ListComp elt [⟨tg,iter,[],0⟩,⟨tg2,iter2,[],0⟩] scope pos) 0 (.ref it) acc { cenv with scope:=relabel scope X.env }) (RR acc cenv.locals) s4) E s3) E s:=by
 have hlt:∀ b∈fp,b < s.heap.objs.size:=fun b hb=>by
  obtain ⟨o,e,_⟩:=T.obj 0 s.heap st b hb
  exact Heap.lt_size e
 have hl0:H s.heap.objs.size=none:=I.fresh
 obtain ⟨W,⟨m0,w0⟩,z1L⟩:=hw s.heap.objs.size hl0
 refine wpAny_newObj_type ?_
 generalize hs3:({ s with heap:=s.heap.push { cls:=.type "list",dict:=none,data:=.seq ([]:List Value).toArray } }:Shared)=s3
 have I3:Inv X pins σ (upd H s.heap.objs.size (.lst [])) s3:=by
  rw [←hs3]
  exact I.lnew (its:=[]) (t':=s.toks) .nil (Nat.zero_le _)
 have k3:∀ b o,s.heap.get? b=some o→s3.heap.get? b=some o:=fun b o e=>by
  rw [←hs3];exact Heap.get?_push_of_some _ e
 have sz3:s3.heap.objs.size=s.heap.objs.size+1:=by rw [←hs3];exact Heap.size_push ..
 have lnfp:s.heap.objs.size∉fp:=fun hb=>Nat.lt_irrefl _ (hlt _ hb)
 have st3:tn 0 s3.heap:=T.keep 0 _ _ st fun b _ o e=>k3 b o e
 have hf3:∀ b∈fp,z6i X pins (upd H s.heap.objs.size (.lst [])) b:=fun b hb=>by
  obtain ⟨f0,f⟩:=hf b hb
  have nb:b≠s.heap.objs.size:=fun e=>lnfp (by rw [←e];exact hb)
  exact ⟨by rw [z09 nb];exact f0,f⟩
 have hlt3:∀ b∈fp,b < s3.heap.objs.size:=fun b hb=>by rw [sz3];exact Nat.lt_succ_of_lt (hlt b hb)
 clear hs3
 refine wpAny_newFunctionEnv S.nocell (by intro y hy;simp at hy) (fun h1 hn1 hb1=>?_) S.kind
 have hk1:∀ b o,s3.heap.get? b=some o→h1.get? b=some o:=fun b o e =>
  (hb1.2 b (Nat.ne_of_lt (Heap.lt_size e))).trans (Heap.get?_push_of_some _ e)
 have J0:Inv (z0S X N scope (z0E X.env.cells scope.names []) s3.heap.objs.size fp s3 (upd H s.heap.objs.size (.lst []))) [] (z1k ix σ) (upd H s.heap.objs.size (.lst [])) { s3 with heap:=h1,toks:=s3.toks+([]:List (Str × Value)).length } :=
  z8X I3 S rfl hf3 hlt3 hn1 hk1
 have st1:tn 0 h1:=T.keep 0 _ _ st3 fun b _ o e=>hk1 b o e
 have fpY:∀ {Hc:Hp},(∀ b∈fp,Hc b=none)→∀ b∈fp,z6i (z0S X N scope (z0E X.env.cells scope.names []) s3.heap.objs.size fp s3 (upd H s.heap.objs.size (.lst []))) [] Hc b:=fun {Hc} hn b hb=>by
  obtain ⟨_,f1,f2,_,f4,_⟩:=hf3 b hb
  refine ⟨hn b hb,Nat.ne_of_lt (hlt3 b hb),fun hb2=>(List.mem_cons.mp (I3.stkSub b hb2)).elim f1 f2,.inl hb,fun x c e=>f4 x c (z1S I3 S e),fun p hp=>absurd (show p∈([]:List (Addr × Obj)) from hp) (by simp)⟩
 have loop:∀ s4:Shared,s4=({ s3 with heap:=h1,toks:=s3.toks+([]:List (Str × Value)).length }:Shared)→codeAny (model X.prog X.w) X.A (.compLoop (.ListComp elt [⟨tg,iter,[],0⟩,⟨tg2,iter2,[],0⟩] scope pos) 0 (.ref it) (.ref s.heap.objs.size)
   (compEnvC scope (z0E X.env.cells scope.names []) s3.heap.objs.size X.env)) (RR (.ref s.heap.objs.size) s3.heap.objs.size) s4:=by
  intro s4 hs4
  subst hs4
  refine z8B (hs2 _) (fun n s'=>∃ i ys Hc,Inv (z0S X N scope (z0E X.env.cells scope.names []) s3.heap.objs.size fp s3 (upd H s.heap.objs.size (.lst []))) [] (z1k ix σ) Hc s'∧tn i s'.heap∧(∀ b∈fp,Hc b=none)∧Hc s.heap.objs.size=some (.lst ys)∧W i n ys Hc) ?_ m0 ⟨0,[],_,J0,st1,fun b hb=>(hf3 b hb).1,z04,w0⟩
  rintro n s5 ⟨i,ys,Hc,J5,st5,fr5,hl5,w5⟩
  rcases z1L i n ys Hc w5 hl5 with ⟨stop,qe⟩ | ⟨go,NN,hNN,step⟩
  ·refine thn (T.done (z0S X N scope (z0E X.env.cells scope.names []) s3.heap.objs.size fp s3 (upd H s.heap.objs.size (.lst []))) rfl rfl rfl hc i [] s5 _ Hc noE J5 (fpY fr5) st5 stop) fun r s6 h6=>?_
   obtain ⟨hr,J6⟩:=h6
   subst hr
   have I6:Inv X pins σ Hc s6:=I3.call' (ch:=fp) J6.os J6.base J6.hok J6.bare fun b hb=>by
    obtain ⟨_,f1,f2,f3,f4,f5⟩:=hf3 b hb
    exact ⟨f3,f1,f4,f5⟩
   obtain ⟨m6,hn6,_⟩:=J6.loc
   exact hRR _ _ s6 Hc m6 hn6 I6 (I3.fpOk (Nat.le_refl _) J6.free) qe
  ·refine thn (T.item (z0S X N scope (z0E X.env.cells scope.names []) s3.heap.objs.size fp s3 (upd H s.heap.objs.size (.lst []))) rfl rfl rfl hc i [] s5 _ Hc noE J5 (fpY fr5) st5 go) fun r s6 h6=>?_
   obtain ⟨u,hr,h6⟩:=h6
   subst hr
   refine thn h6 fun _ s7 h7=>?_
   obtain ⟨x,H7,J7,r7,y7,st7,fr7⟩:=h7
   have J7':=J7.pinned (fpY fr7) (T.obj _ _ st7)
   refine thn (hg _ _ _ _ _ _ s7 _ H7 x u _ J7' r7 (step x H7 y7)) fun _ s8 h8=>?_
   obtain ⟨σ8,H8,J8,q8⟩:=h8
   refine thn (hi2 _ _ _ _ _ _ s8 σ8 H8 _ J8 q8) fun x2 s9 h9=>thn h9 fun it2 s10 h10=>?_
   obtain ⟨a2,fp2,tn2,J2,H10,e2,J10,T2,st10,f10,hl10,hw10⟩:=h10
   subst e2
   intro R' hR'
   refine za6 (Y:=z0S X N scope (z0E X.env.cells scope.names []) s3.heap.objs.size fp s3 (upd H s.heap.objs.size (.lst []))) rfl hc (hg2 _ _ _ _ _) (he _ _ _ _ _) J10 T2 st10 f10 hl10 hw10 fun s' σ' H' zs J' hl' n'=>hR' s' ?_
   obtain ⟨m',hm',w9⟩:=hNN _ _ n'
   refine ⟨m',hm',i+1,zs,H',z6e I3 S J',T.keep _ _ _ st7 fun b hb o e=>(J'.pin (b,o) (List.mem_append_right _ (List.mem_append_right _ (z1B hb e)))).1,fun b hb=>?_,hl',w9⟩
   obtain ⟨o,e,d⟩:=T.obj _ _ st7 b hb
   exact (J'.pin (b,o) (List.mem_append_right _ (List.mem_append_right _ (z1B hb e)))).2.1
 exact codeAny_compStart_list (loop _ rfl) (T.self _ 0 _ _ _ st1 (loop _ rfl))
theorem zds {wi:TI} (hc:X.calm=true) (S:z1l X.N X.env.scope N ix scope) (hi:PI X tg iter wi)
  (hg:∀ cl C ex s H,PG (z0S X N scope cl C ex s H) tg g) (hi2:∀ cl C ex s H,PI (z0S X N scope cl C ex s H) tg2 iter2 wi2) (hg2:∀ cl C ex s H,PG (z0S X N scope cl C ex s H) tg2 g2) (he:∀ cl C ex s H,PE (z0S X N scope cl C ex s H) elt te)
  (hs2:∀ env x,foldedSetIterable iter2 env x=pure x:=by intro _ _;rfl)
  (hs:∀ x,foldedSetIterable iter X.env x=pure x:=by intro _;rfl):PE X (.ListComp elt [⟨tg,iter,[],0⟩,⟨tg2,iter2,[],0⟩] scope pos) (zfB ix wi g wi2 g2 te):=by
 intro pins s σ H Q I h
 rw [eval_ListComp]
 refine wpAny_comprehension_free (use:=none) rfl hs (z1N (z0R I S)) S.kind S.names (thn (hi pins s σ H _ I h) fun v s1 h1=>thn h1 fun itv s2 h2=>?_)
 obtain ⟨it,fp,tn,J,H2,e,I2,T,st2,f2,hw⟩:=h2
 subst e
 refine z8n (RR:=fun acc C=>compPost (model X.prog X.w) X.A X.xe none (EP X pins σ Q) acc C) hc S hg hi2 hg2 he hs2 I2 T st2 f2 hw fun l C s' H' m hn I' fC q=>⟨m,hn,fun h' hs'=>?_⟩
 obtain ⟨c0,c1,_,c3,c4,c5⟩:=fC
 exact ⟨.ref l,H',I'.turned (t':=s'.toks) (fun b o hb e=>(hs'.2 b hb).trans e) c0 c1 c3 c4 c5,rfl,q⟩
end
theorem zag {K:PySem.W.Frag} {a l:Addr} {xs:List V} {ix:List (Option Nat)} {g:TG} {wi2:TI} {g2:TG} {te:TE} {σ:St} {H0:Hp} {Qe:Hp→Prop} (Pv:Nat→List V→Hp→Prop) (h0:Pv 0 [] H0) (hl:∀ i ys H,i≤xs.length→Pv i ys H→SqL K H a xs)
  (hs:∀ i x ys H,xs[i]?=some x→Pv i ys H→H l=some (.lst ys)→g x (z1k ix σ) H fun σ2 H2=>wi2 σ2 H2 fun J2 H3=>H3 l=some (.lst ys)∧inW J2 g2 te σ2 l ys H3 (Pv (i+1)))
  (hd:∀ ys H,Pv xs.length ys H→H l=some (.lst ys)→Qe H):zb4 ix (Itl K a) g wi2 g2 te σ l H0 Qe:=by
 refine ⟨fun i m ys H=>m=xs.length - i∧i≤xs.length∧Pv i ys H,⟨xs.length,by simp,Nat.zero_le _,h0⟩,?_⟩
 rintro i m ys H ⟨rfl,hi,p⟩ hy
 have q:=hl i ys H hi p
 by_cases hlt:i < xs.length
 ·refine .inr ⟨⟨xs,xs[i],q,by simp [hlt]⟩,Pv (i+1),fun zs H' r=>⟨xs.length - (i+1),by lia,rfl,hlt,r⟩,fun x H' y=>?_⟩
  obtain ⟨e,y⟩:=y
  subst e
  exact hs i x ys _ (y xs q) p hy
 ·have e:i=xs.length:=by lia
  subst e
  exact .inl ⟨⟨xs,q,Nat.le_refl _⟩,hd ys H p hy⟩
theorem zfA {K:PySem.W.Frag} {a l:Addr} {xs ys:List V} {g2:TG} {te:TE} {σ2:St} {H3:Hp} {N:List V→Hp→Prop} (Pv:Nat→List V→St→Hp→Prop) (h0:Pv 0 ys σ2 H3) (hl:∀ j zs σ H,j≤xs.length→Pv j zs σ H→SqT K H a xs) (hz:∀ j zs σ H,j≤xs.length→Pv j zs σ H→zs.length < sizeLine)
  (hs:∀ j x zs σ H,xs[j]?=some x→Pv j zs σ H→H l=some (.lst zs)→g2 x σ H fun σ4 H4=>te σ4 H4 fun v H5=>H5 l=some (.lst zs)∧Pv (j+1) (zs++[v]) σ4 (upd H5 l (.lst (zs++[v]))))
  (hd:∀ zs σ H,Pv xs.length zs σ H→H l=some (.lst zs)→N zs H):inW (Itt K a) g2 te σ2 l ys H3 N:=by
 refine ⟨fun j m zs σ H=>m=xs.length - j∧j≤xs.length∧Pv j zs σ H,⟨xs.length,by simp,Nat.zero_le _,h0⟩,?_⟩
 rintro j m zs σ H ⟨rfl,hj,p⟩ hy
 have q:=hl j zs σ H hj p
 by_cases hlt:j < xs.length
 ·refine .inr ⟨⟨xs,xs[j],q,by simp [hlt]⟩,hz j zs σ H hj p,fun zs' σ' H'=>Pv (j+1) zs' σ' H',fun zs' σ' H' r=>⟨xs.length - (j+1),by lia,rfl,hlt,r⟩,fun x H' y=>?_⟩
  obtain ⟨e,y⟩:=y
  subst e
  exact hs j x zs σ _ (y xs q) p hy
 ·have e:j=xs.length:=by lia
  subst e
  exact .inl ⟨⟨xs,q,Nat.le_refl _⟩,hd zs σ H p hy⟩
end L2
namespace Gu
open PySem L2
theorem z1Y (e:Row) (m:Nat):(hdW e m).length=m:=by unfold hdW;rw [List.length_map,List.length_range]
theorem z6V (e:Row) (m:Nat):hdW e (m+1)=hdW e m++[lat e m]:=by unfold hdW;rw [List.range_succ,List.map_append];rfl
theorem zcQ (e:Row) {k m:Nat} (h:k≤m):(hdW e m).take k=hdW e k:=by
 unfold hdW
 rw [←List.map_take,List.take_range,Nat.min_eq_left h]
def stS (M:List Row) (e:Row) (i:Nat):Int:=goW M 0 (hdW e i)
def oS (M:List Row) (e:Row) (i:Nat):Int:=(row M (stS M e i)).1.getD (lat e i).toNat 0
theorem z72 (M:List Row) (e:Row) (i:Nat):stS M e (i+1)=(row M (stS M e i)).2.getD (lat e i).toNat 0:=by
 unfold stS
 rw [z6V,z7j]
 rfl
theorem z9h (M:List Row) (e:Row) (i:Nat):z1j M 0 (hdW e (i+1))=z1j M 0 (hdW e i)++[oS M e i]:=by
 rw [z6V,z3L]
 rfl
theorem z3M (M:List Row) (e:Row) {i m:Nat} (h:i < m):(z1j M 0 (hdW e m)).getD i 0=oS M e i:=by
 have h1:(z1j M 0 (hdW e m)).take (i+1)=z1j M 0 (hdW e (i+1)):=by rw [zcj,zcQ e h]
 have h2:(z1j M 0 (hdW e m)).getD i 0=(z1j M 0 (hdW e (i+1))).getD i 0:=by rw [←h1,z5w (Nat.lt_succ_self i)]
 rw [h2,z9h,List.getD_eq_getElem?_getD,List.getElem?_append_right (by rw [z1h,z1Y];exact Nat.le_refl _),z1h,z1Y,Nat.sub_self]
 rfl
def z3Y (M:List Row) (e:Row):Nat→Int
 | 0=>goW M 0 e.1
 | t+1=>goW M (z3Y M e t) e.2
def z2f (M:List Row) (e:Row) (t:Nat):List (List Int):=(List.range t).map fun j=>z1j M (z3Y M e j) e.2
theorem z5j (M:List Row) (e:Row) (t:Nat):z2f M e (t+1)=z2f M e t++[z1j M (z3Y M e t) e.2]:=by unfold z2f;rw [List.range_succ,List.map_append];rfl
theorem zdl (M:List Row) (e:Row) (t:Nat):(z2f M e t).length=t:=by unfold z2f;rw [List.length_map,List.length_range]
theorem z2d (M:List Row) (e:Row):∀ t,(z2f M e t).flatten.length=t*e.2.length
 | 0=>by unfold z2f;simp
 | t+1=>by rw [z5j,List.flatten_append,List.length_append,z2d M e t];simp only [List.flatten_cons,List.flatten_nil,List.append_nil];rw [z1h,Nat.add_mul,Nat.one_mul]
theorem z6j (e:Row) (m i:Nat) (h:i < (hdW e m).length):(hdW e m)[i]=lat e i:=by
 have h':i < m:=by rw [z1Y] at h;exact h
 have:(hdW e m)[i]?=some (lat e i):=by
  unfold hdW
  rw [List.getElem?_map,List.getElem?_range h']
  rfl
 rw [List.getElem?_eq_getElem h] at this
 exact Option.some.inj this
theorem zdH (e:Row):hdW e e.1.length=e.1:=by
 refine List.ext_getElem (z1Y _ _) fun i i1 i2=>?_
 rw [z6j,z3r i2,z1y i2]
theorem zg6 {e:Row} (h:e.2≠[]) (t:Nat):hdW e (e.1.length+(t+1)*e.2.length)=hdW e (e.1.length+t*e.2.length)++e.2:=by
 have hl:0 < e.2.length:=List.length_pos_iff.mpr h
 refine List.ext_getElem (by rw [List.length_append,z1Y,z1Y,Nat.add_mul,Nat.one_mul];lia) fun i i1 i2=>?_
 have e1:(hdW e (e.1.length+(t+1)*e.2.length))[i]=lat e i:=z6j _ _ _ _
 rw [e1]
 rw [z1Y] at i1
 by_cases hi:i < e.1.length+t*e.2.length
 ·rw [List.getElem_append_left (by rw [z1Y];exact hi)]
  rw [z6j]
 ·rw [List.getElem_append_right (by rw [z1Y];lia)]
  rw [z2v (by have:=Nat.zero_le (t*e.2.length);lia)]
  have em:(i - e.1.length) % e.2.length=i - (e.1.length+t*e.2.length):=by
   have:i - e.1.length=(i - (e.1.length+t*e.2.length))+t*e.2.length:=by lia
   rw [this,Nat.add_mul_mod_self_right,Nat.mod_eq_of_lt]
   rw [Nat.add_mul,Nat.one_mul] at i1
   lia
  rw [em]
  have hj:i - (e.1.length+t*e.2.length) < e.2.length:=by rw [Nat.add_mul,Nat.one_mul] at i1;lia
  rw [z1y hj]
  congr 1
  rw [z1Y]
theorem z6N (M:List Row) {e:Row} (h:e.2≠[]):∀ t,z1j M 0 (hdW e (e.1.length+t*e.2.length))=z1j M 0 e.1++(z2f M e t).flatten∧stS M e (e.1.length+t*e.2.length)=z3Y M e t
 | 0=>by
  unfold stS
  rw [Nat.zero_mul,Nat.add_zero,zdH]
  exact ⟨by unfold z2f;simp,rfl⟩
 | t+1=>by
  obtain ⟨i1,i2⟩:=z6N M h t
  unfold stS at i2 ⊢
  rw [zg6 h t,z3L,z7j,i1,i2,z5j,List.flatten_append]
  exact ⟨by rw [List.append_assoc];simp,rfl⟩
theorem z9I (M:List Row) {e:Row} (h:e.2≠[]) {k first:Nat} (hf:first < k) (hk:z3Y M e k=z3Y M e first) :
  ∀ i,lat (z1j M 0 e.1++((z2f M e k).take first).flatten,((z2f M e k).drop first).flatten) i=oS M e i:=by
 have hl:0 < e.2.length:=List.length_pos_iff.mpr h
 have htk:(z2f M e k).take first=z2f M e first:=by
  unfold z2f
  rw [←List.map_take,List.take_range,Nat.min_eq_left (Nat.le_of_lt hf)]
 have hall:(z1j M 0 e.1++((z2f M e k).take first).flatten)++((z2f M e k).drop first).flatten=z1j M 0 (hdW e (e.1.length+k*e.2.length)):=by
  rw [(z6N M h k).1,List.append_assoc,←List.flatten_append,List.take_append_drop]
 have l1:(z1j M 0 e.1++((z2f M e k).take first).flatten).length=e.1.length+first*e.2.length:=by rw [htk,List.length_append,z1h,z2d]
 have l2:(z1j M 0 e.1++((z2f M e k).take first).flatten).length+((z2f M e k).drop first).flatten.length=e.1.length+k*e.2.length:=by
  rw [←List.length_append,hall,z1h,z1Y]
 have hmul:first*e.2.length+(k - first)*e.2.length=k*e.2.length:=by rw [←Nat.add_mul];congr 1;lia
 have l3:((z2f M e k).drop first).flatten.length=(k - first)*e.2.length:=by lia
 have hpos:0 < (k - first)*e.2.length:=Nat.mul_pos (by lia) hl
 generalize z1j M 0 e.1++((z2f M e k).take first).flatten=A at *
 generalize ((z2f M e k).drop first).flatten=B at *
 refine zdP (fun i hi=>?_) (fun j hj=>?_) ?_ (fun z=>?_)
 ·have hi:i < A.length:=hi
  rw [←z3M M e (i:=i) (m:=e.1.length+k*e.2.length) (by lia),←hall,List.getD_eq_getElem?_getD,List.getD_eq_getElem?_getD,List.getElem?_append_left hi]
 ·have hj:j < B.length:=hj
  show B.getD j 0=oS M e (A.length+j)
  rw [←z3M M e (i:=A.length+j) (m:=e.1.length+k*e.2.length) (by lia),←hall,List.getD_eq_getElem?_getD,List.getD_eq_getElem?_getD,List.getElem?_append_right (by lia),Nat.add_sub_cancel_left]
 ·show Pd (oS M e) A.length B.length
  have pl:Pd (lat e) A.length B.length:=by
   have:=(z63 h).mul (k - first)
   rw [Nat.mul_comm] at this
   rw [l3]
   exact this.mono (by lia)
  have ps:∀ d,stS M e (A.length+d+B.length)=stS M e (A.length+d):=by
   intro d
   induction d with
   | zero =>
    rw [Nat.add_zero,l2,l1,(z6N M h k).2,(z6N M h first).2,hk]
   | succ d ih =>
    rw [show A.length+(d+1)+B.length=(A.length+d+B.length)+1 by lia,show A.length+(d+1)=A.length+d+1 by lia,z72,z72,ih,pl (A.length+d) (by lia)]
  intro i hi
  unfold oS
  have:=ps (i - A.length)
  rw [show A.length+(i - A.length)=i by lia] at this
  rw [this,pl i hi]
 ·have:B=[]:=z
  rw [this] at l3
  simp at l3
  lia
theorem ze7 {n:Nat} {M:List Row} (G:z0j n M) {e:Row} (hl:∀ i,0≤lat e i∧lat e i < (n:Int)):∀ i,0≤stS M e i∧stS M e i < (M.length:Int)
 | 0=>by
  have:=G.some
  show 0≤(0:Int)∧(0:Int) < _
  lia
 | i+1=>by
  obtain ⟨a,b⟩:=ze7 G hl i
  rw [z72]
  have hm:=z0o a b
  obtain ⟨l0,l1⟩:=hl i
  exact (zeI (k:=(lat e i).toNat) (G.len _ hm) (G.go _ hm) (by lia)).2
theorem ze3 {n:Nat} {e:Row} (h:e.2≠[]) (h1:InN n e.1) (h2:InN n e.2) (i:Nat):0≤lat e i∧lat e i < (n:Int):=by
 by_cases hi:i < e.1.length
 ·rw [z3r hi,z1y hi];exact h1 _ (List.getElem_mem hi)
 ·have hl:0 < e.2.length:=List.length_pos_iff.mpr h
  rw [z2v (by lia),z1y (Nat.mod_lt _ hl)];exact h2 _ (List.getElem_mem (Nat.mod_lt _ hl))
theorem zeE (xs:List V) (k:Nat) (h:k≤xs.length):z3S xs none (some (k:Int))=xs.take k:=by
 unfold z3S
 rw [HT.sIx_none,HT.sIx_nat,List.drop_zero,Nat.sub_zero,Nat.min_eq_left h]
theorem zaB (xs:List V) (k:Nat) (h:k≤xs.length):z3S xs (some (k:Int)) none=xs.drop k:=by
 unfold z3S
 rw [HT.sIx_none,HT.sIx_nat,Nat.min_eq_left h]
 exact List.take_of_length_le (by rw [List.length_drop];exact Nat.le_refl _)
theorem z9y {K:PySem.W.Frag} {H:Hp}:∀ {ds:List D} {us:List V} (k:Nat),DrL K H ds us→DrL K H (ds.take k) (us.take k)
 | _,_,0,_=>by rw [List.take_zero,List.take_zero];exact DrL.nil
 | [],_,k+1,h=>by simp only [DrL] at h;subst h;exact DrL.nil
 | d::ds,_,k+1,h=>by
  simp only [DrL] at h
  obtain ⟨v,r,rfl,h1,h2⟩:=h
  rw [List.take_succ_cons,List.take_succ_cons]
  exact DrL.cons h1 (z9y k h2)
theorem z9w {K:PySem.W.Frag} {H:Hp}:∀ {ds:List D} {us:List V} (k:Nat),DrL K H ds us→DrL K H (ds.drop k) (us.drop k)
 | _,_,0,h=>h
 | [],_,k+1,h=>by simp only [DrL] at h;subst h;exact DrL.nil
 | d::ds,_,k+1,h=>by
  simp only [DrL] at h
  obtain ⟨v,r,rfl,h1,h2⟩:=h
  rw [List.drop_succ_cons,List.drop_succ_cons]
  exact z9w k h2
end Gu
namespace L2
open PySem PySem.Spec PyProof.Rows PySem.SeqAt
section
variable {X:Cx}
end
end L2
namespace L2
open PySem PySem.Spec PyProof.Rows
open PySem.AutoSeq1 (wpAny_loadPart')
section
variable {X:Cx}
theorem zdw (l:Addr) (its:List Value) (n:Nat) (k:Int) (t:Tok) (h2:2≤k) (hk:k≤1000000) (hne:its≠[]) (hz:its.length*k.toNat≤sizeLine) :
  Meets (Builtin.«tuple.__mul__» ⟨[.ref l,.int k t],[]⟩) (fun _ R s=>s.heap.get? l=some { cls:=.type "tuple",dict:=none,data:=.seq its.toArray n,slots:=#[] } ∧
   R (.ok (.ret (.ref s.heap.objs.size))) { s with heap:=s.heap.push { cls:=.type "tuple",data:=.seq (List.replicate k.toNat its).flatten.toArray } }) :=
 .of_wp fun prog w A R s h=>by
  obtain ⟨hp,g,d,tk,os⟩:=s
  obtain ⟨hl,h⟩:=h
  have hie:its.toArray.isEmpty=false:=by cases its with | nil=>exact absurd rfl hne | cons a r=>simp
  have hcap:¬ ((its.toArray.size:Int)*k > (2 ^ 63 - 1) / 8):=by
   have h1:((its.length*k.toNat:Nat):Int)≤sizeLine:=by lia
   have h3:((its.length*k.toNat:Nat):Int)=(its.length:Int)*k:=by rw [Int.natCast_mul];congr 1;lia
   have h4:(sizeLine:Int)≤(2 ^ 63 - 1) / 8:=by rw [sizeLine_eq];decide
   simp only [List.size_toArray]
   lia
  wp_walk using wpAny_loadPart' hl
  refine wpAny_ite_split (fun hab=>absurd hab (by simp;lia)) (fun _=>?_)
  wp_walk using wpAny_loadPart' hl
  have hk1:(k == 1)=false:=by simpa using (show k≠1 by lia)
  have hk0:decide (k≤0)=false:=by simpa using (show ¬ k≤0 by lia)
  refine wpAny_ite_split (fun hab=>absurd hab (by rw [hie,hk1];decide)) (fun _=>?_)
  refine wpAny_ite_split (fun hab=>absurd hab (by rw [hie,hk0];decide)) (fun _=>?_)
  refine wpAny_ite_split (fun hab=>absurd hab hcap) (fun _=>?_)
  have htm:Builtin.Tuple.tupleTooMany ((its.toArray.size:Int)*k)=false:=by
   have h1:((its.length*k.toNat:Nat):Int)≤sizeLine:=by lia
   have h3:((its.length*k.toNat:Nat):Int)=(its.length:Int)*k:=by rw [Int.natCast_mul];congr 1;lia
   unfold Builtin.Tuple.tupleTooMany
   simp only [List.size_toArray]
   exact decide_eq_false (by lia)
  refine wpAny_ite_split (fun hab=>absurd hab (by rw [htm];decide)) (fun _=>?_)
  have hnew:List.foldl (fun x1 x2=>x1++x2) #[] (List.replicate k.toNat its.toArray)=(List.replicate k.toNat its).flatten.toArray:=by
   have q:=z3F its k.toNat []
   rw [List.nil_append] at q
   exact q
  rw [hnew]
  unfold Builtin.Tuple.tupleExact
  refine wpAny_bind (wpAny_newObj_type ?_ (by show (List.replicate k.toNat its).flatten.toArray.size≤sizeLine;rw [List.size_toArray,z4d,Nat.mul_comm];exact hz))
  exact wpAny_pure ⟨_,rfl,h⟩
theorem zdk:OpR X (binaryOp .Mult) (fun x y H Q=>∃ (l:Addr) (k:Int) (xs:List V),x=.ref l∧y=.int k∧H l=some (.tup xs)∧xs≠[]∧2≤k∧k≤1000000∧xs.length*k.toNat≤sizeLine ∧
  ∀ p,H p=none→Q (.ref p) (upd H p (.tup (List.replicate k.toNat xs).flatten))):=by
 intro pins s σ H x y v u Q I rx ry h
 obtain ⟨l,k,xs,rfl,rfl,hH,hne,h2,hk,hz,q⟩:=h
 cases rx
 obtain ⟨t,rfl⟩:=ry
 obtain ⟨z,its,n,r,e⟩:=I.hok l _ hH
 have hl:=r.length
 have hne':its≠[]:=fun w=>by subst w;exact hne (List.length_eq_zero_iff.mp (by simpa using hl))
 refine wpAny_binaryOp_repeat_ref (T:="tuple") (U:="int") (by decide) ⟨_,e,rfl⟩ (fun s'=>typeIs_int s' k t) z1C F.fills_int_mul F.slot_int_rmul z26 F.slot_int_index.lookup
  (call_meets F.slot_int_rmul (typeIs_int s k t) F.entry_int_rmul (F.args_int_rmul_2 _ _) (z1z k t l its.toArray n)
   ⟨e,rfl,⟨_,e,rfl⟩,call_meets F.slot_tuple_mul ⟨_,e,rfl⟩ F.entry_tuple_mul (F.args_tuple_mul_2 _ _) (zdw l its n k t h2 hk hne' (by rw [←hl];exact hz)) ⟨e,?_⟩⟩)
 exact ⟨.ref _,_,I.laid (o:=.tup (List.replicate k.toNat xs).flatten) (t':=s.toks) (fun b u q=>Heap.get?_push_of_some _ q) (Nat.le_refl _) ⟨by rw [z4d,Nat.mul_comm];exact hz,_,0,r.rep k.toNat,Heap.get?_push_size _ rfl⟩,rfl,q _ I.fresh⟩
theorem zaQ (l:Addr) (its:List Value) (n:Nat) (k:Int) (t:Tok) (h0:-1000≤k) (hk:k≤1000000) (hne:its=[]∨k=1) :
  Meets (Builtin.«tuple.__mul__» ⟨[.ref l,.int k t],[]⟩) (fun _ R s=>s.heap.get? l=some { cls:=.type "tuple",dict:=none,data:=.seq its.toArray n,slots:=#[] }∧R (.ok (.ret (.ref l))) s) :=
 .of_wp fun prog w A R s h=>by
  obtain ⟨hp,g,d,tk,os⟩:=s
  obtain ⟨hl,h⟩:=h
  have hyes:(its.toArray.isEmpty || k == 1)=true:=by
   rcases hne with e | e
   ·subst e;simp
   ·subst e;simp
  wp_walk using wpAny_loadPart' hl
  refine wpAny_ite_split (fun hab=>absurd hab (by simp;lia)) (fun _=>?_)
  wp_walk using wpAny_loadPart' hl
  exact ⟨_,rfl,h⟩
theorem zdt:OpR X (binaryOp .Mult) (fun x y H Q=>∃ (l:Addr) (k:Int) (xs:List V),x=.ref l∧y=.int k∧H l=some (.tup xs)∧-1000≤k∧k≤1000000∧xs.length*k.toNat≤sizeLine ∧
  ∀ (p:Addr) (H':Hp),z0h H H'→H' p=some (.tup (List.replicate k.toNat xs).flatten)→Q (.ref p) H'):=by
 intro pins s σ H x y v u Q I rx ry h
 obtain ⟨l,k,xs,rfl,rfl,hH,h0,hk,hz,q⟩:=h
 by_cases hs:xs≠[]∧2≤k
 ·exact zdk pins s σ H _ _ v u Q I rx ry ⟨l,k,xs,rfl,rfl,hH,hs.1,hs.2,hk,hz,fun p hp=>q p _ (Gu.same_up (z0h.refl H) hp) z04⟩
 ·cases rx
  obtain ⟨t,rfl⟩:=ry
  obtain ⟨z,its,n,r,e⟩:=I.hok l _ hH
  have hl:=r.length
  by_cases h1:its=[]∨k=1
  ·refine wpAny_binaryOp_repeat_ref (T:="tuple") (U:="int") (by decide) ⟨_,e,rfl⟩ (fun s'=>typeIs_int s' k t) z1C F.fills_int_mul F.slot_int_rmul z26 F.slot_int_index.lookup
    (call_meets F.slot_int_rmul (typeIs_int s k t) F.entry_int_rmul (F.args_int_rmul_2 _ _) (z1z k t l its.toArray n)
     ⟨e,rfl,⟨_,e,rfl⟩,call_meets F.slot_tuple_mul ⟨_,e,rfl⟩ F.entry_tuple_mul (F.args_tuple_mul_2 _ _) (zaQ l its n k t h0 hk h1) ⟨e,?_⟩⟩)
   refine ⟨.ref l,H,I,rfl,q l H (z0h.refl H) ?_⟩
   have:(List.replicate k.toNat xs).flatten=xs:=by
    rcases h1 with w | w
    ·subst w
     have:xs=[]:=List.length_eq_zero_iff.mp (by simpa using hl)
     subst this
     simp
    ·subst w
     simp
   rw [this]
   exact hH
  ·have hne:its≠[]:=fun w=>h1 (.inl w)
   have hxs:xs≠[]:=fun w=>hne (List.length_eq_zero_iff.mp (by rw [←hl,w];rfl))
   have hk0:k≤0:=by
    have a1:k≠1:=fun w=>h1 (.inr w)
    have a2:¬ 2≤k:=fun w=>hs ⟨hxs,w⟩
    lia
   refine wpAny_binaryOp_repeat_ref (T:="tuple") (U:="int") (by decide) ⟨_,e,rfl⟩ (fun s'=>typeIs_int s' k t) z1C F.fills_int_mul F.slot_int_rmul z26 F.slot_int_index.lookup
    (call_meets F.slot_int_rmul (typeIs_int s k t) F.entry_int_rmul (F.args_int_rmul_2 _ _) (z1z k t l its.toArray n)
     ⟨e,rfl,⟨_,e,rfl⟩,call_meets F.slot_tuple_mul ⟨_,e,rfl⟩ F.entry_tuple_mul (F.args_tuple_mul_2 _ _) (z9f l its n k t h0 hk0 hne) ⟨e,?_⟩⟩)
   have e0:k.toNat=0:=by lia
   rw [e0] at q
   exact ⟨.ref _,_,I.laid (o:=.tup []) (t':=s.toks) (fun b u q=>Heap.get?_push_of_some _ q) (Nat.le_refl _) ⟨Nat.zero_le _,[],0,.nil,Heap.get?_push_size _ rfl⟩,rfl,q _ _ (Gu.same_up (z0h.refl H) I.fresh) z04⟩
end
end L2
namespace Gu
open PySem L2
theorem z6L {n:Nat} (h:n≤1000000):n≤sizeLine:=Nat.le_trans h (by decide)
theorem zgp {n:Nat} (h:n≤1000000):n < sizeLine:=Nat.lt_of_le_of_lt h (by decide)
def z4G (K:PySem.W.Frag):Sp:=fun vs H Q _=>∃ (v:V) (r:List Int),vs=[v]∧Dr K H (D.its r) v∧r≠[]∧r.length≤40000∧∀ (s:Nat),z6r r s→z2X K H Q (D.its (r.take s))
def z3K (K:PySem.W.Frag) (Ct:Addr):Sp:=fun vs H Q E=>∃ (v u:V) (b r:List Int),vs=[v,u]∧Dr K H (D.its b) v∧Dr K H (D.its r) u∧b.length≤40000∧r.length≤40000∧(r≠[]→zey K H Q b r)∧(r=[]→TMx Ct E H)
def z4M (K:PySem.W.Frag):Sp:=fun vs H Q _=>∃ (a:Addr) (us:List V) (ls:List (List Int)),vs=[.ref a]∧H a=some (.lst us)∧DrL K H (ls.map D.its) us∧ls.flatten.length≤40000∧∀ (t:Addr) (H':Hp),z0h H H'→H' t=some (.tup (ls.flatten.map V.int))→Q (.ref t) H'
def zd0 (n:Nat) (e:Row):Prop:=e.2≠[]∧LW n e.1∧LW n e.2
def z5v (K:PySem.W.Frag) (Ct:Addr):Sp:=fun vs H Q E=>∃ (n:Nat) (u:V) (e:Row),vs=[.int n,u]∧Dr K H (z3I e) u∧e.1.length≤4900∧e.2.length≤4900∧(zd0 n e→∀ H',z0h H H'→Q .non H')∧(¬ zd0 n e→TMx Ct E H)
def zfH (K:PySem.W.Frag) (H:Hp) (Q:VK) (one:List Row) (e:Row):Prop:=∀ (x:V) (H':Hp) (E:Row),z0h H H'→Dr K H' (z3I E) x→z1V E→(∀ i,lat E i=oS one e i)→E.1.length≤40000→E.2.length≤40000→Q x H'
def z7h (K:PySem.W.Frag) (Ct:Addr):Sp:=fun vs H Q E=>∃ (v u:V) (one:List Row) (e:Row) (n:Nat),vs=[v,u]∧Dr K H (D.tup (z0s one)) v∧Dr K H (z3I e) u∧z0j n one∧n≤60∧e.1.length≤4900∧e.2.length≤4900∧e.1.length+one.length*e.2.length≤40000 ∧
 (zd0 n e→zfH K H Q one e)∧(¬ zd0 n e→TMx Ct E H)
theorem z6p {n:Nat} {M:List Row} (G:z0j n M) {e:Row} (l1:LW n e.1) (l2:LW n e.2):∀ t,0≤z3Y M e t∧z3Y M e t < (M.length:Int)
 | 0=>by have:=G.some;exact zc8 G l1 (by lia) (by lia)
 | t+1=>by
  obtain ⟨a,b⟩:=z6p G l1 l2 t
  exact zc8 G l2 a b
def kI:Int→Key:=fun a=>Sum.inl a
theorem zec (x y:Int) (e:kI x=kI y):x=y:=Sum.inl.inj e
def z7l (M:List Row) (e:Row) (t:Nat):List Int:=(List.range t).map (z3Y M e)
theorem z7N (M:List Row) (e:Row) (t:Nat):z7l M e (t+1)=z7l M e t++[z3Y M e t]:=by unfold z7l;rw [List.range_succ,List.map_append];rfl
theorem z4o (M:List Row) (e:Row) (t:Nat):(z7l M e t).length=t:=by unfold z7l;rw [List.length_map,List.length_range]
theorem zbo {n:Nat} {M' M:List Row} {o:List Int} {h:Int→Int} (mo:Mor M' M o h) (cl:∀ r∈o,∀ g∈(row M' r).2,g∈o) (hl:∀ r∈o,(row M' r).2.length=n):∀ (w:List Int) (x:Int),x∈o→LW n w→z1j M (h x) w=z1j M' x w
 | [],_,_,_=>rfl
 | l::w,x,hx,hw=>by
  obtain ⟨l0,l1⟩:=hw l List.mem_cons_self
  have hk:l.toNat < (row M' x).2.length:=by rw [hl x hx];lia
  show (row M (h x)).1.getD l.toNat 0::z1j M ((row M (h x)).2.getD l.toNat 0) w=(row M' x).1.getD l.toNat 0::z1j M' ((row M' x).2.getD l.toNat 0) w
  rw [mo x hx]
  show (row M' x).1.getD l.toNat 0::z1j M (((row M' x).2.map h).getD l.toNat 0) w=_
  rw [z2E hk,zbo mo cl hl w _ (cl x hx _ (by rw [z1y hk];exact List.getElem_mem hk)) hw.tail]
theorem zfe {n:Nat} {M:List Row} (G:z0j n M) {w:List Int} (hw:LW n w):z1j (shr M) 0 w=z1j M 0 w:=by
 obtain ⟨h,h0,mo⟩:=z2I G
 obtain ⟨L,cl⟩:=z0q G
 have:=zbo mo cl (fun r hr=>G.len _ (z0o (L.rg r hr).1 (L.rg r hr).2)) w 0 (by obtain ⟨t,ht⟩:=L.hd;rw [ht];exact List.mem_cons_self) hw
 rw [h0] at this
 exact this
theorem z9D {n:Nat} {A B:List Row} (GA:z0j n A) (GB:z0j n B):∀ (w:List Int) (a b:Int),LW n w→0≤a→a < (A.length:Int)→0≤b→b < (B.length:Int)→z1j (z0J A B) (a*(B.length:Int)+b) w=z1j B b (z1j A a w)
 | [],_,_,_,_,_,_,_=>rfl
 | l::w,a,b,hw,a0,a1,b0,b1=>by
  obtain ⟨l0,l1⟩:=hw l List.mem_cons_self
  have hR:=z0o a0 a1
  have hS:=z0o b0 b1
  obtain ⟨k,g,e,q1,q2,q3,q4,q5,q6,g0,g1,e0,e1⟩:=z8q (m:=B.length) (N:=A.length) (GA.perm _ hR) (GA.len _ hR) (GA.go _ hR) (GB.len _ hS) (GB.go _ hS) (k:=l.toNat) (by lia)
  have hl:=(GA.perm _ hR).len
  show (row (z0J A B) (a*(B.length:Int)+b)).1.getD l.toNat 0::z1j (z0J A B) ((row (z0J A B) (a*(B.length:Int)+b)).2.getD l.toNat 0) w=(row B b).1.getD ((row A a).1.getD l.toNat 0).toNat 0::z1j B ((row B b).2.getD ((row A a).1.getD l.toNat 0).toNat 0) (z1j A ((row A a).2.getD l.toNat 0) w)
  rw [zev GA GB a0 a1 b0 b1,z2V (by lia),q5,q6,z9D GA GB w g e hw.tail g0 g1 e0 e1]
  congr 1
  show (z1L (row A a).1 (row B b).1).getD l.toNat 0=_
  rw [z3v (by lia)]
theorem z8W {n:Nat} {A B:List Row} (GA:z0j n A) (GB:z0j n B) (h4:A.length*B.length≤4000) {w:List Int} (hw:LW n w):z1j (shr (z0J A B)) 0 w=z1j B 0 (z1j A 0 w):=by
 rw [zfe (z1e GA GB h4) hw]
 have:=z9D GA GB w 0 0 hw (Int.le_refl 0) (by have:=GA.some;lia) (Int.le_refl 0) (by have:=GB.some;lia)
 rw [Int.zero_mul,Int.add_zero] at this
 exact this
theorem z3J {n:Nat}:∀ {w:List Int},LW n w→z1j (z0w n) 0 w=w
 | [],_=>rfl
 | l::w,hw=>by
  obtain ⟨l0,l1⟩:=hw l List.mem_cons_self
  show (z0z n).getD l.toNat 0::z1j (z0w n) ((List.replicate n (0:Int)).getD l.toNat 0) w=l::w
  rw [List.getD_eq_getElem?_getD,zgq (by lia),List.getD_eq_getElem?_getD,List.getElem?_replicate,if_pos (by lia)]
  show ((l.toNat:Int))::z1j (z0w n) 0 w=l::w
  rw [z3J hw.tail,Int.toNat_of_nonneg l0]
theorem zbU {A:List Row} {e E:Row} (h:∀ i,lat E i=oS A e i):∀ m,hdW E m=z1j A 0 (hdW e m)
 | 0=>rfl
 | m+1=>by rw [z6V,z9h,zbU h m,h m]
theorem zgf {n:Nat} {e:Row} (hl:∀ i,0≤lat e i∧lat e i < (n:Int)) (m:Nat):LW n (hdW e m):=fun l h=>by
 unfold hdW at h
 obtain ⟨j,_,rfl⟩:=List.mem_map.mp h
 exact hl j
theorem zbn {n:Nat} {A B:List Row} (GA:z0j n A) (GB:z0j n B) (h4:A.length*B.length≤4000) {e E:Row} (hl:∀ i,0≤lat e i∧lat e i < (n:Int)) (h:∀ i,lat E i=oS A e i) (i:Nat):oS (shr (z0J A B)) e i=oS B E i:=by
 rw [←z3M (shr (z0J A B)) e (Nat.lt_succ_self i),←z3M B E (Nat.lt_succ_self i),zbU h,z8W GA GB h4 (zgf hl _)]
theorem zh7 {n:Nat} {M:List Row} (G:z0j n M) {e:Row} (hl:∀ i,0≤lat e i∧lat e i < (n:Int)) (i:Nat):0≤oS M e i∧oS M e i < (n:Int):=by
 obtain ⟨a,b⟩:=ze7 G hl i
 obtain ⟨l0,l1⟩:=hl i
 exact z4D (G.perm _ (z0o a b)) (by lia)
theorem zgg {n:Nat} {e:Row} (hl:∀ i,0≤lat e i∧lat e i < (n:Int)) (hne:e.2≠[]):LW n e.1∧LW n e.2:=by
 have hp:0 < e.2.length:=List.length_pos_iff.mpr hne
 refine ⟨fun l h=>?_,fun l h=>?_⟩
 ·obtain ⟨i,hi,rfl⟩:=List.mem_iff_getElem.mp h
  have:=hl i
  rw [z3r hi,z1y hi] at this
  exact this
 ·obtain ⟨i,hi,rfl⟩:=List.mem_iff_getElem.mp h
  have:=hl (e.1.length+i)
  rw [z2v (by lia),Nat.add_sub_cancel_left,Nat.mod_eq_of_lt hi,z1y hi] at this
  exact this
theorem zg9 (e:Row):D.okL [D.its e.1,D.its e.2] [D.its e.1,D.its e.2]:=by
 have:=z2G [e] [e]
 simp only [z0s,List.map_cons,List.map_nil,D.okL,z3I,D.ok] at this
 simp only [D.okL,D.ok]
 exact this.1
theorem zfN (e:Row):D.depL [D.its e.1,D.its e.2]≤1:=by
 have:=z6n e.1
 have:=z6n e.2
 simp only [D.depL] at *
 lia
theorem zao {a b:TS} {D:z3Z} {σ:St} {H:Hp} (h:∀ R:TS,R=b→zgE a R D σ H):zgE a b D σ H:=h b rfl
theorem atR {R b:TS} {D:z3Z} {σ:St} {H:Hp} (e:R=b) (h:b D σ H):R D σ H:=by rw [e];exact h
theorem z8p {E F:Row} (h:z1V E) (hF:F.2≠[]) (s:∀ i,lat E i=lat F i):E.1.length≤F.1.length∧E.2.length≤F.2.length:=by
 have ef:lat E=lat F:=funext s
 have P:=z63 h.ring
 have Q:=z63 hF
 have hp:0 < E.2.length:=List.length_pos_iff.mpr h.ring
 have hq:0 < F.2.length:=List.length_pos_iff.mpr hF
 rw [←ef] at Q
 refine ⟨Nat.le_of_not_lt fun z=>?_,Nat.le_of_not_lt fun z=>h.least _ hq z (P.down Q hp)⟩
 rcases h.cut with c | c
 ·rw [c] at z;simp at z
 ·exact c ((Q.down P hq) (E.1.length - 1) (by lia)).symm
theorem zc0 {n:Nat} {M:List Row} (G:z0j n M) {e E:Row} (he:e.2≠[]) (l1:LW n e.1) (l2:LW n e.2) (h:z1V E) (s:∀ i,lat E i=oS M e i):E.1.length≤e.1.length+M.length*e.2.length∧E.2.length≤M.length*e.2.length:=by
 have nn:¬ ((List.range (M.length+1)).map (z3Y M e)).Nodup:=fun z=>by
  have:=z3O (n:=M.length) z fun x hx=>by
   obtain ⟨k,_,rfl⟩:=List.mem_map.mp hx
   exact z6p G l1 l2 k
  rw [List.length_map,List.length_range] at this
  lia
 obtain ⟨i,j,hij,hj,hl⟩:=z7Z nn
 have w:=z9I M he hij hl.symm
 have hp:0 < e.2.length:=List.length_pos_iff.mpr he
 have tk:(z2f M e j).take i=z2f M e i:=by
  unfold z2f
  rw [←List.map_take,List.take_range,Nat.min_eq_left (by lia)]
 have f1:((z2f M e j).take i).flatten.length=i*e.2.length:=by rw [tk,z2d]
 have f2:((z2f M e j).take i).flatten.length+((z2f M e j).drop i).flatten.length=j*e.2.length:=by
  rw [←List.length_append,←List.flatten_append,List.take_append_drop,z2d]
 have m1:(i+1)*e.2.length≤j*e.2.length:=Nat.mul_le_mul_right _ hij
 have m2:j*e.2.length≤M.length*e.2.length:=Nat.mul_le_mul_right _ (by lia)
 rw [Nat.add_mul,Nat.one_mul] at m1
 have hF:((z2f M e j).drop i).flatten≠[]:=fun z=>by
  rw [z,f1] at f2
  simp at f2
  lia
 obtain ⟨a,b⟩:=z8p (F:=(z1j M 0 e.1++((z2f M e j).take i).flatten,((z2f M e j).drop i).flatten)) h hF fun k=>by rw [s k,w k]
 replace b:E.2.length≤((z2f M e j).drop i).flatten.length:=b
 rw [List.length_append,z1h] at a
 exact ⟨by lia,by lia⟩
theorem zdQ {n:Nat} {one:List Row} (G:z0j n one) (h8:one.length≤8):∀ j,(∀ i,i≤j→(pw n one i).length≤60)→∀ w,LW n w→z1j (pw n one j) 0 w=itW one j w
 | 0,_,w,hw=>z3J hw
 | j+1,h,w,hw=>by
  have hj:=h j (by lia)
  have ok:=z5G G (by lia) j fun i hi=>h i (by lia)
  show z1j (shr (z0J (pw n one j) one)) 0 w=z1j one 0 (itW one j w)
  rw [z8W ok.1 G (Nat.le_trans (Nat.mul_le_mul hj h8) (by decide)) hw,zdQ G h8 j (fun i hi=>h i (by lia)) w hw]
theorem ze2 {M:List Row} {w:List Int} {r:Nat} (h:itW M r w=w):∀ q,itW M (q*r) w=w
 | 0=>by rw [Nat.zero_mul];rfl
 | q+1=>by rw [Nat.add_mul,Nat.one_mul,z79,h,ze2 h q]
theorem z8f {M:List Row} {w:List Int} {r m:Nat} (R:z96 M w r) (h:itW M m w=w):m % r=0:=by
 obtain ⟨r1,hr,hl⟩:=R
 refine Classical.byContradiction fun z=>hl (m % r) (by lia) (Nat.mod_lt _ (by lia)) ?_
 have e:m=m % r+m / r*r:=by rw [Nat.mul_comm];exact (Nat.mod_add_div m r).symm
 rw [e,z79,ze2 hr] at h
 exact h
theorem z5V (n:Nat) (one:List Row):∀ (k c:Nat),(∃ m,c≤m∧m < c+k∧z8i n one c k=.int (m:Int)∧pw n one m=z0w n∧(∀ i,c≤i→i < m→pw n one i≠z0w n)∧∀ i,c≤i→i≤m→(pw n one i).length≤60)∨((z8i n one c k=.non∨z8i n one c k=.str "many")∧(0 < k→pw n one c≠z0w n))
 | 0,c=>.inr ⟨.inl rfl,fun z=>absurd z (by lia)⟩
 | k+1,c=>by
  unfold z8i
  by_cases h:60 < (pw n one c).length
  ·rw [if_pos h]
   exact .inr ⟨.inr rfl,fun _ z=>by rw [z] at h;simp [z0w] at h⟩
  ·rw [if_neg h]
   by_cases h2:pw n one c=z0w n
   ·rw [if_pos h2]
    exact .inl ⟨c,Nat.le_refl _,by lia,rfl,h2,fun i a b=>absurd b (by lia),fun i a b=>by rw [show i=c by lia];lia⟩
   ·rw [if_neg h2]
    rcases z5V n one k (c+1) with ⟨m,m1,m2,e,p1,p2,p3⟩ | ⟨e,p⟩
    ·refine .inl ⟨m,by lia,by lia,e,p1,fun i a b=>?_,fun i a b=>?_⟩
     ·by_cases z:i=c
      ·rw [z];exact h2
      ·exact p2 i (by lia) b
     ·by_cases z:i=c
      ·rw [z];lia
      ·exact p3 i (by lia) b
    ·exact .inr ⟨e,fun _=>h2⟩
def z73 (Ts:List Tb) (K:PySem.W.Frag):Sp:=fun vs H Q _=>∃ (v:V) (one:List Row) (n:Nat),vs=[v]∧z6H Ts H∧Dr K H (D.tup (z0s one)) v∧Frm n one∧(z8i n one 1 24≠.str "many"→∀ H',z1w Ts H H'→Q (z8i n one 1 24) H')∧(z8i n one 1 24=.str "many"→∀ H',z1w Ts H H'→Q .non H')
end Gu
namespace Gu
open PySem L2
section
variable {P:Program} {w:World} {K:PySem.W.Frag} {mg:Str→Option Value} {base:Heap} {f g:Addr} {fd gd:FuncData} {CX:CXT} [NoE CX]
theorem zgj:z0n ["letters"] ["letters"] (z06 zcL):=⟨rfl,rfl,rfl,by decide +kernel,rfl,by decide +kernel,by decide +kernel⟩
theorem zet (F:Fun K "same_letters" "same_letters" zcL f fd) (mt:mg "tuple"=none) (mr:mg "range"=none):z0t P w K mg base CX 1 f fd ["letters"] (zaY K):=by
 refine F.okc zgj (fun vs H Q E h=>?_) (fun cdv A outer s H vs Q E hr h=>?_)
 ·obtain ⟨n,rfl,_⟩:=h
  rfl
 obtain ⟨n,rfl,h1,q⟩:=h
 refine ⟨_,z08 (z0v (z0u (z3d rfl) rfl mt PyProof.Rows.boot_tuple (z02 (z0u z6T rfl mr PyProof.Rows.boot_range (z02 (pv 0) z05)) z05))),?_⟩
 refine (exA rfl ⟨(n:Int),rfl,by lia,by lia,fun p hp=>⟨p,0,(n:Int),rfl,z04,⟨by decide,by decide,by lia,by lia⟩,by lia,fun l hl=>?_⟩⟩)
 have e:((n:Int) - 0).toNat=n:=by lia
 rw [e,z5q]
 exact q _ _ (same_up (same_up (z0h.refl H) hp) hl) (Dr.tup z04 (DrL.ints _))
theorem zfG:z0n ["_law_script","_law_at"] ["_law_script","_law_at"] (z06 zcZ):=⟨rfl,rfl,rfl,by decide +kernel,rfl,by decide +kernel,by decide +kernel⟩
theorem zeH (F:Fun K "_law_cell" "_law_cell" zcZ f fd) (ml:mg "len"=none):z0t P w K mg base CX 1 f fd ["_law_script","_law_at"] (z9l K):=by
 refine F.okc zfG (fun vs H Q E h=>?_) (fun cdv A outer s H vs Q E hr h=>?_)
 ·obtain ⟨a,ns,i,rfl,_⟩:=h
  rfl
 obtain ⟨a,ns,i,rfl,hS,h63,hi,q⟩:=h
 refine ⟨_,z03 (z1J (z0W z5o (pv 1) (z0m z0a rfl ml PySem.boot_len (z02 (pv 0) z05)) (z1d _)) (z08 (z0v (z0Q z1f (pv 0) (pv 1) (fun _ _=>rfl)))) z0G)
  (z03 (z1J (z0W zf5 (z0m z0a rfl ml PySem.boot_len (z02 (pv 0) z05)) z07 (z1d _)) (z08 (z0v (z0r z1g (z0r z3t z07 (pv 1)) z07))) z0G)
  (z08 (z0v (z0r z1g (z0r z0V (z0Q z1f (pv 0) (z0r z0V (pv 1) (z0m z0a rfl ml PySem.boot_len (z02 (pv 0) z05))) (fun _ _=>rfl)) z07) (z0r z3t z07 (pv 1)))))),?_⟩
 have hl:(ns.map V.int).length=ns.length:=List.length_map _
 refine (exA rfl (exA rfl ⟨a,exA rfl ⟨.inl hS,exC rfl rfl (exA rfl ?_)⟩⟩))
 refine z2p (fun c=>?_) (fun c=>?_)
 ·have c':(i:Int) < (((ns.map V.int).length:Nat):Int):=of_decide_eq_true c
  rw [hl] at c'
  have hin:i < ns.length:=by lia
  refine (exA rfl (exA rfl ⟨a,_,_,V.int (ns.getD i 0),rfl,rfl,hS,z0B (by simp [hin]),?_⟩))
  have e:cell ns i=ns.getD i 0:=by unfold cell;rw [if_pos hin]
  rw [e] at q
  exact q
 ·have c':¬ (i:Int) < (((ns.map V.int).length:Nat):Int):=of_decide_eq_false (Bool.eq_false_iff.mpr c)
  rw [hl] at c'
  have hin:¬ i < ns.length:=by lia
  refine (exA rfl ⟨a,exA rfl ⟨.inl hS,rfl,exA rfl ?_⟩⟩)
  refine z2p (fun c=>?_) (fun c=>?_)
  ·have c2:=of_decide_eq_true c
   rw [hl] at c2
   have hz:ns.length=0:=by injection c2 with c2;lia
   refine (exA rfl (exC rfl rfl ⟨.inl ⟨by decide,by decide⟩,exC rfl rfl ?_⟩))
   have e:cell ns i=29*i+5:=by unfold cell;rw [if_neg hin,if_pos hz]
   rw [e] at q
   exact q
  ·have c2:=of_decide_eq_false (Bool.eq_false_iff.mpr c)
   rw [hl] at c2
   have hz:¬ ns.length=0:=fun z=>c2 (congrArg V.int (by lia))
   have hpos:(0:Int) < ns.length:=by lia
   have hm:i % ns.length < ns.length:=Nat.mod_lt _ (by lia)
   have em:(i:Int) % (((ns.map V.int).length:Nat):Int)=((i % ns.length:Nat):Int):=by rw [hl];exact (Int.natCast_emod i ns.length).symm
   refine (exA rfl (exA rfl (exA rfl ⟨a,exA rfl ⟨.inl hS,exC rfl rfl ⟨by rw [hl];exact hpos,a,_,_,V.int (ns.getD (i % ns.length) 0),rfl,rfl,hS,(by rw [em];exact z0B (by simp [hm])),exC rfl rfl ⟨(by show (0:Int) < 1000003;decide),exA rfl (exC rfl rfl ⟨.inl ⟨by decide,by decide⟩,exC rfl rfl ?_⟩)⟩⟩⟩⟩)))
   have e:cell ns i=ns.getD (i % ns.length) 0 % 1000003+103*i:=by unfold cell;rw [if_neg hin,if_neg hz]
   rw [e] at q
   exact q
theorem zbL:z0n ["_law_script","_law_at"] ["_law_script","_law_at"] (z06 z4w):=⟨rfl,rfl,rfl,by decide +kernel,rfl,by decide +kernel,by decide +kernel⟩
theorem zaj (F:Fun K "_law_letters" "_law_letters" z4w f fd) (G:z0t P w K mg base CX 1 g gd ["_law_script","_law_at"] (z9l K)) (bG:z0k K gd ["_law_script","_law_at"] []) (kG:PySem.W.keepIn K (.ref g)=true) (mG:mg "_law_cell"=some (.ref g)) :
  z0t P w K mg base CX 2 f fd ["_law_script","_law_at"] (z4Y K):=by
 refine F.okc zbL (fun vs H Q E h=>?_) (fun cdv A outer s H vs Q E hr h=>?_)
 ·obtain ⟨a,ns,i,rfl,_⟩:=h
  rfl
 obtain ⟨a,ns,i,rfl,hS,h63,hi,q⟩:=h
 refine ⟨_,z08 (z0v (z0r z1g z07 (z0r z0V (z0c G hr rfl mG kG bG .nil z0H (z02 (pv 0) (z02 (pv 1) z05))) z07))),?_⟩
 rw [zdD] at q
 exact (exA rfl (exA rfl ⟨a,ns,i,rfl,hS,h63,hi,exC rfl rfl ⟨(by show (0:Int) < 4;decide),exC rfl rfl q⟩⟩))
theorem z6d:z0n ["_law_pick","_law_letters_here","_law_left","_law_made","_law_k","_law_many"] ["_law_pick","_law_letters_here"] (z06 zd1):=⟨rfl,rfl,rfl,by decide +kernel,rfl,by decide +kernel,by decide +kernel⟩
theorem zeR (F:Fun K "_law_rearranged" "_law_rearranged" zd1 f fd) (ml:mg "len"=none) (mt:mg "tuple"=none) (mr:mg "range"=none) (mls:mg "list"=none):z0t P w K mg base CX 1 f fd ["_law_pick","_law_letters_here"] (zba K):=by
 refine F.okc z6d (fun vs H Q E h=>?_) (fun cdv A outer s H vs Q E hr h=>?_)
 ·obtain ⟨pick,n,rfl,_⟩:=h
  rfl
 obtain ⟨pick,n,rfl,hn,k⟩:=h
 refine ⟨_,z03 (z0e (i:=2) z6d.nd rfl (Or.inl rfl) (z0u (z6C rfl) rfl mls PyProof.Rows.boot_list (z02 (z0u z6T rfl mr PyProof.Rows.boot_range (z02 (pv 1) z05)) z05)))
  (z03 (z0e (i:=3) z6d.nd rfl (Or.inl rfl) (z2h z05))
  (z03 (z20 PassesOwn.never rfl (z28 rfl mr (z02 (pv 1) z05)) (z0b (i:=4) z6d.nd rfl (Or.inl rfl))
   (z03 (z0e (i:=5) z6d.nd rfl (Or.inl rfl) (z0m z0a rfl ml PySem.boot_len (z02 (pv 2) z05)))
   (z03 (z0X (z3N PySem.F.plainAttrs_list PySem.F.slot_list_append PySem.F.type_list_append z0P (pv 3) (z02 (z3N PySem.F.plainAttrs_list PySem.F.slot_list_pop PySem.F.type_list_pop zd9 (pv 2) (z02 (z0r z0V (pv 0) (pv 5)) z05)) z05)))
   (z08 (z0e (i:=0) z6d.nd rfl (Or.inl rfl) (z0r z2F (pv 0) (pv 5)))))))
  (z08 (z0v (z0u z0p rfl mt PyProof.Rows.boot_tuple (z02 (pv 3) z05)))))),?_⟩
 refine (exA rfl ⟨(n:Int),rfl,by lia,by lia,fun p hp=>⟨p,0,(n:Int),rfl,z04,⟨by decide,by decide,by lia,by lia⟩,by lia,fun l hl=>⟨by show 0≤sizeLine;decide,fun m hm=>?_⟩⟩⟩)
 have e:((n:Int) - 0).toNat=n:=by lia
 rw [e,z5q] at hm ⊢
 have s1:z0h H (upd H p (.rng 0 n)):=same_up (z0h.refl H) hp
 have s2:z0h H (upd (upd H p (.rng 0 n)) l (.lst ((z0z n).map V.int))):=same_up s1 hl
 have hl0:H l=none:=s1.free hl
 have hm0:H m=none:=s2.free hm
 have hlm:l≠m:=z0f z04 hm
 have s3:z0h H (upd (upd (upd H p (.rng 0 n)) l (.lst ((z0z n).map V.int))) m (.lst [])):=same_up s2 hm
 refine ⟨_,rfl,(n:Int),rfl,by lia,by lia,z8g (n:=(n:Int).toNat) (fun i σ H2=>∃ (u v:Option V) (pk:Int) (left made:List Int),σ=[some (.int pk),some (.int n),some (.ref l),some (.ref m),u,v]∧z0h H H2∧H2 l=some (.lst (left.map V.int))∧H2 m=some (.lst (made.map V.int)) ∧
   left.length+i=n∧made.length=i∧zcF pick n=made++zdL left.length pk left)
  ⟨none,none,pick,z0z n,[],rfl,s3,(by rw [z09 hlm,z04]),z04,z0D n,rfl,by rw [z0D];rfl⟩ (fun i σ H2 hi h Ed nx3=>?_) (fun σ H2 h=>?_)⟩
 ·obtain ⟨u,v,pk,left,made,rfl,t2,gl,gm,e1,e2,e3⟩:=h
  have hin:i < n:=by simpa using hi
  have hpos:0 < left.length:=by lia
  have hL:(left.map V.int).length=left.length:=List.length_map _
  obtain ⟨ix,hixe,hix⟩:∃ ix:Nat,pk % (((left.map V.int).length:Nat):Int)=(ix:Int)∧ix < left.length:=by
   rw [hL]
   have h0:=Int.emod_nonneg pk (show (left.length:Int)≠0 by lia)
   have h1:=Int.emod_lt_of_pos pk (show (0:Int) < left.length by lia)
   exact ⟨(pk % (left.length:Int)).toNat,by lia,by lia⟩
  have hsq:PySem.seqIndex? (pk % (((left.map V.int).length:Nat):Int)) (left.map V.int).length=some ix:=by
   rw [hixe,hL,PySem.seqIndex_of (by lia) (by lia)]
   simp
  refine (exA rfl (exG l rfl (.inl (SqL.of gl)) (exA rfl ⟨.inl ⟨rfl,_,SqL.of gm⟩,exA rfl ⟨.inl ⟨rfl,_,SqL.of gl⟩,exA rfl (exA rfl (exC rfl rfl ⟨by rw [hL];lia,?_⟩))⟩⟩)))
  refine ⟨l,_,_,ix,V.int (left.getD ix 0),rfl,rfl,gl,by rw [hixe];lia,by rw [hixe];lia,hsq,by simp [hix],m,exC rfl rfl ⟨by rw [z09 (Ne.symm hlm)];exact gm,by rw [List.length_map];exact z3E (by lia),?_⟩⟩
  refine (exA rfl (exA rfl (exC rfl rfl ⟨⟨by rw [hL];lia,by rw [hL];lia⟩,?_⟩)))
  refine nx3 _ _ ⟨_,_,pk / (((left.map V.int).length:Nat):Int),left.eraseIdx ix,made++[left.getD ix 0],rfl,z0g (z0g t2 hl0) hm0,?_,?_,?_,by simp [e2],?_⟩
  ·rw [z09 hlm,z04]
   congr 2
   exact z87 V.int left ix
  ·rw [z04,List.map_append];rfl
  ·rw [List.length_eraseIdx_of_lt hix];lia
  ·rw [e3,List.append_assoc]
   congr 1
   obtain ⟨q,hq⟩:∃ q,left.length=q+1:=⟨left.length - 1,by lia⟩
   have e5:(left.eraseIdx ix).length=q:=by rw [List.length_eraseIdx_of_lt hix];lia
   rw [e5,hL]
   rw [hL] at hixe
   have e6:(pk % (left.length:Int)).toNat=ix:=by lia
   have e7:zdL (q+1) pk left=left.getD (pk % (left.length:Int)).toNat 0::zdL q (pk / (left.length:Int)) (left.eraseIdx (pk % (left.length:Int)).toNat):=rfl
   rw [hq,e7,e6]
   rw [hq]
   rfl
 ·obtain ⟨u,v,pk,left,made,rfl,t2,gl,gm,e1,e2,e3⟩:=h
  refine (exA rfl ⟨m,exA rfl (.inl ⟨SqL.of gm,fun t ht=>?_⟩)⟩)
  have e9:(n:Int).toNat=n:=by lia
  have e4:left.length=0:=by lia
  rw [e4] at e3
  have e5:zcF pick n=made:=by rw [e3];unfold zdL;simp
  rw [←e5]
  exact k _ _ (same_up t2 ht) (Dr.tup z04 (DrL.ints _))
abbrev zhT:List Str:=["_law_one","_law_told_here"]
theorem zcW:z0n zhT ["_law_one"] (z06 zdu):=⟨rfl,rfl,rfl,by decide +kernel,rfl,by decide +kernel,by decide +kernel⟩
theorem zb7 {Ct Cb:Addr} {bmB:List Value} {newId:String} {Ts:List Tb} (mC:mg "TooMany"=some (.ref Ct)) (xC:PySem.W.excIn K Ct bmB newId=true) (hB:bmB.contains (.type "BaseException")=true) (F:Fun K "_law_told" "_law_told" zdu f fd)
  {aW:Addr} {dW:FuncData} (W:z0t P w K mg base (CXx P w) 8 aW dW ["guise","most"] (z8Q Ts K Ct Cb)) (bW:z0k K dW ["guise","most"] []) (kW:PySem.W.keepIn K (.ref aW)=true) (mW:mg "order"=some (.ref aW)):z0t P w K mg base (CXx P w) 9 f fd ["_law_one"] (z73 Ts K):=by
 refine F.okc zcW (fun vs H Q E h=>?_) (fun cdv A outer s H vs Q E hr h=>?_)
 ·obtain ⟨v,one,n,rfl,_⟩:=h
  rfl
 obtain ⟨v,one,n,rfl,hTb,dv,fr,q1,q2⟩:=h
 refine ⟨_,z03 (z0e (i:=1) zcW.nd rfl (Or.inl rfl) z9t)
  (z03 (zfX rfl rfl mC rfl xC hB (fun pn E1 D pass=>(z08 (z0e (i:=1) zcW.nd rfl (Or.inl rfl) (z0c W hr rfl mW kW bW .nil pass (z02 (pv 0) (z02 z07 z05)))))) (fun e=>(z08 (z0e (i:=1) zcW.nd rfl (Or.inl rfl) z9t))))
  (z08 (z0v (pv 1)))),?_⟩
 refine (exA rfl ⟨v,one,n,24,rfl,hTb,dv,fr,fun _ h0 H1 s1=>(exA rfl (q1 h0 H1 s1)),fun _ h0 ea H1 s1=>⟨rfl,fun σ hσ=>⟨.non,?_,q2 h0 H1 s1⟩⟩,fun z=>absurd z (by decide)⟩)
 have hσ2:σ.length=2:=hσ
 show (σ.set 1 (some V.non))[1]?=_
 rw [List.getElem?_set_self (by lia)]
abbrev zhX:List Str:=["_law_script","_law_letters_here","_law_one","_law_many","_law_fewer","_law_word_here","_law_endless","_law_now","_law_turn"]
theorem z5E:z0n zhX ["_law_script"] (z06 zco):=⟨rfl,rfl,rfl,by decide +kernel,rfl,by decide +kernel,by decide +kernel⟩
theorem zdM (n:Nat) (one:List Row) (m:Nat):tmS n one (m:Int)=pw n one m:=by unfold tmS;rw [if_neg (by lia),Int.natAbs_natCast]
theorem z5Z {n:Nat} {e:Row} (hl:∀ i,0≤lat e i∧lat e i < (n:Int)) (i:Nat):oS (z0w n) e i=lat e i:=by
 rw [←z3M (z0w n) e (Nat.lt_succ_self i),z3J (zgf hl _),List.getD_eq_getElem?_getD,List.getElem?_eq_getElem (by rw [z1Y];lia),z6j]
 rfl
structure zin (K:PySem.W.Frag) (n i:Nat) (RA:List Row) (e E:Row) (vn:V) (H:Hp):Prop where
 dr:Dr K H (z3I E) vn
 ne:E.2≠[]
 l1:LW n E.1
 l2:LW n E.2
 lt:∀ k,lat E k=oS (pw n RA i) e k
 pl:0 < i→z1V E
 s1:E.1.length≤1104
 s2:E.2.length≤1080
theorem zg3 {Ct Cb Cw:Addr} {Ts:List Tb} (mr:mg "range"=none) (F:Fun K "law" "law" zco f fd)
  {aC:Addr} {dC:FuncData} (C:z0t P w K mg base (CXx P w) 9 aC dC ["_law_script","_law_at"] (z9l K)) (bC:z0k K dC ["_law_script","_law_at"] []) (kC:PySem.W.keepIn K (.ref aC)=true) (mC:mg "_law_cell"=some (.ref aC))
  {aL:Addr} {dL:FuncData} (L:z0t P w K mg base (CXx P w) 9 aL dL ["_law_script","_law_at"] (z4Y K)) (bL:z0k K dL ["_law_script","_law_at"] []) (kL:PySem.W.keepIn K (.ref aL)=true) (mL:mg "_law_letters"=some (.ref aL))
  {aG:Addr} {dG:FuncData} (G:z0t P w K mg base (CXx P w) 9 aG dG ["_law_letters_here","_law_cell_here"] (z8v K)) (bG:z0k K dG ["_law_letters_here","_law_cell_here"] []) (kG:PySem.W.keepIn K (.ref aG)=true) (mG:mg "_law_guise"=some (.ref aG))
  {aT:Addr} {dT:FuncData} (T:z0t P w K mg base (CXx P w) 9 aT dT ["_law_one"] (z73 Ts K)) (bT:z0k K dT ["_law_one"] []) (kT:PySem.W.keepIn K (.ref aT)=true) (mT:mg "_law_told"=some (.ref aT))
  {aS:Addr} {dS:FuncData} (S:z0t P w K mg base (CXx P w) 9 aS dS ["letters"] (z4T K)) (bS:z0k K dS ["letters"] []) (kS:PySem.W.keepIn K (.ref aS)=true) (mS:mg "still"=some (.ref aS))
  {aM:Addr} {dM:FuncData} (M:z0t P w K mg base (CXx P w) 9 aM dM ["guise","many"] (z8E Ts K Ct Cb)) (bM:z0k K dM ["guise","many"] []) (kM:PySem.W.keepIn K (.ref aM)=true) (mM:mg "times"=some (.ref aM))
  {aW:Addr} {dW:FuncData} (W:z0t P w K mg base (CXx P w) 9 aW dW ["_law_letters_here","_law_cell_here","_law_most"] (z8r K)) (bW:z0k K dW ["_law_letters_here","_law_cell_here","_law_most"] []) (kW:PySem.W.keepIn K (.ref aW)=true) (mW:mg "_law_word"=some (.ref aW))
  {aY:Addr} {dY:FuncData} (Y:z0t P w K mg base (CXx P w) 9 aY dY ["_law_letters_here"] (z5c K)) (bY:z0k K dY ["_law_letters_here"] []) (kY:PySem.W.keepIn K (.ref aY)=true) (mY:mg "_law_stories"=some (.ref aY))
  {aR:Addr} {dR:FuncData} (R:z0t P w K mg base (CXx P w) 9 aR dR ["guise","word"] (z4p K Cw Ct)) (bR:z0k K dR ["guise","word"] []) (kR:PySem.W.keepIn K (.ref aR)=true) (mR:mg "rounds"=some (.ref aR))
  {aO:Addr} {dO:FuncData} (O:z0t P w K mg base (CXx P w) 9 aO dO ["_law_letters_here","_law_cell_here","_law_most"] (z7f K)) (bO:z0k K dO ["_law_letters_here","_law_cell_here","_law_most"] []) (kO:PySem.W.keepIn K (.ref aO)=true) (mO:mg "_law_coming"=some (.ref aO))
  {aE0:Addr} {dE0:FuncData} (E0:z0t P w K mg base (CXx P w) 9 aE0 dE0 ["guise","endless"] (z7h K Cw)) (bE0:z0k K dE0 ["guise","endless"] []) (kE0:PySem.W.keepIn K (.ref aE0)=true) (mE0:mg "worn_endless"=some (.ref aE0))
  {aPw:Addr} {dPw:FuncData} (Pw:z0t P w K mg base (CXx P w) 9 aPw dPw ["beginning","ring"] (z3K K Cw)) (bPw:z0k K dPw ["beginning","ring"] []) (kPw:PySem.W.keepIn K (.ref aPw)=true) (mPw:mg "plain_word"=some (.ref aPw))
  {aZ:Addr} {dZ:FuncData} (Z:z0t P w K mg base (CXx P w) 9 aZ dZ ["guise","many"] (z6W K Ct Cb)) (bZ:z0k K dZ ["guise","many"] []) (kZ:PySem.W.keepIn K (.ref aZ)=true) (mZ:mg "whirls"=some (.ref aZ)):z0t P w K mg base (CXx P w) 10 f fd ["_law_script"] (z94 Ts K):=by
 refine F.okc z5E (fun vs H Q E h=>?_) (fun cdv A' outer s H vs Q E' hr h=>?_)
 ·obtain ⟨a,ns,rfl,_⟩:=h
  rfl
 obtain ⟨a,ns,rfl,hS,h63,hTb,q⟩:=h
 have n2:=zeO ns 0
 have n5:=zel ns 0
 have hu:=hr.units
 refine ⟨_,z03 (z0e (i:=1) z5E.nd rfl (Or.inl rfl) (z0c L hr rfl mL kL bL .nil z0H (z02 (pv 0) (z02 z07 z05))))
  (z03 (z0e (i:=2) z5E.nd rfl (Or.inl rfl) (z0c G hr rfl mG kG bG .nil z0H (z02 (pv 1) (z02 (z0c C hr rfl mC kC bC .nil z0H (z02 (pv 0) (z02 z07 z05))) z05))))
  (z03 (z0e (i:=3) z5E.nd rfl (Or.inl rfl) (z0c T hr rfl mT kT bT .nil z0H (z02 (pv 2) z05)))
  (z03 (z1J (z0W zfz (pv 3) z9t (z1d _)) (z08 (z0v (z6s (zbf K rfl hu) (pv 2) (z0c S hr rfl mS kS bS .nil z0H (z02 (pv 1) z05)) (z1d _)))) z0G)
  (z03 (z1J (z0W (zbf K rfl hu) (z0c M hr rfl mM kM bM .nil z0H (z02 (pv 2) (z02 (pv 3) z05))) (z0c S hr rfl mS kS bS .nil z0H (z02 (pv 1) z05)) (z1d _)) (z08 (z0v zaM)) z0G)
  (z03 (z20 PassesOwn.never rfl (z7r rfl mr (z02 z07 (z02 (pv 3) z05))) (z0b (i:=4) z5E.nd rfl (Or.inl rfl))
   (z08 (z1J (z0W (zdS hu) (z0c M hr rfl mM kM bM .nil z0H (z02 (pv 2) (z02 (pv 4) z05))) (z0c S hr rfl mS kS bS .nil z0H (z02 (pv 1) z05)) (z1d _)) (z08 (z0v zaM)) z0G)))
  (z03 (z0e (i:=5) z5E.nd rfl (Or.inl rfl) (z0c W hr rfl mW kW bW .nil z0H (z02 (pv 1) (z02 (z0c C hr rfl mC kC bC .nil z0H (z02 (pv 0) (z02 z07 z05))) (z02 (z0c Y hr rfl mY kY bY .nil z0H (z02 (pv 1) z05)) z05)))))
  (z03 (z1J (z1A (ze6 (z0r z0V (pv 3) (z0c R hr rfl mR kR bR .nil z0H (z02 (pv 2) (z02 (pv 5) z05)))) z07)) (z08 (z0v zaM)) z0G)
  (z03 (z0e (i:=6) z5E.nd rfl (Or.inl rfl) (z0c O hr rfl mO kO bO .nil z0H (z02 (pv 1) (z02 (z0c C hr rfl mC kC bC .nil z0H (z02 (pv 0) (z02 z07 z05))) (z02 z07 z05)))))
  (z03 (z0e (i:=7) z5E.nd rfl (Or.inl rfl) (pv 6))
  (z03 (z20 PassesOwn.never rfl (z28 rfl mr (z02 (pv 3) z05)) (z0b (i:=8) z5E.nd rfl (Or.inl rfl))
   (z08 (z0e (i:=7) z5E.nd rfl (Or.inl rfl) (z0c E0 hr rfl mE0 kE0 bE0 .nil z0H (z02 (pv 2) (z02 (pv 7) z05))))))
  (z03 (z1J (z0W (zbf K rfl hu) (pv 7) (z0c Pw hr rfl mPw kPw bPw .nil z0H (z02 (z0Q z1G (pv 6) z07 (fun _ _=>rfl)) (z02 (z0Q z1G (pv 6) z07 (fun _ _=>rfl)) z05))) (z1d _)) (z08 (z0v zaM)) z0G)
  (z08 (z0v (zgG (zdW (z0c Z hr rfl mZ kZ bZ .nil z0H (z02 (pv 2) (z02 z07 z05)))) (zg1 (z6s zf5 (z0r z0V (pv 3) (z0r z3t (pv 1) (pv 1))) z07 (z1d _))))))))))))))))),?_⟩
 generalize hn:zdN ns 0=n at *
 refine zao fun R1 hR1=>?_
 refine (exA rfl ⟨a,ns,0,rfl,hS,h63,by lia,?_⟩)
 rw [hn]
 refine atR (R:=R1) hR1 ?_
 refine zao fun R2 hR2=>?_
 refine (exA rfl (exA rfl ⟨a,ns,1,rfl,hS,h63,by lia,n,exA rfl ⟨n2,n5,fun v1 H1 r1 s1 G1 l1 d1=>?_⟩⟩))
 have GA:=z1E G1
 have fA:=zbH G1
 have hA:(shr r1).length≤8:=by have:=z3y G1;lia
 generalize shr r1=RA at *
 have t1:z1w Ts H H1:=z0h.l s1
 refine atR (R:=R2) hR2 ?_
 refine zao fun R3 hR3=>?_
 rcases z5V n RA 24 1 with ⟨m,m1,m2,em,p1,p2,p3⟩ | ⟨em,p⟩
 rotate_left
 ·have hne:RA≠z0w n:=fun z=>p (by lia) (by rw [zg2 GA fA];exact z)
  refine (exA rfl ⟨v1,RA,n,rfl,t1.tabs hTb,d1,⟨GA,fA,by lia,n2,by lia⟩,fun h0 H2 s2=>?_,fun h0 H2 s2=>?_⟩)
  ·rcases em with em | em
   ·rw [em]
    refine atR (R:=R3) hR3 ?_
    refine (exA rfl ⟨rfl,exA rfl (zcs ?_)⟩)
    refine (exA rfl (exA rfl ⟨n,rfl,n2,by lia,fun z1 H3 s3 d3=>?_⟩))
    refine ⟨_,_,(d1.monoL s2).mono s3,(show Dr K H3 (D.tup (z0s (z0w n))) z1 from d3),z2G _ _,by have:=z3T RA;lia,?_⟩
    rw [z6g,decide_eq_false hne]
    exact q _
   ·exact absurd em h0
  ·refine atR (R:=R3) hR3 ?_
   refine (exA rfl ⟨rfl,exA rfl (zcs ?_)⟩)
   refine (exA rfl (exA rfl ⟨n,rfl,n2,by lia,fun z1 H3 s3 d3=>?_⟩))
   refine ⟨_,_,(d1.monoL s2).mono s3,(show Dr K H3 (D.tup (z0s (z0w n))) z1 from d3),z2G _ _,by have:=z3T RA;lia,?_⟩
   rw [z6g,decide_eq_false hne]
   exact q _
 refine (exA rfl ⟨v1,RA,n,rfl,t1.tabs hTb,d1,⟨GA,fA,by lia,n2,by lia⟩,fun h0 H2 s2=>?_,fun z=>absurd (em.symm.trans z) (by simp)⟩)
 rw [em]
 clear em h0
 have ft:zgz n RA m:=fun i hi=>by
  by_cases z:i=0
  ·rw [z];exact (show (z0w n).length≤60 by simp [z0w])
  ·exact p3 i (by lia) hi
 have t2:=t1.trans s2
 replace d1:=d1.monoL s2
 refine atR (R:=R3) hR3 ?_
 refine zao fun R4 hR4=>?_
 refine (exA rfl ⟨rfl,exA rfl (z7m ?_)⟩)
 refine atR (R:=R4) hR4 ?_
 refine zao fun R5 hR5=>?_
 refine (exA rfl (exA rfl ⟨v1,RA,n,(m:Int),rfl,t2.tabs hTb,d1,⟨GA,fA,hA,n2,by lia⟩,fun z=>absurd (And.intro (by lia) (by lia)) z,fun _ z=>absurd (by rw [Int.natAbs_natCast];exact ft) z,fun _ _ x H3 s3 dx=>?_⟩))
 rw [zdM,p1] at dx
 refine (exA rfl ⟨n,rfl,n2,by lia,fun z1 H4 s4 d4=>?_⟩)
 refine ⟨_,_,dx.mono s4,(show Dr K H4 (D.tup (z0s (z0w n))) z1 from d4),z2G _ _,by have:=z3T (z0w n);lia,?_⟩
 rw [D.eq_refl]
 refine (exA rfl (z7m ?_))
 have s34:=s3.trans (z0h.l s4)
 have t4:=t2.trans s34
 replace d1:=d1.monoL s34
 clear dx d4
 refine atR (R:=R5) hR5 ?_
 refine zao fun R6 hR6=>?_
 refine (exA rfl ⟨1,(m:Int),rfl,⟨by lia,by lia,by lia,by lia⟩,z8g (n:=((m:Int) - 1).toNat) (fun _ σ H'=>∃ (u4:Option V),σ=[some (.ref a),some (.int n),some v1,some (.int m),u4,none,none,none,none]∧z1w Ts H4 H') (exA rfl (z1w.refl _)) (fun i σ H5 hi h Ed nx=>?_) (fun σ H5 h=>?_)⟩)
 ·obtain ⟨u4,rfl,t5⟩:=h
  have ei:(1:Int)+(i:Int)=((i+1:Nat):Int):=by lia
  rw [ei]
  refine (exA rfl (exA rfl ⟨v1,RA,n,((i+1:Nat):Int),rfl,(t4.trans t5).tabs hTb,d1.monoL t5,⟨GA,fA,hA,n2,by lia⟩,fun z=>absurd (And.intro (by lia) (by lia)) z,fun _ z=>absurd (by rw [Int.natAbs_natCast];exact fun k hk=>ft k (by lia)) z,fun _ _ x H6 s6 dx=>?_⟩))
  rw [zdM] at dx
  have hne:=p2 (i+1) (by lia) (by lia)
  refine (exA rfl ⟨n,rfl,n2,by lia,fun z1 H7 s7 d7=>?_⟩)
  obtain ⟨ax,rfl⟩:=zbu dx
  obtain ⟨az,rfl⟩:=zbu d7
  refine ⟨ax,az,exC rfl rfl ⟨dx.mono s7,(show Dr K H7 (D.tup (z0s (z0w n))) (.ref az) from d7),z2G _ _,z60 _,?_⟩⟩
  rw [z6g,decide_eq_false hne]
  exact (exA rfl (z7m (nx _ _ (exA rfl (t5.trans (s6.trans (z0h.l s7)))))))
 obtain ⟨u4,rfl,t5⟩:=h
 have T5:=t4.trans t5
 replace d1:=d1.monoL t5
 refine atR (R:=R6) hR6 ?_
 refine zao fun R7 hR7=>?_
 obtain ⟨k,hk⟩:=z2B (x:=zf7 n) (by unfold zf7;split<;>(try split)<;>(try split)<;>lia)
 have hk10:k≤10:=by unfold zf7 at hk;split at hk<;>(try split at hk)<;>(try split at hk)<;>lia
 refine (exA rfl (exA rfl ⟨a,ns,2,rfl,T5.seq hS,h63,by lia,exA rfl ⟨n,rfl,n2,n5,fun H6 s6=>⟨n,_,k,(by rw [hk];rfl),n2,n5,by lia,fun vw H7 wd s7 dw lw hwl=>?_⟩⟩⟩))
 have s67:=s6.trans s7
 have T7:=T5.trans (z0h.l s67)
 replace d1:=d1.mono s67
 have hf:n ^ wd.length≤1024:=Nat.le_of_not_lt fun z=>by
  have:=(zdq n2 n5 wd.length).mpr z
  lia
 refine atR (R:=R7) hR7 ?_
 refine zao fun R8 hR8=>?_
 refine (exA rfl (exA rfl (exA rfl ⟨v1,vw,RA,n,wd,rfl,d1,dw,GA,n2,n5,by lia,fun _ _ r Rr H8 s8=>?_,fun _ z=>absurd z (by lia),fun z=>absurd lw z⟩)))
 have hit:∀ u,LW n u→itW RA m u=u:=fun u lu=>by
  rw [←zdQ GA hA m ft u lu,p1]
  exact z3J lu
 have hd:=z8f Rr (hit wd lw)
 have r1':=Rr.1
 have rm:r≤m:=Nat.le_of_dvd (by lia) (Nat.dvd_of_mod_eq_zero hd)
 have e0:(m:Int) % (r:Int)=0:=by rw [←Int.natCast_emod,hd];rfl
 refine (exC rfl rfl ⟨by lia,exC rfl rfl ?_⟩)
 rw [e0]
 refine (exA rfl (z7m ?_))
 have T8:=T7.trans (z0h.l s8)
 replace d1:=d1.mono s8
 refine atR (R:=R8) hR8 ?_
 refine zao fun R9 hR9=>?_
 refine (exA rfl (exA rfl ⟨a,ns,3,rfl,T8.seq hS,h63,by lia,n,_,6,rfl,n2,n5,by lia,by lia,fun ve H9 e s9 de hne b1 b2 i1 i2=>?_⟩))
 obtain ⟨tE,bE,cE,rfl,etE,ebE,ecE⟩:=z0U de
 have hlat:=ze3 hne i1 i2
 have T9:=T8.trans (z0h.l s9)
 replace d1:=d1.mono s9
 refine atR (R:=R9) hR9 ?_
 refine zao fun R10 hR10=>?_
 refine (exA rfl ?_)
 refine atR (R:=R10) hR10 ?_
 refine zao fun R11 hR11=>?_
 refine ⟨_,rfl,(m:Int),rfl,by lia,by lia,z8g (n:=((m:Int)).toNat) (fun i σ H'=>∃ (vn:V) (E:Row) (u8:Option V),σ=[some (.ref a),some (.int n),some v1,some (.int m),u4,some vw,some (.ref tE),some vn,u8]∧z0h H9 H'∧zin K n i RA e E vn H')
  ⟨_,e,_,rfl,z0h.refl _,⟨de,hne,i1,i2,fun k=>(z5Z hlat k).symm,fun z=>absurd z (by lia),by lia,by lia⟩⟩ (fun i σ H10 hi h Ed nx=>?_) (fun σ H10 h=>?_)⟩
 ·obtain ⟨vn,E,u8,rfl,s10,S⟩:=h
  have him:i < m:=by lia
  have hj:=ft i (by lia)
  have hj1:=ft (i+1) (by lia)
  have ok:=z5G GA (by lia) i fun x hx=>ft x (by lia)
  have ok1:=z5G GA (by lia) (i+1) fun x hx=>ft x (by lia)
  have hl:RA.length*E.2.length≤8*1080:=Nat.mul_le_mul hA S.s2
  have s1':=S.s1
  have s2':=S.s2
  refine (exA rfl (exA rfl ⟨v1,vn,RA,E,n,rfl,d1.mono s10,S.dr,GA,by lia,by lia,by lia,by lia,fun _ x H11 E1 s11 dx px latx _ _=>?_,fun z=>absurd ⟨S.ne,S.l1,S.l2⟩ z⟩))
  have hlE:=ze3 S.ne S.l1 S.l2
  have lt1:∀ k,lat E1 k=oS (pw n RA (i+1)) e k:=fun k=>by
   rw [latx k]
   exact (zbn ok.1 GA (Nat.le_trans (Nat.mul_le_mul hj hA) (by decide)) hlat S.lt k).symm
  obtain ⟨z1,z2⟩:=zc0 ok1.1 hne i1 i2 px lt1
  have z3:(pw n RA (i+1)).length*e.2.length≤60*18:=Nat.mul_le_mul hj1 b2
  obtain ⟨j1,j2⟩:=zgg (fun k=>by rw [latx k];exact zh7 GA hlE k) px.ring
  exact nx _ _ ⟨x,E1,exA rfl ⟨s10.trans s11,⟨dx,px.ring,j1,j2,lt1,fun _=>px,by lia,by lia⟩⟩⟩
 obtain ⟨vn,E,u8,rfl,s10,S⟩:=h
 rw [Int.toNat_natCast] at S
 refine atR (R:=R11) hR11 ?_
 refine zao fun R12 hR12=>?_
 refine (exA rfl (exA rfl (exD tE _ _ (.ref bE) rfl rfl (SqT.of (s10 _ _ etE)) (z0B (j:=0) rfl) (exA rfl (exD tE _ _ (.ref cE) rfl rfl (SqT.of (s10 _ _ etE)) (z0B (j:=1) rfl) ⟨.ref bE,.ref cE,e.1,e.2,rfl,z3c (s10 _ _ ebE),z3c (s10 _ _ ecE),by lia,by lia,fun _ vp H11 Ep s11 dp pp latp _ _=>?_,fun z=>absurd z hne⟩)))))
 have eE:E=Ep:=(S.pl (by lia)).one pp fun k=>by rw [S.lt k,p1,z5Z hlat k];exact (latp k).symm
 subst eE
 refine ⟨_,_,S.dr.mono s11,dp,zg9 _,Nat.le_trans (zfN _) (by decide),?_⟩
 rw [D.eq_refl]
 refine (exA rfl (z7m ?_))
 refine atR (R:=R12) hR12 ?_
 have e22:n ^ 2≤25:=Nat.pow_le_pow_left n5 2
 refine (exA rfl ⟨v1,RA,n,2,rfl,d1.mono (s10.trans s11),GA,n2,n5,by decide,fun z=>absurd z (by decide),fun _ z=>absurd (show n ^ 2≤1024 by lia) (Nat.not_le_of_lt z),fun _ _ r Rr H12 s12=>?_⟩)
 refine (exA rfl (exA rfl ?_))
 by_cases c:r=n ^ (2:Int).toNat
 rotate_left
 ·rw [decide_eq_false c]
  exact zcs (q _)
 ·have lz:LW n (List.replicate (2:Int).toNat 0):=fun x hx=>by
   have:=List.eq_of_mem_replicate hx
   lia
  have hd2:=z8f Rr (hit _ lz)
  have e4:n*n=r:=by rw [c];exact (Nat.pow_two n).symm
  have h4:2*2≤n*n:=Nat.mul_le_mul n2 n2
  have h5:n*n≤5*5:=Nat.mul_le_mul n5 n5
  rw [decide_eq_true c]
  refine z7m (exA rfl (exA rfl (exA rfl (exC rfl rfl ⟨.inl ⟨by lia,by lia⟩,?_⟩))))
  have e5:(n:Int)*(n:Int)=((n*n:Nat):Int):=(Int.natCast_mul n n).symm
  refine ⟨_,((n*n:Nat):Int),rfl,congrArg V.int e5,by lia,?_⟩
  have e6:(m:Int) % ((n*n:Nat):Int)=0:=by rw [←Int.natCast_emod,e4,hd2];rfl
  refine ⟨rfl,?_⟩
  show Q (.bl (decide (V.int ((m:Int) % ((n*n:Nat):Int))=V.int 0))) H12
  rw [e6,decide_eq_true rfl]
  exact q _
theorem z4a:z0n ["things","numbers","thing"] ["things"] (z06 z2z):=⟨rfl,rfl,rfl,by decide +kernel,rfl,by decide +kernel,by decide +kernel⟩
theorem z5N:z1l ["things","numbers","thing"] (z06 z2z) ["thing","numbers"] [none,some 1] (csc [(".0",.local),("thing",.local),("numbers",.free)]):=⟨rfl,by decide +kernel,by decide +kernel,by decide +kernel,rfl,by decide +kernel,by decide +kernel⟩
theorem z8k (F:Fun K "numbered" "numbered" z2z f fd) (ml:mg "len"=none):z0t P w K mg base CX 1 f fd ["things"] (z4c K):=by
 refine F.okc z4a (fun vs H Q E h=>?_) (fun cdv A outer s H vs Q E hr h=>?_)
 ·obtain ⟨a,us,ds,rfl,_⟩:=h
  rfl
 obtain ⟨a,us,ds,rfl,ha,hd,hT,hlen,q⟩:=h
 have hu9:(A.deeper (PyProof.Rows.envOfC "numbered" (z06 z2z) s.heap.objs.size f cdv)).units+9 < cLine:=by have:=hr.units;lia
 refine ⟨_,z03 (z0e (i:=1) z4a.nd rfl (Or.inr rfl) (zaF (K:=K)))
  (z03 (z20 PassesOwn.never rfl (z2c (pv 0)) (z0b (i:=2) z4a.nd rfl (Or.inl rfl))
   (z08 (z1J (z1A (z7K (K:=K) hu9 (pv 2) (pv 1))) (z08 (z8I (K:=K) hu9 (pv 1) (pv 2) (z0m (zcD K) rfl ml PySem.boot_len (z02 (pv 1) z05)))) z0G)))
  (z08 (z0v (z1m rfl z5N (z2c (pv 0)) (fun _ _ _ _ _=>z0b (i:=0) z5N.nd rfl (Or.inl rfl)) (fun _ _ _ _ _=>zeh P w K rfl rfl hu9 (pv 1) (pv 0) (fun _ _=>rfl)))))),?_⟩
 intro d hd0 ob0 g0
 have hul:ds.length=us.length:=hd.length
 have s0:z0h H (upd H d ob0):=same_up (z0h.refl H) hd0
 refine ⟨_,rfl,a,rfl,⟨_,SqL.of (s0 _ _ ha)⟩,zeC (xs:=us) (fun i σ H2=>∃ v:Option V,σ=[some (.ref a),some (.ref d),v]∧z0h H H2∧DD P w K H2 d (prs id (z0I (ds.take i))))
  ⟨none,rfl,s0,g0⟩ (fun i σ H2 _ h=>by obtain ⟨_,_,s2,_⟩:=h;exact SqL.of (s2 _ _ ha)) (fun i x σ H2 hx h Ed nx3=>?_) (fun σ H2 h=>?_)⟩
 ·obtain ⟨v,rfl,s2,g⟩:=h
  have hiu:i < us.length:=(List.getElem?_eq_some_iff.mp hx).1
  have ed:ds[i]?=some ds[i]:=List.getElem?_eq_getElem (by lia)
  obtain ⟨x',ex,dx⟩:=hd.get ed
  rw [hx] at ex
  cases ex
  have hk:=hT _ (List.getElem_mem (show i < ds.length by lia))
  generalize ds[i]=di at ed dx hk
  have et:z0I (ds.take (i+1))=z2u (z0I (ds.take i)) di:=by
   unfold z0I
   rw [List.take_add_one,ed]
   exact z1H _ _ _
  have hlu:(z0I (ds.take i)).length≤4900:=by
   have:=z27 (ds.take i) []
   rw [List.length_take] at this
   unfold z0I
   simp at this
   lia
  refine (exA rfl (exA rfl ⟨d,_,di,rfl,g,zcp hk (dx.mono s2),exA rfl ?_⟩))
  have hv:z3k (prs id (z0I (ds.take i))) di=_:=z1X id (fun _ _ e=>e) (z0I (ds.take i)) di
  by_cases hm:di∈z0I (ds.take i)
  ·rw [hv,if_pos hm]
   refine z7m (nx3 _ _ (exA rfl ⟨s2,?_⟩))
   rw [et,z0y hm]
   exact g
  ·rw [hv,if_neg hm]
   refine zcs (exA rfl ⟨d,exA rfl ⟨g,exA rfl (exA rfl ⟨d,_,di,rfl,g,zcp hk (dx.mono s2),by rw [z1M];exact z1Q hlu,fun ob g2=>nx3 _ _ (exA rfl ⟨z0g s2 hd0,?_⟩)⟩)⟩⟩)
   rw [et,z0x hm,←z47 id (fun _ _ e=>e) hm]
   rw [z1M] at g2
   exact g2
 ·obtain ⟨v,rfl,s2,g⟩:=h
  rw [List.take_of_length_le (by lia)] at g
  refine (exA rfl ⟨a,rfl,⟨_,SqL.of (s2 _ _ ha)⟩,fun l hl0=>z2b (xs:=us) (fun i ys H3=>i≤ds.length∧ys=((z2o ds).take i).map V.int∧z0h H2 H3) ⟨Nat.zero_le _,rfl,same_up (z0h.refl H2) hl0⟩ (fun i ys H3 _ h=>SqL.of (h.2.2 _ _ (s2 _ _ ha))) (z0L (by lia)) (fun i ys H3 h=>?_) (fun i x ys H3 hx h hy=>?_) (fun ys H3 h hy=>?_)⟩)
  ·obtain ⟨hi,rfl,_⟩:=h
   unfold z2o
   rw [List.length_map,List.length_take,List.length_map]
   lia
  ·obtain ⟨_,rfl,s3⟩:=h
   have hiu:i < us.length:=(List.getElem?_eq_some_iff.mp hx).1
   have ed:ds[i]?=some ds[i]:=List.getElem?_eq_getElem (by lia)
   obtain ⟨x',ex,dx⟩:=hd.get ed
   rw [hx] at ex
   cases ex
   have hmem:ds[i]∈ds:=List.getElem_mem (show i < ds.length by lia)
   have hk:=hT _ hmem
   generalize ds[i]=di at ed dx hk hmem
   have hm:di∈z0I ds:=z0O.mpr (.inr hmem)
   have hv:z3k (prs id (z0I ds)) di=_:=z1X id (fun _ _ e=>e) (z0I ds) di
   rw [if_pos hm] at hv
   refine (exA rfl (exA rfl ⟨d,_,di,exA rfl ⟨g.mono s3,zcp hk (dx.mono (s2.trans s3)),hv,hy,by lia,?_,z0g s3 hl0⟩⟩))
   have en:(z2o ds)[i]?=some (((z0I ds).idxOf di:Nat):Int):=by unfold z2o;rw [List.getElem?_map,ed];rfl
   rw [z1c _ en]
  ·obtain ⟨_,rfl,s3⟩:=h
   have e:((z2o ds).take us.length)=z2o ds:=List.take_of_length_le (by unfold z2o;rw [List.length_map];lia)
   rw [e] at hy
   exact q l H3 (s2.trans s3) hy
theorem z5f:z0n ["guise","rearranging","goings"] ["guise"] (z06 z4z):=⟨rfl,rfl,rfl,by decide +kernel,rfl,by decide +kernel,by decide +kernel⟩
theorem zal (F:Fun K "breadth" "breadth" z4z f fd) (ml:mg "len"=none):z0t P w K mg base CX 1 f fd ["guise"] (z1U K):=by
 refine F.okc z5f (fun vs H Q E h=>?_) (fun cdv A outer s H vs Q E hr h=>?_)
 ·obtain ⟨a,r,z5D,rfl,_⟩:=h
  rfl
 obtain ⟨a,r,z5D,rfl,ha,hl,q⟩:=h
 refine ⟨_,z03 (z2m (z0Q z1G (pv 0) z07 (fun _ _=>rfl)) (z1R rfl (z0l (z0b (i:=1) z5f.nd rfl (Or.inl rfl)) (z0l (z0b (i:=2) z5f.nd rfl (Or.inl rfl)) z17))))
  (z08 (z0v (z0m z0a rfl ml PySem.boot_len (z02 (pv 1) z05)))),?_⟩
 simp only [Dr,DrL] at ha
 obtain ⟨a,vs,rfl,ea,v,l,rfl,hv,_⟩:=ha
 obtain ⟨t,b,c,rfl,et,eb,ec⟩:=z0U hv
 refine (exA rfl (exD a _ _ (.ref t) rfl rfl (SqT.of ea) (z0B (j:=0) rfl) (exF t rfl (SqT.of et) rfl (exB rfl (exC rfl rfl (exA rfl (exG b rfl (.inr (SqT.of eb)) ?_)))))))
 rw [List.length_map]
 exact q _ (z0h.refl H)
theorem zg5:z0n ["kinds","goings"] ["kinds","goings"] (z06 zbO):=⟨rfl,rfl,rfl,by decide +kernel,rfl,by decide +kernel,by decide +kernel⟩
theorem zeg:z1l ["kinds","goings"] (z06 zbO) ["going","kinds"] [none,some 0] (csc [(".0",.local),("going",.local),("kinds",.free)]):=⟨rfl,by decide +kernel,by decide +kernel,by decide +kernel,rfl,by decide +kernel,by decide +kernel⟩
theorem zf4 (F:Fun K "kinds_gone_to" "kinds_gone_to" zbO f fd) (mt:mg "tuple"=none):z0t P w K mg base CX 1 f fd ["kinds","goings"] (z9N K):=by
 refine F.okc zg5 (fun vs H Q E h=>?_) (fun cdv A outer s H vs Q E hr h=>?_)
 ·obtain ⟨a,b,ks,gs,rfl,_⟩:=h
  rfl
 obtain ⟨a,b,ks,gs,rfl,ha,hb,hg,hl,q⟩:=h
 refine ⟨_,z08 (z0v (z0u z0p rfl mt PyProof.Rows.boot_tuple (z02 (z1m rfl zeg (z2Q (pv 1)) (fun _ _ _ _ _=>z0b (i:=0) zeg.nd rfl (Or.inl rfl)) (fun _ _ _ _ _=>z0Q (ixL K rfl) (pv 1) (pv 0) (fun _ _=>rfl))) z05))),?_⟩
 obtain ⟨b,rfl,eb⟩:=Dr.its_inv hb
 refine (exA rfl ⟨b,rfl,⟨_,SqT.of eb⟩,fun l hl0=>z2l (xs:=gs.map V.int) (fun i ys H2=>i≤gs.length∧ys=((gs.take i).map fun g=>ks.getD g.toNat 0).map V.int∧z0h H H2) ⟨Nat.zero_le _,rfl,same_up (z0h.refl H) hl0⟩ (fun i ys H2 _ h=>SqT.of (h.2.2 _ _ eb)) (by rw [List.length_map];exact z0L (by lia)) (fun i ys H2 h=>?_) (fun i x ys H2 hx h hy=>?_) (fun ys H2 h hy=>?_)⟩)
 ·obtain ⟨hi,rfl,_⟩:=h
  rw [List.length_map,List.length_map,List.length_take]
  lia
 ·obtain ⟨hi,rfl,s2⟩:=h
  have hil:i < gs.length:=by have:=(List.getElem?_eq_some_iff.mp hx).1;rwa [List.length_map] at this
  have eg:gs[i]?=some gs[i]:=List.getElem?_eq_getElem hil
  obtain ⟨h0,h1⟩:=hg _ (List.getElem_mem hil)
  generalize gs[i]=gi at eg h0 h1
  have ex:x=V.int gi:=by rw [List.getElem?_map,eg] at hx;exact (Option.some.inj hx).symm
  subst ex
  have hk:gi.toNat < ks.length:=by lia
  refine (exA rfl (exA rfl (exD a _ gi (V.int (ks.getD gi.toNat 0)) rfl rfl (SqL.of (s2 _ _ ha)) (z2j h0 (by simp [hk])) ⟨hy,hil,?_,z0g s2 hl0⟩)))
  rw [z1c _ eg,List.map_append]
  rfl
 ·obtain ⟨_,rfl,s2⟩:=h
  refine ⟨l,exA rfl (.inl ⟨SqL.of hy,fun t ht=>?_⟩)⟩
  rw [List.length_map,List.take_length]
  exact q _ _ (same_up s2 ht) (Dr.tup z04 (DrL.ints _))
theorem zcx:z0n ["one","other"] ["one","other"] (z06 z59):=⟨rfl,rfl,rfl,by decide +kernel,rfl,by decide +kernel,by decide +kernel⟩
theorem z8V:z1l ["one","other"] (z06 z59) ["letter","other"] [none,some 1] (csc [(".0",.local),("letter",.local),("other",.free)]):=⟨rfl,by decide +kernel,by decide +kernel,by decide +kernel,rfl,by decide +kernel,by decide +kernel⟩
theorem zb8 (F:Fun K "turned" "turned" z59 f fd) (mt:mg "tuple"=none):z0t P w K mg base CX 1 f fd ["one","other"] (z6f K):=by
 refine F.okc zcx (fun vs H Q E h=>?_) (fun cdv A outer s H vs Q E hr h=>?_)
 ·obtain ⟨a,b,p,q,rfl,_⟩:=h
  rfl
 obtain ⟨a,b,p,q,rfl,ha,hb,hp,hn,k⟩:=h
 refine ⟨_,z08 (z0v (z0u z0p rfl mt PyProof.Rows.boot_tuple (z02 (z1m rfl z8V (z2Q (pv 0)) (fun _ _ _ _ _=>z0b (i:=0) z8V.nd rfl (Or.inl rfl)) (fun _ _ _ _ _=>z0Q (ixT K rfl) (pv 1) (pv 0) (fun _ _=>rfl))) z05))),?_⟩
 simp only [Dr] at ha hb
 obtain ⟨a,vs,rfl,sa,da⟩:=ha
 obtain ⟨b,us,rfl,sb,db⟩:=hb
 replace sa:=SqT.of (K:=K) sa
 replace sb:=SqT.of (K:=K) sb
 have ea:=DrL.ints_inv da
 have eb:=DrL.ints_inv db
 subst ea eb
 refine (exA rfl ⟨a,rfl,⟨_,sa⟩,fun l hl0=>z2l (xs:=p.map V.int) (fun i ys H2=>i≤p.length∧ys=((p.take i).map fun x=>q.getD x.toNat 0).map V.int∧z0h H H2) ⟨Nat.zero_le _,rfl,same_up (z0h.refl H) hl0⟩ (fun i ys H2 _ h=>h.2.2.tupl sa) (by rw [List.length_map];exact z0L (by lia)) (fun i ys H2 h=>?_) (fun i x ys H2 hx h hy=>?_) (fun ys H2 h hy=>?_)⟩)
 ·obtain ⟨hi,rfl,_⟩:=h
  rw [List.length_map,List.length_map,List.length_take]
  lia
 ·obtain ⟨hi,rfl,s2⟩:=h
  have hil:i < p.length:=by have:=(List.getElem?_eq_some_iff.mp hx).1;rwa [List.length_map] at this
  have epx:p[i]?=some p[i]:=List.getElem?_eq_getElem hil
  obtain ⟨h0,h1⟩:=hp _ (List.getElem_mem hil)
  generalize p[i]=px at epx h0 h1
  have ex:x=V.int px:=by rw [List.getElem?_map,epx] at hx;exact (Option.some.inj hx).symm
  subst ex
  have eq:q[px.toNat]?=some (q.getD px.toNat 0):=by
   have:px.toNat < q.length:=by lia
   simp [this]
  refine (exA rfl (exA rfl ⟨b,_,px,V.int (q.getD px.toNat 0),rfl,rfl,s2.tupl sb,z2j h0 (by rw [List.getElem?_map,eq];rfl),hy,hil,?_,z0g s2 hl0⟩))
  rw [z1c _ epx,List.map_append]
  rfl
 ·obtain ⟨_,rfl,s2⟩:=h
  refine ⟨l,exA rfl (.inl ⟨SqL.of hy,fun t ht=>?_⟩)⟩
  rw [List.length_map,List.take_length]
  exact k _ _ (same_up s2 ht) (Dr.tup z04 (DrL.ints _))
theorem zes:z0n ["letters"] ["letters"] (z06 z9u):=⟨rfl,rfl,rfl,by decide +kernel,rfl,by decide +kernel,by decide +kernel⟩
theorem zdz (F:Fun K "still" "still" z9u f fd) (G:z0t P w K mg base CX 1 g gd ["letters"] (zaY K)) (bG:z0k K gd ["letters"] []) (kG:PySem.W.keepIn K (.ref g)=true) (mG:mg "same_letters"=some (.ref g)):z0t P w K mg base CX 2 f fd ["letters"] (z4T K):=by
 refine F.okc zes (fun vs H Q E h=>?_) (fun cdv A outer s H vs Q E hr h=>?_)
 ·obtain ⟨n,rfl,_⟩:=h
  rfl
 obtain ⟨n,rfl,h2,hn,q⟩:=h
 refine ⟨_,z08 (z0v (z1F (z02 (z1F (z02 (z0c G hr rfl mG kG bG .nil z0H (z02 (pv 0) z05)) (z02 (z0r zbW (z1F (z02 z07 z05)) (pv 0)) z05))) z05))),?_⟩
 refine (exA rfl ⟨n,rfl,by lia,fun v1 H1 s1 d1=>?_⟩)
 obtain ⟨b,rfl,eb⟩:=Dr.its_inv d1
 refine ⟨by show 1≤sizeLine;decide,fun z hz=>(exA rfl ⟨z,(n:Int),exA rfl ⟨rfl,z04,by simp,by lia,by lia,?_,fun c hc=>⟨by show 2≤sizeLine;decide,fun t ht=>⟨by show 1≤sizeLine;decide,fun g hg=>?_⟩⟩⟩⟩)⟩
 ·show 1*(n:Int).toNat≤sizeLine
  exact z0L (by lia)
 have e:(List.replicate ((n:Int).toNat) [V.int 0]).flatten=(List.replicate n (0:Int)).map V.int:=by simp
 rw [e]
 have s2:z0h H1 (upd H1 z (.tup [.int 0])):=same_up (z0h.refl H1) hz
 rw [e] at ht hg
 have s3:z0h H1 (upd (upd H1 z (.tup [.int 0])) c (.tup ((List.replicate n (0:Int)).map V.int))):=same_up s2 hc
 have s4:=same_up (o:=HO.tup [.ref b,.ref c]) s3 ht
 have s5:=same_up (o:=HO.tup [.ref t]) s4 hg
 refine q _ _ (s1.trans s5) (Dr.tup z04 (DrL.one ?_))
 have kt:∀ x u,upd (upd (upd H1 z (.tup [.int 0])) c (.tup ((List.replicate n (0:Int)).map V.int))) t (.tup [.ref b,.ref c]) x=some u→upd (upd (upd (upd H1 z (.tup [.int 0])) c (.tup ((List.replicate n (0:Int)).map V.int))) t (.tup [.ref b,.ref c])) g (.tup [.ref t]) x=some u:=fun x u e=>by rw [z09 (z0f e hg)];exact e
 refine z2K (b:=b) (c:=c) (kt _ _ z04) (s5 _ _ eb) (kt _ _ ?_)
 rw [z09 (z0f z04 ht)]
 exact z04
theorem z4q:z0n ["one","came_of","letter","becomes"] ["one"] (z06 z6z):=⟨rfl,rfl,rfl,by decide +kernel,rfl,by decide +kernel,by decide +kernel⟩
theorem zau (F:Fun K "undone" "undone" z6z f fd) (mt:mg "tuple"=none) (ml:mg "len"=none) (me:mg "enumerate"=none):z0t P w K mg base CX 1 f fd ["one"] (z6h K):=by
 refine F.okc z4q (fun vs H Q E h=>?_) (fun cdv A outer s H vs Q E hr h=>?_)
 ·obtain ⟨a,p,n,rfl,_⟩:=h
  rfl
 obtain ⟨a,p,n,rfl,ha,hp,hn,k⟩:=h
 refine ⟨_,z03 (z0e (i:=1) z4q.nd rfl (Or.inl rfl) (z0r zbY (z2h (z02 z07 z05)) (z0m z0a rfl ml PySem.boot_len (z02 (pv 0) z05))))
  (z03 (z20 PassesOwn.never rfl (zeJ rfl me (z02 (pv 0) z05)) (z1R rfl (z0l (z0b (i:=2) z4q.nd rfl (Or.inl rfl)) (z0l (z0b (i:=3) z4q.nd rfl (Or.inl rfl)) z17)))
   (z08 (z2m (pv 2) (zfp (pv 1) (pv 3) zcT))))
  (z08 (z0v (z0u z0p rfl mt PyProof.Rows.boot_tuple (z02 (pv 1) z05))))),?_⟩
 simp only [Dr] at ha
 obtain ⟨a,vs,rfl,sa,da⟩:=ha
 replace sa:=SqT.of (K:=K) sa
 have ea:=DrL.ints_inv da
 subst ea
 have hl:=hp.len
 refine ⟨by show 1≤sizeLine;decide,fun z hz=>(exA rfl ⟨a,exA rfl ⟨.inr ((same_up (z0h.refl H) hz).tupl sa),z,((p.map V.int).length:Int),exA rfl ⟨rfl,z04,by rw [List.length_map];lia,by rw [List.length_map];lia,?_,fun l hl0=>?_⟩⟩⟩)⟩
 ·rw [List.length_map]
  show 1*((p.length:Int)).toNat≤sizeLine
  exact z0L (by lia)
 have s1:z0h H (upd (upd H z (.lst [.int 0])) l (.lst (List.replicate ((p.map V.int).length:Int).toNat [V.int 0]).flatten)):=same_up (same_up (z0h.refl H) hz) hl0
 have hz0:H l=none:=(same_up (z0h.refl H) hz:z0h H (upd H z (.lst [.int 0]))).free hl0
 have hrep:(List.replicate ((p.map V.int).length:Int).toNat [V.int 0]).flatten=(List.replicate n (0:Int)).map V.int:=by
  rw [List.length_map,hl]
  simp
 rw [hrep] at s1 ⊢
 refine ⟨_,rfl,a,rfl,⟨_,s1.tupl sa⟩,zho (xs:=p.map V.int) (fun i σ H2=>∃ (u v:Option V) (ys:List Int),σ=[some (.ref a),some (.ref l),u,v]∧z0h H H2∧H2 l=some (.lst (ys.map V.int))∧ys.length=n∧∀ (m:Nat) (x:Int),m < i→p[m]?=some x→ys[x.toNat]?=some (m:Int))
  ⟨none,none,_,rfl,s1,z04,List.length_replicate,fun m x hm _=>absurd hm (Nat.not_lt_zero _)⟩ (fun i σ H2 _ h=>by obtain ⟨_,_,_,_,s2,_⟩:=h;exact s2.tupl sa) (fun i x b σ H2 hx h hb Ed nx3=>?_) (fun σ H2 h=>?_)⟩
 ·obtain ⟨u,v,ys,rfl,s2,hy,hyl,hinv⟩:=h
  have hil:i < p.length:=by have:=(List.getElem?_eq_some_iff.mp hx).1;rwa [List.length_map] at this
  obtain ⟨px,epx,h0,h1⟩:=hp.get (i:=i) (by lia)
  have ex:x=V.int px:=by rw [List.getElem?_map,epx] at hx;exact (Option.some.inj hx).symm
  subst ex
  have hlb:l≠b:=z0f hy hb
  have hix:ixN (ys.map V.int).length px=some px.toNat:=by
   unfold ixN
   rw [List.length_map,if_pos h0,if_pos (by lia)]
  refine (exF b rfl (SqT.of z04) rfl (exB rfl (exC rfl rfl (exA rfl (exA rfl (exA rfl ⟨l,_,px,px.toNat,rfl,rfl,(by rw [z09 hlb];exact hy),hix,?_⟩))))))
  refine nx3 _ _ ⟨_,_,ys.set px.toNat i,rfl,z0g (same_up s2 hb) hz0,?_,by rw [List.length_set];exact hyl,fun m x hm e=>?_⟩
  ·rw [z04,List.map_set]
  ·by_cases hmi:m=i
   ·subst hmi
    rw [epx] at e
    cases e
    rw [List.getElem?_set_self (by lia)]
   ·have hxp:x.toNat≠px.toNat:=fun z=>by
     have hml:m < p.length:=by lia
     have e1:p[m]=x:=by rw [List.getElem?_eq_getElem hml] at e;exact Option.some.inj e
     have e2:p[i]=px:=by rw [List.getElem?_eq_getElem hil] at epx;exact Option.some.inj epx
     have hx0:=(hp.mem.mp (e1 ▸ List.getElem_mem hml)).1
     have:p[m]=p[i]:=by rw [e1,e2];lia
     exact hmi ((List.getElem_inj hp.nodup).mp this)
    rw [List.getElem?_set_ne (Ne.symm hxp)]
    exact hinv m x (by lia) e
 ·obtain ⟨u,v,ys,rfl,s2,hy,hyl,hinv⟩:=h
  refine (exA rfl ⟨l,exA rfl (.inl ⟨SqL.of hy,fun t ht=>?_⟩)⟩)
  have e:ys=z1q p:=zaP hp hyl fun m x e=>hinv m x (by rw [List.length_map];exact (List.getElem?_eq_some_iff.mp e).1) e
  rw [e]
  exact k _ _ (same_up s2 ht) (Dr.tup z04 (DrL.ints _))
abbrev nRB:List Str:=["row","rearranging","goings","came_of"]
theorem zgv:z0n nRB ["row"] (z06 z3u):=⟨rfl,rfl,rfl,by decide +kernel,rfl,by decide +kernel,by decide +kernel⟩
theorem zhD:z1l nRB (z06 z3u) ["letter","goings"] [none,some 2] (csc [(".0",.local),("letter",.local),("goings",.free)]):=⟨rfl,by decide +kernel,by decide +kernel,by decide +kernel,rfl,by decide +kernel,by decide +kernel⟩
theorem zan (F:Fun K "row_back" "row_back" z3u f fd) (mt:mg "tuple"=none)
  (U:z0t P w K mg base CX 1 g gd ["one"] (z6h K)) (bU:z0k K gd ["one"] []) (kU:PySem.W.keepIn K (.ref g)=true) (mU:mg "undone"=some (.ref g)):z0t P w K mg base CX 2 f fd ["row"] (z4E K):=by
 refine F.okc zgv (fun vs H Q E h=>?_) (fun cdv A outer s H vs Q E hr h=>?_)
 ·obtain ⟨v,r,n,rfl,_⟩:=h
  rfl
 obtain ⟨v,r,n,rfl,dv,hp,hl,hn,gq⟩:=h
 refine ⟨_,z03 (z2m (pv 0) (z1R rfl (z0l (z0b (i:=1) zgv.nd rfl (Or.inl rfl)) (z0l (z0b (i:=2) zgv.nd rfl (Or.inr rfl)) z17))))
  (z03 (z0e (i:=3) zgv.nd rfl (Or.inl rfl) (z0c U hr rfl mU kU bU .nil z0H (z02 (pv 1) z05)))
  (z08 (z0v (z1F (z02 (pv 3) (z02 (z0u z0p rfl mt PyProof.Rows.boot_tuple (z02 (z1m rfl zhD (z2Q (pv 3)) (fun _ _ _ _ _=>z0b (i:=0) zhD.nd rfl (Or.inl rfl)) (fun _ _ _ _ _=>z0Q (ixT K rfl) (pv 1) (pv 0) (fun _ _=>rfl))) z05)) z05)))))),?_⟩
 obtain ⟨t,b,c,rfl,et,eb,ec⟩:=z0U dv
 refine (exA rfl (exF t rfl (SqT.of et) rfl (exB rfl (exC rfl rfl ?_))))
 refine (exA rfl ⟨.ref b,r.1,n,rfl,Dr.tup eb (DrL.ints _),hp,by lia,fun v H1 s1 d1=>?_⟩)
 obtain ⟨b1,rfl,eb1⟩:=Dr.its_inv d1
 have hbl:(z1q r.1).length=n:=by rw [z1P,hp.len]
 refine (exA rfl (exA rfl ⟨b1,rfl,⟨_,SqT.of eb1⟩,fun l4 hl4=>z2l (xs:=(z1q r.1).map V.int) (fun j zs H4=>j≤(z1q r.1).length∧zs=(((z1q r.1).take j).map fun l=>r.2.getD l.toNat 0).map V.int∧z0h H1 H4) ⟨Nat.zero_le _,rfl,same_up (z0h.refl H1) hl4⟩ (fun j zs H4 _ h=>SqT.of (h.2.2 _ _ eb1)) (by rw [List.length_map];exact z0L (by lia)) (fun j zs H4 h=>?_) (fun j x zs H4 hx h hy4=>?_) (fun zs H4 h hy4=>?_)⟩))
 ·obtain ⟨hj,rfl,_⟩:=h
  rw [List.length_map,List.length_map,List.length_take]
  lia
 ·obtain ⟨hj,rfl,s4⟩:=h
  have hjl:j < (z1q r.1).length:=by have:=(List.getElem?_eq_some_iff.mp hx).1;rwa [List.length_map] at this
  obtain ⟨i,hi,e1,e2⟩:=z5u hp (show j < n by lia)
  have ex:x=V.int i:=by rw [List.getElem?_map,e1] at hx;exact (Option.some.inj hx).symm
  subst ex
  have e3:r.2[i]?=some r.2[i]:=List.getElem?_eq_getElem (by lia)
  refine (exA rfl (exA rfl (exD c _ _ (V.int r.2[i]) rfl rfl (SqT.of ((s1.trans s4) _ _ ec)) (z0B (by rw [List.getElem?_map,e3];rfl)) ⟨hy4,hjl,?_,z0g s4 hl4⟩)))
  rw [z1c _ e1,List.map_append]
  show _=_++[V.int (r.2.getD ((i:Int)).toNat 0)]
  rw [Int.toNat_natCast,List.getD_eq_getElem?_getD,e3]
  rfl
 ·obtain ⟨_,rfl,s4⟩:=h
  rw [List.length_map,List.take_length] at hy4
  refine ⟨l4,exA rfl (.inl ⟨SqL.of hy4,fun t4 ht4=>⟨by show 2≤sizeLine;decide,fun t5 ht5=>?_⟩⟩)⟩
  have s5:=same_up (o:=HO.tup (((z1q r.1).map fun l=>r.2.getD l.toNat 0).map V.int)) s4 ht4
  have e5:upd H4 t4 (HO.tup (((z1q r.1).map fun l=>r.2.getD l.toNat 0).map V.int)) t4=some (.tup ((z5C r).2.map V.int)):=z04
  generalize upd H4 t4 (HO.tup (((z1q r.1).map fun l=>r.2.getD l.toNat 0).map V.int))=H5 at s5 e5 ht5
  have s6:=same_up (o:=HO.tup [.ref b1,.ref t4]) (z0h.refl H5) ht5
  exact gq _ _ ((s1.trans s5).trans s6) (z2K (r:=z5C r) (b:=b1) (c:=t4) z04 ((s5.trans s6) _ _ eb1) (s6 _ _ e5))
abbrev nBk:List Str:=["guise"]
theorem zif:z0n nBk ["guise"] (z06 z5F):=⟨rfl,rfl,rfl,by decide +kernel,rfl,by decide +kernel,by decide +kernel⟩
abbrev zhu:Scope:=csc [("at",.local),("guise",.free),("row_back",.globalImplicit)]
theorem zi1:z1l nBk (z06 z5F) ["at","guise"] [none,some 0] zhu:=⟨rfl,by decide +kernel,by decide +kernel,by decide +kernel,rfl,by decide +kernel,by decide +kernel⟩
theorem zim:zgA ["at","guise"] ["at"] zhu:=⟨rfl,rfl,rfl,by decide +kernel,rfl,by decide +kernel,by decide +kernel,by decide +kernel⟩
theorem zd6 {k b Ct cc:Addr} {kd bd:FuncData} {Ts:List Tb} {T0:Tb} (F:Fun K "back" "back" z5F f fd) (hcd:fd.code=.ref cc) (hC:PySem.W.CodeHd base cc T0.at_) (hB:z5L base mg) (hT:T0∈Ts) (hTn:∀ T'∈Ts,T'.at_=T0.at_→T'=T0) (hTp:T0.pos=z7T (z1a z5F)) (hTq:T0.qual=("back.<locals>."++"<lambda>":Str))
  (J:z0t P w K mg base (CXx P w) 3 b bd ["row"] (z4E K)) (bJ:z0k K bd ["row"] []) (kJ:PySem.W.keepIn K (.ref b)=true) (mJ:mg "row_back"=some (.ref b))
  (T:z0t P w K mg base (CXx P w) 6 k kd ["first","row_at"] (z6o P w K mg base (CXx P w) 4 Ct)) (bT:z0k K kd ["first","row_at"] []) (kT:PySem.W.keepIn K (.ref k)=true) (mT:mg "least_form"=some (.ref k)):z0t P w K mg base (CXx P w) 7 f fd ["guise"] (zb1 Ts K Ct):=by
 refine F.okL hcd zif (fun vs H Q E h=>?_) (fun A outer s H vs Q E hr h=>?_)
 ·obtain ⟨v,n,one,rfl,_⟩:=h
  rfl
 obtain ⟨v,n,one,rfl,hTb,dv,G1,hn,gv,gx⟩:=h
 refine ⟨_,z08 (z0v (z9F (Ts:=Ts) (T:=T0) T hr rfl mT kT bT (z3i fun _ _ _ z=>z) z07 (fun σ H Q Q' h q=>h _ _ q) zi1 rfl hC hB (fun _=>rfl) hT hTn hTp hTq)),?_⟩
 have GC:=z0M G1
 refine ⟨hTb,fun fa H2 cs f1 f2 f3 C=>?_⟩
 have n1:z1w [] H H2:=⟨f1,fun _ _ h=>absurd h (by simp)⟩
 obtain ⟨av,us,rfl,eav,dus⟩:∃ (av:Addr) (us:List V),v=.ref av∧H2 av=some (.tup us)∧DrL K H2 (z0s one) us:=by
  have:=dv.monoL n1
  simp only [Dr] at this
  exact this
 refine ⟨fa,n,z2g one,fun i=>i,rfl,fun _ _ e=>e,?_,GC,hn,fun h6 v H3 s3 d=>gv h6 v _ (f2 _ s3) (d.nfr (NFr.utk f3 s3)),fun h6 e H3 s3=>gx h6 e _ (f2 _ s3)⟩
 refine z3V.lam (k:=3) C zim (fun _ _ _ _ us hl=>by obtain ⟨a9,rfl⟩:=zfF hl;rfl) rfl (fun vs H Q h=>?_) (fun H' s' A outer s cd clos cs vs Q hr nf h=>?_)
 ·obtain ⟨i,rfl,_⟩:=h
  rfl
 obtain ⟨i,rfl,h0,h1,gq⟩:=h
 rw [z0Z] at h1
 rw [zaL,z1O h0 h1] at gq
 have hr':=z0o h0 h1
 obtain ⟨v,ev,dv'⟩:=z37 dus (z43 h0 h1)
 refine ⟨_,z0c J hr rfl mJ kJ bJ .nil z0H (z02 (z0Q z1G (pv 1) (pv 0) (fun _ _=>rfl)) z05),?_⟩
 exact (exA rfl (exA rfl (exD av us i v rfl rfl (SqT.of (nf _ _ (fun _ z=>by cases z) (s' _ _ eav))) (z2j h0 ev) ⟨v,row one i,n,rfl,(dv'.mono s').nfr nf,G1.perm _ hr',G1.len _ hr',hn,fun v' H1' s1' d1' hc=>gq v' _ (z0h.rtk s1') (d1'.mono (z0h.rtk' hc))⟩)))
abbrev ze4:List Str:=["first","row_at","order","places","found","rearranging","goings","going"]
theorem z3j:z0n ze4 ["first","row_at"] (z06 z6Z):=⟨rfl,rfl,rfl,by decide +kernel,rfl,by decide +kernel,by decide +kernel⟩
theorem zci:z1l ze4 (z06 z6Z) ["going","places"] [none,some 3] (csc [(".0",.local),("going",.local),("places",.free)]):=⟨rfl,by decide +kernel,by decide +kernel,by decide +kernel,rfl,by decide +kernel,by decide +kernel⟩
theorem zdx (F:Fun K "rows_come_to" "rows_come_to" z6Z f fd) (ml:mg "len"=none) (mt:mg "tuple"=none):z0t P w K mg base CX 5 f fd ["first","row_at"] (z8w P w K mg base CX 4):=by
 refine F.okc z3j (fun vs H Q E h=>?_) (fun cdv A outer s H vs Q E hr h=>?_)
 ·obtain ⟨a,v0,n,rows,m,rfl,_⟩:=h
  rfl
 obtain ⟨fa,v0,n,rows,mm,rfl,dv0,hV,G,hn,q⟩:=h
 obtain ⟨a0,rfl,ea0⟩:=zdY dv0
 have hu:=zbe hr
 have hu9:(A.deeper (PyProof.Rows.envOfC "rows_come_to" (z06 z6Z) s.heap.objs.size f cdv)).units+9 < cLine:=by have:=hr.units;lia
 refine ⟨_,z03 (z0e (i:=2) z3j.nd rfl (Or.inl rfl) (z2h (z02 (pv 0) z05)))
  (z03 (z0e (i:=3) z3j.nd rfl (Or.inr rfl) (zdB (K:=K) hu9 (pv 0) z07))
  (z03 (z0e (i:=4) z3j.nd rfl (Or.inl rfl) (z2h z05))
  (z03 (z1D PassesOwn.never (z0W z5o (z0m z0a rfl ml PySem.boot_len (z02 (pv 4) z05)) (z0m z0a rfl ml PySem.boot_len (z02 (pv 2) z05)) (z1d _))
   (z03 (z2m (z9n (CX:=CX) 1 hr (z02 (z0Q z1f (pv 2) (z0m z0a rfl ml PySem.boot_len (z02 (pv 4) z05)) (fun _ _=>rfl)) z05)) (z1R rfl (z0l (z0b (i:=5) z3j.nd rfl (Or.inl rfl)) (z0l (z0b (i:=6) z3j.nd rfl (Or.inl rfl)) z17))))
   (z03 (z20 PassesOwn.never rfl (z2Q (pv 6)) (z0b (i:=7) z3j.nd rfl (Or.inl rfl))
    (z08 (z1J (z1A (z7K (K:=K) hu9 (pv 7) (pv 3)))
     (z03 (z8I (K:=K) hu9 (pv 3) (pv 7) (z0m z0a rfl ml PySem.boot_len (z02 (pv 2) z05)))
     (z08 (z0X (z3N PySem.F.plainAttrs_list PySem.F.slot_list_append PySem.F.type_list_append z0P (pv 2) (z02 (pv 7) z05))))) z0G)))
   (z08 (z0X (z3N PySem.F.plainAttrs_list PySem.F.slot_list_append PySem.F.type_list_append z0P (pv 4) (z02 (z1F (z02 (pv 5) (z02 (z0u z0p rfl mt PyProof.Rows.boot_tuple
    (z02 (z1m rfl zci (z2Q (pv 6)) (fun _ _ _ _ _=>z0b (i:=0) zci.nd rfl (Or.inl rfl)) (fun _ _ _ _ _=>zeh P w K rfl rfl hu9 (pv 1) (pv 0) (fun _ _=>rfl))) z05)) z05))) z05)))))))
  (z08 (z0v (pv 4)))))),?_⟩
 refine (exA rfl ⟨by show 1≤sizeLine;decide,fun lo hlo=>?_⟩)
 have s1:=same_up (o:=HO.lst [.ref a0]) (z0h.refl H) hlo
 have elo1:upd H lo (.lst [.ref a0]) lo=some (.lst [.ref a0]):=z04
 generalize upd H lo (.lst [.ref a0])=H1 at s1 elo1
 refine fun lp hlp ob0 g0=>(exA rfl ?_)
 have hlp0:H lp=none:=s1.free hlp
 have nlo:lo≠lp:=z0f elo1 hlp
 have s2:=same_up (o:=ob0) s1 hlp
 refine ⟨pr mm 0,g0,zcp (z4h mm 0) (dv0.mono s2),fun ob g2=>⟨by show 0≤sizeLine;decide,fun lf hlf=>?_⟩⟩
 have s3:z0h H (upd (upd H1 lp ob0) lp ob):=z0g s2 hlp0
 have elo3:upd (upd H1 lp ob0) lp ob lo=some (.lst [.ref a0]):=by rw [z09 nlo,z09 nlo];exact elo1
 generalize upd (upd H1 lp ob0) lp ob=H2' at s3 elo3 g2 hlf
 have hlf0:H lf=none:=s3.free hlf
 have nlf:lo≠lf:=z0f elo3 hlf
 have nlpf:lp≠lf:=by obtain ⟨xs,e0,_⟩:=id g2;exact z0f e0 hlf
 have s4:=same_up (o:=HO.lst []) s3 hlf
 have s24:=same_up (o:=HO.lst []) (z0h.refl H2') hlf
 have OL:=z0q G
 have hol:=OL.1.len
 have h400:=G.few
 refine ⟨fun m σ H2=>∃ (i:Nat) (o:List Int) (os:List V) (u1 u2 u3:Option V) (fs:List V),m=rows.length+1 - i∧σ=[some (.ref a0),some (.ref fa),some (.ref lo),some (.ref lp),some (.ref lf),u1,u2,u3]∧z0h H H2∧H2 lo=some (.lst os)∧DrL K H2 (o.map (pr mm)) os∧DD P w K H2 lp (prs (pr mm) o)∧H2 lf=some (.lst fs) ∧
   DrL K H2 (z0s ((z0F rows).take i)) fs∧z7n rows o∧i≤o.length∧bfs rows (rows.length+1 - i) i o=z0i rows,⟨_,0,[0],[.ref a0],none,none,none,[],rfl,rfl,s4,s24 _ _ elo3,?_,g2.mono s24,z04,DrL.nil,zbC G,by simp,rfl⟩,?_⟩
 ·exact DrL.one (dv0.mono s4)
 rintro m σ H2 ⟨i,o,os,u1,u2,u3,fs,rfl,rfl,t2,glo,dos,glp,glf,df,L,hi,hb⟩
 have hfl:fs.length=i:=by
  have:=df.length
  unfold z0s at this
  rw [List.length_map,List.length_take] at this
  obtain ⟨m0,em⟩:=z41 rows (rows.length+1 - i) i o
  rw [hb] at em
  have:(z0F rows).length=(z0i rows).length:=by unfold z0F z1I;rw [List.length_map]
  have:o.length≤(z0i rows).length:=by rw [em,List.length_append];lia
  lia
 refine (exA rfl (exG lf rfl (.inl (SqL.of glf)) (exA rfl (exG lo rfl (.inl (SqL.of glo)) (exC rfl rfl (exA rfl ?_))))))
 have hol2:os.length=o.length:=by have:=dos.length;rw [List.length_map] at this;lia
 refine z2p (fun c=>?_) (fun c=>?_)
 ·have c':=of_decide_eq_true c
  rw [hfl,hol2] at c'
  have hio:i < o.length:=by lia
  have eo:o[i]?=some o[i]:=List.getElem?_eq_getElem hio
  have hro:o[i]∈o:=List.getElem_mem hio
  generalize o[i]=r at eo hro
  obtain ⟨r0,r1⟩:=L.rg r hro
  have hrow:=z0o r0 r1
  have hgl:=G.len _ hrow
  have hgo:=G.go _ hrow
  have hlen:=L.len
  refine ze5 fun N nx2=>?_
  obtain ⟨vo,evo,dvo⟩:=dos.get (show (o.map (pr mm))[i]?=some (pr mm r) by rw [List.getElem?_map,eo];rfl)
  refine ⟨fa,z97 K rows mm,rfl,(hV.mono t2).1,exA rfl (exA rfl (exG lf rfl (.inl (SqL.of glf)) (exD lo _ _ vo rfl rfl (SqL.of glo) (z0B (by rw [hfl];exact evo)) ⟨hV.mono t2,r,vo,rfl,dvo,r0,r1,fun v Hc sc dv=>?_⟩)))⟩
  obtain ⟨t,b,cc,ws,rfl,et,eb,ec,dws⟩:=zdh dv
  have t2:=t2.trans sc
  have glo:=sc _ _ glo
  have glp:=glp.mono sc
  have dos:=dos.mono sc
  have glf:=sc _ _ glf
  have df:=df.mono sc
  refine (exF t rfl (SqT.of et) rfl (exB rfl (exC rfl rfl ?_)))
  generalize hgs:(row rows r).2=gs at *
  refine ⟨_,rfl,cc,rfl,⟨_,SqT.of ec⟩,zgM (xs:=ws) (fun j σ H3=>∃ (u:Option V) (oj:List V),σ=[some (.ref a0),some (.ref fa),some (.ref lo),some (.ref lp),some (.ref lf),some (.ref b),some (.ref cc),u]∧z0h H H3∧z19 Hc H3∧H3 lo=some (.lst oj)∧DrL K H3 ((z0d o (gs.take j)).map (pr mm)) oj∧DD P w K H3 lp (prs (pr mm) (z0d o (gs.take j)))∧H3 lf=some (.lst fs))
   ⟨_,os,rfl,t2,z19.refl _,glo,dos,glp,glf⟩ (fun j σ H3 _ h=>by obtain ⟨_,_,_,_,k3,_⟩:=h;exact SqT.of (k3 _ _ ec)) (fun j x σ H3 hx h Ed nx3=>?_) (fun σ H3 h=>?_)⟩
  ·obtain ⟨u,oj,rfl,t3,k3,e1,doj,g3,e3⟩:=h
   have hwl:ws.length=gs.length:=by have:=dws.length;rw [List.length_map] at this;lia
   have hjl:j < gs.length:=by have:=(List.getElem?_eq_some_iff.mp hx).1;lia
   have eg:gs[j]?=some gs[j]:=List.getElem?_eq_getElem hjl
   obtain ⟨x',ex,dx⟩:=dws.get (show (gs.map (pr mm))[j]?=some (pr mm gs[j]) by rw [List.getElem?_map,eg];rfl)
   rw [hx] at ex
   cases ex
   generalize gs[j]=gj at eg dx
   have dx3:Dr K H3 (pr mm gj) x:=dx.keyed k3 (z4h mm gj).1
   have et':z0d o (gs.take (j+1))=z2u (z0d o (gs.take j)) gj:=by rw [List.take_add_one,eg];exact z1H _ _ _
   have hal:(z0d o (gs.take j)).length≤4500:=by
    have:=z27 (gs.take j) o
    rw [List.length_take] at this
    lia
   have hojl:oj.length=(z0d o (gs.take j)).length:=by have:=doj.length;rw [List.length_map] at this;lia
   generalize z0d o (gs.take j)=ol at *
   refine (exA rfl (exA rfl ⟨lp,_,pr mm gj,rfl,g3,zcp (z4h mm gj) dx3,exA rfl ?_⟩))
   have hv:=z1X (κ:=D) (pr mm) (zb0 mm) ol gj
   by_cases hm:gj∈ol
   ·rw [hv,if_pos hm]
    refine z7m (nx3 _ _ ⟨_,oj,rfl,t3,k3,e1,?_,?_,e3⟩)
    ·rw [et',z0y hm];exact doj
    ·rw [et',z0y hm];exact g3
   ·rw [hv,if_neg hm]
    refine zcs (exA rfl (exG lo rfl (.inl (SqL.of e1)) (exA rfl (exA rfl ⟨lp,_,pr mm gj,rfl,g3,zcp (z4h mm gj) dx3,by rw [z1M];exact z1Q (by lia),fun ob g4=>?_⟩))))
    rw [hojl,z47 (pr mm) (zb0 mm) hm] at g4
    have k4:z19 H3 (upd H3 lp ob):=by
     obtain ⟨xs,e0,_⟩:=g3
     exact z19.up (z19.refl _) e0 (fun _ z=>by unfold zbx at z;cases z)
    have e1':upd H3 lp ob lo=some (.lst oj):=by rw [z09 nlo];exact e1
    have k5:z19 (upd H3 lp ob) (upd (upd H3 lp ob) lo (.lst (oj++[x]))):=z19.up (z19.refl _) e1' (fun _ z=>by cases z)
    refine (exA rfl ⟨.inl ⟨rfl,_,SqL.of e1'⟩,exA rfl ⟨lo,exC rfl rfl ⟨e1',z1Q (by lia),?_⟩⟩⟩)
    refine nx3 _ _ ⟨_,oj++[x],rfl,z0g (z0g t3 hlp0) hlo,k3.trans (k4.trans k5),z04,?_,?_,?_⟩
    ·rw [et',z0x hm,List.map_append]
     exact DrL.append (doj.keyed (k4.trans k5) (z70 mm _)) (DrL.one (dx3.keyed (k4.trans k5) (z4h mm gj).1))
    ·rw [et',z0x hm]
     exact DD.keyed g4 k5 (by rw [z09 nlo.symm])
    ·rw [z09 nlf.symm,z09 nlpf.symm];exact e3
  ·obtain ⟨u,oj,rfl,t3,k3,e1,doj,e2,e3⟩:=h
   have hwl:ws.length=gs.length:=by have:=dws.length;rw [List.length_map] at this;lia
   rw [hwl,List.take_length] at doj e2
   obtain ⟨m0,em⟩:=z41 rows (rows.length+1 - (i+1)) (i+1) (z0d o gs)
   have hb':bfs rows (rows.length+1 - (i+1)) (i+1) (z0d o gs)=z0i rows:=by
    rw [←hb,show rows.length+1 - i=(rows.length+1 - (i+1))+1 by lia,z3A eo,hgs]
   rw [hb'] at em
   have L':z7n rows (z0d o gs):=by rw [←hgs];exact L.add G hro
   obtain ⟨m1,em1⟩:=z0N gs o
   have hoi:(z0i rows)[i]?=some r:=by rw [em,em1,List.append_assoc,List.getElem?_append_left hio];exact eo
   have hi':i+1≤(z0d o gs).length:=by rw [em1,List.length_append];lia
   have hmem:∀ g∈gs,g∈z0d o gs:=fun g hg=>z0O.mpr (.inr hg)
   have efound:(z0F rows).take (i+1)=(z0F rows).take i++[((row rows r).1,gs.map fun g=>(((z0d o gs).idxOf g:Nat):Int))]:=by
    have e4:(z0F rows)[i]?=some ((row rows r).1,gs.map fun g=>(((z0d o gs).idxOf g:Nat):Int)):=by
     unfold z0F z1I
     rw [List.getElem?_map,hoi]
     show some ((row rows r).1,(row rows r).2.map fun g=>(((z0i rows).idxOf g:Nat):Int))=_
     rw [hgs]
     congr 2
     refine List.map_congr_left fun g hg=>?_
     rw [em,z5l (hmem g hg)]
    rw [List.take_add_one,e4]
    rfl
   generalize z0d o gs=o' at *
   refine (exA rfl ⟨.inl ⟨rfl,_,SqL.of e3⟩,exA rfl (exA rfl ⟨cc,rfl,⟨_,SqT.of (k3 _ _ ec)⟩,fun l4 hl4=>z2l (xs:=ws) (fun j ys H4=>j≤gs.length∧ys=((gs.take j).map fun g=>((o'.idxOf g:Nat):Int)).map V.int∧z0h H3 H4) ⟨Nat.zero_le _,rfl,same_up (z0h.refl H3) hl4⟩ (fun j ys H4 _ h=>SqT.of (h.2.2 _ _ (k3 _ _ ec))) (by rw [hwl];exact z0L (by lia)) (fun j ys H4 h=>?_) (fun j x ys H4 hx h hy=>?_) (fun ys H4 h hy=>?_)⟩)⟩)
   ·obtain ⟨hj,rfl,_⟩:=h
    rw [List.length_map,List.length_map,List.length_take]
    lia
   ·obtain ⟨hj,rfl,s4⟩:=h
    have hjl:j < gs.length:=by have:=(List.getElem?_eq_some_iff.mp hx).1;lia
    have eg:gs[j]?=some gs[j]:=List.getElem?_eq_getElem hjl
    have hgm:=hmem _ (List.getElem_mem hjl)
    obtain ⟨x',ex,dx⟩:=dws.get (show (gs.map (pr mm))[j]?=some (pr mm gs[j]) by rw [List.getElem?_map,eg];rfl)
    rw [hx] at ex
    cases ex
    generalize gs[j]=gj at eg hgm dx
    have dx4:Dr K H4 (pr mm gj) x:=(dx.keyed k3 (z4h mm gj).1).mono s4
    have hv:=z1X (κ:=D) (pr mm) (zb0 mm) o' gj
    rw [if_pos hgm] at hv
    refine (exA rfl (exA rfl ⟨lp,_,pr mm gj,exA rfl ⟨e2.mono s4,zcp (z4h mm gj) dx4,hv,hy,hjl,?_,z0g s4 hl4⟩⟩))
    rw [z1c _ eg,List.map_append]
    rfl
   ·obtain ⟨_,rfl,s4⟩:=h
    rw [hwl,List.take_length] at hy
    refine ⟨l4,exA rfl (.inl ⟨SqL.of hy,fun t4 ht4=>⟨by show 2≤sizeLine;decide,fun t5 ht5=>?_⟩⟩)⟩
    have s5:=same_up (o:=HO.tup ((gs.map fun g=>((o'.idxOf g:Nat):Int)).map V.int)) s4 ht4
    have s6:=same_up (o:=HO.tup [.ref b,.ref t4]) s5 ht5
    have e3':=s6 _ _ e3
    refine ⟨lf,fs,.ref t5,rfl,rfl,e3',by rw [hfl];exact z1Q (by lia),?_⟩
    have kk:z19 Hc (upd (upd (upd H4 t4 (.tup ((gs.map fun g=>((o'.idxOf g:Nat):Int)).map V.int))) t5 (.tup [.ref b,.ref t4])) lf (.lst (fs++[.ref t5]))):=z19.up (k3.trans (z19.of s6)) e3' (fun _ z=>by cases z)
    have kk':=z19.up (u:=HO.lst (fs++[.ref t5])) (z19.refl (upd (upd H4 t4 (.tup ((gs.map fun g=>((o'.idxOf g:Nat):Int)).map V.int))) t5 (.tup [.ref b,.ref t4]))) e3' (fun _ z=>by cases z)
    have nt5:t5≠lf:=z4b z04 e3' (by intro z;cases z)
    have nt4:t4≠t5:=z0f z04 ht5
    have nt4f:t4≠lf:=z4b (show upd (upd H4 t4 (.tup ((gs.map fun g=>((o'.idxOf g:Nat):Int)).map V.int))) t5 (.tup [.ref b,.ref t4]) t4=some (.tup ((gs.map fun g=>((o'.idxOf g:Nat):Int)).map V.int)) by rw [z09 nt4];exact z04) e3' (by intro z;cases z)
    refine nx2 (rows.length+1 - (i+1)) _ _ (by lia) ⟨i+1,o',oj,_,_,_,fs++[.ref t5],rfl,rfl,z0g (t3.trans s6) hlf0,?_,?_,?_,z04,?_,L',hi',hb'⟩
    ·rw [z09 nlf];exact s6 _ _ e1
    ·exact (doj.mono s6).keyed kk' (z70 mm _)
    ·exact DD.keyed (e2.mono s6) kk' (by rw [z09 nlpf])
    ·rw [efound]
     unfold z0s
     rw [List.map_append]
     refine DrL.append (df.keyed kk (z3a _)) (DrL.one (z2K (b:=b) (c:=t4) ?_ (kk _ _ eb) ?_))
     ·rw [z09 nt5];exact z04
     ·rw [z09 nt4f,z09 nt4];exact z04
 ·have c':=of_decide_eq_false (Bool.eq_false_iff.mpr c)
  rw [hfl,hol2] at c'
  have e:z0i rows=o:=by rw [←hb];exact z3x (by lia)
  have e2:(z0F rows).take i=z0F rows:=List.take_of_length_le (by unfold z0F z1I;rw [List.length_map,e];lia)
  rw [e2] at df
  exact (exA rfl (q lf H2 t2 ⟨fs,glf,df⟩))
abbrev zdX:List Str:=["first","row_at","order","places","found","rearranging","goings","going"]
theorem z3o:z0n zdX ["first","row_at"] (z06 z6Z):=⟨rfl,rfl,rfl,by decide +kernel,rfl,by decide +kernel,by decide +kernel⟩
theorem zav:z1l zdX (z06 z6Z) ["going","places"] [none,some 3] (csc [(".0",.local),("going",.local),("places",.free)]):=⟨rfl,by decide +kernel,by decide +kernel,by decide +kernel,rfl,by decide +kernel,by decide +kernel⟩
theorem zcO (F:Fun K "rows_come_to" "rows_come_to" z6Z f fd) (ml:mg "len"=none) (mt:mg "tuple"=none):z0t P w K mg base CX 5 f fd ["first","row_at"] (z8l P w K mg base CX 4):=by
 refine F.okc z3o (fun vs H Q E h=>?_) (fun cdv A outer s H vs Q E hr h=>?_)
 ·obtain ⟨a,n,rows,nm,rfl,_⟩:=h
  rfl
 obtain ⟨fa,n,rows,nm,rfl,ni,hV,G,hn,q⟩:=h
 have hu:=zbe hr
 refine ⟨_,z03 (z0e (i:=2) z3o.nd rfl (Or.inl rfl) (z2h (z02 (pv 0) z05)))
  (z03 (z0e (i:=3) z3o.nd rfl (Or.inr rfl) (zb2 (z6S (pv 0) z07 z8j) rfl rfl (by simp) (by decide)))
  (z03 (z0e (i:=4) z3o.nd rfl (Or.inl rfl) (z2h z05))
  (z03 (z1D PassesOwn.never (z0W z5o (z0m z0a rfl ml PySem.boot_len (z02 (pv 4) z05)) (z0m z0a rfl ml PySem.boot_len (z02 (pv 2) z05)) (z1d _))
   (z03 (z2m (z9n (CX:=CX) 1 hr (z02 (z0Q z1f (pv 2) (z0m z0a rfl ml PySem.boot_len (z02 (pv 4) z05)) (fun _ _=>rfl)) z05)) (z1R rfl (z0l (z0b (i:=5) z3o.nd rfl (Or.inl rfl)) (z0l (z0b (i:=6) z3o.nd rfl (Or.inl rfl)) z17))))
   (z03 (z20 PassesOwn.never rfl (z2Q (pv 6)) (z0b (i:=7) z3o.nd rfl (Or.inl rfl))
    (z08 (z1J (z1A (z3Q hu (pv 7) (pv 3)))
     (z03 (z50 hu (pv 3) (pv 7) (z0m z0a rfl ml PySem.boot_len (z02 (pv 2) z05)) rfl)
     (z08 (z0X (z3N PySem.F.plainAttrs_list PySem.F.slot_list_append PySem.F.type_list_append z0P (pv 2) (z02 (pv 7) z05))))) z0G)))
   (z08 (z0X (z3N PySem.F.plainAttrs_list PySem.F.slot_list_append PySem.F.type_list_append z0P (pv 4) (z02 (z1F (z02 (pv 5) (z02 (z0u z0p rfl mt PyProof.Rows.boot_tuple
    (z02 (z1m rfl zav (z2Q (pv 6)) (fun _ _ _ _ _=>z0b (i:=0) zav.nd rfl (Or.inl rfl)) (fun _ _ _ _ _=>z30 hu (pv 1) (pv 0) (fun _ _=>rfl))) z05)) z05))) z05)))))))
  (z08 (z0v (pv 4)))))),?_⟩
 refine (exA rfl ⟨by show 1≤sizeLine;decide,fun lo hlo=>fun lp hlp=>(exA rfl ⟨z04,[(Sum.inl (nm 0),V.int 0)],rfl,by simp,by show 0≤sizeLine;decide,fun lf hlf=>?_⟩)⟩)
 have s1:z0h H (upd H lo (.lst [.int (nm 0)])):=same_up (z0h.refl H) hlo
 have hlp0:H lp=none:=s1.free hlp
 have nlo:lo≠lp:=z0f z04 hlp
 have s2:z0h H (upd (upd (upd H lo (.lst [.int (nm 0)])) lp (.dK [])) lp (.dK (z4i [] [(Sum.inl (nm 0),V.int 0)]))):=z0g (same_up s1 hlp) hlp0
 have hlf0:H lf=none:=s2.free hlf
 have nlf:lo≠lf:=z0f (show upd (upd (upd H lo (.lst [.int (nm 0)])) lp (.dK [])) lp (.dK (z4i [] [(Sum.inl (nm 0),V.int 0)])) lo=_ by rw [z09 nlo,z09 nlo];exact z04) hlf
 have nlpf:lp≠lf:=z0f z04 hlf
 have s3:=same_up (o:=HO.lst []) s2 hlf
 have OL:=z0q G
 have hol:=OL.1.len
 have h400:=G.few
 refine ⟨fun m σ H2=>∃ (i:Nat) (o:List Int) (u1 u2 u3:Option V) (fs:List V),m=rows.length+1 - i∧σ=[some (.int (nm 0)),some (.ref fa),some (.ref lo),some (.ref lp),some (.ref lf),u1,u2,u3]∧z0h H H2∧H2 lo=some (.lst (o.map (nV nm)))∧H2 lp=some (.dK (prs (kN nm) o))∧H2 lf=some (.lst fs) ∧
   DrL K H2 (z0s ((z0F rows).take i)) fs∧z7n rows o∧i≤o.length∧bfs rows (rows.length+1 - i) i o=z0i rows,⟨_,0,[0],none,none,none,[],rfl,rfl,s3,?_,?_,z04,DrL.nil,zbC G,by simp,rfl⟩,?_⟩
 ·rw [z09 nlf,z09 nlo,z09 nlo];exact z04
 ·rw [z09 nlpf];exact z04
 rintro m σ H2 ⟨i,o,u1,u2,u3,fs,rfl,rfl,t2,glo,glp,glf,df,L,hi,hb⟩
 have hfl:fs.length=i:=by
  have:=df.length
  unfold z0s at this
  rw [List.length_map,List.length_take] at this
  obtain ⟨mm,em⟩:=z41 rows (rows.length+1 - i) i o
  rw [hb] at em
  have:(z0F rows).length=(z0i rows).length:=by unfold z0F z1I;rw [List.length_map]
  have:o.length≤(z0i rows).length:=by rw [em,List.length_append];lia
  lia
 refine (exA rfl (exG lf rfl (.inl (SqL.of glf)) (exA rfl (exG lo rfl (.inl (SqL.of glo)) (exC rfl rfl (exA rfl ?_))))))
 have hol2:(o.map (nV nm)).length=o.length:=List.length_map _
 refine z2p (fun c=>?_) (fun c=>?_)
 ·have c':=of_decide_eq_true c
  rw [hfl,hol2] at c'
  have hio:i < o.length:=by lia
  have eo:o[i]?=some o[i]:=List.getElem?_eq_getElem hio
  have hro:o[i]∈o:=List.getElem_mem hio
  generalize o[i]=r at eo hro
  obtain ⟨r0,r1⟩:=L.rg r hro
  have hrow:=z0o r0 r1
  have hgl:=G.len _ hrow
  have hgo:=G.go _ hrow
  have hlen:=L.len
  refine ze5 fun N nx2=>?_
  refine ⟨fa,zcJ K rows nm,rfl,(hV.mono t2).1,exA rfl (exA rfl (exG lf rfl (.inl (SqL.of glf)) (exD lo _ _ (V.int (nm r)) rfl rfl (SqL.of glo) (z0B (by rw [List.getElem?_map,hfl,eo];rfl)) ⟨hV.mono t2,r,rfl,r0,r1,fun v Hc sc dv=>?_⟩)))⟩
  obtain ⟨t,b,cc,rfl,et,eb,ec⟩:=z0U dv
  have t2:=t2.trans sc
  have glo:=sc _ _ glo
  have glp:=sc _ _ glp
  have glf:=sc _ _ glf
  have df:=df.mono sc
  refine (exF t rfl (SqT.of et) rfl (exB rfl (exC rfl rfl ?_)))
  unfold zdO at eb ec
  simp only at eb ec
  generalize hgs:(row rows r).2=gs at *
  refine ⟨_,rfl,cc,rfl,⟨_,SqT.of ec⟩,zgM (xs:=(gs.map nm).map V.int) (fun j σ H3=>∃ u:Option V,σ=[some (.int (nm 0)),some (.ref fa),some (.ref lo),some (.ref lp),some (.ref lf),some (.ref b),some (.ref cc),u]∧z0h H H3∧z19 Hc H3∧H3 lo=some (.lst ((z0d o (gs.take j)).map (nV nm)))∧H3 lp=some (.dK (prs (kN nm) (z0d o (gs.take j))))∧H3 lf=some (.lst fs))
   ⟨_,rfl,t2,z19.refl _,glo,glp,glf⟩ (fun j σ H3 _ h=>by obtain ⟨_,_,_,k3,_⟩:=h;exact SqT.of (k3 _ _ ec)) (fun j x σ H3 hx h Ed nx3=>?_) (fun σ H3 h=>?_)⟩
  ·obtain ⟨u,rfl,t3,k3,e1,e2,e3⟩:=h
   have hjl:j < gs.length:=by have:=(List.getElem?_eq_some_iff.mp hx).1;rwa [List.length_map,List.length_map] at this
   have eg:gs[j]?=some gs[j]:=List.getElem?_eq_getElem hjl
   generalize gs[j]=gj at eg
   have ex:x=V.int (nm gj):=by rw [List.getElem?_map,List.getElem?_map,eg] at hx;exact (Option.some.inj hx).symm
   subst ex
   have et':z0d o (gs.take (j+1))=z2u (z0d o (gs.take j)) gj:=by rw [List.take_add_one,eg];exact z1H _ _ _
   have hal:(z0d o (gs.take j)).length≤4500:=by
    have:=z27 (gs.take j) o
    rw [List.length_take] at this
    lia
   generalize z0d o (gs.take j)=oj at *
   refine (exA rfl (exA rfl ⟨lp,exA rfl ⟨z5A.k (k:=kN nm gj) e2,exA rfl ?_⟩⟩))
   have hv:=z1X (κ:=Key) (kN nm) (zar ni) oj gj
   by_cases hm:gj∈oj
   ·rw [hv,if_pos hm]
    refine z7m (nx3 _ _ (exA rfl ⟨t3,k3,?_,?_,e3⟩))
    ·rw [et',z0y hm];exact e1
    ·rw [et',z0y hm];exact e2
   ·rw [hv,if_neg hm]
    have nlop:lo≠lp:=z4b e1 e2 (by intro z;cases z)
    refine zcs (exA rfl (exG lo rfl (.inl (SqL.of e1)) (exA rfl (exA rfl ⟨lp,exA rfl ⟨zdo.k (k:=kN nm gj) e2 (by rw [z1M];exact z1Q (by lia)),?_⟩⟩))))
    have e1':upd H3 lp (.dK (z2P (prs (kN nm) oj) (kN nm gj) (V.int ((oj.map (nV nm)).length:Nat)))) lo=some (.lst (oj.map (nV nm))):=by rw [z09 nlop];exact e1
    refine (exA rfl ⟨.inl ⟨rfl,_,SqL.of e1'⟩,exA rfl ⟨lo,exC rfl rfl ⟨e1',by rw [List.length_map];exact z1Q (by lia),?_⟩⟩⟩)
    refine nx3 _ _ (exA rfl ⟨z0g (z0g t3 hlp0) hlo,z19.up (z19.up k3 e2 (fun _ z=>by cases z)) e1' (fun _ z=>by cases z),?_,?_,?_⟩)
    ·rw [z04,et',z0x hm,List.map_append];rfl
    ·rw [z09 nlop.symm,z04,et',z0x hm,List.length_map,z47 (kN nm) (zar ni) hm]
    ·rw [z09 nlf.symm,z09 nlpf.symm];exact e3
  ·obtain ⟨u,rfl,t3,k3,e1,e2,e3⟩:=h
   rw [List.length_map,List.length_map,List.take_length] at e1 e2
   obtain ⟨mm,em⟩:=z41 rows (rows.length+1 - (i+1)) (i+1) (z0d o gs)
   have hb':bfs rows (rows.length+1 - (i+1)) (i+1) (z0d o gs)=z0i rows:=by
    rw [←hb,show rows.length+1 - i=(rows.length+1 - (i+1))+1 by lia,z3A eo,hgs]
   rw [hb'] at em
   have L':z7n rows (z0d o gs):=by rw [←hgs];exact L.add G hro
   obtain ⟨m1,em1⟩:=z0N gs o
   have hoi:(z0i rows)[i]?=some r:=by rw [em,em1,List.append_assoc,List.getElem?_append_left hio];exact eo
   have hi':i+1≤(z0d o gs).length:=by rw [em1,List.length_append];lia
   have hmem:∀ g∈gs,g∈z0d o gs:=fun g hg=>z0O.mpr (.inr hg)
   have efound:(z0F rows).take (i+1)=(z0F rows).take i++[((row rows r).1,gs.map fun g=>(((z0d o gs).idxOf g:Nat):Int))]:=by
    have e4:(z0F rows)[i]?=some ((row rows r).1,gs.map fun g=>(((z0d o gs).idxOf g:Nat):Int)):=by
     unfold z0F z1I
     rw [List.getElem?_map,hoi]
     show some ((row rows r).1,(row rows r).2.map fun g=>(((z0i rows).idxOf g:Nat):Int))=_
     rw [hgs]
     congr 2
     refine List.map_congr_left fun g hg=>?_
     rw [em,z5l (hmem g hg)]
    rw [List.take_add_one,e4]
    rfl
   generalize z0d o gs=o' at *
   refine (exA rfl ⟨.inl ⟨rfl,_,SqL.of e3⟩,exA rfl (exA rfl ⟨cc,rfl,⟨_,SqT.of (k3 _ _ ec)⟩,fun l4 hl4=>z2l (xs:=(gs.map nm).map V.int) (fun j ys H4=>j≤gs.length∧ys=((gs.take j).map fun g=>((o'.idxOf g:Nat):Int)).map V.int∧z0h H3 H4) ⟨Nat.zero_le _,rfl,same_up (z0h.refl H3) hl4⟩ (fun j ys H4 _ h=>SqT.of (h.2.2 _ _ (k3 _ _ ec))) (by rw [List.length_map,List.length_map];exact z0L (by lia)) (fun j ys H4 h=>?_) (fun j x ys H4 hx h hy=>?_) (fun ys H4 h hy=>?_)⟩)⟩)
   ·obtain ⟨hj,rfl,_⟩:=h
    rw [List.length_map,List.length_map,List.length_take]
    lia
   ·obtain ⟨hj,rfl,s4⟩:=h
    have hjl:j < gs.length:=by have:=(List.getElem?_eq_some_iff.mp hx).1;rwa [List.length_map,List.length_map] at this
    have eg:gs[j]?=some gs[j]:=List.getElem?_eq_getElem hjl
    have hgm:=hmem _ (List.getElem_mem hjl)
    generalize gs[j]=gj at eg hgm
    have ex:x=V.int (nm gj):=by rw [List.getElem?_map,List.getElem?_map,eg] at hx;exact (Option.some.inj hx).symm
    subst ex
    have hv:=z1X (κ:=Key) (kN nm) (zar ni) o' gj
    rw [if_pos hgm] at hv
    refine (exA rfl (exA rfl ⟨lp,exA rfl ⟨(by rw [←hv];exact z5A.k (k:=kN nm gj) (s4 _ _ e2)),hy,hjl,?_,z0g s4 hl4⟩⟩))
    rw [z1c _ eg,List.map_append]
    rfl
   ·obtain ⟨_,rfl,s4⟩:=h
    rw [List.length_map,List.length_map,List.take_length] at hy
    refine ⟨l4,exA rfl (.inl ⟨SqL.of hy,fun t4 ht4=>⟨by show 2≤sizeLine;decide,fun t5 ht5=>?_⟩⟩)⟩
    have s5:=same_up (o:=HO.tup ((gs.map fun g=>((o'.idxOf g:Nat):Int)).map V.int)) s4 ht4
    have s6:=same_up (o:=HO.tup [.ref b,.ref t4]) s5 ht5
    have e3':=s6 _ _ e3
    refine ⟨lf,fs,.ref t5,rfl,rfl,e3',by rw [hfl];exact z1Q (by lia),?_⟩
    have kk:z19 Hc (upd (upd (upd H4 t4 (.tup ((gs.map fun g=>((o'.idxOf g:Nat):Int)).map V.int))) t5 (.tup [.ref b,.ref t4])) lf (.lst (fs++[.ref t5]))):=z19.up (k3.trans (z19.of s6)) e3' (fun _ z=>by cases z)
    have nt5:t5≠lf:=z4b z04 e3' (by intro z;cases z)
    have nt4:t4≠t5:=z0f z04 ht5
    have nt4f:t4≠lf:=z4b (show upd (upd H4 t4 (.tup ((gs.map fun g=>((o'.idxOf g:Nat):Int)).map V.int))) t5 (.tup [.ref b,.ref t4]) t4=some (.tup ((gs.map fun g=>((o'.idxOf g:Nat):Int)).map V.int)) by rw [z09 nt4];exact z04) e3' (by intro z;cases z)
    refine nx2 (rows.length+1 - (i+1)) _ _ (by lia) ⟨i+1,o',_,_,_,fs++[.ref t5],rfl,rfl,z0g (t3.trans s6) hlf0,?_,?_,z04,?_,L',hi',hb'⟩
    ·rw [z09 nlf];exact s6 _ _ e1
    ·rw [z09 nlpf];exact s6 _ _ e2
    ·rw [efound]
     unfold z0s
     rw [List.map_append]
     refine DrL.append (df.keyed kk (z3a _)) (DrL.one (z2K (b:=b) (c:=t4) ?_ (kk _ _ eb) ?_))
     ·rw [z09 nt5];exact z04
     ·rw [z09 nt4f,z09 nt4];exact z04
 ·have c':=of_decide_eq_false (Bool.eq_false_iff.mpr c)
  rw [hfl,hol2] at c'
  have e:z0i rows=o:=by rw [←hb];exact z3x (by lia)
  have e2:(z0F rows).take i=z0F rows:=List.take_of_length_le (by unfold z0F z1I;rw [List.length_map,e];lia)
  rw [e2] at df
  exact (exA rfl (q lf H2 t2 ⟨fs,glf,df⟩))
theorem z4I:z0n ["rows","kinds","count"] ["rows"] (z06 z5S):=⟨rfl,rfl,rfl,by decide +kernel,rfl,by decide +kernel,by decide +kernel⟩
theorem z6P:z1l ["rows","kinds","count"] (z06 z5S) ["rearranging","goings"] [none,none] (csc [(".0",.local),("rearranging",.local),("goings",.local)]):=⟨rfl,by decide +kernel,by decide +kernel,by decide +kernel,rfl,by decide +kernel,by decide +kernel⟩
theorem z4u:z1l ["rows","kinds","count"] (z06 z5S) ["kind","rearranging","goings","kinds"] [none,none,none,some 1] (csc [(".0",.local),("kind",.local),("rearranging",.local),("goings",.local),("kinds_gone_to",.globalImplicit),("kinds",.free)]):=⟨rfl,by decide +kernel,by decide +kernel,by decide +kernel,rfl,by decide +kernel,by decide +kernel⟩
theorem zbk {k Ct:Addr} {kd:FuncData} {tm:Tok} {bmB:List Value} {B newId initId:String} (mC:mg "TooMany"=some (.ref Ct)) (xC:PySem.W.excIn K Ct bmB newId=true) (hB:ExcBaseFacts B newId initId bmB) (F:Fun K "kinds_of_rows" "kinds_of_rows" z5S f fd) (mz:mg "zip"=none) (mx:mg "max"=none) (mM:mg "MOST_FORM_ROWS"=some (.int 60 tm))
  (G:z0t P w K mg base (CXx P w) 1 g gd ["things"] (z4c K)) (bG:z0k K gd ["things"] []) (kG:PySem.W.keepIn K (.ref g)=true) (mG:mg "numbered"=some (.ref g))
  (T:z0t P w K mg base (CXx P w) 1 k kd ["kinds","goings"] (z9N K)) (bT:z0k K kd ["kinds","goings"] []) (kT:PySem.W.keepIn K (.ref k)=true) (mT:mg "kinds_gone_to"=some (.ref k)):z0t P w K mg base (CXx P w) 2 f fd ["rows"] (z7d K Ct):=by
 refine F.okx z4I (fun vs H Q E h=>?_) (fun cdv A outer s H vs Q E hr h=>?_)
 ·obtain ⟨a,n,rows,rfl,_⟩:=h
  rfl
 obtain ⟨a,n,rows,rfl,⟨us,ea,da⟩,GF,hn,q,qx⟩:=h
 have h400:=GF.few
 refine ⟨_,z03 (z0e (i:=1) z4I.nd rfl (Or.inr rfl) (z0c G hr rfl mG kG bG .nil z0H (z02 (z1m rfl z6P (z2c (pv 0)) (fun _ _ _ _ _=>pgT K (n:=2) rfl rfl (z0l (z0b (i:=0) z6P.nd rfl (Or.inl rfl)) (z0l (z0b (i:=1) z6P.nd rfl (Or.inl rfl)) z17))) (fun _ _ _ _ _=>pv 0)) z05)))
  (z03 (z0e (i:=2) z4I.nd rfl (Or.inl rfl) z07)
  (z03 (z1D PassesOwn.leaving (z0W z5o (pv 2) (z0r z1g (z0m (zhs K rfl rfl) rfl mx PyProof.Rows.boot_max (z02 (pv 1) z05)) z07) (z1d _))
   (z03 (z0e (i:=2) z4I.nd rfl (Or.inl rfl) (z0r z1g (z0m (zhs K rfl rfl) rfl mx PyProof.Rows.boot_max (z02 (pv 1) z05)) z07))
   (z03 (z1J (z0W zcR (pv 2) (z4F (v:=.int 60) rfl mM ⟨_,rfl⟩) (z1d _)) (z08 (z2N mC rfl xC hB z5g)) z0G)
   (z08 (z0e (i:=1) z4I.nd rfl (Or.inr rfl) (z0c G hr rfl mG kG bG .nil z0H (z02 (z1m rfl z4u (zgN K rfl rfl mz (z02 (pv 1) (z02 (pv 0) z05)))
    (fun _ _ _ _ _=>pgT K (n:=2) rfl rfl (z0l (z0b (i:=0) z4u.nd rfl (Or.inl rfl)) (z0l (pgT K (n:=2) rfl rfl (z0l (z0b (i:=1) z4u.nd rfl (Or.inl rfl)) (z0l (z0b (i:=2) z4u.nd rfl (Or.inl rfl)) z17))) z17)))
    (fun _ _ _ _ _=>z1F (z02 (pv 0) (z02 (z0c T hr rfl mT kT bT .nil z0H (z02 (pv 3) (z02 (pv 2) z05))) z05)))) z05)))))))
  (z08 (z0v (pv 1))))),?_⟩
 have hul:us.length=rows.length:=by have:=da.length;unfold z0s at this;rw [List.length_map] at this;exact this.symm
 have hrs:=GF.some
 refine (exA rfl ⟨a,rfl,⟨_,SqL.of ea⟩,fun l1 hl1=>z2b (xs:=us) (fun i ys H2=>i≤us.length∧ys.length=i∧z0h H H2∧DrL K H2 ((rows.take i).map fun r=>D.its r.1) ys) ⟨Nat.zero_le _,rfl,same_up (z0h.refl H) hl1,DrL.nil⟩ (fun i ys H2 _ h=>SqL.of (h.2.2.1 _ _ ea)) (z0L (by lia)) (fun i ys H2 h=>h.2.1) (fun i x ys H2 hx h hy=>?_) (fun ys H2 h hy=>?_)⟩)
 ·obtain ⟨hi,hyl,s2,d2⟩:=h
  have hil:i < us.length:=(List.getElem?_eq_some_iff.mp hx).1
  have er:rows[i]?=some rows[i]:=List.getElem?_eq_getElem (by lia)
  obtain ⟨x',ex,dx⟩:=z37 da er
  rw [hx] at ex
  cases ex
  generalize rows[i]=ri at er dx
  obtain ⟨t,b,c,rfl,et,eb,ec⟩:=z0U (dx.mono s2)
  refine (exF t rfl (SqT.of et) rfl (exB rfl (exC rfl rfl (exA rfl ⟨hy,hil,by rw [List.length_append,hyl];rfl,z0g s2 hl1,?_⟩))))
  rw [z1c _ er]
  have kk:z19 H2 (upd H2 l1 (.lst (ys++[.ref b]))):=z19.up (z19.refl _) hy (fun _ z=>by cases z)
  exact DrL.append (d2.keyed kk (by have:=z9E ((rows.take i).map (·.1));rw [List.map_map] at this;exact this)) (DrL.one (Dr.tup (kk _ _ eb) (DrL.ints _)))
 obtain ⟨_,hyl,s2,d2⟩:=h
 rw [List.take_of_length_le (by lia)] at d2
 have e1:(rows.map fun r=>D.its r.1)=(rows.map (·.1)).map D.its:=by rw [List.map_map];rfl
 rw [e1] at d2
 refine ⟨l1,ys,exA rfl ⟨hy,d2,fun d hd=>?_,by rw [List.length_map,List.length_map];lia,fun l2 H3 s3 e3=>?_⟩⟩
 ·obtain ⟨p,_,rfl⟩:=List.mem_map.mp hd
  exact ⟨z2W p,by rw [z6n];decide,_,rfl⟩
 rw [z98 D.its (fun _ _=>z5t)] at e3
 have K0:=zdR GF
 refine ⟨fun m σ H4=>∃ (c:Int) (ks:List Int) (l:Addr),σ=[some (.ref a),some (.ref l),some (.int c)]∧z0h H H4∧H4 l=some (.lst (ks.map V.int))∧z5M rows ks∧zaS rows ks∧(c=0∨c≤60)∧0≤c∧(rows.length:Int)+1≤m+c∧z5e rows m c ks=z2S rows,
  ⟨rows.length+1,0,_,l2,rfl,s2.trans s3,e3,K0,zfP rows,.inl rfl,Int.le_refl _,by lia,rfl⟩,?_⟩
 rintro m σ H4 ⟨c,ks,l,rfl,t4,e4,GK,NK,hc6,hc0,hm,hk⟩
 obtain ⟨x1,x2⟩:=z8x (zfC GF GK) fun k hk=>(GK.rg k hk).1
 obtain ⟨c1,c2⟩:=zgr (zfC GF GK) GK.rg
 have ec:cnt ks - 1+1=cnt ks:=by lia
 refine (exA rfl (exA rfl ⟨l,ks,cnt ks - 1,rfl,SqL.of e4,x1,x2,exC rfl rfl (exC rfl rfl (exA rfl ?_))⟩))
 refine z2p (fun cc=>?_) (fun cc=>?_)
 ·have c':=of_decide_eq_true cc
  rw [ec] at c'
  refine ze5 fun N nx2=>?_
  refine (exA rfl ⟨l,ks,cnt ks - 1,rfl,SqL.of e4,x1,x2,exC rfl rfl (exA rfl (exC rfl rfl (exA rfl ?_)))⟩)
  have hmono:=z66 GF m c ks NK GK
  rw [hk] at hmono
  refine z2p (fun cc2=>?_) (fun cc2=>?_)
  ·have c'':=of_decide_eq_true cc2
   exact fun ea=>qx (by lia) ea H4 t4
  have c60:=of_decide_eq_false (Bool.eq_false_iff.mpr cc2)
  have hkl:=GK.len
  have hsl:=z86 GK
  have hn400:=GF.few
  refine (exA rfl (exA rfl ⟨l,a,rfl,⟨_,SqL.of e4⟩,⟨_,SqL.of (t4 _ _ ea)⟩,fun l5 hl5=>zcU (xs:=ks.map V.int) (zs:=us) (by rw [List.length_map];lia) (fun i ys H5=>i≤rows.length∧ys.length=i∧z0h H4 H5∧DrL K H5 (((z3b ks rows).take i).map z5B) ys) ⟨Nat.zero_le _,rfl,same_up (z0h.refl H4) hl5,DrL.nil⟩ (fun i ys H5 _ h=>⟨SqL.of (h.2.2.1 _ _ e4),SqL.of (h.2.2.1 _ _ (t4 _ _ ea))⟩) (by rw [List.length_map];exact z0L (by lia)) (fun i ys H5 h=>h.2.1) (fun i x y p ys H5 hx hz h hy hp=>?_) (fun ys H5 h hy=>?_)⟩))
  ·obtain ⟨hi,hyl,s5,d5⟩:=h
   have hil:i < rows.length:=by have:=(List.getElem?_eq_some_iff.mp hz).1;lia
   have er:rows[i]?=some rows[i]:=List.getElem?_eq_getElem hil
   have ek:ks[i]?=some ks[i]:=List.getElem?_eq_getElem (by lia)
   have hrm:rows[i]∈rows:=List.getElem_mem hil
   obtain ⟨y',ey,dy⟩:=z37 da er
   rw [hz] at ey
   cases ey
   have es:(z3b ks rows)[i]?=some (ks[i],rows[i].2.map fun g=>ks.getD g.toNat 0):=by
    unfold z3b
    rw [List.getElem?_map,List.getElem?_zip_eq_some (z:=(ks[i],rows[i])) |>.mpr ⟨ek,er⟩]
    rfl
   generalize rows[i]=ri at er dy es hrm
   generalize ks[i]=ki at ek es
   have ex:x=V.int ki:=by rw [List.getElem?_map,ek] at hx;exact (Option.some.inj hx).symm
   subst ex
   have sp:z0h H (upd H5 p (.tup [V.int ki,y])):=(t4.trans s5).trans (same_up (z0h.refl H5) hp)
   have sp5:z0h H5 (upd H5 p (.tup [V.int ki,y])):=same_up (z0h.refl H5) hp
   obtain ⟨t,b,c,rfl,et,eb,ec⟩:=z0U (dy.mono sp)
   refine (exF p rfl (SqT.of z04) rfl (exB rfl (exB rfl (exF t rfl (SqT.of et) rfl (exB rfl (exC rfl rfl ⟨rfl,exA rfl (exA rfl (exA rfl ⟨l,.ref c,ks,ri.2,rfl,sp5 _ _ (s5 _ _ e4),Dr.tup ec (DrL.ints _),fun g hg=>by rw [hkl];exact GF.go ri hrm g hg,by rw [GF.len ri hrm];lia,fun v H6 s6 dv=>⟨by show 2≤sizeLine;decide,fun t7 ht7=>?_⟩⟩))⟩))))))
   have s67:=same_up (o:=HO.tup [V.int ki,v]) s6 ht7
   have hy7:=s67 _ _ (sp5 _ _ hy)
   refine ⟨hy7,hil,by rw [List.length_append,hyl];rfl,z0g (s5.trans (sp5.trans s67)) hl5,?_⟩
   rw [z1c _ es]
   have kk:z19 H5 (upd (upd H6 t7 (.tup [V.int ki,v])) l5 (.lst (ys++[.ref t7]))):=z19.up (z19.of (sp5.trans s67)) hy7 (fun _ z=>by cases z)
   have k6:z19 H6 (upd (upd H6 t7 (.tup [V.int ki,v])) l5 (.lst (ys++[.ref t7]))):=z19.up (z19.of (same_up (z0h.refl H6) ht7)) hy7 (fun _ z=>by cases z)
   have nt7:t7≠l5:=z4b z04 hy7 (by intro z;cases z)
   refine DrL.append (d5.keyed kk (z7L _)) (DrL.one ?_)
   exact Dr.tup (vs:=[V.int ki,v]) (by rw [z09 nt7];exact z04) (DrL.cons (Dr.int ki) (DrL.one (dv.keyed k6 (z2W _))))
  obtain ⟨_,hyl5,s5,d5⟩:=h
  rw [List.length_map,hkl,List.take_of_length_le (by lia)] at d5
  refine ⟨l5,ys,exA rfl ⟨hy,d5,fun d hd=>?_,by rw [List.length_map];lia,fun l6 H6 s6 e6=>?_⟩⟩
  ·obtain ⟨p,_,rfl⟩:=List.mem_map.mp hd
   exact ⟨z9e p,zd4 p,_,rfl⟩
  rw [z98 z5B zcb] at e6
  cases m with
  | zero=>lia
  | succ m =>
   refine nx2 m _ _ (Nat.lt_succ_self m) ⟨cnt ks,_,l6,(by show [some (V.ref a),some (V.ref l6),some (V.int (cnt ks - 1+1))]=_;rw [ec]),(t4.trans s5).trans s6,e6,zaR GK,zea hkl,.inr (by lia),by lia,by lia,?_⟩
   rw [←hk]
   exact (if_pos c').symm
 ·have c':=of_decide_eq_false (Bool.eq_false_iff.mpr cc)
  rw [ec] at c'
  have hkk:z2S rows=ks:=by
   rw [←hk]
   cases m with
   | zero=>rfl
   | succ m=>exact if_neg c'
  refine (exA rfl (q (by rw [hkk];lia) l H4 t4 ?_))
  rw [hkk]
  exact e4
abbrev zep:List Str:=["first","row_at","found","kinds","least","rearranging","goings","kind"]
theorem z2J:z0n zep ["first","row_at"] (z06 z9p):=⟨rfl,rfl,rfl,by decide +kernel,rfl,by decide +kernel,by decide +kernel⟩
theorem z7W {Cm:V→Addr→Hp→List Row→Prop} {k q Ct:Addr} {kd qd:FuncData} (F:Fun K "least_form" "least_form" z9p f fd) (ml:mg "len"=none) (mt:mg "tuple"=none) (mz:mg "zip"=none)
  (G:z0t P w K mg base (CXx P w) 5 g gd ["first","row_at"] (z8A K Cm)) (bG:z0k K gd ["first","row_at"] []) (kG:PySem.W.keepIn K (.ref g)=true) (mG:mg "rows_come_to"=some (.ref g))
  (T:z0t P w K mg base (CXx P w) 5 k kd ["rows"] (z7d K Ct)) (bT:z0k K kd ["rows"] []) (kT:PySem.W.keepIn K (.ref k)=true) (mT:mg "kinds_of_rows"=some (.ref k))
  (U:z0t P w K mg base (CXx P w) 5 q qd ["kinds","goings"] (z9N K)) (bU:z0k K qd ["kinds","goings"] []) (kU:PySem.W.keepIn K (.ref q)=true) (mU:mg "kinds_gone_to"=some (.ref q)):z0t P w K mg base (CXx P w) 6 f fd ["first","row_at"] (z76 K Cm Ct):=by
 refine F.okx z2J (fun vs H Q E h=>?_) (fun cdv A outer s H vs Q E hr h=>?_)
 ·obtain ⟨a,v0,n,rows,rfl,_⟩:=h
  rfl
 obtain ⟨fa,v0,n,rows,rfl,hC,GM,hn,gv,gx⟩:=h
 have hsc:=zeu GM
 have h400:=GM.few
 refine ⟨_,z03 (z0e (i:=2) z2J.nd rfl (Or.inl rfl) (z0c G hr rfl mG kG bG .nil z0H (z02 (pv 0) (z02 (pv 1) z05))))
  (z03 (z0e (i:=3) z2J.nd rfl (Or.inl rfl) (z0c T hr rfl mT kT bT .nil (z3i fun _ _ _ z=>z) (z02 (pv 2) z05)))
  (z03 (z0e (i:=4) z2J.nd rfl (Or.inl rfl) (z2h z05))
  (z03 (z20 PassesOwn.leaving rfl (zdV rfl mz (z02 (pv 2) (z02 (pv 3) z05)))
   (z1R rfl (z0l (z1R rfl (z0l (z0b (i:=5) z2J.nd rfl (Or.inl rfl)) (z0l (z0b (i:=6) z2J.nd rfl (Or.inl rfl)) z17))) (z0l (z0b (i:=7) z2J.nd rfl (Or.inl rfl)) z17)))
   (z08 (z1J (z1A (z2R (pv 7) (z0m z0a rfl ml PySem.boot_len (z02 (pv 4) z05))))
    (z08 (z0X (z3N PySem.F.plainAttrs_list PySem.F.slot_list_append PySem.F.type_list_append z0P (pv 4) (z02 (z1F (z02 (pv 5) (z02 (z0c U hr rfl mU kU bU .nil z0H (z02 (pv 3) (z02 (pv 6) z05))) z05))) z05)))) z0G)))
  (z08 (z0v (z0u z0p rfl mt PyProof.Rows.boot_tuple (z02 (pv 4) z05))))))),?_⟩
 have GF:=z2A GM
 have hfl:=zdy GM
 refine (exA rfl (exA rfl ⟨fa,v0,n,rows,rfl,hC,GM,hn,fun lf H1 s1 rf=>?_⟩))
 refine (exA rfl ⟨lf,n,z0F rows,rfl,rf,GF,hn,fun h6 lk H2 s2 ek=>?_,fun h6 ea H' s'=>gx (by lia) ea H' (s1.trans s')⟩)
 have gv:=gv (by lia)
 rw [←z5m GM] at gv
 clear hsc h6
 have GK:=z48 GF
 have hkl:=GK.len
 unfold least at gv
 generalize z2S (z0F rows)=ks at *
 generalize z0F rows=fs at *
 obtain ⟨us,ef,df⟩:=rf.mono s2
 have hul:us.length=fs.length:=by have:=df.length;unfold z0s at this;rw [List.length_map] at this;exact this.symm
 have s12:=s1.trans s2
 refine ⟨by show 0≤sizeLine;decide,fun ll hll=>(exA rfl (exA rfl ⟨lf,lk,rfl,?_⟩))⟩
 have hll0:H2 ll=none:=hll
 have s3:z0h H2 (upd H2 ll (.lst [])):=same_up (z0h.refl H2) hll
 refine ⟨⟨_,SqL.of (s3 _ _ ef)⟩,⟨_,SqL.of (s3 _ _ ek)⟩,zhV (xs:=us) (ys:=ks.map V.int) (by rw [List.length_map];lia) (fun i σ H3=>∃ (u1 u2 u3:Option V) (ws:List V),σ=[some v0,some (.ref fa),some (.ref lf),some (.ref lk),some (.ref ll),u1,u2,u3]∧z0h H2 H3∧H3 ll=some (.lst ws)∧DrL K H3 (z0s (z2D fs ks i)) ws)
  ⟨_,_,_,[],rfl,s3,z04,DrL.nil⟩ (fun i σ H3 _ h=>by obtain ⟨_,_,_,_,_,t3,_,_⟩:=h;exact ⟨SqL.of (t3 _ _ ef),SqL.of (t3 _ _ ek)⟩) (fun i x y p σ H3 hx hy h hp Ed nx3=>?_) (fun σ H3 h=>?_)⟩
 ·obtain ⟨u1,u2,u3,ws,rfl,t3,e3,d3⟩:=h
  have hil:i < fs.length:=by have:=(List.getElem?_eq_some_iff.mp hx).1;lia
  have er:fs[i]?=some fs[i]:=List.getElem?_eq_getElem hil
  have ek':ks[i]?=some ks[i]:=List.getElem?_eq_getElem (by lia)
  have hrm:fs[i]∈fs:=List.getElem_mem hil
  obtain ⟨x',ex,dx⟩:=z37 df er
  rw [hx] at ex
  cases ex
  generalize fs[i]=ri at er dx hrm
  generalize ks[i]=ki at ek'
  have ey:y=V.int ki:=by rw [List.getElem?_map,ek'] at hy;exact (Option.some.inj hy).symm
  subst ey
  have hst:=z4O er ek'
  have hll2:=zaf fs ks i
  have hwl:ws.length=(z2D fs ks i).length:=by have:=d3.length;unfold z0s at this;rw [List.length_map] at this;exact this.symm
  generalize z2D fs ks i=lp at *
  have sp3:z0h H3 (upd H3 p (.tup [x,V.int ki])):=same_up (z0h.refl H3) hp
  have sp:z0h H2 (upd H3 p (.tup [x,V.int ki])):=t3.trans sp3
  obtain ⟨t,b,c,rfl,et,eb,ec⟩:=z0U (dx.mono sp)
  refine (exF p rfl (SqT.of z04) rfl (exB rfl (exF t rfl (SqT.of et) rfl (exB rfl (exC rfl rfl (exC rfl rfl (exA rfl (exA rfl (exG ll rfl (.inl (SqL.of (sp3 _ _ e3))) (exC rfl rfl (exA rfl ?_)))))))))))
  refine z2p (fun c'=>?_) (fun c'=>?_)
  ·have c'':=of_decide_eq_true c'
   have hst2:z2D fs ks (i+1)=lp++[(ri.1,ri.2.map fun g=>ks.getD g.toNat 0)]:=by
    rw [hst];unfold z6u
    exact if_pos (by rw [←hwl];exact c'')
   refine (exA rfl ⟨.inl ⟨rfl,_,SqL.of (sp3 _ _ e3)⟩,exA rfl (exA rfl (exA rfl ⟨lk,.ref c,ks,ri.2,rfl,sp _ _ ek,Dr.tup ec (DrL.ints _),fun g hg=>by rw [hkl];exact GF.go ri hrm g hg,by rw [GF.len ri hrm];lia,fun v H6 s6 dv=>⟨by show 2≤sizeLine;decide,fun t7 ht7=>?_⟩⟩))⟩)
   have s67:=same_up (o:=HO.tup [.ref b,v]) s6 ht7
   have e7:=s67 _ _ (sp3 _ _ e3)
   refine ⟨ll,ws,.ref t7,rfl,rfl,e7,z1Q (by lia),?_⟩
   have kk:z19 H3 (upd (upd H6 t7 (.tup [.ref b,v])) ll (.lst (ws++[.ref t7]))):=z19.up (z19.of (sp3.trans s67)) e7 (fun _ z=>by cases z)
   have k6:z19 H6 (upd (upd H6 t7 (.tup [.ref b,v])) ll (.lst (ws++[.ref t7]))):=z19.up (z19.of (same_up (z0h.refl H6) ht7)) e7 (fun _ z=>by cases z)
   have nt7:t7≠ll:=z4b z04 e7 (by intro z;cases z)
   have eb':H6 b=some (.tup (ri.1.map V.int)):=s6 _ _ eb
   obtain ⟨c2,rfl,ec2⟩:=Dr.its_inv dv
   refine nx3 _ _ ⟨_,_,_,ws++[.ref t7],rfl,z0g (sp.trans s67) hll0,z04,?_⟩
   rw [hst2]
   unfold z0s
   rw [List.map_append]
   refine DrL.append (d3.keyed kk (z3a _)) (DrL.one (z2K (b:=b) (c:=c2) ?_ (k6 _ _ eb') (k6 _ _ ec2)))
   rw [z09 nt7];exact z04
  ·have c'':=of_decide_eq_false (Bool.eq_false_iff.mpr c')
   have hst2:z2D fs ks (i+1)=lp:=by
    rw [hst];unfold z6u
    exact if_neg (by rw [←hwl];exact c'')
   refine nx3 _ _ ⟨_,_,_,ws,rfl,sp,sp3 _ _ e3,?_⟩
   rw [hst2]
   exact d3.mono sp3
 ·obtain ⟨u1,u2,u3,ws,rfl,t3,e3,d3⟩:=h
  rw [hul,z68 hkl] at d3
  refine (exA rfl ⟨ll,exA rfl (.inl ⟨SqL.of e3,fun t ht=>?_⟩)⟩)
  exact gv _ _ ((s12.trans t3).trans (same_up (z0h.refl H3) ht)) (Dr.tup z04 (d3.mono (same_up (z0h.refl H3) ht)))
abbrev nJR:List Str:=["one","other","pair","row","beside","rearranging","goings","rearranging_then","goings_then","pairs"]
theorem ze1:z0n nJR ["one","other","pair"] (z06 z2x):=⟨rfl,rfl,rfl,by decide +kernel,rfl,by decide +kernel,by decide +kernel⟩
theorem zhj:z1l nJR (z06 z2x) ["going","made","goings_then"] [none,none,some 8] (csc [(".0",.local),("going",.local),("made",.local),("goings_then",.free)]):=⟨rfl,by decide +kernel,by decide +kernel,by decide +kernel,rfl,by decide +kernel,by decide +kernel⟩
theorem zf0 (F:Fun K "joined_row" "joined_row" z2x f fd) (mzip:mg "zip"=none) (mt:mg "tuple"=none)
  (G:z0t P w K mg base CX 1 g gd ["one","other"] (z6f K)) (bG:z0k K gd ["one","other"] []) (kG:PySem.W.keepIn K (.ref g)=true) (mG:mg "turned"=some (.ref g)):z0t P w K mg base CX 2 f fd ["one","other","pair"] (zc4 K):=by
 refine F.okc ze1 (fun vs H Q E h=>?_) (fun cdv A outer s H vs Q E hr h=>?_)
 ·obtain ⟨v1,v2,v3,n,one,other,i,rfl,_⟩:=h
  rfl
 obtain ⟨v1,v2,v3,n,one,other,ix,rfl,d1,d2,d3,G1,G2,hn,i0,i1,gq⟩:=h
 refine ⟨_,z03 (z2m (pv 2) (z1R rfl (z0l (z0b (i:=3) ze1.nd rfl (Or.inl rfl)) (z0l (z0b (i:=4) ze1.nd rfl (Or.inl rfl)) z17))))
  (z03 (z2m (z0Q z1G (pv 0) (pv 3) (fun _ _=>rfl)) (z1R rfl (z0l (z0b (i:=5) ze1.nd rfl (Or.inl rfl)) (z0l (z0b (i:=6) ze1.nd rfl (Or.inl rfl)) z17))))
  (z03 (z2m (z0Q z1G (pv 1) (pv 4) (fun _ _=>rfl)) (z1R rfl (z0l (z0b (i:=7) ze1.nd rfl (Or.inl rfl)) (z0l (z0b (i:=8) ze1.nd rfl (Or.inr rfl)) z17))))
  (z03 (z8C (i:=9) rfl zhj (zeF rfl mzip (z02 (pv 6) (z02 (pv 5) z05))) (fun _ _ _ _ _=>pgT K (n:=2) rfl rfl (z0l (z0b (i:=0) zhj.nd rfl (Or.inl rfl)) (z0l (z0b (i:=1) zhj.nd rfl (Or.inl rfl)) z17))) (fun _ _ _ _ _=>z1F (z02 (pv 0) (z02 (z0Q (ixT K rfl) (pv 2) (pv 1) (fun _ _=>rfl)) z05))) ze1.nd rfl rfl)
  (z08 (z0v (z1F (z02 (z0c G hr rfl mG kG bG .nil z0H (z02 (pv 5) (z02 (pv 7) z05))) (z02 (z0u z0p rfl mt PyProof.Rows.boot_tuple (z02 (pv 9) z05)) z05)))))))),?_⟩
 obtain ⟨a1,us,rfl,e1,dus⟩:∃ (a:Addr) (us:List V),v1=.ref a∧H a=some (.tup us)∧DrL K H (z0s one) us:=by
  simp only [Dr] at d1
  exact d1
 obtain ⟨a2,vs,rfl,e2,dvs⟩:∃ (a:Addr) (us:List V),v2=.ref a∧H a=some (.tup us)∧DrL K H (z0s other) us:=by
  simp only [Dr] at d2
  exact d2
 obtain ⟨a3,rfl,e3⟩:=zdY d3
 obtain ⟨⟨r0,r1⟩,s0,s1⟩:=pix (one:=one) (other:=other) i0 i1
 rw [z18 i0 i1] at gq
 obtain ⟨w1,ew1,dw1⟩:=z37 dus (z43 r0 r1)
 obtain ⟨w2,ew2,dw2⟩:=z37 dvs (z43 s0 s1)
 have hR:=z0o r0 r1
 have hS:=z0o s0 s1
 have pR:=G1.perm _ hR
 have lR:=G1.len _ hR
 have gR:=G1.go _ hR
 have pS:=G2.perm _ hS
 have lS:=G2.len _ hS
 have gS:=G2.go _ hS
 generalize ix / (other.length:Int)=r at *
 generalize ix % (other.length:Int)=b at *
 generalize row one r=R at *
 generalize row other b=S at *
 obtain ⟨t1,b1,c1,rfl,et1,eb1,ec1⟩:=z0U dw1
 obtain ⟨t2,b2,c2,rfl,et2,eb2,ec2⟩:=z0U dw2
 have hpl:=pR.len
 refine (exA rfl (exF a3 rfl (SqT.of e3) rfl (exB rfl (exC rfl rfl ?_))))
 refine (exA rfl (exA rfl (exD a1 _ r (.ref t1) rfl rfl (SqT.of e1) (z2j r0 ew1) (exF t1 rfl (SqT.of et1) rfl (exB rfl (exC rfl rfl ?_))))))
 refine (exA rfl (exA rfl (exD a2 _ b (.ref t2) rfl rfl (SqT.of e2) (z2j s0 ew2) (exF t2 rfl (SqT.of et2) rfl (exB rfl (exC rfl rfl ?_))))))
 refine (exA rfl (exA rfl ⟨c1,b1,rfl,⟨_,SqT.of ec1⟩,⟨_,SqT.of eb1⟩,fun l3 hl3=>zbP (xs:=R.2.map V.int) (zs:=R.1.map V.int) (by rw [List.length_map,List.length_map];lia) (fun k ys H3=>ys.length=k∧k≤n∧z0h H H3∧DrL K H3 (((List.range k).map fun k=>R.2.getD k 0*(other.length:Int)+S.2.getD (R.1.getD k 0).toNat 0).map (pr other.length)) ys) ⟨rfl,Nat.zero_le _,same_up (z0h.refl H) hl3,DrL.nil⟩ (fun k ys H3 _ h=>⟨SqT.of (h.2.2.1 _ _ ec1),SqT.of (h.2.2.1 _ _ eb1)⟩) (by rw [List.length_map];exact z0L (by lia)) (fun k ys H3 h=>h.1) (fun k x y p ys H3 hx hy0 h hy hp=>?_) (fun ys H3 h hy=>?_)⟩))
 ·obtain ⟨hyl,_,s3,d3'⟩:=h
  have hk:k < n:=by have:=(List.getElem?_eq_some_iff.mp hx).1;rw [List.length_map] at this;lia
  obtain ⟨l,g',e,q1,q2,q3,q4,q5,q6,g0,g1',e0,e1'⟩:=z8q (m:=other.length) (N:=one.length) pR lR gR lS gS hk
  have ex:x=V.int g':=by rw [List.getElem?_map,q3] at hx;exact (Option.some.inj hx).symm
  have ey:y=V.int l:=by rw [List.getElem?_map,q1] at hy0;exact (Option.some.inj hy0).symm
  subst ex ey
  have s4:=same_up (o:=HO.tup [V.int g',V.int l]) (z0h.refl H3) hp
  have e4:upd H3 p (HO.tup [V.int g',V.int l]) p=some (.tup [V.int g',V.int l]):=z04
  generalize upd H3 p (HO.tup [V.int g',V.int l])=H4 at s4 e4
  refine (exF p rfl (SqT.of e4) rfl (exB rfl (exC rfl rfl ?_)))
  refine (exA rfl (exA rfl (exA rfl (exD c2 _ _ (V.int e) rfl rfl (SqT.of ((s3.trans s4) _ _ ec2)) (z0B (by rw [List.getElem?_map,q4];rfl)) ⟨by show 2≤sizeLine;decide,fun t5 ht5=>?_⟩))))
  have s5:=same_up (o:=HO.tup [V.int g',V.int e]) (z0h.refl H4) ht5
  have e5:upd H4 t5 (HO.tup [V.int g',V.int e]) t5=some (.tup [V.int g',V.int e]):=z04
  generalize upd H4 t5 (HO.tup [V.int g',V.int e])=H5 at s5 e5
  have hy5:=s5 _ _ (s4 _ _ hy)
  have kk:z19 H5 (upd H5 l3 (.lst (ys++[.ref t5]))):=z19.up (z19.refl _) hy5 (fun _ z=>by cases z)
  refine ⟨hy5,by rw [List.length_append,hyl];rfl,by lia,z0g (s3.trans (s4.trans s5)) hl3,?_⟩
  rw [List.range_succ,List.map_append,List.map_append]
  refine DrL.append ((d3'.mono (s4.trans s5)).keyed kk (z70 _ _)) (DrL.one ?_)
  show Dr K _ (pr other.length (R.2.getD k 0*(other.length:Int)+S.2.getD (R.1.getD k 0).toNat 0)) (.ref t5)
  rw [q5,q6,zh8 e0 e1']
  exact Dr.tup (kk _ _ e5) (DrL.cons (Dr.int _) (DrL.cons (Dr.int _) DrL.nil))
 obtain ⟨hyl,_,s3,d3'⟩:=h
 rw [List.length_map,lR] at d3'
 refine (exA rfl (exA rfl ⟨.ref b1,.ref b2,R.1,S.1,rfl,Dr.tup (s3 _ _ eb1) (DrL.ints _),Dr.tup (s3 _ _ eb2) (DrL.ints _),fun x hx=>?_,by lia,fun v H4 s4 d4=>?_⟩))
 ·have:=z0K.mp (pR.mem_iff.mp hx)
  rw [pS.len];exact this
 obtain ⟨b4,rfl,eb4⟩:=Dr.its_inv d4
 refine (exA rfl ⟨l3,exA rfl (.inl ⟨SqL.of (s4 _ _ hy),fun t5 ht5=>⟨by show 2≤sizeLine;decide,fun t6 ht6=>?_⟩⟩)⟩)
 have s5:=same_up (o:=HO.tup ys) (z0h.refl H4) ht5
 have e5:upd H4 t5 (HO.tup ys) t5=some (.tup ys):=z04
 generalize upd H4 t5 (HO.tup ys)=H5 at s5 e5 ht6
 have s6:=same_up (o:=HO.tup [.ref b4,.ref t5]) (z0h.refl H5) ht6
 refine gq _ _ ((s3.trans s4).trans (s5.trans s6)) ?_
 unfold zfJ zbj
 refine Dr.tup z04 (DrL.cons (Dr.tup (s6 _ _ (s5 _ _ eb4)) (DrL.ints _)) (DrL.cons (Dr.tup (s6 _ _ e5) ?_) DrL.nil))
 rw [hpl]
 exact d3'.mono (s4.trans (s5.trans s6))
abbrev nJd:List Str:=["one","other"]
theorem zhQ:z0n nJd ["one","other"] (z06 z2s):=⟨rfl,rfl,rfl,by decide +kernel,rfl,by decide +kernel,by decide +kernel⟩
abbrev zhK:Scope:=csc [("pair",.local),("one",.free),("other",.free),("joined_row",.globalImplicit)]
theorem zik:z1l nJd (z06 z2s) ["pair","one","other"] [none,some 0,some 1] zhK:=⟨rfl,by decide +kernel,by decide +kernel,by decide +kernel,rfl,by decide +kernel,by decide +kernel⟩
theorem zhO:zgA ["pair","one","other"] ["pair"] zhK:=⟨rfl,rfl,rfl,by decide +kernel,rfl,by decide +kernel,by decide +kernel,by decide +kernel⟩
theorem zbi {k b Ct cc:Addr} {kd bd:FuncData} {Ts:List Tb} {T0:Tb} (F:Fun K "joined" "joined" z2s f fd) (hcd:fd.code=.ref cc) (hC:PySem.W.CodeHd base cc T0.at_) (hB:z5L base mg) (hT:T0∈Ts) (hTn:∀ T'∈Ts,T'.at_=T0.at_→T'=T0) (hTp:T0.pos=z7T (z1a z2s)) (hTq:T0.qual=("joined.<locals>."++"<lambda>":Str))
  (J:z0t P w K mg base (CXx P w) 3 b bd ["one","other","pair"] (zc4 K)) (bJ:z0k K bd ["one","other","pair"] []) (kJ:PySem.W.keepIn K (.ref b)=true) (mJ:mg "joined_row"=some (.ref b))
  (T:z0t P w K mg base (CXx P w) 6 k kd ["first","row_at"] (z6k P w K mg base (CXx P w) 4 Ct)) (bT:z0k K kd ["first","row_at"] []) (kT:PySem.W.keepIn K (.ref k)=true) (mT:mg "least_form"=some (.ref k)):z0t P w K mg base (CXx P w) 7 f fd ["one","other"] (z4B Ts K Ct):=by
 refine F.okL hcd zhQ (fun vs H Q E h=>?_) (fun A outer s H vs Q E hr h=>?_)
 ·obtain ⟨v1,v2,n,one,other,rfl,_⟩:=h
  rfl
 obtain ⟨v1,v2,n,one,other,rfl,hTb,d1,d2,G1,G2,hn,h4,gv,gx⟩:=h
 refine ⟨_,z08 (z0v (z9F (Ts:=Ts) (T:=T0) T hr rfl mT kT bT (z3i fun _ _ _ z=>z) (z1F (z02 z07 (z02 z07 z05))) (fun σ H Q Q' h ⟨a,b⟩=>⟨a,fun t ht=>h _ _ (b t ht)⟩) zik rfl hC hB (fun _=>rfl) hT hTn hTp hTq)),?_⟩
 have GP:=z1e G1 G2 h4
 refine ⟨by show 2≤sizeLine;decide,fun t ht=>?_⟩
 have s1:=same_up (o:=HO.tup [V.int 0,V.int 0]) (z0h.refl H) ht
 have e1:upd H t (HO.tup [V.int 0,V.int 0]) t=some (.tup [V.int 0,V.int 0]):=z04
 generalize upd H t (HO.tup [V.int 0,V.int 0])=H1 at s1 e1
 refine ⟨z6H.mono hTb s1,fun fa H2 cs f1 f2 f3 C=>?_⟩
 have fin:∀ {H3:Hp},z0h H2 H3→z1w Ts H (utk H3 cs):=fun s3=>(z0h.l s1).trans (f2 _ s3)
 have n1:z1w [] H1 H2:=⟨f1,fun _ _ h=>absurd h (by simp)⟩
 have e2:=n1.g e1
 have d12:=(d1.mono s1).monoL n1
 have d22:=(d2.mono s1).monoL n1
 have hz:(0:Int) / (other.length:Int)=0∧(0:Int) % (other.length:Int)=0:=⟨Int.zero_ediv _,Int.zero_emod _⟩
 refine ⟨fa,.ref t,n,z0J one other,other.length,rfl,zh1 (by rw [hz.1,hz.2];exact e2),?_,GP,hn,fun h6 v H3 s3 d=>gv h6 v _ (fin s3) (d.nfr (NFr.utk f3 s3)),fun h6 e H3 s3=>gx h6 e _ (fin s3)⟩
 refine z3V.lam (k:=3) C zhO (fun _ _ _ _ us hl=>by obtain ⟨a9,rfl⟩:=zfF hl;rfl) rfl (fun vs H Q h=>?_) (fun H' s' A outer s cd clos cs vs Q hr nf h=>?_)
 ·obtain ⟨i,v,rfl,_⟩:=h
  rfl
 obtain ⟨i,v,rfl,dv,h0,h1,gq⟩:=h
 rw [z0A] at h1
 refine ⟨_,z0c J hr rfl mJ kJ bJ .nil z0H (z02 (pv 1) (z02 (pv 2) (z02 (pv 0) z05))),?_⟩
 exact (exA rfl (exA rfl (exA rfl ⟨v1,v2,v,n,one,other,i,rfl,(d12.mono s').nfr nf,(d22.mono s').nfr nf,dv.nfr nf,G1,G2,hn,h0,h1,fun v' H1' s1' d1' hc=>gq v' _ (z0h.rtk s1') (d1'.mono (z0h.rtk' hc))⟩)))
abbrev nLR:List Str:=["ring","size"]
theorem zha:z0n nLR ["ring"] (z06 z6M):=⟨rfl,rfl,rfl,by decide +kernel,rfl,by decide +kernel,by decide +kernel⟩
theorem z7w (F:Fun K "least_ring" "least_ring" z6M f fd) (ml:mg "len"=none):z0t P w K mg base CX 1 f fd ["ring"] (z4G K):=by
 refine F.okc zha (fun vs H Q E h=>?_) (fun cdv A outer s H vs Q E hr h=>?_)
 ·obtain ⟨v,r,rfl,_⟩:=h
  rfl
 obtain ⟨v,r,rfl,d,hne,hl,q⟩:=h
 obtain ⟨a,rfl,ea⟩:=Dr.its_inv d
 refine ⟨_,z03 (z0e (i:=1) zha.nd rfl (Or.inl rfl) z07)
  (z03 (z1D PassesOwn.never (PW.pt (zfL (z1A (ze6 (z0r z0V (z0m z0a rfl ml PySem.boot_len (z02 (pv 0) z05)) (pv 1)) z07)) (zei (z0W (zee hr.units0) (z0r zdt (z1u z52 (pv 0) z35 (z1o (pv 1))) (z0r z2F (z0m z0a rfl ml PySem.boot_len (z02 (pv 0) z05)) (pv 1))) (pv 0) (z1d _)))))
   (z08 (z9z (i:=1) zha.nd rfl (Or.inl rfl) z07 z8S)))
  (z08 (z0v (z1u z52 (pv 0) z35 (z1o (pv 1)))))),?_⟩
 have hp:0 < r.length:=List.length_pos_iff.mpr hne
 have lr:(r.map V.int).length=r.length:=List.length_map _
 refine ⟨fun m σ H2=>∃ z:Nat,σ=[some (.ref a),some (.int z)]∧z0h H H2∧0 < z∧z≤r.length∧(∀ d,0 < d→d < z→¬ Per r d)∧m+z=r.length,
  ⟨r.length - 1,1,rfl,z0h.refl H,by lia,by lia,fun d h0 h1=>by lia,by lia⟩,?_⟩
 rintro m σ H2 ⟨z,rfl,s2,hz0,hzl,hno,hm⟩
 have em:((((r.map V.int).length:Nat):Int) % (z:Int))=((r.length % z:Nat):Int):=by rw [lr];exact (Int.natCast_emod _ _).symm
 have ed:((((r.map V.int).length:Nat):Int) / (z:Int))=((r.length / z:Nat):Int):=by rw [lr];exact (Int.natCast_ediv _ _).symm
 have more:∀ H3,z0h H H3→¬ Per r z→∃ m',m' < m∧∃ z':Nat,[some (V.ref a),some (V.int ((z:Int)+1))]=[some (.ref a),some (.int z')]∧z0h H H3∧0 < z'∧z'≤r.length∧(∀ d,0 < d→d < z'→¬ Per r d)∧m'+z'=r.length:=fun H3 s3 hn=>by
  have hlt:z < r.length:=by
   rcases Nat.lt_or_ge z r.length with c | c
   ·exact c
   ·have:z=r.length:=by lia
    subst this
    exact absurd zeN hn
  refine ⟨m - 1,by lia,z+1,rfl,s3,by lia,by lia,fun d h0 h1=>?_,by lia⟩
  by_cases c:d < z
  ·exact hno d h0 c
  ·have:d=z:=by lia
   rw [this];exact hn
 refine (exA rfl (exG a rfl (.inr (SqT.of (s2 _ _ ea))) (exA rfl (exC rfl rfl ⟨by lia,exC rfl rfl (exA rfl (z2p (fun c1=>?_) (fun c1=>?_)))⟩))))
 ·have c1':¬ r.length % z=0:=fun w=>by
   rw [em,w] at c1
   simp at c1
  refine zcs ⟨fun σ' H'=>∃ m',m' < m∧_,fun _ _ w=>w,exA rfl (exC rfl rfl ?_)⟩
  exact more H2 s2 fun hp=>c1' (Nat.mod_eq_zero_of_dvd hp.1)
 ·have c1':r.length % z=0:=by
   by_cases w:r.length % z=0
   ·exact w
   ·refine absurd ?_ c1
    rw [em]
    simp
    lia
  have hdv:z ∣ r.length:=Nat.dvd_of_mod_eq_zero c1'
  refine (exA rfl (exA rfl (exA rfl ⟨a,exA rfl ⟨s2 _ _ ea,fun p3 H3 s3 f3=>?_⟩⟩)))
  rw [z3B,z6E] at f3
  have hq1:r.length / z≤r.length:=Nat.div_le_self _ _
  refine (exA rfl (exG a rfl (.inr (SqT.of (s3 _ _ (s2 _ _ ea)))) (exA rfl (exC rfl rfl ⟨⟨by lia,by lia⟩,p3,((r.length / z:Nat):Int),exA rfl ⟨(by rw [←ed]),f3,(Int.le_trans (by decide) (Int.natCast_nonneg _)),by lia,?_,fun p4 H4 s4 f4=>?_⟩⟩))))
  ·rw [List.length_map,List.length_take,Int.toNat_natCast,Nat.min_eq_left hzl]
   exact z6L (by rw [Nat.mul_comm,Nat.div_mul_cancel hdv];lia)
  rw [Int.toNat_natCast,z9B] at f4
  have s24:=s2.trans (s3.trans s4)
  refine (exA rfl ⟨p4,a,_,r,rfl,rfl,f4,s24 _ _ ea,exA rfl (z2p (fun c2=>?_) (fun c2=>?_))⟩)
  ·have c2':¬ (List.replicate (r.length / z) (r.take z)).flatten=r:=by simpa using c2
   refine ⟨fun σ' H'=>∃ m',m' < m∧_,fun _ _ w=>w,exA rfl (exC rfl rfl ?_)⟩
   exact more H4 s24 fun hp=>c2' ((zaD hz0 hzl hdv).mpr hp)
  ·have c2':(List.replicate (r.length / z) (r.take z)).flatten=r:=by simpa using c2
   have L:z6r r z:=⟨hz0,(zaD hz0 hzl hdv).mp c2',hno⟩
   refine (exA rfl (exA rfl (exA rfl ⟨a,exA rfl ⟨s24 _ _ ea,fun p5 H5 s5 f5=>?_⟩⟩)))
   rw [z3B,z6E] at f5
   exact q z L _ _ (s24.trans s5) (Dr.tup f5 (DrL.ints _))
abbrev nCR:List Str:=["beginning","ring","count"]
theorem zgY:z0n nCR ["beginning","ring"] (z06 z6v):=⟨rfl,rfl,rfl,by decide +kernel,rfl,by decide +kernel,by decide +kernel⟩
theorem zbl (F:Fun K "count_ringed" "count_ringed" z6v f fd) (ml:mg "len"=none):z0t P w K mg base CX 1 f fd ["beginning","ring"] (z75 K):=by
 refine F.okc zgY (fun vs H Q E h=>?_) (fun cdv A outer s H vs Q E hr h=>?_)
 ·obtain ⟨v,u,b,r,rfl,_⟩:=h
  rfl
 obtain ⟨v,u,b,r,rfl,d,d',hne,q⟩:=h
 obtain ⟨a,rfl,ea⟩:=Dr.its_inv d
 obtain ⟨a',rfl,ea'⟩:=Dr.its_inv d'
 refine ⟨_,z03 (z0e (i:=2) zgY.nd rfl (Or.inl rfl) z07)
  (z03 (z1D PassesOwn.never (PW.pt (z7v (z0W z5o (pv 2) (z0m z0a rfl ml PySem.boot_len (z02 (pv 0) z05)) (z1d _)) (z51 (z1A (z2R (z0Q z1G (pv 0) (z0r z2T (zdJ z90 z07) (pv 2)) (fun _ _=>rfl)) (z0Q z1G (pv 1) (z0r z2T (zdJ z90 z07) (z0r z0V (pv 2) (z0m z0a rfl ml PySem.boot_len (z02 (pv 1) z05)))) (fun _ _=>rfl)))))))
   (z08 (z9z (i:=2) zgY.nd rfl (Or.inl rfl) z07 z8S)))
  (z08 (z0v (pv 2)))),?_⟩
 have hp:0 < r.length:=List.length_pos_iff.mpr hne
 have lb:(b.map V.int).length=b.length:=List.length_map _
 have lr:(r.map V.int).length=r.length:=List.length_map _
 refine ⟨fun m σ H2=>∃ c:Nat,σ=[some (.ref a),some (.ref a'),some (.int c)]∧H2=H∧c≤b.length∧(∀ j,j < c→b.getD (b.length - 1 - j) 0=r.getD (r.length - 1 - j % r.length) 0)∧m+c=b.length,
  ⟨b.length,0,rfl,rfl,by lia,fun j hj=>absurd hj (Nat.not_lt_zero _),by lia⟩,?_⟩
 rintro m σ H2 ⟨c,rfl,rfl,hc,heq,hm⟩
 have em:((c:Int) % (((r.map V.int).length:Nat):Int))=((c % r.length:Nat):Int):=by rw [lr];exact (Int.natCast_emod _ _).symm
 have hmr:c % r.length < r.length:=Nat.mod_lt _ hp
 refine (exA rfl (exA rfl (exG a rfl (.inr (SqT.of ea)) (exC rfl rfl (exA rfl (z2p (fun c1=>?_) (fun c1=>?_)))))))
 ·have c1':=of_decide_eq_true c1
  rw [lb] at c1'
  have hcb:c < b.length:=by lia
  refine (exA rfl (exA rfl (exA rfl (exC rfl rfl (exD a _ _ _ rfl rfl (SqT.of ea) (zaE hcb) (exA rfl (exA rfl (exA rfl (exA rfl (exG a' rfl (.inr (SqT.of ea')) (exC rfl rfl ⟨(by rw [lr];lia),exC rfl rfl (exD a' _ _ _ rfl rfl (SqT.of ea') ((by rw [em];exact zaE hmr)) (exC rfl rfl (exA rfl (z2p (fun c2=>?_) (fun c2=>?_)))))⟩)))))))))))
  ·have c2':=of_decide_eq_true c2
   refine ⟨fun σ' H'=>∃ m',m' < m∧_,fun _ _ w=>w,exA rfl (exC rfl rfl ⟨m - 1,by lia,c+1,rfl,rfl,by lia,fun j hj=>?_,by lia⟩)⟩
   by_cases w:j < c
   ·exact heq j w
   ·have:j=c:=by lia
    rw [this];exact c2'
  ·have c2':=of_decide_eq_false (Bool.eq_false_iff.mpr c2)
   exact (exA rfl (q c ⟨hc,heq,.inr c2'⟩))
 ·have c1':=of_decide_eq_false (Bool.eq_false_iff.mpr c1)
  rw [lb] at c1'
  exact z7m (exA rfl (q c ⟨hc,heq,.inl (by lia)⟩))
abbrev nPW:List Str:=["beginning","ring","least","ringed","cut"]
theorem zgD:z0n nPW ["beginning","ring"] (z06 z74):=⟨rfl,rfl,rfl,by decide +kernel,rfl,by decide +kernel,by decide +kernel⟩
theorem zgl:z0n ["ring"] ["ring"] (z06 zcB):=⟨rfl,rfl,rfl,by decide +kernel,rfl,by decide +kernel,by decide +kernel⟩
theorem zfb {Ct:Addr} {bmB:List Value} {B newId initId:String} (mC:mg "BadWord"=some (.ref Ct)) (xC:PySem.W.excIn K Ct bmB newId=true) (hB:ExcBaseFacts B newId initId bmB) (F:Fun K "check_ring" "check_ring" zcB f fd) (ml:mg "len"=none):z0t P w K mg base (CXx P w) 1 f fd ["ring"] (z8Z K Ct):=by
 refine F.okx zgl (fun vs H Q E h=>?_) (fun cdv A outer s H vs Q E hr h=>?_)
 ·obtain ⟨u,r,rfl,_⟩:=h
  rfl
 obtain ⟨u,r,rfl,d',q,qx⟩:=h
 obtain ⟨a',rfl,ea'⟩:=Dr.its_inv d'
 refine ⟨_,z08 (z1J (z1A (z2R (z0m z0a rfl ml PySem.boot_len (z02 (pv 0) z05)) z07)) (z08 (z2N mC rfl xC hB z5g)) z0G),?_⟩
 have lr:(r.map V.int).length=r.length:=List.length_map _
 refine (exA rfl (exG a' rfl (.inr (SqT.of ea')) (exC rfl rfl (exA rfl (z2p (fun c1=>?_) (fun c1=>?_))))))
 ·have c1':=of_decide_eq_true c1
  rw [lr] at c1'
  exact fun ea=>qx (List.length_eq_zero_iff.mp (by lia)) ea H (z0h.refl H)
 have c1':=of_decide_eq_false (Bool.eq_false_iff.mpr c1)
 rw [lr] at c1'
 exact q (fun z=>by subst z;simp at c1')
theorem zbp {Ct:Addr} (F:Fun K "plain_word" "plain_word" z74 f fd) (ml:mg "len"=none)
  {aRg:Addr} {dRg:FuncData} (Rg:z0t P w K mg base (CXx P w) 1 aRg dRg ["ring"] (z8Z K Ct)) (bRg:z0k K dRg ["ring"] []) (kRg:PySem.W.keepIn K (.ref aRg)=true) (mRg:mg "check_ring"=some (.ref aRg))
  {aLr:Addr} {dLr:FuncData} (Lr:z0t P w K mg base (CXx P w) 1 aLr dLr ["ring"] (z4G K)) (bLr:z0k K dLr ["ring"] []) (kLr:PySem.W.keepIn K (.ref aLr)=true) (mLr:mg "least_ring"=some (.ref aLr))
  {aCr:Addr} {dCr:FuncData} (Cr:z0t P w K mg base (CXx P w) 1 aCr dCr ["beginning","ring"] (z75 K)) (bCr:z0k K dCr ["beginning","ring"] []) (kCr:PySem.W.keepIn K (.ref aCr)=true) (mCr:mg "count_ringed"=some (.ref aCr)):z0t P w K mg base (CXx P w) 2 f fd ["beginning","ring"] (z3K K Ct):=by
 refine F.okx zgD (fun vs H Q E h=>?_) (fun cdv A outer s H vs Q E hr h=>?_)
 ·obtain ⟨v,u,b,r,rfl,_⟩:=h
  rfl
 obtain ⟨v,u,b,r,rfl,d,d',hb,hrl,q,qx⟩:=h
 obtain ⟨a,rfl,ea⟩:=Dr.its_inv d
 obtain ⟨a',rfl,ea'⟩:=Dr.its_inv d'
 refine ⟨_,z03 (z0X (z0c Rg hr rfl mRg kRg bRg .nil (z3i fun _ _ _ z=>z) (z02 (pv 1) z05)))
  (z03 (z0e (i:=2) zgD.nd rfl (Or.inl rfl) (z0c Lr hr rfl mLr kLr bLr .nil z0H (z02 (pv 1) z05)))
  (z03 (z0e (i:=3) zgD.nd rfl (Or.inl rfl) (z0c Cr hr rfl mCr kCr bCr .nil z0H (z02 (pv 0) (z02 (pv 2) z05))))
  (z03 (z0e (i:=4) zgD.nd rfl (Or.inl rfl) (z0r z2T (z0m z0a rfl ml PySem.boot_len (z02 (pv 2) z05)) (z0r z0V (pv 3) (z0m z0a rfl ml PySem.boot_len (z02 (pv 2) z05)))))
  (z08 (z0v (z1F (z02 (z1u z52 (pv 0) z35 (z1o (z0r z2T (z0m z0a rfl ml PySem.boot_len (z02 (pv 0) z05)) (pv 3)))) (z02 (z0r zcg (z1u z52 (pv 2) (z1o (pv 4)) z35) (z1u z52 (pv 2) z35 (z1o (pv 4)))) z05)))))))),?_⟩
 have lb:(b.map V.int).length=b.length:=List.length_map _
 have lr:(r.map V.int).length=r.length:=List.length_map _
 refine (exA rfl ⟨_,r,rfl,d',fun hne=>?_,fun z ea H1 s1=>qx z ea H1 s1⟩)
 replace q:=q hne
 refine (exA rfl ⟨_,r,rfl,d',hne,hrl,fun z L u1 H1 s1 d1=>?_⟩)
 have hz:=L.pos
 have hzl:=L.le hne
 have ltz:(r.take z).length=z:=by rw [List.length_take];lia
 have ltm:((r.take z).map V.int).length=z:=by rw [List.length_map,ltz]
 refine (exA rfl (exA rfl ⟨_,u1,b,r.take z,rfl,d.mono s1,d1,(fun w=>by rw [w] at ltz;simp at ltz;lia),fun c R=>?_⟩))
 rw [ltz] at R
 have R':=z8t hz R
 have hcb:=R.le
 obtain ⟨a1,rfl,ea1⟩:=Dr.its_inv d1
 have hm:c % z < z:=Nat.mod_lt _ hz
 have ecut:(((((r.take z).map V.int).length:Nat):Int) - (c:Int) % ((((r.take z).map V.int).length:Nat):Int))=((z - c % z:Nat):Int):=by
  rw [ltm,←Int.natCast_emod];lia
 refine (exA rfl (exG a1 rfl (.inr (SqT.of ea1)) (exA rfl (exA rfl (exG a1 rfl (.inr (SqT.of ea1)) (exC rfl rfl ⟨(by rw [ltm];lia),exC rfl rfl ?_⟩))))))
 have elb:((((b.map V.int).length:Nat):Int) - (c:Int))=((b.length - c:Nat):Int):=by rw [lb];lia
 refine (exA rfl (exA rfl (exG a rfl (.inr (SqT.of (s1 _ _ ea))) (exA rfl (exC rfl rfl (exA rfl ⟨a,exA rfl ⟨s1 _ _ ea,fun p2 H2 s2 f2=>?_⟩⟩))))))
 replace f2:H2 p2=some (.tup ((b.take (b.length - c)).map V.int)):=by rw [←z6E,←elb,←z3B];exact f2
 refine (exA rfl (exA rfl (exA rfl ⟨a1,exA rfl ⟨s2 _ _ ea1,fun p3 H3 s3 f3=>?_⟩⟩)))
 replace f3:H3 p3=some (.tup (((r.take z).drop (z - c % z)).map V.int)):=by rw [←zas,←ecut,←z3B];exact f3
 refine (exA rfl (exA rfl (exA rfl ⟨a1,exA rfl ⟨s3 _ _ (s2 _ _ ea1),fun p4 H4 s4 f4=>?_⟩⟩)))
 replace f4:H4 p4=some (.tup (((r.take z).take (z - c % z)).map V.int)):=by rw [←z6E,←ecut,←z3B];exact f4
 refine ⟨p3,p4,exC rfl rfl ⟨s4 _ _ f3,f4,(by simp only [List.length_map,List.length_drop,List.length_take];exact z6L (by lia)),fun p5 H5 s5 f5=>⟨by show 2≤sizeLine;decide,fun p6 hp6=>?_⟩⟩⟩
 rw [←List.map_append,zd2 hz hzl] at f5
 have s6:=same_up (o:=HO.tup [V.ref p2,V.ref p5]) (z0h.refl H5) hp6
 have s26:=s3.trans (s4.trans (s5.trans s6))
 obtain ⟨l1,l2⟩:=z3p (e:=(b,r)) (s:=z) (c:=c)
 exact q _ _ (z3q (b,r) z c) (s1.trans (s2.trans s26)) (z2K (r:=z3q (b,r) z c) z04 (s26 _ _ f2) (s6 _ _ f5)) (z6t (e:=(b,r)) hne L R') (z55 (e:=(b,r)) hne L R') (by rw [l1];exact Nat.sub_le _ _) (by rw [l2];exact hzl)
abbrev zcI:List Str:=["_law_letters_here","_law_cell_here","_law_nums","_law_many","_law_kind","_law_rows_here","_law_at","_law_pick","_law_first","_law_goings"]
theorem z2C:z0n zcI ["_law_letters_here","_law_cell_here"] (z06 z8L):=⟨rfl,rfl,rfl,by decide +kernel,rfl,by decide +kernel,by decide +kernel⟩
theorem zaX:z1l zcI (z06 z8L) ["_law_k","_law_many","_law_pick"] [none,some 3,some 7] (csc [(".0",.local),("_law_k",.local),("_law_many",.free),("_law_pick",.free)]):=⟨rfl,by decide +kernel,by decide +kernel,by decide +kernel,rfl,by decide +kernel,by decide +kernel⟩
theorem zc1:z1l zcI (z06 z8L) ["_law_to","_law_at","_law_many"] [none,some 6,some 3] (csc [(".0",.local),("_law_to",.local),("min",.globalImplicit),("_law_at",.free),("_law_many",.free)]):=⟨rfl,by decide +kernel,by decide +kernel,by decide +kernel,rfl,by decide +kernel,by decide +kernel⟩
theorem zbr:z1l zcI (z06 z8L) ["_law_k","_law_goings","_law_letters_here","_law_many","_law_pick"] [none,some 9,some 0,some 3,some 7] (csc [(".0",.local),("_law_k",.local),("_law_goings",.free),("_law_letters_here",.free),("_law_many",.free),("_law_pick",.free)]):=⟨rfl,by decide +kernel,by decide +kernel,by decide +kernel,rfl,by decide +kernel,by decide +kernel⟩
theorem zeX {k:Addr} {kd:FuncData} (F:Fun K "_law_rows" "_law_rows" z8L f fd) (mr:mg "range"=none) (mt:mg "tuple"=none) (mm:mg "min"=none)
  (G:z0t P w K mg base CX 1 g gd ["_law_cell_here","_law_many"] (z2Z K)) (bG:z0k K gd ["_law_cell_here","_law_many"] []) (kG:PySem.W.keepIn K (.ref g)=true) (mG:mg "_law_numbers"=some (.ref g))
  (T:z0t P w K mg base CX 1 k kd ["_law_pick","_law_letters_here"] (zba K)) (bT:z0k K kd ["_law_pick","_law_letters_here"] []) (kT:PySem.W.keepIn K (.ref k)=true) (mT:mg "_law_rearranged"=some (.ref k)):z0t P w K mg base CX 2 f fd ["_law_letters_here","_law_cell_here"] (zaA K):=by
 refine F.okc z2C (fun vs H Q E h=>?_) (fun cdv A outer s H vs Q E hr h=>?_)
 ·obtain ⟨n,c,rfl,_⟩:=h
  rfl
 obtain ⟨n,c,rfl,hn2,hn5,q⟩:=h
 refine ⟨_,z03 (z0e (i:=2) z2C.nd rfl (Or.inl rfl) (z0c G hr rfl mG kG bG .nil z0H (z02 (pv 1) (z02 z07 z05))))
  (z03 (z0e (i:=3) z2C.nd rfl (Or.inr rfl) (z0r z1g z07 (z0r z0V (z0Q z1f (pv 2) z07 (fun _ _=>rfl)) z07)))
  (z03 (z0e (i:=4) z2C.nd rfl (Or.inl rfl) (z0r z0V (z0Q z1f (pv 2) z07 (fun _ _=>rfl)) z07))
  (z03 (z0e (i:=5) z2C.nd rfl (Or.inl rfl) (z2h z05))
  (z03 (z20 PassesOwn.never rfl (z28 rfl mr (z02 (pv 3) z05)) (z0b (i:=6) z2C.nd rfl (Or.inr rfl))
   (z03 (z0e (i:=7) z2C.nd rfl (Or.inr rfl) (z1u z3g (pv 2) (z1o (z0r z1g z07 (z0r z3t z07 (pv 6)))) (z1o (z0r z1g z07 (z0r z3t z07 (pv 6))))))
   (z03 (z0e (i:=8) z2C.nd rfl (Or.inl rfl) (z0c T hr rfl mT kT bT .nil z0H (z02 (z0Q z1f (pv 7) z07 (fun _ _=>rfl)) (z02 (pv 0) z05))))
   (z03 (z0e (i:=9) z2C.nd rfl (Or.inr rfl) (z1m rfl zaX (z28 rfl mr (z02 (pv 0) z05)) (fun _ _ _ _ _=>z0b (i:=0) zaX.nd rfl (Or.inl rfl)) (fun _ _ _ _ _=>z0r z0V (z0Q (ixL K rfl) (pv 2) (z0r z1g z07 (pv 0)) (fun _ _=>rfl)) (pv 1))))
   (z03 (PS.weak (tRI K) (z1J (z1A (z2R (pv 4) z07)) (z08 (z0e (i:=9) z2C.nd rfl (Or.inr rfl) (z1m rfl zc1 (z2c (pv 9)) (fun _ _ _ _ _=>z0b (i:=0) zc1.nd rfl (Or.inl rfl)) (fun _ _ _ _ _=>z0m (zbh rfl) rfl mm PyProof.Rows.boot_min (z02 (z0r z2T (pv 2) z07) (z02 (z0r z1g (z0r z1g (pv 1) z07) (pv 0)) z05)))))) z0G) ?_)
   (z03 (PS.weak (tRI K) (z1J (z1A (z2R (pv 4) z07)) (z08 (z0e (i:=9) z2C.nd rfl (Or.inr rfl) (z1m rfl zbr (z28 rfl mr (z02 (pv 0) z05)) (fun _ _ _ _ _=>z0b (i:=0) zbr.nd rfl (Or.inl rfl)) (fun _ _ _ _ _=>z9J (z1A (z2R (pv 0) (z0r z0V (z0r z2F (z0Q (ixL K rfl) (pv 4) z07 (fun _ _=>rfl)) z07) (pv 2)))) (z0Q (ixL K rfl) (pv 1) (pv 0) (fun _ _=>rfl)) (z0r z2T (pv 3) z07))))) z0G) ?_)
   (z03 (PS.weak (tRI K) (z1J (PT.weak (zhr (zfQ K)) (PW.pt (zfL (PW.pt (z7v (z4r z6X z6X z07 (pv 4) z07) (z51 (z1A (z2R (pv 6) (z0r z2T (pv 3) z07)))))) (zei (PW.pt (z7v (z1A (z2R (pv 4) z07)) (z51 (z1A (z2R (z0r z0V (z0Q z1f (pv 7) z07 (fun _ _=>rfl)) z07) z07)))))))) ?_)
    (z08 (z0e (i:=8) z2C.nd rfl (Or.inl rfl) (z0u (z3d rfl) rfl mt PyProof.Rows.boot_tuple (z02 (z0u z6T rfl mr PyProof.Rows.boot_range (z02 (pv 0) z05)) z05)))) z0G) ?_)
   (z03 (PS.weak (tRI K) (z1J (PT.weak (zhr (zfQ K)) (PW.pt (z7v (z4r z6X z6X z07 (pv 4) z07) (z51 (z1A (z2R (pv 6) (z0r z2T (pv 3) z07)))))) ?_)
    (z08 (z0e (i:=9) z2C.nd rfl (Or.inr rfl) (z0r zbY (z2h (z02 (pv 6) z05)) (pv 0)))) z0G) ?_)
   (z08 (z0X (z3N PySem.F.plainAttrs_list PySem.F.slot_list_append PySem.F.type_list_append z0P (pv 5) (z02 (z1F (z02 (pv 8) (z02 (z0u z0p rfl mt PyProof.Rows.boot_tuple (z02 (pv 9) z05)) z05))) z05))))))))))))
  (z08 (z0v (pv 5))))))),?_⟩
 ·intro D σ H h
  obtain ⟨n,m,c,kd,j,ln,lr,lp,ps,H0,rf,ri,nx⟩:=h
  obtain ⟨b,lg,p,gs,rfl,s0,db,hp,eg,hgl,hgr⟩:=ri.ex
  have h5:=rf.n5
  have hjm:=rf.jm
  refine (exA rfl (exC rfl rfl (exA rfl (z2p (fun _=>?_) (fun _=>nx _ _ ri)))))
  refine ⟨_,rfl,lg,rfl,⟨_,SqL.of eg⟩,fun l hl=>z2b (xs:=gs.map V.int) (GI m H) (GI.nil hl) (fun i ys H2 _ h=>by obtain ⟨_,_,_,_,s⟩:=h;exact SqL.of (s _ _ eg)) (by rw [List.length_map];exact z0L (by lia)) (fun i ys H2 h=>h.len) (fun i x ys H2 hx h hy=>?_) (fun ys H2 h hy=>?_)⟩
  ·have hil:i < gs.length:=by have:=(List.getElem?_eq_some_iff.mp hx).1;rwa [List.length_map] at this
   have eg':gs[i]?=some gs[i]:=List.getElem?_eq_getElem hil
   obtain ⟨h0,h1⟩:=hgr _ (List.getElem_mem hil)
   generalize gs[i]=gi at eg' h0 h1
   have ex:x=V.int gi:=by rw [List.getElem?_map,eg'] at hx;exact (Option.some.inj hx).symm
   subst ex
   exact (exA rfl (exC rfl rfl (exA rfl (exC rfl rfl (exA rfl (exC rfl rfl (exB rfl ⟨hy,h.snoc hl ⟨by split<;>lia,by split<;>lia⟩⟩)))))))
  ·obtain ⟨gs',rfl,el,r',s'⟩:=h
   rw [List.length_map] at el
   exact nx _ _ ⟨b,l,p,gs',rfl,s0.trans s',db.mono s',hp,hy,by lia,r'⟩
 ·intro D σ H h
  obtain ⟨n,m,c,kd,j,ln,lr,lp,ps,H0,rf,ri,nx⟩:=h
  obtain ⟨b,lg,p,gs,rfl,s0,db,hp,eg,hgl,hgr⟩:=ri.ex
  have h5:=rf.n5
  have h2:=rf.n2
  have hjm:=rf.jm
  have elp:=s0 _ _ rf.lp
  have h6:=rf.len
  have ep:ps[0]?=some ps[0]:=List.getElem?_eq_getElem (by lia)
  refine (exA rfl (exC rfl rfl (exA rfl (z2p (fun _=>?_) (fun _=>nx _ _ ri)))))
  refine (exA rfl ⟨(n:Int),rfl,by lia,by lia,fun l hl=>z67 (n:=(n:Int).toNat) (GI m H) (GI.nil hl) (z0L (by lia)) (fun i ys H2 h=>h.len) (fun i ys H2 hi h hy=>?_) (fun ys H2 h hy=>?_)⟩)
  ·have e0:(0:Int)+(i:Int)=(i:Int):=by lia
   rw [e0]
   have hil:i < gs.length:=by lia
   have eg':gs[i]?=some gs[i]:=List.getElem?_eq_getElem hil
   obtain ⟨h0,h1⟩:=hgr _ (List.getElem_mem hil)
   generalize gs[i]=gi at eg' h0 h1
   obtain ⟨_,_,_,_,s2⟩:=id h
   refine (exA rfl (exA rfl (exD lp _ _ (V.int ps[0]) rfl rfl (SqL.of (s2 _ _ elp)) (z0B (j:=0) (by rw [List.getElem?_map,ep];rfl)) (exC rfl rfl ⟨⟨by decide,by decide⟩,exA rfl (exC rfl rfl ⟨za7 (by lia),exC rfl rfl (exA rfl (z2p (fun _=>?_) (fun _=>?_)))⟩)⟩))))
   ·exact (exA rfl (exA rfl (exD lg _ _ (V.int gi) rfl rfl (SqL.of (s2 _ _ eg)) (z0B (by rw [List.getElem?_map,eg'];rfl)) ⟨hy,h.snoc hl ⟨h0,h1⟩⟩)))
   ·exact (exA rfl (exC rfl rfl ⟨hy,h.snoc hl ⟨by lia,by lia⟩⟩))
  ·obtain ⟨gs',rfl,el,r',s'⟩:=h
   exact nx _ _ ⟨b,l,p,gs',rfl,s0.trans s',db.mono s',hp,hy,by lia,r'⟩
 ·intro σ H Q h
  obtain ⟨⟨n,m,c,kd,j,ln,lr,lp,ps,H0,rf,ri⟩,q⟩:=h
  obtain ⟨b,lg,p,gs,rfl,s0,db,hp,eg,hgl,hgr⟩:=ri.ex
  have elp:=s0 _ _ rf.lp
  have h6:=rf.len
  have ep:ps[0]?=some ps[0]:=List.getElem?_eq_getElem (by lia)
  refine (exA rfl (exC rfl rfl (exA rfl (z2p (fun _=>(exC rfl rfl (exA rfl (z2p (fun _=>(exA rfl (exA rfl (exC rfl rfl (exC rfl rfl (exA rfl (z2p (fun _=>q _) (fun _=>?_)))))))) (fun _=>z7m ?_))))) (fun _=>(exA rfl (z7m (z7m ?_))))))))
  all_goals exact (exA rfl (exC rfl rfl (exA rfl (z2p (fun _=>(exA rfl (exD lp _ _ (V.int ps[0]) rfl rfl (SqL.of elp) (z0B (j:=0) (by rw [List.getElem?_map,ep];rfl)) (exC rfl rfl ⟨za7,exC rfl rfl (exA rfl (q _))⟩)))) (fun _=>q _)))))
 ·intro D σ H h
  obtain ⟨n,m,c,kd,j,ln,lr,lp,ps,H0,rf,ri,nx⟩:=h
  obtain ⟨b,lg,p,gs,rfl,s0,db,hp,eg,hgl,hgr⟩:=ri.ex
  have h5:=rf.n5
  refine ⟨⟨n,m,c,kd,j,ln,lr,lp,ps,H0,rf,ri⟩,fun cc=>z2p (fun _=>?_) (fun _=>nx _ _ ri)⟩
  refine (exA rfl ⟨(n:Int),rfl,by lia,by lia,fun r hr0=>⟨r,0,(n:Int),rfl,z04,⟨by decide,by decide,by lia,by lia⟩,by lia,fun l hl=>?_⟩⟩)
  have e:((n:Int) - 0).toNat=n:=by lia
  rw [e,z5q]
  have s':=same_up (o:=HO.tup ((z0z n).map V.int)) (same_up (o:=HO.rng 0 n) (z0h.refl H) hr0) hl
  exact nx _ _ ⟨.ref l,lg,z0z n,gs,rfl,s0.trans s',Dr.tup z04 (DrL.ints _),z4y n,s' _ _ eg,hgl,hgr⟩
 ·intro σ H Q h
  obtain ⟨⟨n,m,c,kd,j,ln,lr,lp,ps,H0,rf,ri⟩,q⟩:=h
  obtain ⟨b,lg,p,gs,rfl,s0,db,hp,eg,hgl,hgr⟩:=ri.ex
  exact (exA rfl (exC rfl rfl (exA rfl (z2p (fun _=>(exC rfl rfl (exA rfl (z2p (fun _=>(exA rfl (exA rfl (exC rfl rfl (exC rfl rfl (exA rfl (q _))))))) (fun _=>q _))))) (fun _=>(exA rfl (z7m (q _))))))))
 ·intro D σ H h
  obtain ⟨n,m,c,kd,j,ln,lr,lp,ps,H0,rf,ri,nx⟩:=h
  obtain ⟨b,lg,p,gs,rfl,s0,db,hp,eg,hgl,hgr⟩:=ri.ex
  have h5:=rf.n5
  have hjm:=rf.jm
  refine ⟨⟨n,m,c,kd,j,ln,lr,lp,ps,H0,rf,ri⟩,fun cc=>z2p (fun _=>?_) (fun _=>nx _ _ ri)⟩
  refine (exA rfl ⟨by show 1≤sizeLine;decide,fun l0 hl0=>(exA rfl ⟨l0,(n:Int),exA rfl ⟨rfl,z04,by lia,by lia,?_,fun l hl=>?_⟩⟩)⟩)
  ·show 1*(n:Int).toNat≤sizeLine
   exact z0L (by lia)
  have e:((n:Int)).toNat=n:=by lia
  rw [e,zfq]
  have s':=same_up (o:=HO.lst ((List.replicate n (j:Int)).map V.int)) (same_up (o:=HO.lst [V.int (j:Int)]) (z0h.refl H) hl0) hl
  exact nx _ _ ⟨b,l,p,List.replicate n (j:Int),rfl,s0.trans s',db.mono s',hp,z04,List.length_replicate,fun g hg=>by rw [(List.mem_replicate.mp hg).2];lia⟩
 refine (exA rfl ⟨c,64,rfl,by lia,fun ln H1 ns s1 e1 hns=>?_⟩)
 have hnl:=hns.1
 have en0:ns[0]?=some ns[0]:=List.getElem?_eq_getElem (by lia)
 have en1:ns[1]?=some ns[1]:=List.getElem?_eq_getElem (by lia)
 obtain ⟨m,hm⟩:=z2B (x:=(1:Int)+ns[0] % 8) (by lia)
 have hm1:1≤m:=by lia
 have hm8:m≤8:=by lia
 refine (exA rfl (exD ln _ _ (V.int ns[0]) rfl rfl (SqL.of e1) (z0B (j:=0) (by rw [List.getElem?_map,en0];rfl)) (exC rfl rfl ⟨za7,exC rfl rfl ?_⟩)))
 generalize ns[1]=n1 at en1
 refine (exA rfl (exD ln _ _ (V.int n1) rfl rfl (SqL.of e1) (z0B (j:=1) (by rw [List.getElem?_map,en1];rfl)) (exC rfl rfl ⟨za7,by show 0≤sizeLine;decide,fun lr hlr=>?_⟩)))
 obtain ⟨kd,hkd⟩:∃ kd,kd=n1 % 6:=⟨_,rfl⟩
 have s2:=same_up (o:=HO.lst []) (z0h.refl H1) hlr
 refine ⟨_,rfl,(m:Int),(by rw [←hm]),by lia,by lia,z8g (n:=(m:Int).toNat) (fun i σ H2=>∃ (u6 u7 u8 u9:Option V) (us:List V) (rs:List Row),σ=[some (.int n),some (.int c),some (.ref ln),some (.int m),some (.int kd),some (.ref lr),u6,u7,u8,u9]∧z0h H1 H2∧H2 lr=some (.lst us)∧DrL K H2 (z0s rs) us∧rs.length=i∧GR n m rs)
  ⟨_,_,_,_,[],[],(by rw [←hm,hkd];rfl),s2,z04,DrL.nil,rfl,fun r hr=>by simp at hr⟩ (fun i σ H2 hi h Ed nx3=>?_) (fun σ H2 h=>?_)⟩
 ·obtain ⟨u6,u7,u8,u9,us,rs,rfl,t2,elr,drs,hrl,gr⟩:=h
  have e0:(0:Int)+(i:Int)=(i:Int):=by lia
  rw [e0]
  have him:i < m:=by lia
  obtain ⟨ps,ecut,hp6,hpr⟩:=zhR (i:=i) hns (by lia)
  have ep:ps[0]?=some ps[0]:=List.getElem?_eq_getElem (by lia)
  refine (exA rfl (exA rfl (exC rfl rfl ⟨.inl ⟨by decide,by decide⟩,exC rfl rfl (exA rfl (exA rfl (exC rfl rfl ⟨.inl ⟨by decide,by decide⟩,exC rfl rfl (exA rfl ⟨ln,exA rfl ⟨SqL.of (t2 _ _ e1),fun lp hlp=>?_⟩⟩)⟩)))⟩)))
  rw [ecut]
  have s3:=same_up (o:=HO.lst (ps.map V.int)) (z0h.refl H2) hlp
  refine (exA rfl (exD lp _ _ (V.int ps[0]) rfl rfl (SqL.of z04) (z0B (j:=0) (by rw [List.getElem?_map,ep];rfl)) (exA rfl ⟨ps[0],n,rfl,by lia,fun b H3 s4 d3=>?_⟩)))
  have elp3:H3 lp=some (.lst (ps.map V.int)):=s4 _ _ z04
  refine (exA rfl ⟨(n:Int),rfl,by lia,by lia,fun lg hlg=>z67 (n:=(n:Int).toNat) (GI m H3) (GI.nil hlg) (z0L (by lia)) (fun i ys H h=>h.len) (fun k ys H4 hk h hy=>?_) (fun ys H4 h hy=>?_)⟩)
  ·have ek:(1:Int)+(0+(k:Int))=((1+k:Nat):Int):=by lia
   have ek':ps[1+k]?=some (ps[1+k]'(by lia)):=List.getElem?_eq_getElem (by lia)
   generalize ps[1+k]'(by lia)=pk at ek'
   obtain ⟨_,_,_,_,s5⟩:=id h
   refine (exA rfl (exA rfl (exC rfl rfl (exD lp _ _ (V.int pk) rfl rfl (SqL.of (s5 _ _ elp3)) ((by rw [ek];exact z0B (by rw [List.getElem?_map,ek'];rfl))) (exA rfl (exC rfl rfl ⟨za7 (by lia),hy,h.snoc hlg ⟨?_,?_⟩⟩))))))
   ·exact Int.emod_nonneg _ (by lia)
   ·exact Int.emod_lt_of_pos _ (by lia)
  obtain ⟨gs,rfl,hgl,hgr,s5⟩:=h
  have rf:RF n m i ps lp H3:=⟨hn2,hn5,him,hm8,elp3,hp6,hpr⟩
  refine ⟨n,m,c,kd,i,ln,lr,lp,ps,H3,rf,⟨b,lg,_,gs,rfl,s5,d3.mono s5,zah _ _,hy,by lia,hgr⟩,fun σ1 H5 r1=>⟨n,m,c,kd,i,ln,lr,lp,ps,H3,rf,r1,fun σ2 H6 r2=>⟨n,m,c,kd,i,ln,lr,lp,ps,H3,rf,r2,fun σ3 H7 r3=>⟨n,m,c,kd,i,ln,lr,lp,ps,H3,rf,r3,fun σ4 H8 r4=>?_⟩⟩⟩⟩
  clear hgl hgr hy
  obtain ⟨b,lg,p,gs,rfl,s0,db,hp,eg,hgl,hgr⟩:=r4.ex
  have s28:z0h H2 H8:=(s3.trans s4).trans s0
  refine (exA rfl ⟨.inl ⟨rfl,_,SqL.of (s28 _ _ elr)⟩,exA rfl (exA rfl ⟨lg,exA rfl (.inl ⟨SqL.of eg,fun t4 ht4=>⟨by show 2≤sizeLine;decide,fun t5 ht5=>?_⟩⟩)⟩)⟩)
  have s9:=same_up (o:=HO.tup (gs.map V.int)) (z0h.refl H8) ht4
  have s10:=same_up (o:=HO.tup [b,.ref t4]) s9 ht5
  have elr':=s10 _ _ (s28 _ _ elr)
  have hul:us.length=i:=by have:=drs.length;unfold z0s at this;rw [List.length_map] at this;lia
  refine ⟨lr,us,.ref t5,rfl,rfl,elr',z3E (by lia),?_⟩
  obtain ⟨b0,rfl,eb⟩:=Dr.its_inv db
  have kk:z19 H8 (upd (upd (upd H8 t4 (.tup (gs.map V.int))) t5 (.tup [.ref b0,.ref t4])) lr (.lst (us++[.ref t5]))):=z19.up (z19.of s10) elr' (fun _ z=>by cases z)
  have nt5:t5≠lr:=z4b z04 elr' (by intro z;cases z)
  have nt4:t4≠t5:=z0f z04 ht5
  have nt4f:t4≠lr:=z4b (show upd (upd H8 t4 (.tup (gs.map V.int))) t5 (.tup [.ref b0,.ref t4]) t4=some (.tup (gs.map V.int)) by rw [z09 nt4];exact z04) elr' (by intro z;cases z)
  refine nx3 _ _ ⟨_,_,_,_,us++[.ref t5],rs++[(p,gs)],rfl,z0g (t2.trans (s28.trans s10)) hlr,z04,?_,by rw [List.length_append,hrl];rfl,gr.snoc ⟨hp,hgl,hgr⟩⟩
  unfold z0s
  rw [List.map_append]
  refine DrL.append ((drs.mono s28).keyed kk (z3a _)) (DrL.one (z2K (r:=(p,gs)) (b:=b0) (c:=t4) ?_ (kk _ _ eb) ?_))
  ·rw [z09 nt5];exact z04
  ·rw [z09 nt4f,z09 nt4];exact z04
 ·obtain ⟨u6,u7,u8,u9,us,rs,rfl,t2,elr,drs,hrl,gr⟩:=h
  exact (exA rfl (q lr H2 rs (s1.trans t2) ⟨us,elr,drs⟩ (gr.good (by lia) hm1 (by lia)) (by lia)))
abbrev zhM:List Str:=["_law_rows_here","_law_line","_law_marks","_law_place","_law_heads","_law_row"]
abbrev zfx:List Str:=["_law_row","_law_marks","_law_place","_law_rows_here"]
abbrev zgW:Scope:=csc [(".0",.local),("_law_row",.local),("tuple",.globalImplicit),("_law_marks",.free),("_law_place",.free),("_law_rows_here",.free)]
theorem zdv:z0n zhM ["_law_rows_here","_law_line","_law_marks"] (z06 z56):=⟨rfl,rfl,rfl,by decide +kernel,rfl,by decide +kernel,by decide +kernel⟩
theorem zef:z1l zhM (z06 z56) zfx [none,some 2,some 3,some 0] zgW:=⟨rfl,by decide +kernel,by decide +kernel,by decide +kernel,rfl,by decide +kernel,by decide +kernel⟩
abbrev zgV:Scope:=csc [(".0",.local),("_law_row",.local),("tuple",.globalImplicit),("_law_marks",.cell),("_law_place",.cell),("_law_rows_here",.cell)]
theorem ze0:z1l zfx zgV ["_law_to","_law_marks","_law_place"] [none,some 1,some 2] (csc [(".0",.local),("_law_to",.local),("_law_marks",.free),("_law_place",.free)]):=⟨rfl,by decide +kernel,by decide +kernel,by decide +kernel,rfl,by decide +kernel,by decide +kernel⟩
theorem za5 (F:Fun K "_law_in_line" "_law_in_line" z56 f fd) (ml:mg "len"=none) (mt:mg "tuple"=none):z0t P w K mg base CX 1 f fd ["_law_rows_here","_law_line","_law_marks"] (z4X K):=by
 refine F.okc zdv (fun vs H Q E h=>?_) (fun cdv A outer s H vs Q E hr h=>?_)
 ·obtain ⟨a,l,m,n,rows,nm,us,o,k,kvs,rfl,_⟩:=h
  rfl
 obtain ⟨a,l,m,n,rows,nm,us,o,k,kvs,rfl,Sa,da,ni,GM,hn,el,em,mk,L,cl,q⟩:=h
 have hu:=zbe hr
 refine ⟨_,z03 (z0e (i:=3) zdv.nd rfl (Or.inr rfl) z6U)
  (z03 (z0e (i:=4) zdv.nd rfl (Or.inl rfl) (z2h z05))
  (z03 (z20 PassesOwn.never rfl (z2c (pv 1)) (z0b (i:=5) zdv.nd rfl (Or.inl rfl))
   (z08 (z1J (z1A (z3Q hu (z30 hu (pv 2) (pv 5) (fun _ _=>rfl)) (pv 3)))
    (z03 (z50 hu (pv 3) (z30 hu (pv 2) (pv 5) (fun _ _=>rfl)) (z0m z0a rfl ml PySem.boot_len (z02 (pv 4) z05)) rfl)
    (z08 (z0X (z3N PySem.F.plainAttrs_list PySem.F.slot_list_append PySem.F.type_list_append z0P (pv 4) (z02 (pv 5) z05))))) z0G)))
  (z08 (z0v (z0u z0p rfl mt PyProof.Rows.boot_tuple (z02 (z1m rfl zef (z2c (pv 4)) (fun _ _ _ _ _=>z0b (i:=0) zef.nd rfl (Or.inl rfl))
   (fun _ _ _ _ _=>z1F (z02 (z0u (zhx K rfl) rfl mt PyProof.Rows.boot_tuple (z02 (z0Q (ixT K rfl) (z0Q (ixQ K rfl) (pv 3) (pv 0) (fun _ _=>rfl)) z07 (fun _ _=>rfl)) z05))
    (z02 (z0u (zhx K rfl) rfl mt PyProof.Rows.boot_tuple (z02 (z1m rfl ze0 (piT K rfl (z0Q (ixT K rfl) (z0Q (ixQ K rfl) (pv 3) (pv 0) (fun _ _=>rfl)) z07 (fun _ _=>rfl))) (fun _ _ _ _ _=>z0b (i:=0) ze0.nd rfl (Or.inl rfl))
     (fun _ _ _ _ _=>z30 hu (pv 2) (z30 hu (pv 1) (pv 0) (fun _ _=>rfl)) (fun _ _=>rfl))) z05)) z05)))) z05)))))),?_⟩
 have hol:=L.len
 have h400:=GM.few
 have gk:∀ r∈o,z3k kvs (kN nm r)=some (V.int (k r)):=fun r hr=>by
  obtain ⟨v,hv,d⟩:=mk.get ni hr
  simp only [Dr] at d
  rw [hv,d]
 refine fun lp hlp=>⟨by show 0≤sizeLine;decide,fun lh hlh=>?_⟩
 have s1:=same_up (o:=HO.dK []) (z0h.refl H) hlp
 have hlh0:H lh=none:=s1.free hlh
 have nph:lp≠lh:=z0f z04 hlh
 have s2:=same_up (o:=HO.lst []) s1 hlh
 refine ⟨_,rfl,l,rfl,⟨_,SqL.of (s2 _ _ el)⟩,zeC (xs:=o.map (nV nm)) (fun i σ H2=>∃ (u:Option V),σ=[some (.ref a),some (.ref l),some (.ref m),some (.ref lp),some (.ref lh),u]∧z0h H H2∧H2 lh=some (.lst ((z0C k (o.take i)).map (nV nm)))∧H2 lp=some (.dK (prs Sum.inl ((z0C k (o.take i)).map k))))
  ⟨_,rfl,s2,z04,by rw [z09 nph];exact z04⟩ (fun i σ H2 _ h=>by obtain ⟨_,_,t2,_⟩:=h;exact SqL.of (t2 _ _ el)) (fun i x σ H2 hx h Ed nx3=>?_) (fun σ H2 h=>?_)⟩
 ·obtain ⟨u,rfl,t2,e1,e2⟩:=h
  have hil:i < o.length:=by have:=(List.getElem?_eq_some_iff.mp hx).1;rwa [List.length_map] at this
  have eo:o[i]?=some o[i]:=List.getElem?_eq_getElem hil
  have hro:o[i]∈o:=List.getElem_mem hil
  generalize o[i]=r at eo hro
  have ex:x=V.int (nm r):=by rw [List.getElem?_map,eo] at hx;exact (Option.some.inj hx).symm
  subst ex
  have et:z0C k (o.take (i+1))=z0T k (z0C k (o.take i)) r:=by rw [List.take_add_one,eo];exact z1K k _ _
  have hhl:=(z1s k (o.take i)).2.2
  rw [List.length_take] at hhl
  generalize z0C k (o.take i)=hs at *
  have gm:z5A H2 m (V.int (nm r)) (some (V.int (k r))):=by rw [←gk r hro];exact z5A.k (k:=kN nm r) (t2 _ _ em)
  refine (exA rfl (exA rfl ⟨m,exA rfl ⟨gm,exA rfl ⟨lp,exA rfl ⟨z5A.k (k:=Sum.inl (k r)) e2,exA rfl ?_⟩⟩⟩⟩))
  have hv:=z1X (κ:=Key) Sum.inl z8P (hs.map k) (k r)
  by_cases hm:k r∈hs.map k
  ·rw [hv,if_pos hm]
   refine z7m (nx3 _ _ (exA rfl ⟨t2,?_,?_⟩))
   ·rw [et,z0T,if_pos hm];exact e1
   ·rw [et,z0T,if_pos hm];exact e2
  ·rw [hv,if_neg hm]
   have nlop:lh≠lp:=Ne.symm nph
   refine zcs (exA rfl (exG lh rfl (.inl (SqL.of e1)) (exA rfl (exA rfl (exA rfl ⟨m,exA rfl ⟨gm,lp,exA rfl ⟨zdo.k (k:=Sum.inl (k r)) e2 (by rw [z1M,List.length_map];exact z1Q (by lia)),?_⟩⟩⟩)))))
   have e1':upd H2 lp (.dK (z2P (prs Sum.inl (hs.map k)) (Sum.inl (k r):Key) (V.int ((hs.map (nV nm)).length:Nat)))) lh=some (.lst (hs.map (nV nm))):=by rw [z09 nlop];exact e1
   refine (exA rfl ⟨.inl ⟨rfl,_,SqL.of e1'⟩,exA rfl ⟨lh,exC rfl rfl ⟨e1',by rw [List.length_map];exact z1Q (by lia),?_⟩⟩⟩)
   refine nx3 _ _ (exA rfl ⟨z0g (z0g t2 hlp) hlh0,?_,?_⟩)
   ·rw [z04,et,z0T,if_neg hm,List.map_append];rfl
   ·rw [z09 nph,z04,et,z0T,if_neg hm,List.map_append]
    have:=z47 (κ:=Key) Sum.inl z8P hm
    rw [List.length_map] at this ⊢
    rw [this];rfl
 ·obtain ⟨u,rfl,t2,e1,e2⟩:=h
  rw [List.length_map,List.take_length] at e1 e2
  obtain ⟨hh1,hh2,hh3⟩:=z1s k o
  unfold z2a at q
  generalize z0C k o=hs at *
  refine (exA rfl ⟨lh,rfl,⟨_,SqL.of e1⟩,fun l3 hl3=>z2b (xs:=hs.map (nV nm)) (fun i ys H3=>i≤hs.length∧ys.length=i∧z0h H2 H3∧DrL K H3 (((hs.take i).map fun r=>z3I ((row rows r).1,(row rows r).2.map fun g=>(((hs.map k).idxOf (k g):Nat):Int)))) ys) ⟨Nat.zero_le _,rfl,same_up (z0h.refl H2) hl3,DrL.nil⟩ (fun i ys H3 _ h=>SqL.of (h.2.2.1 _ _ e1)) (by rw [List.length_map];exact z0L (by lia)) (fun i ys H3 h=>h.2.1) (fun i x ys H3 hx h hy=>?_) (fun ys H3 h hy=>?_)⟩)
  ·obtain ⟨_,hyl,s3,d3⟩:=h
   have hil:i < hs.length:=by have:=(List.getElem?_eq_some_iff.mp hx).1;rwa [List.length_map] at this
   have eo:hs[i]?=some hs[i]:=List.getElem?_eq_getElem hil
   have hrh:hs[i]∈hs:=List.getElem_mem hil
   generalize hs[i]=r at eo hrh
   have hro:=hh2 r hrh
   have ex:x=V.int (nm r):=by rw [List.getElem?_map,eo] at hx;exact (Option.some.inj hx).symm
   subst ex
   obtain ⟨r0,r1⟩:=L.rg r hro
   obtain ⟨nr0,v,ev,dv⟩:=da r r0 r1
   have t3:=t2.trans s3
   obtain ⟨t,b,cc,rfl,et,eb,ec⟩:=z0U (dv.mono t3)
   dsimp only [zdO] at eb ec
   have hgl:=GM.len _ (z0o r0 r1)
   have hgo:=cl r hro
   have esn:=z1c (fun r=>z3I ((row rows r).1,(row rows r).2.map fun g=>(((hs.map k).idxOf (k g):Nat):Int))) eo
   generalize hrr:(row rows r).2=gs at *
   refine (exA rfl (exA rfl ⟨a,_,nm r,.ref t,rfl,rfl,Sa.mono t3,z2j nr0 ev,exD t _ _ (.ref b) rfl rfl (SqT.of et) (z0B (j:=0) rfl) ⟨b,exA rfl (.inr ⟨SqT.of eb,?_⟩)⟩⟩))
   refine (exA rfl (exA rfl ⟨a,_,nm r,.ref t,rfl,rfl,Sa.mono t3,z2j nr0 ev,exD t _ _ (.ref cc) rfl rfl (SqT.of et) (z0B (j:=1) rfl) ⟨cc,rfl,⟨_,SqT.of ec⟩,fun l4 hl4=>z2l (xs:=(gs.map nm).map V.int) (fun j zs H4=>j≤gs.length∧zs=((gs.take j).map fun g=>(((hs.map k).idxOf (k g):Nat):Int)).map V.int∧z0h H3 H4) ⟨Nat.zero_le _,rfl,same_up (z0h.refl H3) hl4⟩ (fun j zs H4 _ h=>SqT.of (h.2.2 _ _ ec)) (by rw [List.length_map,List.length_map];exact z0L (by lia)) (fun j zs H4 h=>?_) (fun j x zs H4 hx h hy4=>?_) (fun zs H4 h hy4=>?_)⟩⟩))
   ·obtain ⟨hj,rfl,_⟩:=h
    rw [List.length_map,List.length_map,List.length_take]
    lia
   ·obtain ⟨hj,rfl,s4⟩:=h
    have hjl:j < gs.length:=by have:=(List.getElem?_eq_some_iff.mp hx).1;rwa [List.length_map,List.length_map] at this
    have eg:gs[j]?=some gs[j]:=List.getElem?_eq_getElem hjl
    have hgm:=hgo _ (List.getElem_mem hjl)
    generalize gs[j]=gj at eg hgm
    have ex:x=V.int (nm gj):=by rw [List.getElem?_map,List.getElem?_map,eg] at hx;exact (Option.some.inj hx).symm
    subst ex
    have t4:=t3.trans s4
    have gm:z5A H4 m (V.int (nm gj)) (some (V.int (k gj))):=by rw [←gk gj hgm];exact z5A.k (k:=kN nm gj) (t4 _ _ em)
    have hv:=z1X (κ:=Key) Sum.inl z8P (hs.map k) (k gj)
    rw [if_pos (hh1 gj hgm)] at hv
    refine (exA rfl (exA rfl (exA rfl ⟨m,exA rfl ⟨gm,lp,exA rfl ⟨(by rw [←hv];exact z5A.k (k:=Sum.inl (k gj)) (s4 _ _ (s3 _ _ e2))),hy4,hjl,?_,z0g s4 hl4⟩⟩⟩)))
    rw [z1c _ eg,List.map_append]
    rfl
   ·obtain ⟨_,rfl,s4⟩:=h
    rw [List.length_map,List.length_map,List.take_length] at hy4
    refine ⟨l4,exA rfl (.inl ⟨SqL.of hy4,fun t4 ht4=>⟨by show 2≤sizeLine;decide,fun t5 ht5=>?_⟩⟩)⟩
    have s5:=same_up (o:=HO.tup ((gs.map fun g=>(((hs.map k).idxOf (k g):Nat):Int)).map V.int)) s4 ht4
    have s6:=same_up (o:=HO.tup [.ref b,.ref t4]) s5 ht5
    have hy6:=s6 _ _ hy
    refine ⟨hy6,hil,by rw [List.length_append,hyl];rfl,z0g (s3.trans s6) hl3,?_⟩
    have kk:z19 H3 (upd (upd (upd H4 t4 (.tup ((gs.map fun g=>(((hs.map k).idxOf (k g):Nat):Int)).map V.int))) t5 (.tup [.ref b,.ref t4])) l3 (.lst (ys++[.ref t5]))):=z19.up (z19.of s6) hy6 (fun _ z=>by cases z)
    have nt5:t5≠l3:=z4b z04 hy6 (by intro z;cases z)
    have nt4:t4≠t5:=z0f z04 ht5
    have nt4f:t4≠l3:=z4b (show upd (upd H4 t4 (.tup ((gs.map fun g=>(((hs.map k).idxOf (k g):Nat):Int)).map V.int))) t5 (.tup [.ref b,.ref t4]) t4=_ by rw [z09 nt4];exact z04) hy6 (by intro z;cases z)
    rw [esn]
    refine DrL.append (d3.keyed kk (by have:=z3a ((hs.take i).map fun r=>((row rows r).1,(row rows r).2.map fun g=>(((hs.map k).idxOf (k g):Nat):Int)));unfold z0s at this;rw [List.map_map] at this;exact this)) (DrL.one (z2K (b:=b) (c:=t4) ?_ (kk _ _ eb) ?_))
    ·rw [z09 nt5];exact z04
    ·rw [z09 nt4f,z09 nt4];exact z04
  ·obtain ⟨_,_,s3,d3⟩:=h
   rw [List.length_map,List.take_length] at d3
   refine ⟨l3,exA rfl (.inl ⟨SqL.of hy,fun t ht=>?_⟩)⟩
   refine q _ _ ((t2.trans s3).trans (same_up (z0h.refl H3) ht)) (Dr.tup z04 ?_)
   unfold z0s
   rw [List.map_map]
   exact d3.mono (same_up (z0h.refl H3) ht)
abbrev zhp:List Str:=["_law_rows_here","_law_start","_law_line","_law_marks","_law_at","_law_to","_law_many","_law_grown","_law_known","_law_fresh","_law_row","_law_key"]
theorem z3h:z0n zhp ["_law_rows_here","_law_start"] (z06 z49):=⟨rfl,rfl,rfl,by decide +kernel,rfl,by decide +kernel,by decide +kernel⟩
theorem zgc:z1l zhp (z06 z49) ["_law_to","_law_marks"] [none,some 3] (csc [(".0",.local),("_law_to",.local),("_law_marks",.free)]):=⟨rfl,by decide +kernel,by decide +kernel,by decide +kernel,rfl,by decide +kernel,by decide +kernel⟩
theorem zc6 (u:List D) (d:D) (hn:u.Nodup):z2P (prs id u) d ((z3k (prs id u) d).getD (V.int ((prs id u).length:Nat)))=prs id (z2u u d):=by
 have hv:z3k (prs id u) d=_:=z1X id (fun _ _ e=>e) u d
 by_cases hm:d∈u
 ·rw [hv,if_pos hm,z0y hm]
  have:=z7G 0 u d hm hn
  rw [Nat.zero_add] at this
  exact this
 ·rw [hv,if_neg hm,z0x hm,←z47 id (fun _ _ e=>e) hm]
  rw [z1M]
  rfl
theorem zae (F:Fun K "_law_shrunk" "_law_shrunk" z49 f fd) (ml:mg "len"=none) (mt:mg "tuple"=none)
  (G:z0t P w K mg base CX 1 g gd ["_law_rows_here","_law_line","_law_marks"] (z4X K)) (bG:z0k K gd ["_law_rows_here","_law_line","_law_marks"] []) (kG:PySem.W.keepIn K (.ref g)=true) (mG:mg "_law_in_line"=some (.ref g)):z0t P w K mg base CX 2 f fd ["_law_rows_here","_law_start"] (z5a K):=by
 refine F.okc z3h (fun vs H Q E h=>?_) (fun cdv A outer s H vs Q E hr h=>?_)
 ·obtain ⟨a,n,rows,nm,us,rfl,_⟩:=h
  rfl
 obtain ⟨a,n,rows,nm,us,rfl,Sa,da,ni,GM,hn,q⟩:=h
 have hu:=zbe hr
 have hu9:(A.deeper (PyProof.Rows.envOfC "_law_shrunk" (z06 z49) s.heap.objs.size f cdv)).units+9 < cLine:=by have:=hr.units;lia
 refine ⟨_,z03 (z0e (i:=2) z3h.nd rfl (Or.inl rfl) (z2h (z02 (pv 1) z05)))
  (z03 (z0e (i:=3) z3h.nd rfl (Or.inr rfl) (zb2 (z6S (pv 1) (z0Q z1G (z0Q (ixQ K rfl) (pv 0) (pv 1) (fun _ _=>rfl)) z07 (fun _ _=>rfl)) z8j) rfl rfl (by simp) (by decide)))
  (z03 (z0e (i:=4) z3h.nd rfl (Or.inl rfl) z07)
  (z03 (z1D PassesOwn.never (z0W z5o (pv 4) (z0m z0a rfl ml PySem.boot_len (z02 (pv 2) z05)) (z1d _))
   (z03 (z20 PassesOwn.never rfl (z2Q (z0Q z1G (z0Q (ixQ K rfl) (pv 0) (z0Q z1f (pv 2) (pv 4) (fun _ _=>rfl)) (fun _ _=>rfl)) z07 (fun _ _=>rfl))) (z0b (i:=5) z3h.nd rfl (Or.inl rfl))
    (z08 (z1J (z1A (z3Q hu (pv 5) (pv 3)))
     (z03 (z50 hu (pv 3) (pv 5) (z0Q z1G (z0Q (ixQ K rfl) (pv 0) (pv 5) (fun _ _=>rfl)) z07 (fun _ _=>rfl)) rfl)
     (z08 (z0X (z3N PySem.F.plainAttrs_list PySem.F.slot_list_append PySem.F.type_list_append z0P (pv 2) (z02 (pv 5) z05))))) z0G)))
   (z08 (z9z (i:=4) z3h.nd rfl (Or.inl rfl) z07 z8S))))
  (z03 (z0e (i:=6) z3h.nd rfl (Or.inl rfl) z07)
  (z03 (z0e (i:=7) z3h.nd rfl (Or.inl rfl) zaM)
  (z03 (z1D PassesOwn.never (ze8 (pv 7))
   (z03 (z0e (i:=8) z3h.nd rfl (Or.inl rfl) (zaF (K:=K)))
   (z03 (z0e (i:=9) z3h.nd rfl (Or.inl rfl) z6U)
   (z03 (z20 PassesOwn.never rfl (z2c (pv 2)) (z0b (i:=10) z3h.nd rfl (Or.inl rfl))
    (z03 (z0e (i:=11) z3h.nd rfl (Or.inl rfl) (z1F (z02 (z30 hu (pv 3) (pv 10) (fun _ _=>rfl)) (z02 (z0u z0p rfl mt PyProof.Rows.boot_tuple (z02
     (z1m rfl zgc (z2Q (z0Q z1G (z0Q (ixQ K rfl) (pv 0) (pv 10) (fun _ _=>rfl)) z07 (fun _ _=>rfl))) (fun _ _ _ _ _=>z0b (i:=0) zgc.nd rfl (Or.inl rfl)) (fun _ _ _ _ _=>z30 hu (pv 1) (pv 0) (fun _ _=>rfl))) z05)) z05))))
    (z03 (z8I (K:=K) hu9 (pv 8) (pv 11) (zdI (K:=K) hu9 (pv 8) (pv 11) (z0m (zcD K) rfl ml PySem.boot_len (z02 (pv 8) z05)) ⟨rfl,rfl,rfl,rfl⟩))
    (z08 (z50 hu (pv 9) (pv 10) (zbN (K:=K) hu9 (pv 8) (pv 11) (fun _ _=>rfl)) rfl)))))
   (z03 (z0e (i:=7) z3h.nd rfl (Or.inl rfl) (z6s zcR (z0m (zcD K) rfl ml PySem.boot_len (z02 (pv 8) z05)) (pv 6) (z1d _)))
   (z03 (z0e (i:=6) z3h.nd rfl (Or.inl rfl) (z0m (zcD K) rfl ml PySem.boot_len (z02 (pv 8) z05)))
   (z08 (z0e (i:=3) z3h.nd rfl (Or.inr rfl) (pv 9)))))))))
  (z08 (z0v (z0c G hr rfl mG kG bG .nil z0H (z02 (pv 0) (z02 (pv 2) (z02 (pv 3) z05)))))))))))),?_⟩
 have h400:=GM.few
 have h1:=GM.some
 have hz1:(0:Int) < (rows.length:Int):=by lia
 refine (exA rfl ⟨by show 1≤sizeLine;decide,fun lo hlo=>?_⟩)
 refine fun lm hlm=>(exA rfl ?_)
 have s1:=same_up (o:=HO.lst [V.int (nm 0)]) (z0h.refl H) hlo
 have s2:=same_up (o:=HO.dK []) s1 hlm
 have nlo:lo≠lm:=z0f z04 hlm
 have hlm0:H lm=none:=s1.free hlm
 obtain ⟨nz0,v0,ev0,dv0⟩:=da 0 (Int.le_refl 0) hz1
 obtain ⟨t0,b0,c0,rfl,et0,eb0,ec0⟩:=z0U (dv0.mono s2)
 refine (exA rfl (exA rfl ⟨a,_,nm 0,.ref t0,rfl,rfl,Sa.mono s2,z2j nz0 ev0,exD t0 _ _ (.ref b0) rfl rfl (SqT.of et0) (z0B (j:=0) rfl) ⟨z04,[(Sum.inl (nm 0),V.ref b0)],rfl,by simp,?_⟩⟩))
 have s3:z0h H (upd (upd (upd H lo (.lst [.int (nm 0)])) lm (.dK [])) lm (.dK (z4i [] [(Sum.inl (nm 0),V.ref b0)]))):=z0g s2 hlm0
 have hF0:=FK.its rows
 have L0:=zbC GM
 have OL:=z0q GM
 have hol:=OL.1.len
 show z8e _ _ _ _ _
 refine zhN (fun σ' H'=>∃ (i0:Int) (o:List Int) (u5:Option V) (kvs:List (Key × V)),σ'=[some (.ref a),some (.int (nm 0)),some (.ref lo),some (.ref lm),some (.int i0),u5,none,none,none,none,none,none]∧z0h H H'∧H' lo=some (.lst (o.map (nV nm)))∧H' lm=some (.dK kvs)∧MkN nm K H' o (fun r=>D.its (row rows r).1) kvs∧z7n rows o∧z0i rows=o) (fun Ed nx=>?_) (fun σ' H' p=>?_)
 rotate_left
 ·obtain ⟨i0,o,u5,kvs,rfl,t2,glo,glm,mk2,L,eoo⟩:=p
  have cl:∀ r∈o,∀ g∈(row rows r).2,g∈o:=by have:=OL.2;rwa [eoo] at this
  have hln:=L.len
  refine ⟨fun m σ H3=>∃ (f:Int→D) (many:Nat) (gr:Bool) (lm:Addr) (kvs:List (Key × V)) (u8 u9 u10 u11:Option V),σ=[some (.ref a),some (.int (nm 0)),some (.ref lo),some (.ref lm),some (.int i0),u5,some (.int many),some (.bl gr),u8,u9,u10,u11]∧z0h H H3∧H3 lo=some (.lst (o.map (nV nm)))∧H3 lm=some (.dK kvs)∧MkN nm K H3 o f kvs∧FK f ∧
    ((gr=true∧o.length+2≤m+many∧many≤o.length∧z4Q rows o m many f=z6a rows)∨(gr=false∧f=z6a rows)),
   ⟨rows.length+2,_,0,true,lm,kvs,_,_,_,_,rfl,t2,glo,glm,mk2,hF0,.inl ⟨rfl,by lia,by lia,by unfold z6a;rw [eoo]⟩⟩,?_⟩
  clear glm mk2
  rintro m σ H3 ⟨f,many,gr,lm,kvs,u8,u9,u10,u11,rfl,t3,elo,elm,mk3,hf,alt⟩
  refine (exA rfl (exA rfl (z2p (fun c=>?_) (fun c=>?_))))
  ·obtain ⟨_,hm1,hm2,hsl⟩:=alt.resolve_right fun z=>by rw [z.1] at c;cases c
   clear alt
   refine ze5 fun N nx2=>?_
   intro lk hlk ob0 g0 lf hlf
   have s4:=same_up (o:=ob0) (z0h.refl H3) hlk
   have hlf0:H3 lf=none:=s4.free hlf
   have nkf:lk≠lf:=z0f z04 hlf
   have s5:=same_up (o:=HO.dK []) s4 hlf
   refine ⟨_,rfl,lo,rfl,⟨_,SqL.of (s5 _ _ elo)⟩,zeC (xs:=o.map (nV nm)) (fun i σ H4=>∃ (u10 u11:Option V) (kv4:List (Key × V)),σ=[some (.ref a),some (.int (nm 0)),some (.ref lo),some (.ref lm),some (.int i0),u5,some (.int many),some (.bl gr),some (.ref lk),some (.ref lf),u10,u11]∧z0h H3 H4∧DD P w K H4 lk (prs id (z0I ((z2t rows o f).take i)))∧H4 lf=some (.dK kv4)∧MkN nm K H4 (o.take i) (z3e rows o f) kv4)
    ⟨_,_,[],rfl,s5,?_,z04,MkN.nil⟩ (fun i σ H4 _ h=>by obtain ⟨_,_,_,_,t4,_⟩:=h;exact SqL.of (t4 _ _ elo)) (fun i x σ H4 hx h Ed nx3=>?_) (fun σ H4 h=>?_)⟩
   ·exact g0.mono (same_up (z0h.refl _) hlf)
   ·obtain ⟨u10,u11,kv4,rfl,t4,g4,elf,mk4⟩:=h
    have hil:i < o.length:=by have:=(List.getElem?_eq_some_iff.mp hx).1;rwa [List.length_map] at this
    have eo:o[i]?=some o[i]:=List.getElem?_eq_getElem hil
    have hro:o[i]∈o:=List.getElem_mem hil
    have hnew:o[i]∉o.take i:=zeS L.nd eo
    generalize o[i]=r at eo hro hnew
    have ex:x=V.int (nm r):=by rw [List.getElem?_map,eo] at hx;exact (Option.some.inj hx).symm
    subst ex
    obtain ⟨r0,r1⟩:=L.rg r hro
    have t34:=t3.trans t4
    obtain ⟨nr0,vr,evr,dvr⟩:=da r r0 r1
    obtain ⟨t,b,cc,rfl,et,eb,ec⟩:=z0U (dvr.mono t34)
    dsimp only [zdO] at eb ec
    have hgl:=GM.len _ (z0o r0 r1)
    have hgo:=cl r hro
    obtain ⟨v,hv,dv⟩:=mk3.get ni hro
    have gm:z5A H4 lm (V.int (nm r)) (some v):=by rw [←hv];exact z5A.k (k:=kN nm r) (t4 _ _ elm)
    have ekey:z1W rows f r=D.tup [f r,D.tup ((row rows r).2.map f)]:=rfl
    have ks:=hf.key (rows:=rows) r
    have esk:(z2t rows o f)[i]?=some (z1W rows f r):=by unfold z2t;rw [List.getElem?_map,eo];rfl
    have hidx:(((z0I ((z2t rows o f).take (i+1))).idxOf (z1W rows f r):Nat):Int)=z2U rows o f r:=by
     unfold z2U
     obtain ⟨m2,e2⟩:=z0N ((z2t rows o f).drop (i+1)) (z0I ((z2t rows o f).take (i+1)))
     have e3:z0I (z2t rows o f)=z0I ((z2t rows o f).take (i+1))++m2:=by
      rw [←e2]
      unfold z0I z0d
      rw [←List.foldl_append,List.take_append_drop]
     rw [e3,z5l]
     refine z0O.mpr (.inr ?_)
     rw [List.take_add_one,esk]
     simp
    have hun:z0I ((z2t rows o f).take (i+1))=z2u (z0I ((z2t rows o f).take i)) (z1W rows f r):=by
     unfold z0I
     rw [List.take_add_one,esk]
     exact z1H _ _ _
    have hund:(z0I ((z2t rows o f).take i)).Nodup:=z2i _ _ List.nodup_nil
    have hunl:(z0I ((z2t rows o f).take i)).length≤4000:=by
     have:=z4N ((z2t rows o f).take i)
     rw [List.length_take] at this
     lia
    rw [hun] at hidx
    generalize z0I ((z2t rows o f).take i)=un at *
    generalize hgs:(row rows r).2=gs at *
    dsimp only [zdi]
    refine zhS (fun σ' H'=>∃ t7:Addr,σ'=[some (.ref a),some (.int (nm 0)),some (.ref lo),some (.ref lm),some (.int i0),u5,some (.int many),some (.bl gr),some (.ref lk),some (.ref lf),some (.int (nm r)),some (.ref t7)]∧z0h H4 H'∧Dr K H' (z1W rows f r) (.ref t7)) (fun Eq nxq=>?_) (fun σ' H7 p=>?_)
    rotate_left
    ·obtain ⟨t7,rfl,s47,dk⟩:=p
     have g7:=g4.mono s47
     have e7f:=s47 _ _ elf
     have t7':=t4.trans s47
     refine (exA rfl ⟨lk,exA rfl ⟨g7,exA rfl (exA rfl ⟨lk,exA rfl ⟨g7,_,_,g7,zcp ks dk,exA rfl (exA rfl ⟨lk,exB rfl ⟨g7,zcp ks dk,by rw [z1M];exact z1Q (by lia),fun ob g8=>?_⟩⟩)⟩⟩)⟩⟩)
     rw [zc6 un _ hund] at g8
     have k8:z19 H7 (upd H7 lk ob):=by
      obtain ⟨xs,e0,_⟩:=g7
      exact z19.up (z19.refl _) e0 (fun _ z=>by unfold zbx at z;cases z)
     have dk8:=dk.keyed k8 ks.1
     have hval:z3k (prs id (z2u un (z1W rows f r))) (z1W rows f r)=some (V.int (z2U rows o f r)):=by
      have:=z1X (κ:=D) id (fun _ _ e=>e) (z2u un (z1W rows f r)) (z1W rows f r)
      rw [if_pos (zdE _ _),hidx] at this
      exact this
     have e8f:upd H7 lk ob lf=some (.dK kv4):=by rw [z09 nkf.symm];exact e7f
     refine (exA rfl (exA rfl ⟨lk,_,exB rfl ⟨g8,zcp ks dk8,hval,exA rfl (exA rfl ⟨lf,exA rfl ⟨zdo.k (k:=kN nm r) e8f (by rw [mk4.len,List.length_take];exact z1Q (by lia)),?_⟩⟩)⟩⟩))
     have k9:z19 (upd H7 lk ob) (upd (upd H7 lk ob) lf (.dK (z2P kv4 (kN nm r) (V.int (z2U rows o f r))))):=z19.up (z19.refl _) e8f (fun _ z=>by cases z)
     refine nx3 _ _ ⟨_,exB rfl ⟨z0g (z0g t7' hlk) hlf0,?_,z04,?_⟩⟩
     ·rw [hun]
      exact DD.keyed g8 k9 (by rw [z09 nkf])
     ·rw [List.take_add_one,eo]
      exact (mk4.mono s47).put ni hnew (((mk4.mono s47).keyed k8 (FK.int _)).keyed k9 (FK.int _)) (Dr.int _)
    refine (exA rfl (exA rfl ⟨lm,v,rfl,gm,exA rfl (exA rfl ⟨a,_,nm r,.ref t,rfl,rfl,Sa.mono t34,z2j nr0 evr,exD t _ _ (.ref cc) rfl rfl (SqT.of et) (z0B (j:=1) rfl) ⟨cc,rfl,⟨_,SqT.of ec⟩,fun l5 hl5=>z2l (xs:=(gs.map nm).map V.int) (fun j zs H5=>j≤gs.length∧zs.length=j∧z0h H4 H5∧DrL K H5 ((gs.take j).map f) zs) ⟨Nat.zero_le _,rfl,same_up (z0h.refl H4) hl5,DrL.nil⟩ (fun j zs H5 _ h=>SqT.of (h.2.2.1 _ _ ec)) (by rw [List.length_map,List.length_map];exact z0L (by lia)) (fun j zs H5 h=>h.2.1) (fun j x zs H5 hx h hy5=>?_) (fun zs H5 h hy5=>?_)⟩⟩)⟩))
    ·obtain ⟨hj,hzl,s5',d5⟩:=h
     have hjl:j < gs.length:=by have:=(List.getElem?_eq_some_iff.mp hx).1;rwa [List.length_map,List.length_map] at this
     have eg:gs[j]?=some gs[j]:=List.getElem?_eq_getElem hjl
     have hgm:=hgo _ (List.getElem_mem hjl)
     generalize gs[j]=gj at eg hgm
     have ex:x=V.int (nm gj):=by rw [List.getElem?_map,List.getElem?_map,eg] at hx;exact (Option.some.inj hx).symm
     subst ex
     obtain ⟨vg,hvg,dvg⟩:=mk3.get ni hgm
     have gmg:z5A H5 lm (V.int (nm gj)) (some vg):=by rw [←hvg];exact z5A.k (k:=kN nm gj) (s5' _ _ (t4 _ _ elm))
     have kk:z19 H5 (upd H5 l5 (.lst (zs++[vg]))):=z19.up (z19.refl _) hy5 (fun _ z=>by cases z)
     refine (exA rfl (exA rfl ⟨lm,vg,rfl,gmg,hy5,hjl,by rw [List.length_append,hzl];rfl,z0g s5' hl5,?_⟩))
     rw [z1c _ eg]
     exact DrL.append (d5.keyed kk (hf.keyL _)) (DrL.one ((dvg.mono (t4.trans s5')).keyed kk (hf gj).1))
    ·obtain ⟨_,hzl,s5',d5⟩:=h
     rw [List.length_map,List.length_map,List.take_length] at d5
     refine ⟨l5,exA rfl (.inl ⟨SqL.of hy5,fun t6 ht6=>⟨by show 2≤sizeLine;decide,fun t7 ht7=>?_⟩⟩)⟩
     have s6:=same_up (o:=HO.tup zs) (z0h.refl H5) ht6
     have s7:=same_up (o:=HO.tup [v,.ref t6]) s6 ht7
     have s47:=s5'.trans s7
     have nt6:t6≠t7:=z0f z04 ht7
     have dk:Dr K (upd (upd H5 t6 (.tup zs)) t7 (.tup [v,.ref t6])) (z1W rows f r) (.ref t7):=by
      rw [ekey]
      exact Dr.tup z04 (DrL.cons (dv.mono (t4.trans s47)) (DrL.one (Dr.tup (by rw [z09 nt6];exact z04) (d5.mono s7))))
     exact nxq _ _ ⟨t7,rfl,s47,dk⟩
   ·obtain ⟨u10,u11,kv4,rfl,t4,g4,elf,mk4⟩:=h
    rw [List.length_map] at g4 mk4
    rw [List.take_length] at mk4
    rw [List.take_of_length_le (by unfold z2t;rw [List.length_map];lia)] at g4
    have hcl:=z7S rows o f
    refine (exA rfl ⟨lk,exA rfl ⟨g4,exA rfl (exC rfl rfl (exA rfl ⟨lk,exA rfl ⟨g4,exA rfl ?_⟩⟩))⟩⟩)
    have hpl:(prs id (z0I (z2t rows o f))).length=z2O rows o f:=z1M _ _ _
    cases m with
    | zero=>lia
    | succ m =>
     refine nx2 m _ _ (Nat.lt_succ_self m) ⟨z3e rows o f,z2O rows o f,decide ((many:Int) < (z2O rows o f:Nat)),lf,kv4,_,_,_,_,(by rw [←hpl];rfl),t3.trans t4,t4 _ _ elo,elf,mk4,FK.int _,?_⟩
     unfold z4Q at hsl
     by_cases hc:many < z2O rows o f
     ·rw [if_pos hc] at hsl
      exact .inl ⟨decide_eq_true (by lia),by lia,hcl,hsl⟩
     ·rw [if_neg hc] at hsl
      exact .inr ⟨decide_eq_false (by lia),hsl⟩
  ·rcases alt with ⟨hg,_⟩ | ⟨_,hfs⟩
   ·exact absurd hg c
   refine (exA rfl (exA rfl (exA rfl ⟨a,lo,lm,n,rows,nm,us,o,kOf rows,kvs,rfl,Sa.mono t3,da.mono t3,ni,GM,hn,elo,elm,?_,L,cl,fun v H4 s4 d4=>?_⟩)))
   ·rw [hfs,z5Q rows] at mk3;exact mk3
   ·refine q v H4 (t3.trans s4) ?_
    unfold shr
    rw [eoo]
    exact d4
 refine ⟨fun m σ H2=>∃ (i:Nat) (o:List Int) (u5:Option V) (kvs:List (Key × V)),m=rows.length+1 - i∧σ=[some (.ref a),some (.int (nm 0)),some (.ref lo),some (.ref lm),some (.int i),u5,none,none,none,none,none,none]∧z0h H H2∧H2 lo=some (.lst (o.map (nV nm)))∧H2 lm=some (.dK kvs) ∧
   MkN nm K H2 o (fun r=>D.its (row rows r).1) kvs∧z7n rows o∧i≤o.length∧bfs rows (rows.length+1 - i) i o=z0i rows,
  ⟨_,0,[0],none,_,rfl,rfl,s3,?_,z04,?_,L0,by simp,rfl⟩,?_⟩
 ·rw [z09 nlo,z09 nlo];exact z04
 ·refine ⟨[.ref b0],rfl,?_⟩
  show DrL K _ [D.its (row rows 0).1] [.ref b0]
  exact DrL.one (Dr.tup (by rw [z09 (z4b eb0 z04 (by intro z;cases z))];exact eb0) (DrL.ints _))
 rintro m σ H2 ⟨i,o,u5,kvs,rfl,rfl,t2,glo,glm,mk2,L,hi,hb⟩
 have hol2:(o.map (nV nm)).length=o.length:=List.length_map _
 refine (exA rfl (exA rfl (exG lo rfl (.inl (SqL.of glo)) (exC rfl rfl (exA rfl (z2p (fun c=>?_) (fun c=>?_)))))))
 ·have c':=of_decide_eq_true c
  rw [hol2] at c'
  have hio:i < o.length:=by lia
  have eo:o[i]?=some o[i]:=List.getElem?_eq_getElem hio
  have hro:o[i]∈o:=List.getElem_mem hio
  generalize o[i]=r at eo hro
  obtain ⟨r0,r1⟩:=L.rg r hro
  obtain ⟨nr0,v,ev,dv⟩:=da r r0 r1
  obtain ⟨t,b,cc,rfl,et,eb,ec⟩:=z0U (dv.mono t2)
  dsimp only [zdO] at eb ec
  have hrow:=z0o r0 r1
  have hgl:=GM.len _ hrow
  have hgo:=GM.go _ hrow
  have hlen:=L.len
  refine ze5 fun N nx2=>?_
  refine (exA rfl (exA rfl (exA rfl (exD lo _ _ (V.int (nm r)) rfl rfl (SqL.of glo) (z0B (by rw [List.getElem?_map,eo];rfl)) ⟨a,_,nm r,.ref t,rfl,rfl,Sa.mono t2,z2j nr0 ev,exD t _ _ (.ref cc) rfl rfl (SqT.of et) (z0B (j:=1) rfl) ⟨cc,rfl,⟨_,SqT.of ec⟩,?_⟩⟩))))
  generalize hgs:(row rows r).2=gs at *
  refine zgM (xs:=(gs.map nm).map V.int) (fun j σ H3=>∃ (u:Option V) (kv3:List (Key × V)),σ=[some (.ref a),some (.int (nm 0)),some (.ref lo),some (.ref lm),some (.int i),u,none,none,none,none,none,none]∧z0h H H3∧z19 H2 H3∧H3 lo=some (.lst ((z0d o (gs.take j)).map (nV nm)))∧H3 lm=some (.dK kv3)∧MkN nm K H3 (z0d o (gs.take j)) (fun r=>D.its (row rows r).1) kv3)
   ⟨_,kvs,rfl,t2,z19.refl _,glo,glm,mk2⟩ (fun j σ H3 _ h=>by obtain ⟨_,_,_,_,k3,_⟩:=h;exact SqT.of (k3 _ _ ec)) (fun j x σ H3 hx h Ed nx3=>?_) (fun σ H3 h=>?_)
  ·obtain ⟨u,kv3,rfl,t3,k3,e1,e2,mk3⟩:=h
   have hjl:j < gs.length:=by have:=(List.getElem?_eq_some_iff.mp hx).1;rwa [List.length_map,List.length_map] at this
   have eg:gs[j]?=some gs[j]:=List.getElem?_eq_getElem hjl
   obtain ⟨g0,g1⟩:=hgo _ (List.getElem_mem hjl)
   generalize gs[j]=gj at eg g0 g1
   have ex:x=V.int (nm gj):=by rw [List.getElem?_map,List.getElem?_map,eg] at hx;exact (Option.some.inj hx).symm
   subst ex
   have et':z0d o (gs.take (j+1))=z2u (z0d o (gs.take j)) gj:=by rw [List.take_add_one,eg];exact z1H _ _ _
   have hal:(z0d o (gs.take j)).length≤4500:=by
    have:=z27 (gs.take j) o
    rw [List.length_take] at this
    lia
   generalize z0d o (gs.take j)=oj at *
   refine (exA rfl (exA rfl ⟨lm,exA rfl ⟨z5A.k (k:=kN nm gj) e2,exA rfl ?_⟩⟩))
   by_cases hm:gj∈oj
   ·obtain ⟨v',hv',_⟩:=mk3.get ni hm
    rw [hv']
    refine z7m (nx3 _ _ ⟨_,kv3,rfl,t3,k3,?_,e2,?_⟩)
    ·rw [et',z0y hm];exact e1
    ·rw [et',z0y hm];exact mk3
   ·rw [mk3.no ni hm]
    have nlop:lo≠lm:=nlo
    obtain ⟨ng0,v',ev',dv'⟩:=da gj g0 g1
    obtain ⟨t',b',c'',rfl,et'',eb'',ec''⟩:=z0U (dv'.mono t3)
    refine zcs (exA rfl (exA rfl ⟨a,_,nm gj,.ref t',rfl,rfl,Sa.mono t3,z2j ng0 ev',exD t' _ _ (.ref b') rfl rfl (SqT.of et'') (z0B (j:=0) rfl) (exA rfl (exA rfl ⟨lm,exA rfl ⟨zdo.k (k:=kN nm gj) e2 (by rw [mk3.len];exact z1Q (by lia)),?_⟩⟩))⟩))
    have e1':upd H3 lm (.dK (z2P kv3 (kN nm gj) (V.ref b'))) lo=some (.lst (oj.map (nV nm))):=by rw [z09 nlop];exact e1
    refine (exA rfl ⟨.inl ⟨rfl,_,SqL.of e1'⟩,exA rfl ⟨lo,exC rfl rfl ⟨e1',by rw [List.length_map];exact z1Q (by lia),?_⟩⟩⟩)
    have kk:z19 H3 (upd (upd H3 lm (.dK (z2P kv3 (kN nm gj) (V.ref b')))) lo (.lst (oj.map (nV nm)++[V.int (nm gj)]))):=z19.up (z19.up (z19.refl _) e2 (fun _ z=>by cases z)) e1' (fun _ z=>by cases z)
    refine nx3 _ _ (exB rfl ⟨z0g (z0g t3 hlm0) hlo,k3.trans kk,?_,(by rw [z09 nlo.symm];exact z04),?_⟩)
    ·rw [z04,et',z0x hm,List.map_append];rfl
    ·rw [et',z0x hm]
     exact mk3.put ni hm (mk3.keyed kk hF0) (Dr.tup (kk _ _ eb'') (DrL.ints _))
  ·obtain ⟨u,kv3,rfl,t3,k3,e1,e2,mk3⟩:=h
   rw [List.length_map,List.length_map,List.take_length] at e1 mk3
   obtain ⟨mm,em⟩:=z41 rows (rows.length+1 - (i+1)) (i+1) (z0d o gs)
   have hb':bfs rows (rows.length+1 - (i+1)) (i+1) (z0d o gs)=z0i rows:=by
    rw [←hb,show rows.length+1 - i=(rows.length+1 - (i+1))+1 by lia,z3A eo,hgs]
   have L':z7n rows (z0d o gs):=by rw [←hgs];exact L.add GM hro
   obtain ⟨m1,em1⟩:=z0N gs o
   have hi':i+1≤(z0d o gs).length:=by rw [em1,List.length_append];lia
   exact (exA rfl (exC rfl rfl (nx2 (rows.length+1 - (i+1)) _ _ (by lia) ⟨i+1,z0d o gs,_,kv3,rfl,rfl,t3,e1,e2,mk3,L',hi',hb'⟩)))
 have c':=of_decide_eq_false (Bool.eq_false_iff.mpr c)
 rw [hol2] at c'
 have eoo:z0i rows=o:=by rw [←hb];exact z3x (by lia)
 exact nx _ _ ⟨_,o,u5,kvs,rfl,t2,glo,glm,mk2,L,eoo⟩
theorem z2w:z0n ["_law_cell_here","_law_many","_law_row","_law_rest","_law_seed"] ["_law_cell_here","_law_many"] (z06 z4v):=⟨rfl,rfl,rfl,by decide +kernel,rfl,by decide +kernel,by decide +kernel⟩
theorem z9Z (F:Fun K "_law_numbers" "_law_numbers" z4v f fd) (ml:mg "len"=none):z0t P w K mg base CX 1 f fd ["_law_cell_here","_law_many"] (z2Z K):=by
 refine F.okc z2w (fun vs H Q E h=>?_) (fun cdv A outer s H vs Q E hr h=>?_)
 ·obtain ⟨c,m,rfl,_⟩:=h
  rfl
 obtain ⟨c,m,rfl,hm,q⟩:=h
 refine ⟨_,z03 (z0e (i:=2) z2w.nd rfl (Or.inl rfl) (z2h z05))
  (z03 (z0e (i:=3) z2w.nd rfl (Or.inl rfl) (z0r z2T (pv 0) (z0r zgm z07 z07)))
  (z03 (z1D PassesOwn.never (PW.pt (z7v (z0W zcR (pv 3) z07 (z1d _)) (z51 (z0W z5o (z0m z0a rfl ml PySem.boot_len (z02 (pv 2) z05)) (pv 1) (z1d _)))))
   (z03 (z0X (z3N PySem.F.plainAttrs_list PySem.F.slot_list_append PySem.F.type_list_append z0P (pv 2) (z02 (z0r z0V (pv 3) z07) z05)))
   (z08 (z0e (i:=3) z2w.nd rfl (Or.inl rfl) (z0r z2F (pv 3) z07)))))
  (z03 (z0e (i:=4) z2w.nd rfl (Or.inl rfl) (z0r z0V (pv 0) z07))
  (z03 (z1D PassesOwn.never (z0W z5o (z0m z0a rfl ml PySem.boot_len (z02 (pv 2) z05)) (pv 1) (z1d _))
   (z03 (z0e (i:=4) z2w.nd rfl (Or.inl rfl) (z0r z0V (z0r z1g (z0r z1g (z0r z3t (pv 4) z07) z07) (z0m z0a rfl ml PySem.boot_len (z02 (pv 2) z05))) z07))
   (z08 (z0X (z3N PySem.F.plainAttrs_list PySem.F.slot_list_append PySem.F.type_list_append z0P (pv 2) (z02 (z0r z0V (z0r z2F (z0r z0V (z0r z3t (pv 4) z07) z07) z07) z07) z05))))))
  (z08 (z0v (pv 2))))))),?_⟩
 refine ⟨by show 0≤sizeLine;decide,fun l hl=>(exA rfl (exC rfl rfl ⟨⟨by decide,by decide,by decide⟩,exC rfl rfl ?_⟩))⟩
 show z8e _ _ _ _ _
 refine zhN (fun σ' H'=>∃ (k:Nat) (r:Int) (ns:List Int),σ'=[some (.int c),some (.int m),some (.ref l),some (.int r),none]∧z0h H H'∧H' l=some (.lst (ns.map V.int))∧k+ns.length=m∧∀ x∈ns,0≤x∧x < 1009) (fun Ed nx=>?_) (fun σ' H' p=>?_)
 rotate_left
 ·obtain ⟨k,r,ns,rfl,s2,e2,hk,hns⟩:=p
  refine (exA rfl (exC rfl rfl ⟨za7,?_⟩))
  refine ⟨fun k σ H2=>∃ (v:Int) (ns:List Int),σ=[some (.int c),some (.int m),some (.ref l),some (.int r),some (.int v)]∧z0h H H2∧H2 l=some (.lst (ns.map V.int))∧k+ns.length=m∧∀ x∈ns,0≤x∧x < 1009,
   ⟨k,_,ns,rfl,s2,e2,hk,hns⟩,?_⟩
  rintro k σ H2 ⟨v,ns,rfl,s2,e2,hk,hns⟩
  have hnl:(ns.map V.int).length=ns.length:=List.length_map _
  refine (exA rfl (exG l rfl (.inl (SqL.of e2)) (exA rfl (exC rfl rfl (exA rfl (z2p (fun c2=>?_) (fun c2=>?_)))))))
  ·have c2':=of_decide_eq_true c2
   rw [hnl] at c2'
   have hkp:ns.length < m:=by lia
   refine ze5 fun N nx2=>?_
   refine (exA rfl (exC rfl rfl ⟨.inr ⟨by decide,by decide⟩,exC rfl rfl (exA rfl (exG l rfl (.inl (SqL.of e2)) (exC rfl rfl (exC rfl rfl ⟨za7,?_⟩))))⟩))
   refine (exA rfl ⟨.inl ⟨rfl,_,SqL.of e2⟩,exA rfl (exC rfl rfl ⟨.inr ⟨by decide,by decide⟩,exC rfl rfl ⟨za7,exC rfl rfl ⟨⟨by decide,by decide⟩,exC rfl rfl ⟨za7,l,exC rfl rfl ⟨e2,by rw [hnl];exact z3E (by lia),?_⟩⟩⟩⟩⟩)⟩)
   refine nx2 (k - 1) _ _ (by lia) ⟨_,ns++[(v*48271+9973+((ns.map V.int).length:Nat)) % 2147483647*39373 % 2147483629 / 11 % 1009],rfl,z0g s2 hl,?_,?_,z7D hns (zbT _)⟩
   ·rw [z04,List.map_append];rfl
   ·rw [List.length_append];show k - 1+(ns.length+1)=m;lia
  ·have c2':=of_decide_eq_false (Bool.eq_false_iff.mpr c2)
   rw [hnl] at c2'
   exact (exA rfl (q l H2 ns s2 e2 ⟨by lia,hns⟩))
 refine ⟨fun k σ H2=>∃ (r:Int) (ns:List Int),σ=[some (.int c),some (.int m),some (.ref l),some (.int r),none]∧z0h H H2∧H2 l=some (.lst (ns.map V.int))∧k+ns.length=m∧∀ x∈ns,0≤x∧x < 1009,
  ⟨m,_,[],rfl,same_up (z0h.refl H) hl,z04,rfl,fun x hx=>by simp at hx⟩,?_⟩
 rintro k σ H2 ⟨r,ns,rfl,s2,e2,hk,hns⟩
 have hnl:(ns.map V.int).length=ns.length:=List.length_map _
 refine (exA rfl (exC rfl rfl (exA rfl (z2p (fun c1=>(exA rfl (exG l rfl (.inl (SqL.of e2)) (exA rfl (exC rfl rfl (exA rfl (z2p (fun c2=>?_) (fun c2=>?_)))))))) (fun c1=>z7m ?_)))))
 ·have c2':=of_decide_eq_true c2
  rw [hnl] at c2'
  have hkp:ns.length < m:=by lia
  refine ze5 fun N nx2=>?_
  refine (exA rfl ⟨.inl ⟨rfl,_,SqL.of e2⟩,exA rfl (exC rfl rfl ⟨za7,l,exC rfl rfl ⟨e2,by rw [hnl];exact z3E (by lia),?_⟩⟩)⟩)
  refine (exA rfl (exC rfl rfl ⟨⟨by decide,by decide⟩,nx2 (k - 1) _ _ (by lia) ⟨_,ns++[r % 1009],rfl,z0g s2 hl,?_,?_,z7D hns (zbT r)⟩⟩))
  ·rw [z04,List.map_append];rfl
  ·rw [List.length_append];show k - 1+(ns.length+1)=m;lia
 all_goals exact nx _ _ ⟨k,r,ns,rfl,s2,e2,hk,hns⟩
theorem zf8:z0n ["_law_letters_here","_law_cell_here"] ["_law_letters_here","_law_cell_here"] (z06 z9x):=⟨rfl,rfl,rfl,by decide +kernel,rfl,by decide +kernel,by decide +kernel⟩
theorem zcY {k:Addr} {kd:FuncData} (F:Fun K "_law_guise" "_law_guise" z9x f fd)
  (G:z0t P w K mg base CX 2 g gd ["_law_letters_here","_law_cell_here"] (zaA K)) (bG:z0k K gd ["_law_letters_here","_law_cell_here"] []) (kG:PySem.W.keepIn K (.ref g)=true) (mG:mg "_law_rows"=some (.ref g))
  (T:z0t P w K mg base CX 2 k kd ["_law_rows_here","_law_start"] (z8R K)) (bT:z0k K kd ["_law_rows_here","_law_start"] []) (kT:PySem.W.keepIn K (.ref k)=true) (mT:mg "_law_shrunk"=some (.ref k)):z0t P w K mg base CX 3 f fd ["_law_letters_here","_law_cell_here"] (z8v K):=by
 refine F.okc zf8 (fun vs H Q E h=>?_) (fun cdv A outer s H vs Q E hr h=>?_)
 ·obtain ⟨n,c,rfl,_⟩:=h
  rfl
 obtain ⟨n,c,rfl,h2,h5,q⟩:=h
 refine ⟨_,z08 (z0v (z0c T hr rfl mT kT bT .nil z0H (z02 (z0c G hr rfl mG kG bG .nil z0H (z02 (pv 0) (z02 (pv 1) z05))) (z02 z07 z05)))),?_⟩
 refine (exA rfl (exA rfl ⟨n,c,rfl,h2,h5,fun r H1 rows s1 hr1 G1 h8=>⟨r,n,rows,rfl,hr1,G1,by lia,fun v H2 s2 d=>q v H2 rows (s1.trans s2) G1 h8 d⟩⟩))
abbrev nWd:List Str:=["_law_letters_here","_law_cell_here","_law_most","_law_nums"]
theorem zhq:z0n nWd ["_law_letters_here","_law_cell_here","_law_most"] (z06 z7O):=⟨rfl,rfl,rfl,by decide +kernel,rfl,by decide +kernel,by decide +kernel⟩
theorem zhB:z1l nWd (z06 z7O) ["_law_pick","_law_letters_here"] [none,some 0] (csc [(".0",.local),("_law_pick",.local),("_law_letters_here",.free)]):=⟨rfl,by decide +kernel,by decide +kernel,by decide +kernel,rfl,by decide +kernel,by decide +kernel⟩
theorem zcX (F:Fun K "_law_word" "_law_word" z7O f fd) (mt:mg "tuple"=none)
  (G:z0t P w K mg base CX 1 g gd ["_law_cell_here","_law_many"] (z2Z K)) (bG:z0k K gd ["_law_cell_here","_law_many"] []) (kG:PySem.W.keepIn K (.ref g)=true) (mG:mg "_law_numbers"=some (.ref g)):z0t P w K mg base CX 2 f fd ["_law_letters_here","_law_cell_here","_law_most"] (z8r K):=by
 refine F.okc zhq (fun vs H Q E h=>?_) (fun cdv A outer s H vs Q E hr h=>?_)
 ·obtain ⟨n,c,m,rfl,_⟩:=h
  rfl
 obtain ⟨n,c,m,rfl,n2,n5,hm,q⟩:=h
 refine ⟨_,z03 (z0e (i:=3) zhq.nd rfl (Or.inl rfl) (z0c G hr rfl mG kG bG .nil z0H (z02 (pv 1) (z02 (z0r z1g (pv 2) z07) z05))))
  (z08 (z0v (z0u z0p rfl mt PyProof.Rows.boot_tuple (z02 (z1m rfl zhB (z2c (z1u z3g (pv 3) (z1o z07) (z1o (z0r z1g z07 (z0r z0V (z0Q z1f (pv 3) z07 (fun _ _=>rfl)) (z0r z1g (pv 2) z07)))))) (fun _ _ _ _ _=>z0b (i:=0) zhB.nd rfl (Or.inl rfl)) (fun _ _ _ _ _=>z0r z0V (pv 0) (pv 1))) z05)))),?_⟩
 have e1:(m:Int)+1=((m+1:Nat):Int):=by lia
 refine (exA rfl (exA rfl (exC rfl rfl ⟨c,m+1,(by rw [←e1];rfl),by lia,fun ln H1 nn s1 en hnn=>?_⟩)))
 have hnl:=hnn.1
 obtain ⟨z0,ez0⟩:∃ z:Int,nn[0]?=some z:=⟨nn[0]'(by lia),List.getElem?_eq_getElem (by lia)⟩
 have hz0:z0 % ((m:Int)+1) < (m:Int)+1:=Int.emod_lt_of_pos _ (by lia)
 have hz0':0≤z0 % ((m:Int)+1):=Int.emod_nonneg _ (by lia)
 obtain ⟨k0,hk0⟩:=z2B (x:=(1:Int)+z0 % ((m:Int)+1)) (by lia)
 refine (exA rfl (exA rfl (exA rfl (exD ln _ _ (V.int z0) rfl rfl (SqL.of en) (z0B (j:=0) (by rw [List.getElem?_map,ez0];rfl)) (exA rfl (exC rfl rfl (exC rfl rfl ⟨by lia,exC rfl rfl (exA rfl ⟨ln,exA rfl ⟨SqL.of en,fun p hp=>?_⟩⟩)⟩)))))))
 have sp:=same_up (o:=HO.lst (z3S (nn.map V.int) (some 1) (some (1+z0 % ((m:Int)+1))))) (z0h.refl H1) hp
 have ep:upd H1 p (HO.lst (z3S (nn.map V.int) (some 1) (some (1+z0 % ((m:Int)+1))))) p=some (.lst ((z4C nn (some ((1:Nat):Int)) (some (k0:Int))).map V.int)):=by rw [z04,z3B,hk0];rfl
 have lcut:(z4C nn (some ((1:Nat):Int)) (some (k0:Int))).length=k0 - 1:=z71 (by lia)
 generalize upd H1 p (HO.lst (z3S (nn.map V.int) (some 1) (some (1+z0 % ((m:Int)+1)))))=H2 at sp ep
 generalize z4C nn (some ((1:Nat):Int)) (some (k0:Int))=cs at ep lcut
 have lcm:(cs.map V.int).length=cs.length:=List.length_map _
 refine ⟨p,rfl,⟨_,SqL.of ep⟩,fun la hla=>z2b (xs:=cs.map V.int) (GI n H2) (GI.nil hla) (fun i ys H3 _ h=>by obtain ⟨_,_,_,_,s3⟩:=h;exact SqL.of (s3 _ _ ep)) (by rw [lcm];exact z0L (by lia)) (fun i ys H3 h=>h.len) (fun i x ys H3 hx h hy=>?_) (fun ys H3 h hy=>?_)⟩
 ·have hi:i < cs.length:=by have:=(List.getElem?_eq_some_iff.mp hx).1;lia
  have ex:x=V.int cs[i]:=by rw [List.getElem?_map,List.getElem?_eq_getElem hi] at hx;exact (Option.some.inj hx).symm
  subst ex
  exact (exA rfl (exA rfl (exC rfl rfl ⟨by lia,hy,h.snoc hla ⟨Int.emod_nonneg _ (by lia),Int.emod_lt_of_pos _ (by lia)⟩⟩)))
 obtain ⟨as,rfl,hal,iia,s3⟩:=h
 refine ⟨la,exA rfl (.inl ⟨SqL.of hy,fun t ht=>?_⟩)⟩
 have s4:=same_up (o:=HO.tup (as.map V.int)) (z0h.refl H3) ht
 exact q _ _ as ((s1.trans sp).trans (s3.trans s4)) (Dr.tup z04 (DrL.ints _)) iia (by rw [lcm] at hal;lia)
abbrev nSt:List Str:=["_law_letters_here"]
theorem zis:z0n nSt ["_law_letters_here"] (z06 z4s):=⟨rfl,rfl,rfl,by decide +kernel,rfl,by decide +kernel,by decide +kernel⟩
theorem zam (F:Fun K "_law_stories" "_law_stories" z4s f fd):z0t P w K mg base CX 1 f fd ["_law_letters_here"] (z5c K):=by
 refine F.okc zis (fun vs H Q E h=>?_) (fun cdv A outer s H vs Q E hr h=>?_)
 ·obtain ⟨n,rfl,_⟩:=h
  rfl
 obtain ⟨n,rfl,n2,n5,q⟩:=h
 refine ⟨_,z08 (z0v (z0Q z1G (z1F (z02 z07 (z02 z07 (z02 z07 (z02 z07 z05))))) (z0r z2T (pv 0) z07) (fun _ _=>rfl))),?_⟩
 refine ⟨by show 4≤sizeLine;decide,fun tq htq=>?_⟩
 exact (exA rfl (exC rfl rfl ⟨tq,_,_,V.int (zf7 n),rfl,rfl,SqT.of z04,zff n2 n5,q _ (same_up (z0h.refl H) htq)⟩))
abbrev zht:List Str:=["letters","word"]
theorem zgT:z0n zht ["letters","word"] (z06 z4H):=⟨rfl,rfl,rfl,by decide +kernel,rfl,by decide +kernel,by decide +kernel⟩
theorem zfM:z1l zht (z06 z4H) ["letter","letters"] [none,some 0] (csc [(".0",.local),("letter",.local),("letters",.free)]):=⟨rfl,by decide +kernel,by decide +kernel,by decide +kernel,rfl,by decide +kernel,by decide +kernel⟩
def zeb (n:Nat) (l:Int):Bool:=!(decide (0≤l) && decide (l < (n:Int)))
theorem z93 {n:Nat} {w:List Int}:((w.map (zeb n)).any _root_.id=true)↔¬ LW n w:=by
 unfold LW zeb
 rw [List.any_map]
 simp only [List.any_eq_true,Function.comp,_root_.id,Bool.not_eq_true',Bool.and_eq_false_iff,decide_eq_false_iff_not]
 constructor
 ·rintro ⟨x,hx,h⟩ z
  have:=z x hx
  lia
 ·intro h
  apply Classical.byContradiction
  intro h2
  exact h fun l hl=>Classical.byContradiction fun h3=>h2 ⟨l,hl,by lia⟩
theorem zbm {Ct:Addr} {bmB:List Value} {B newId initId:String} (mC:mg "BadWord"=some (.ref Ct)) (xC:PySem.W.excIn K Ct bmB newId=true) (hB:ExcBaseFacts B newId initId bmB) (F:Fun K "check_word" "check_word" z4H f fd) (many:mg "any"=none):z0t P w K mg base (CXx P w) 1 f fd ["letters","word"] (z3D K Ct):=by
 refine F.okx zgT (fun vs H Q E h=>?_) (fun cdv A outer s H vs Q E hr h=>?_)
 ·obtain ⟨n,u,w,rfl,_⟩:=h
  rfl
 obtain ⟨n,u,w,rfl,dw,h5,q,qx⟩:=h
 obtain ⟨a,rfl,ea⟩:=Dr.its_inv dw
 refine ⟨_,z08 (z1J (ze8 (z0m (zit K rfl rfl) rfl many PyProof.Rows.boot_any (z02 (z1m rfl zfM (z2Q (pv 1)) (fun _ _ _ _ _=>z0b (i:=0) zfM.nd rfl (Or.inl rfl)) (fun _ _ _ _ _=>zdW (zdF z6X z5o z07 (pv 0) (pv 1)))) z05))) (z08 (z2N mC rfl xC hB z5g)) z0G),?_⟩
 refine (exA rfl ⟨a,rfl,⟨_,SqT.of ea⟩,fun l hl0=>z2l (xs:=w.map V.int) (fun i ys H4=>i≤w.length∧ys=((w.take i).map (zeb n)).map V.bl∧z0h H H4) ⟨Nat.zero_le _,rfl,same_up (z0h.refl H) hl0⟩ (fun i ys H4 _ h=>SqT.of (h.2.2 _ _ ea)) (by rw [List.length_map];exact z0L (by lia)) (fun i ys H4 h=>?_) (fun i x ys H4 hx h hy=>?_) (fun ys H4 h hy=>?_)⟩)
 ·obtain ⟨_,rfl,_⟩:=h
  rw [List.length_map,List.length_map,List.length_take];lia
 ·obtain ⟨_,rfl,s4⟩:=h
  have hil:i < w.length:=by have:=(List.getElem?_eq_some_iff.mp hx).1;rwa [List.length_map] at this
  have eg:w[i]?=some w[i]:=List.getElem?_eq_getElem hil
  generalize w[i]=gi at eg
  have ex:x=V.int gi:=by rw [List.getElem?_map,eg] at hx;exact (Option.some.inj hx).symm
  subst ex
  have et:(w.take (i+1)).map (zeb n)=(w.take i).map (zeb n)++[zeb n gi]:=z1c _ eg
  refine (exA rfl (exC rfl rfl (exA rfl (z2p (fun c=>(exA rfl (exC rfl rfl (exA rfl ⟨hy,hil,?_,z0g s4 hl0⟩)))) (fun c=>(exA rfl ⟨hy,hil,?_,z0g s4 hl0⟩))))))
  ·rw [et,List.map_append]
   have c':=of_decide_eq_true c
   unfold zeb
   rw [decide_eq_true c',Bool.true_and]
   rfl
  ·rw [et,List.map_append]
   have c':=of_decide_eq_false (Bool.eq_false_iff.mpr c)
   unfold zeb
   rw [decide_eq_false c',Bool.false_and]
   rfl
 ·obtain ⟨_,rfl,s4⟩:=h
  refine ⟨l,exA rfl ⟨SqL.of hy,exA rfl (z2p (fun c=>?_) (fun c=>?_))⟩⟩
  ·rw [List.length_map,List.take_length] at c
   exact fun e=>qx (z93.mp c) e H4 s4
  ·rw [List.length_map,List.take_length] at c
   exact q (Decidable.byContradiction fun z=>c (z93.mpr z)) H4 s4
abbrev nRf:List Str:=["guise","row","word","made","at","letter","rearranging","goings"]
theorem zfa:z0n nRf ["guise","row","word"] (z06 z9i):=⟨rfl,rfl,rfl,by decide +kernel,rfl,by decide +kernel,by decide +kernel⟩
theorem zcS (F:Fun K "read_from" "read_from" z9i f fd) (mt:mg "tuple"=none):z0t P w K mg base CX 1 f fd ["guise","row","word"] (z6Y K):=by
 refine F.okc zfa (fun vs H Q E h=>?_) (fun cdv A outer s H vs Q E hr h=>?_)
 ·obtain ⟨v,u,rows,n,wd,s0,rfl,_⟩:=h
  rfl
 obtain ⟨v,u,rows,n,wd,s0,rfl,dv,dw,GM,hn,h5,hw,h0,h1,q⟩:=h
 obtain ⟨av,us,rfl,eav,dus⟩:∃ (av:Addr) (us:List V),v=.ref av∧H av=some (.tup us)∧DrL K H (z0s rows) us:=by
  simp only [Dr] at dv
  exact dv
 obtain ⟨aw,rfl,eaw⟩:=Dr.its_inv dw
 refine ⟨_,z03 (z0e (i:=3) zfa.nd rfl (Or.inl rfl) (z2h z05))
  (z03 (z0e (i:=4) zfa.nd rfl (Or.inl rfl) (pv 1))
  (z03 (z20 PassesOwn.never rfl (z2Q (pv 2)) (z0b (i:=5) zfa.nd rfl (Or.inl rfl))
   (z03 (z2m (z0Q z1G (pv 0) (pv 4) (fun _ _=>rfl)) (z1R rfl (z0l (z0b (i:=6) zfa.nd rfl (Or.inl rfl)) (z0l (z0b (i:=7) zfa.nd rfl (Or.inl rfl)) z17))))
   (z03 (z0X (z3N PySem.F.plainAttrs_list PySem.F.slot_list_append PySem.F.type_list_append z0P (pv 3) (z02 (z0Q z1G (pv 6) (pv 5) (fun _ _=>rfl)) z05)))
   (z08 (z0e (i:=4) zfa.nd rfl (Or.inl rfl) (z0Q z1G (pv 7) (pv 5) (fun _ _=>rfl)))))))
  (z08 (z0v (z1F (z02 (z0u z0p rfl mt PyProof.Rows.boot_tuple (z02 (pv 3) z05)) (z02 (pv 4) z05))))))),?_⟩
 refine ⟨by show 0≤sizeLine;decide,fun lm hlm=>?_⟩
 have s1:=same_up (o:=HO.lst []) (z0h.refl H) hlm
 refine ⟨_,rfl,_,rfl,aw,rfl,⟨_,SqT.of (s1 _ _ eaw)⟩,zc5 (xs:=wd.map V.int) (fun i σ H3=>∃ (u5 u6 u7:Option V),σ=[some (.ref av),some (.int s0),some (.ref aw),some (.ref lm),some (.int (goW rows s0 (wd.take i))),u5,u6,u7]∧z0h H H3∧H3 lm=some (.lst ((z1j rows s0 (wd.take i)).map V.int)))
  ⟨_,_,_,rfl,s1,z04⟩ (fun i σ H3 _ h=>by obtain ⟨_,_,_,_,t3,_⟩:=h;exact SqT.of (t3 _ _ eaw)) (fun i x σ H3 hx h=>?_) (fun σ H3 h=>?_)⟩
 ·obtain ⟨u5,u6,u7,rfl,t3,em⟩:=h
  have hil:i < wd.length:=by have:=(List.getElem?_eq_some_iff.mp hx).1;rwa [List.length_map] at this
  have eg:wd[i]?=some wd[i]:=List.getElem?_eq_getElem hil
  obtain ⟨l0,l1⟩:=hw _ (List.getElem_mem hil)
  generalize wd[i]=l at eg l0 l1
  have ex:x=V.int l:=by rw [List.getElem?_map,eg] at hx;exact (Option.some.inj hx).symm
  subst ex
  have hwt:LW n (wd.take i):=fun x hx=>hw x (List.mem_of_mem_take hx)
  obtain ⟨g0,g1⟩:=zc8 GM hwt h0 h1
  have est:goW rows s0 (wd.take (i+1))=(row rows (goW rows s0 (wd.take i))).2.getD l.toNat 0:=by
   rw [List.take_add_one,eg,Option.toList,z7j]
   rfl
  have eot:z1j rows s0 (wd.take (i+1))=z1j rows s0 (wd.take i)++[(row rows (goW rows s0 (wd.take i))).1.getD l.toNat 0]:=by
   rw [List.take_add_one,eg,Option.toList,z3L]
   rfl
  have hol:(z1j rows s0 (wd.take i)).length=i:=by rw [z1h,List.length_take];lia
  rw [est,eot]
  generalize z1j rows s0 (wd.take i)=ms at em hol
  generalize goW rows s0 (wd.take i)=g at g0 g1
  obtain ⟨vr,evr,dvr⟩:=z37 dus (z43 g0 g1)
  obtain ⟨t,b',c',rfl,et,eb,ec⟩:=z0U (dvr.mono t3)
  have hgl:=GM.len _ (z0o g0 g1)
  have hpl:=(GM.perm _ (z0o g0 g1)).len
  have hll:l.toNat < (row rows g).2.length:=by lia
  have hl1:l.toNat < (row rows g).1.length:=by lia
  refine (exA rfl (exA rfl (exD av _ g (.ref t) rfl rfl (SqT.of (t3 _ _ eav)) (z2j g0 evr) (exF t rfl (SqT.of et) rfl (exB rfl (exC rfl rfl ?_))))))
  refine (exA rfl ⟨.inl ⟨rfl,_,SqL.of em⟩,exA rfl (exA rfl (exD b' _ l (V.int ((row rows g).1.getD l.toNat 0)) rfl rfl (SqT.of eb) (z2j l0 ?_) ⟨lm,exC rfl rfl ⟨em,z1Q (by rw [List.length_map];lia),?_⟩⟩))⟩)
  ·rw [List.getElem?_map,List.getD_eq_getElem?_getD,List.getElem?_eq_getElem hl1]
   rfl
  have kk:z19 H3 (upd H3 lm (.lst (ms.map V.int++[V.int ((row rows g).1.getD l.toNat 0)]))):=z19.up (z19.refl _) em (fun _ z=>by cases z)
  have t4:z0h H (upd H3 lm (.lst (ms.map V.int++[V.int ((row rows g).1.getD l.toNat 0)]))):=z0g t3 hlm
  refine (exA rfl (exA rfl (exD c' _ l (V.int ((row rows g).2.getD l.toNat 0)) rfl rfl (SqT.of (kk _ _ ec)) (z2j l0 ?_) ⟨_,exB rfl ⟨t4,?_⟩⟩)))
  ·rw [List.getElem?_map,List.getD_eq_getElem?_getD,List.getElem?_eq_getElem hll]
   rfl
  ·rw [List.map_append]
   exact z04
 ·obtain ⟨u5,u6,u7,rfl,t3,em⟩:=h
  rw [List.length_map,List.take_length] at *
  refine (exA rfl ⟨lm,exA rfl (.inl ⟨SqL.of em,fun t ht=>(exA rfl ⟨by show 2≤sizeLine;decide,fun r hr'=>?_⟩)⟩)⟩)
  exact q r t _ (same_up (same_up t3 ht) hr') z04 (same_up (z0h.refl _) hr' _ _ z04)
abbrev nWr:List Str:=["guise","word","made","at"]
theorem zhc:z0n nWr ["guise","word"] (z06 zcA):=⟨rfl,rfl,rfl,by decide +kernel,rfl,by decide +kernel,by decide +kernel⟩
theorem zf1 {b c Cw:Addr} {bd cd:FuncData} (F:Fun K "worn" "worn" zcA f fd)
  (G:z0t P w K mg base (CXx P w) 1 g gd ["letters","word"] (z3D K Cw)) (bG:z0k K gd ["letters","word"] []) (kG:PySem.W.keepIn K (.ref g)=true) (mG:mg "check_word"=some (.ref g))
  (R:z0t P w K mg base (CXx P w) 1 b bd ["guise"] (z1U K)) (bR:z0k K bd ["guise"] []) (kR:PySem.W.keepIn K (.ref b)=true) (mR:mg "breadth"=some (.ref b))
  (U:z0t P w K mg base (CXx P w) 1 c cd ["guise","row","word"] (z6Y K)) (bU:z0k K cd ["guise","row","word"] []) (kU:PySem.W.keepIn K (.ref c)=true) (mU:mg "read_from"=some (.ref c)):z0t P w K mg base (CXx P w) 2 f fd ["guise","word"] (zbJ K Cw):=by
 refine F.okx zhc (fun vs H Q E h=>?_) (fun cdv A outer s H vs Q E hr h=>?_)
 ·obtain ⟨v,u,rows,n,w,rfl,_⟩:=h
  rfl
 obtain ⟨v,u,rows,n,wd,rfl,dv,dw,GM,hn,h5,gv,gx⟩:=h
 refine ⟨_,z03 (z0X (z0c G hr rfl mG kG bG .nil (z3i fun _ _ _ z=>z) (z02 (z0c R hr rfl mR kR bR .nil z0H (z02 (pv 0) z05)) (z02 (pv 1) z05))))
  (z03 (z2m (z0c U hr rfl mU kU bU .nil z0H (z02 (pv 0) (z02 z07 (z02 (pv 1) z05)))) (z1R rfl (z0l (z0b (i:=2) zhc.nd rfl (Or.inl rfl)) (z0l (z0b (i:=3) zhc.nd rfl (Or.inl rfl)) z17))))
  (z08 (z0v (pv 2)))),?_⟩
 have h1:=GM.some
 obtain ⟨r0,rt,er⟩:∃ r0 rt,rows=r0::rt:=by
  cases rows with
  | nil=>simp at h1
  | cons r0 rt=>exact ⟨r0,rt,rfl⟩
 have hp0:=GM.perm r0 (by rw [er];simp)
 have hl0:=hp0.len
 refine (exA rfl ⟨v,r0,z0s rt,rfl,(by rw [er] at dv;exact dv),by lia,fun H1 s1=>(exA rfl ⟨n,u,wd,(by rw [hl0];rfl),dw.mono s1,by lia,fun hw H2 s2=>?_,fun hw ea H2 s2=>gx hw ea H2 (s1.trans s2)⟩)⟩)
 have s02:=s1.trans s2
 refine (exA rfl (exA rfl ⟨v,u,rows,n,wd,0,rfl,dv.mono s02,dw.mono s02,GM,hn,h5,hw,Int.le_refl 0,by lia,fun r t H3 s3 er' et=>?_⟩))
 exact (exF r rfl (SqT.of er') rfl (exB rfl (exC rfl rfl (exA rfl (gv hw t H3 (s02.trans s3) et)))))
abbrev nCo:List Str:=["_law_letters_here","_law_cell_here","_law_most","_law_nums","_law_ahead","_law_ring"]
theorem zfk:z0n nCo ["_law_letters_here","_law_cell_here","_law_most"] (z06 z4W):=⟨rfl,rfl,rfl,by decide +kernel,rfl,by decide +kernel,by decide +kernel⟩
theorem zgB:z1l nCo (z06 z4W) ["_law_pick","_law_letters_here"] [none,some 0] (csc [(".0",.local),("_law_pick",.local),("_law_letters_here",.free)]):=⟨rfl,by decide +kernel,by decide +kernel,by decide +kernel,rfl,by decide +kernel,by decide +kernel⟩
theorem zbd (F:Fun K "_law_coming" "_law_coming" z4W f fd) (ml:mg "len"=none) (mt:mg "tuple"=none)
  (G:z0t P w K mg base CX 1 g gd ["_law_cell_here","_law_many"] (z2Z K)) (bG:z0k K gd ["_law_cell_here","_law_many"] []) (kG:PySem.W.keepIn K (.ref g)=true) (mG:mg "_law_numbers"=some (.ref g)):z0t P w K mg base CX 2 f fd ["_law_letters_here","_law_cell_here","_law_most"] (z7f K):=by
 refine F.okc zfk (fun vs H Q E h=>?_) (fun cdv A outer s H vs Q E hr h=>?_)
 ·obtain ⟨n,c,m,rfl,_⟩:=h
  rfl
 obtain ⟨n,c,m,rfl,hn2,hn5,hm1,hm2,q⟩:=h
 refine ⟨_,z03 (z0e (i:=3) zfk.nd rfl (Or.inl rfl) (z0c G hr rfl mG kG bG .nil z0H (z02 (pv 1) (z02 (z0r z1g (z0r z3t z07 (pv 2)) z07) z05))))
  (z03 (z8C (i:=4) rfl zgB (z2c (z1u z3g (pv 3) (z1o z07) (z1o (z0r z1g z07 (z0r z0V (z0Q z1f (pv 3) z07 (fun _ _=>rfl)) (z0r z1g (pv 2) z07)))))) (fun _ _ _ _ _=>z0b (i:=0) zgB.nd rfl (Or.inl rfl)) (fun _ _ _ _ _=>z0r z0V (pv 0) (pv 1)) zfk.nd rfl rfl)
  (z03 (z8C (i:=5) rfl zgB (z2c (z1u z3g (pv 3) (z1o (z0r z1g (pv 2) z07)) (z1o (z0r z1g (z0r z1g (pv 2) z07) (z0r z0V (z0Q z1f (pv 3) z07 (fun _ _=>rfl)) (pv 2)))))) (fun _ _ _ _ _=>z0b (i:=0) zgB.nd rfl (Or.inl rfl)) (fun _ _ _ _ _=>z0r z0V (pv 0) (pv 1)) zfk.nd rfl rfl)
  (z03 (PS.weak (fun D σ H1=>∃ ln ns,zhd (2*m+3) ns∧tCo n c m ln ns H D σ H1) (z1J (z1A (z2R (z0r z0V (z0r z2F (z0Q z1f (pv 3) z07 (fun _ _=>rfl)) z07) z07) z07)) (z08 (z0e (i:=5) zfk.nd rfl (Or.inl rfl) (z0r zbY (pv 5) (z0r z1g z07 (z0r z0V (z0r z2F (z0Q z1f (pv 3) z07 (fun _ _=>rfl)) z07) z07))))) z0G) ?_)
  (z03 (z1J (z1A (z2R (z0r z0V (z0r z2F (z0Q z1f (pv 3) z07 (fun _ _=>rfl)) z07) z07) z07)) (z08 (z0e (i:=4) zfk.nd rfl (Or.inl rfl) (z0r zgs (pv 4) (z1u z3g (pv 5) (z1o (z0r z2T (zdJ z90 z07) (z0r z0V (z0r z2F (z0Q z1f (pv 3) z07 (fun _ _=>rfl)) z07) (z0m z0a rfl ml PySem.boot_len (z02 (pv 5) z05))))) z35)))) z0G)
  (z08 (z0v (z1F (z02 (z0u z0p rfl mt PyProof.Rows.boot_tuple (z02 (pv 4) z05)) (z02 (z0u z0p rfl mt PyProof.Rows.boot_tuple (z02 (pv 5) z05)) z05))))))))),?_⟩
 ·intro D σ H1 h
  obtain ⟨ln,ns,hnn,⟨la,lr,as,rs,rfl,s1,en,ea,er,hne,hal,hrl,ia,ir⟩,nx⟩:=h
  have hnl:=hnn.1
  have gn:∀ k,k < 2*m+3→∃ x:Int,ns[k]?=some x∧0≤x∧x < 1009:=fun k hk=>⟨ns[k]'(by lia),List.getElem?_eq_getElem (by lia),hnn.2 _ (List.getElem_mem _)⟩
  have gi:∀ {k:Nat} {x:Int},ns[k]?=some x→atI (ns.map V.int) (k:Int)=some (V.int x):=fun e=>z0B (by rw [List.getElem?_map,e];rfl)
  obtain ⟨z0,ez0,z00,z01⟩:=gn 0 (by lia)
  obtain ⟨z1,ez1,z10,z11⟩:=gn 1 (by lia)
  refine (exA rfl ⟨ln,_,_,V.int z0,rfl,rfl,SqL.of en,gi (k:=0) ez0,exC rfl rfl ⟨⟨by decide,by decide⟩,exC rfl rfl ⟨za7,exC rfl rfl (exA rfl (z2p (fun _=>?_) (fun _=>nx _ _ ⟨la,lr,as,rs,rfl,s1,en,ea,er,hne,hal,by lia,ia,ir⟩)))⟩⟩⟩)
  obtain ⟨k,hk⟩:=z2B (x:=(1:Int)+z1 / 31 % 3) (by lia)
  refine (exA rfl (exA rfl ⟨ln,_,_,V.int z1,rfl,rfl,SqL.of en,gi (k:=1) ez1,exC rfl rfl ⟨⟨by decide,by decide⟩,exC rfl rfl ⟨za7,exC rfl rfl ⟨lr,(k:Int),exA rfl ⟨(by rw [←hk]),er,by lia,by lia,?_,fun p hp=>?_⟩⟩⟩⟩⟩))
  ·have:k≤3:=by lia
   rw [List.length_map,Int.toNat_natCast]
   refine z0L (Nat.le_trans (Nat.mul_le_mul hrl this) (by lia))
  ·have s2:=same_up (o:=HO.lst (List.replicate (k:Int).toNat (rs.map V.int)).flatten) s1 hp
   have hk3:k≤3:=by lia
   have hk1:1≤k:=by lia
   refine nx _ _ ⟨la,p,as,(List.replicate k rs).flatten,rfl,s2,(by rw [z09 (z0f en hp)];exact en),(by rw [z09 (z0f ea hp)];exact ea),(by rw [z04,Int.toNat_natCast,z9B]),fun z=>?_,hal,?_,ia,ir.rep⟩
   ·have h1:=z7g k rs
    rw [z] at h1
    have h2:0 < rs.length:=List.length_pos_iff.mpr hne
    have h3:0 < k*rs.length:=Nat.mul_pos hk1 h2
    simp at h1
    lia
   ·rw [z7g]
    exact Nat.mul_le_mul hk3 hrl
 have e23:(2:Int)*(m:Int)+3=((2*m+3:Nat):Int):=by lia
 refine (exA rfl (exA rfl (exC rfl rfl ⟨.inl ⟨by decide,by decide⟩,exC rfl rfl ⟨c,2*m+3,(by rw [←e23];rfl),by lia,fun ln H1 nn s1 en hnn=>?_⟩⟩)))
 have hnl:=hnn.1
 have gn:∀ k,k < 2*m+3→∃ x:Int,nn[k]?=some x∧0≤x∧x < 1009:=fun k hk=>⟨nn[k]'(by lia),List.getElem?_eq_getElem (by lia),hnn.2 _ (List.getElem_mem _)⟩
 have gi:∀ {k:Nat} {x:Int},nn[k]?=some x→atI (nn.map V.int) (k:Int)=some (V.int x):=fun e=>z0B (by rw [List.getElem?_map,e];rfl)
 obtain ⟨z0,ez0,z00,z01⟩:=gn 0 (by lia)
 obtain ⟨z1,ez1,z10,z11⟩:=gn 1 (by lia)
 have hz0:z0 % ((m:Int)+1) < (m:Int)+1:=Int.emod_lt_of_pos _ (by lia)
 have hz0':0≤z0 % ((m:Int)+1):=Int.emod_nonneg _ (by lia)
 have hz1:z1 % (m:Int) < (m:Int):=Int.emod_lt_of_pos _ (by lia)
 have hz1':0≤z1 % (m:Int):=Int.emod_nonneg _ (by lia)
 obtain ⟨k0,hk0⟩:=z2B (x:=(2:Int)+z0 % ((m:Int)+1)) (by lia)
 obtain ⟨k1,hk1⟩:=z2B (x:=(m:Int)+3+z1 % (m:Int)) (by lia)
 have hm2':(m:Int)+2=((m+2:Nat):Int):=by lia
 refine (exA rfl (exA rfl (exA rfl ⟨ln,_,_,V.int z0,rfl,rfl,SqL.of en,gi (k:=0) ez0,exA rfl (exC rfl rfl (exC rfl rfl ⟨by lia,exC rfl rfl (exA rfl ⟨ln,exA rfl ⟨SqL.of en,fun p hp=>?_⟩⟩)⟩))⟩)))
 have sp:=same_up (o:=HO.lst (z3S (nn.map V.int) (some 2) (some (2+z0 % ((m:Int)+1))))) (z0h.refl H1) hp
 have ep:upd H1 p (HO.lst (z3S (nn.map V.int) (some 2) (some (2+z0 % ((m:Int)+1))))) p=some (.lst ((z4C nn (some ((2:Nat):Int)) (some (k0:Int))).map V.int)):=by rw [z04,z3B,hk0];rfl
 have lcut:(z4C nn (some ((2:Nat):Int)) (some (k0:Int))).length=k0 - 2:=z71 (by lia)
 generalize upd H1 p (HO.lst (z3S (nn.map V.int) (some 2) (some (2+z0 % ((m:Int)+1)))))=H2 at sp ep
 generalize z4C nn (some ((2:Nat):Int)) (some (k0:Int))=cs at ep lcut
 have lcm:(cs.map V.int).length=cs.length:=List.length_map _
 refine ⟨p,rfl,⟨_,SqL.of ep⟩,fun la hla=>z2b (xs:=cs.map V.int) (GI n H2) (GI.nil hla) (fun i ys H3 _ h=>by obtain ⟨_,_,_,_,s3⟩:=h;exact SqL.of (s3 _ _ ep)) (by rw [lcm];exact z0L (by lia)) (fun i ys H3 h=>h.len) (fun i x ys H3 hx h hy=>?_) (fun ys H3 h hy=>?_)⟩
 ·have hi:i < cs.length:=by have:=(List.getElem?_eq_some_iff.mp hx).1;lia
  have ex:x=V.int cs[i]:=by rw [List.getElem?_map,List.getElem?_eq_getElem hi] at hx;exact (Option.some.inj hx).symm
  subst ex
  exact (exA rfl (exA rfl (exC rfl rfl ⟨by lia,hy,h.snoc hla ⟨Int.emod_nonneg _ (by lia),Int.emod_lt_of_pos _ (by lia)⟩⟩)))
 obtain ⟨as,rfl,hal,iia,s3⟩:=h
 have en3:=s3 _ _ (sp _ _ en)
 have ea3:H3 la=some (.lst (as.map V.int)):=hy
 have s13:z0h H H3:=(s1.trans sp).trans s3
 refine (exA rfl (exA rfl (exC rfl rfl (exA rfl (exA rfl (exC rfl rfl (exA rfl ⟨ln,_,_,V.int z1,rfl,rfl,SqL.of en3,gi (k:=1) ez1,exA rfl (exC rfl rfl ⟨by lia,exC rfl rfl (exA rfl ⟨ln,exA rfl ⟨SqL.of en3,fun p' hp'=>?_⟩⟩)⟩)⟩)))))))
 have sp':=same_up (o:=HO.lst (z3S (nn.map V.int) (some ((m:Int)+2)) (some ((m:Int)+3+z1 % (m:Int))))) (z0h.refl H3) hp'
 have ep':upd H3 p' (HO.lst (z3S (nn.map V.int) (some ((m:Int)+2)) (some ((m:Int)+3+z1 % (m:Int))))) p'=some (.lst ((z4C nn (some ((m+2:Nat):Int)) (some (k1:Int))).map V.int)):=by rw [z04,z3B,hk1,hm2']
 have lcut':(z4C nn (some ((m+2:Nat):Int)) (some (k1:Int))).length=k1 - (m+2):=z71 (by lia)
 generalize upd H3 p' (HO.lst (z3S (nn.map V.int) (some ((m:Int)+2)) (some ((m:Int)+3+z1 % (m:Int)))))=H4 at sp' ep'
 generalize z4C nn (some ((m+2:Nat):Int)) (some (k1:Int))=ds at ep' lcut'
 have ldm:(ds.map V.int).length=ds.length:=List.length_map _
 refine ⟨p',rfl,⟨_,SqL.of ep'⟩,fun lr hlr=>z2b (xs:=ds.map V.int) (GI n H4) (GI.nil hlr) (fun i ys H5 _ h=>by obtain ⟨_,_,_,_,s5⟩:=h;exact SqL.of (s5 _ _ ep')) (by rw [ldm];exact z0L (by lia)) (fun i ys H5 h=>h.len) (fun i x ys H5 hx h hy=>?_) (fun ys H5 h hy=>?_)⟩
 ·have hi:i < ds.length:=by have:=(List.getElem?_eq_some_iff.mp hx).1;lia
  have ex:x=V.int ds[i]:=by rw [List.getElem?_map,List.getElem?_eq_getElem hi] at hx;exact (Option.some.inj hx).symm
  subst ex
  exact (exA rfl (exA rfl (exC rfl rfl ⟨by lia,hy,h.snoc hlr ⟨Int.emod_nonneg _ (by lia),Int.emod_lt_of_pos _ (by lia)⟩⟩)))
 obtain ⟨rs,rfl,hrl,iir,s5⟩:=h
 have s35:=sp'.trans s5
 refine ⟨ln,nn,hnn,⟨la,lr,as,rs,rfl,s13.trans s35,s35 _ _ en3,s35 _ _ ea3,hy,fun z=>?_,by lia,by lia,iia,iir⟩,fun σ6 H6 h6=>?_⟩
 ·subst z
  simp at hrl
  lia
 clear s5 s35 hy iir hrl ep' lcut' sp' s13 ea3 en3 s3 iia hal ldm
 obtain ⟨la,lr,as,rs,rfl,s6,en6,ea6,er6,hne,hal,hrl,iia,iir⟩:=h6
 have fin:∀ (H7:Hp) (la:Addr) (as:List Int),z0h H H7→H7 la=some (.lst (as.map V.int))→H7 lr=some (.lst (rs.map V.int))→as.length≤4*m→InN n as→zhL (zhJ (z8u (tCB (fun xs H Q=>∃ p ys,xs=[.ref p]∧((SqL K H p ys∧∀ l,H l=none→Q (.ref l) (upd H l (.tup ys)))∨(SqT K H p ys∧Q (.ref p) H))) (z8u (zgx 4) zfU)) (z8u (tCB (fun xs H Q=>∃ p ys,xs=[.ref p]∧((SqL K H p ys∧∀ l,H l=none→Q (.ref l) (upd H l (.tup ys)))∨(SqT K H p ys∧Q (.ref p) H))) (z8u (zgx 5) zfU)) zfU))) { nx:=fun _ H'=>Q .non H',rt:=Q } [some (.int n),some (.int c),some (.int m),some (.ref ln),some (.ref la),some (.ref lr)] H7:=by
  intro H7 la as s7 ea7 er7 hal7 ia7
  refine (exA rfl ⟨la,exA rfl (.inl ⟨SqL.of ea7,fun t1 ht1=>?_⟩)⟩)
  have q1:=same_up (o:=HO.tup (as.map V.int)) (z0h.refl H7) ht1
  have f1:upd H7 t1 (HO.tup (as.map V.int)) t1=some (.tup (as.map V.int)):=z04
  generalize upd H7 t1 (HO.tup (as.map V.int))=H8 at q1 f1
  refine (exA rfl ⟨lr,exA rfl (.inl ⟨SqL.of (q1 _ _ er7),fun t2 ht2=>⟨by show 2≤sizeLine;decide,fun t3 ht3=>?_⟩⟩)⟩)
  have q2:=same_up (o:=HO.tup (rs.map V.int)) (z0h.refl H8) ht2
  have f2:upd H8 t2 (HO.tup (rs.map V.int)) t2=some (.tup (rs.map V.int)):=z04
  generalize upd H8 t2 (HO.tup (rs.map V.int))=H9 at q2 f2 ht3
  have q3:=same_up (o:=HO.tup [V.ref t1,V.ref t2]) (z0h.refl H9) ht3
  exact q _ _ (as,rs) (((s7.trans q1).trans q2).trans q3) (z2K (r:=(as,rs)) z04 (q3 _ _ (q2 _ _ f1)) (q3 _ _ f2)) hne hal7 hrl ia7 iir
 have hrp:0 < rs.length:=List.length_pos_iff.mpr hne
 have lrm:(rs.map V.int).length=rs.length:=List.length_map _
 refine (exA rfl ⟨ln,_,_,V.int z0,rfl,rfl,SqL.of en6,gi (k:=0) ez0,exC rfl rfl ⟨⟨by decide,by decide⟩,exC rfl rfl ⟨za7,exC rfl rfl (exA rfl (z2p (fun _=>?_) (fun _=>fin H6 la as s6 ea6 er6 (by lia) iia)))⟩⟩⟩)
 refine (exA rfl (exA rfl (exA rfl (exA rfl ⟨ln,_,_,V.int z1,rfl,rfl,SqL.of en6,gi (k:=1) ez1,exC rfl rfl ⟨⟨by decide,by decide⟩,exA rfl (exG lr rfl (.inl (SqL.of er6)) (exC rfl rfl ⟨by rw [lrm];lia,exC rfl rfl (exA rfl ⟨lr,exA rfl ⟨SqL.of er6,fun p hp=>?_⟩⟩)⟩))⟩⟩))))
 generalize (-1:Int) - z1 / 93 % (((rs.map V.int).length:Nat):Int)=lo
 have q1:=same_up (o:=HO.lst (z3S (rs.map V.int) (some lo) none)) (z0h.refl H6) hp
 have f1:upd H6 p (HO.lst (z3S (rs.map V.int) (some lo) none)) p=some (.lst ((z4C rs (some lo) none).map V.int)):=by rw [z04,z3B]
 have hcl:(z4C rs (some lo) none).length≤rs.length:=by
  unfold z4C
  rw [List.length_take,List.length_drop]
  lia
 generalize upd H6 p (HO.lst (z3S (rs.map V.int) (some lo) none))=H7 at q1 f1
 have hic:InN n (z4C rs (some lo) none):=iir.cut
 generalize z4C rs (some lo) none=ts at f1 hcl hic
 refine ⟨la,p,as.map V.int,ts.map V.int,rfl,rfl,q1 _ _ ea6,f1,(by rw [List.length_map,List.length_map];exact z0L (by lia)),fun p2 hp2=>?_⟩
 have q2:=same_up (o:=HO.lst (as.map V.int++ts.map V.int)) (z0h.refl H7) hp2
 have f2:upd H7 p2 (HO.lst (as.map V.int++ts.map V.int)) p2=some (.lst ((as++ts).map V.int)):=by rw [z04,List.map_append]
 generalize upd H7 p2 (HO.lst (as.map V.int++ts.map V.int))=H8 at q2 f2
 exact fin H8 p2 (as++ts) ((s6.trans q1).trans q2) f2 (q2 _ _ (q1 _ _ er6)) (by rw [List.length_append];lia) (iia.app hic)
abbrev zeV:List Str:=["letters","endless","beginning","ring"]
theorem z6B:z0n zeV ["letters","endless"] (z06 z4x):=⟨rfl,rfl,rfl,by decide +kernel,rfl,by decide +kernel,by decide +kernel⟩
theorem zac {Ct:Addr} (F:Fun K "check_endless" "check_endless" z4x f fd) {aR aW:Addr} {dR dW:FuncData}
  (R:z0t P w K mg base (CXx P w) 1 aR dR ["ring"] (z8Z K Ct)) (bR:z0k K dR ["ring"] []) (kR:PySem.W.keepIn K (.ref aR)=true) (mR:mg "check_ring"=some (.ref aR))
  (W:z0t P w K mg base (CXx P w) 1 aW dW ["letters","word"] (z3D K Ct)) (bW:z0k K dW ["letters","word"] []) (kW:PySem.W.keepIn K (.ref aW)=true) (mW:mg "check_word"=some (.ref aW)):z0t P w K mg base (CXx P w) 2 f fd ["letters","endless"] (z5v K Ct):=by
 refine F.okx z6B (fun vs H Q E h=>?_) (fun cdv A outer s H vs Q E hr h=>?_)
 ·obtain ⟨n,u,e,rfl,_⟩:=h
  rfl
 obtain ⟨n,u,e,rfl,de,h1,h2,q,gx⟩:=h
 refine ⟨_,z03 (z2m (pv 1) (z1R rfl (z0l (z0b (i:=2) z6B.nd rfl (Or.inl rfl)) (z0l (z0b (i:=3) z6B.nd rfl (Or.inl rfl)) z17))))
  (z03 (z0X (z0c R hr rfl mR kR bR .nil (z3i fun _ _ _ z=>z) (z02 (pv 3) z05)))
  (z03 (z0X (z0c W hr rfl mW kW bW .nil (z3i fun _ _ _ z=>z) (z02 (pv 0) (z02 (pv 2) z05))))
  (z08 (z0X (z0c W hr rfl mW kW bW .nil (z3i fun _ _ _ z=>z) (z02 (pv 0) (z02 (pv 3) z05))))))),?_⟩
 obtain ⟨t,b,c,rfl,et,eb,ec⟩:=z0U de
 refine (exA rfl (exF t rfl (SqT.of et) rfl (exB rfl (exC rfl rfl ?_))))
 refine (exA rfl ⟨.ref c,e.2,rfl,z3c ec,fun hne=>?_,fun z ea H' s'=>gx (fun g=>g.1 z) ea H' s'⟩)
 refine (exA rfl (exA rfl ⟨n,.ref b,e.1,rfl,z3c eb,by lia,fun l1 H1 s1=>?_,fun z ea H' s'=>gx (fun g=>z g.2.1) ea H' s'⟩))
 exact (exA rfl (exA rfl ⟨n,.ref c,e.2,rfl,z3c (s1 _ _ ec),by lia,fun l2 H2 s2=>q ⟨hne,l1,l2⟩ H2 (s1.trans s2),fun z ea H' s'=>gx (fun g=>z g.2.2) ea H' (s1.trans s')⟩))
theorem zdC:z0n ["laps"] ["laps"] (z06 z4S):=⟨rfl,rfl,rfl,by decide +kernel,rfl,by decide +kernel,by decide +kernel⟩
theorem z7k:z1l ["laps"] (z06 z4S) ["lap","letter"] [none,none] (csc [(".0",.local),("lap",.local),("letter",.local)]):=⟨rfl,by decide +kernel,by decide +kernel,by decide +kernel,rfl,by decide +kernel,by decide +kernel⟩
theorem zcd {ls:List (List Int)} {i:Nat} {x:List Int} (h:ls[i]?=some x):(ls.take (i+1)).flatten=(ls.take i).flatten++x:=by
 rw [List.take_add_one,h,List.flatten_append]
 simp
theorem zeB {ls:List (List Int)} (i:Nat):(ls.take i).flatten.length≤ls.flatten.length:=by
 have:ls.flatten=(ls.take i).flatten++(ls.drop i).flatten:=by rw [←List.flatten_append,List.take_append_drop]
 rw [this,List.length_append]
 lia
theorem zbZ (F:Fun K "strung" "strung" z4S f fd) (mt:mg "tuple"=none):z0t P w K mg base CX 1 f fd ["laps"] (z4M K):=by
 refine F.okc zdC (fun vs H Q E h=>?_) (fun cdv A outer s H vs Q E hr h=>?_)
 ·obtain ⟨a,us,ls,rfl,_⟩:=h
  rfl
 obtain ⟨a,us,ls,rfl,ea,dus,hl,q⟩:=h
 refine ⟨_,z08 (z0v (z0u z0p rfl mt PyProof.Rows.boot_tuple (z02 (zds rfl z7k (z2c (pv 0)) (fun _ _ _ _ _=>z0b (i:=0) z7k.nd rfl (Or.inl rfl)) (fun _ _ _ _ _=>(piT K rfl (pv 0))) (fun _ _ _ _ _=>(z0b (i:=1) z7k.nd rfl (Or.inl rfl))) (fun _ _ _ _ _=>pv 1)) z05))),?_⟩
 have hul:us.length=ls.length:=by have:=dus.length;rw [List.length_map] at this;lia
 refine (exA rfl ⟨a,rfl,⟨_,SqL.of ea⟩,fun l hlz=>zag (xs:=us) (fun i ys H2=>ys=(ls.take i).flatten.map V.int∧z0h H H2) ⟨rfl,same_up (z0h.refl H) hlz⟩ (fun i ys H2 _ h=>SqL.of (h.2 _ _ ea)) (fun i x ys H2 hx h hy=>?_) (fun ys H2 h hy=>?_)⟩)
 ·obtain ⟨rfl,s2⟩:=h
  have hil:i < us.length:=(List.getElem?_eq_some_iff.mp hx).1
  have ew:ls[i]?=some ls[i]:=List.getElem?_eq_getElem (by lia)
  obtain ⟨x',ex,dx⟩:=dus.get (show (ls.map D.its)[i]?=some (D.its ls[i]) by rw [List.getElem?_map,ew];rfl)
  rw [hx] at ex
  cases ex
  generalize ls[i]=wi at *
  obtain ⟨ax,rfl,eax⟩:=its_inv dx
  have hft:=zcd ew
  have hle:=zeB (ls:=ls) (i+1)
  rw [hft,List.length_append] at hle
  refine (exA rfl ⟨ax,rfl,⟨_,SqT.of (s2 _ _ eax)⟩,hy,zfA (xs:=wi.map V.int) (fun j zs σ H3=>zs=((ls.take i).flatten++wi.take j).map V.int∧z0h H H3∧∃ u:Option V,σ=[some (.ref ax),u]) ⟨by rw [List.take_zero,List.append_nil],s2,_,rfl⟩ (fun j zs σ H3 _ h=>SqT.of (h.2.1 _ _ eax)) (fun j zs σ H3 hj h=>?_) (fun j y zs σ H3 hy3 h hz=>?_) (fun zs σ H3 h hz=>?_)⟩)
  ·rw [h.1,List.length_map,List.length_append,List.length_take]
   exact Nat.lt_of_le_of_lt (show _≤40000 by lia) (zgp (by lia))
  ·obtain ⟨rfl,s3,u,rfl⟩:=h
   have hjl:j < wi.length:=by have:=(List.getElem?_eq_some_iff.mp hy3).1;rwa [List.length_map] at this
   have ej:wi[j]?=some wi[j]:=List.getElem?_eq_getElem hjl
   have ey:y=.int wi[j]:=by rw [List.getElem?_map,ej] at hy3;exact (Option.some.inj hy3).symm
   subst ey
   refine (exA rfl ⟨hz,?_,z0g s3 hlz,_,rfl⟩)
   rw [List.take_add_one,ej,←List.append_assoc,List.map_append (l₁:=(ls.take i).flatten++wi.take j)]
   rfl
  ·obtain ⟨rfl,s3,_⟩:=h
   rw [List.length_map,List.take_length] at hz ⊢
   exact ⟨by rw [hft],s3⟩
 ·obtain ⟨rfl,s2⟩:=h
  rw [hul,List.take_length] at hy
  exact ⟨l,exA rfl (.inl ⟨SqL.of hy,fun t ht=>q t _ (same_up s2 ht) z04⟩)⟩
abbrev zfI:List Str:=["guise","endless","beginning","ring","made","at","laps","laps_ahead","lap","first"]
theorem z2q:z0n zfI ["guise","endless"] (z06 z9q):=⟨rfl,rfl,rfl,by decide +kernel,rfl,by decide +kernel,by decide +kernel⟩
theorem zbE {Ct:Addr} (F:Fun K "worn_endless" "worn_endless" z9q f fd) (ml:mg "len"=none) {aC aB aF aP aS:Addr} {dC dB dF dP dS:FuncData}
  (C:z0t P w K mg base (CXx P w) 2 aC dC ["letters","endless"] (z5v K Ct)) (bC:z0k K dC ["letters","endless"] []) (kC:PySem.W.keepIn K (.ref aC)=true) (mC:mg "check_endless"=some (.ref aC))
  (B:z0t P w K mg base (CXx P w) 2 aB dB ["guise"] (z1U K)) (bB:z0k K dB ["guise"] []) (kB:PySem.W.keepIn K (.ref aB)=true) (mB:mg "breadth"=some (.ref aB))
  (R:z0t P w K mg base (CXx P w) 2 aF dF ["guise","row","word"] (z6Y K)) (bF:z0k K dF ["guise","row","word"] []) (kF:PySem.W.keepIn K (.ref aF)=true) (mF:mg "read_from"=some (.ref aF))
  (Pw:z0t P w K mg base (CXx P w) 2 aP dP ["beginning","ring"] (z3K K Ct)) (bP:z0k K dP ["beginning","ring"] []) (kP:PySem.W.keepIn K (.ref aP)=true) (mP:mg "plain_word"=some (.ref aP))
  (S:z0t P w K mg base (CXx P w) 2 aS dS ["laps"] (z4M K)) (bS:z0k K dS ["laps"] []) (kS:PySem.W.keepIn K (.ref aS)=true) (mS:mg "strung"=some (.ref aS)):z0t P w K mg base (CXx P w) 3 f fd ["guise","endless"] (z7h K Ct):=by
 refine F.okx z2q (fun vs H Q E h=>?_) (fun cdv A outer s H vs Q E hr h=>?_)
 ·obtain ⟨v,u,one,e,n,rfl,_⟩:=h
  rfl
 obtain ⟨v,u,one,e,n,rfl,dv,du,G,hn,he1,he2,h1000,qg,gx⟩:=h
 have hu:=zbe hr
 refine ⟨_,z03 (z0X (z0c C hr rfl mC kC bC .nil (z3i fun _ _ _ z=>z) (z02 (z0c B hr rfl mB kB bB .nil z0H (z02 (pv 0) z05)) (z02 (pv 1) z05))))
  (z03 (z2m (pv 1) (z1R rfl (z0l (z0b (i:=2) z2q.nd rfl (Or.inl rfl)) (z0l (z0b (i:=3) z2q.nd rfl (Or.inl rfl)) z17))))
  (z03 (z2m (z0c R hr rfl mF kF bF .nil z0H (z02 (pv 0) (z02 z07 (z02 (pv 2) z05)))) (z1R rfl (z0l (z0b (i:=4) z2q.nd rfl (Or.inl rfl)) (z0l (z0b (i:=5) z2q.nd rfl (Or.inl rfl)) z17))))
  (z03 (z0e (i:=6) z2q.nd rfl (Or.inl rfl) (z2h z05))
  (z03 (z0e (i:=7) z2q.nd rfl (Or.inl rfl) z6U)
  (z03 (z1D PassesOwn.leaving (z1A (z3Q hu (pv 5) (pv 7)))
   (z03 (z50 hu (pv 7) (pv 5) (z0m z0a rfl ml PySem.boot_len (z02 (pv 6) z05)) rfl)
   (z03 (z2m (z0c R hr rfl mF kF bF .nil z0H (z02 (pv 0) (z02 (pv 5) (z02 (pv 3) z05)))) (z1R rfl (z0l (z0b (i:=8) z2q.nd rfl (Or.inl rfl)) (z0l (z0b (i:=5) z2q.nd rfl (Or.inl rfl)) z17))))
   (z08 (z0X (z3N PySem.F.plainAttrs_list PySem.F.slot_list_append PySem.F.type_list_append z0P (pv 6) (z02 (pv 8) z05)))))))
  (z03 (z0e (i:=9) z2q.nd rfl (Or.inl rfl) (z30 hu (pv 7) (pv 5) (fun _ _=>rfl)))
  (z08 (z0v (z0c Pw hr rfl mP kP bP .nil z0H (z02 (z0r zcg (pv 4) (z0c S hr rfl mS kS bS .nil z0H (z02 (z1u z3g (pv 6) z35 (z1o (pv 9))) z05))) (z02 (z0c S hr rfl mS kS bS .nil z0H (z02 (z1u z3g (pv 6) (z1o (pv 9)) z35) z05)) z05))))))))))),?_⟩
 have h1:=G.some
 obtain ⟨r0,rt,er⟩:∃ r0 rt,one=r0::rt:=by
  cases one with
  | nil=>simp at h1
  | cons r0 rt=>exact ⟨r0,rt,rfl⟩
 have hp0:=G.perm r0 (by rw [er];simp)
 have hl0:=hp0.len
 obtain ⟨tE,bE,cE,rfl,etE,ebE,ecE⟩:=z0U du
 refine (exA rfl ⟨v,r0,z0s rt,rfl,(by rw [er] at dv;exact dv),by lia,fun H1 s1=>(exA rfl ⟨n,.ref tE,e,(by rw [hl0];rfl),du.mono s1,he1,he2,fun hg H2 s2=>?_,fun hb ea H2 s2=>gx hb ea H2 (s1.trans s2)⟩)⟩)
 obtain ⟨hne,l1,l2⟩:=id hg
 have q:=qg hg
 have hL:0 < e.2.length:=List.length_pos_iff.mpr hne
 have s02:=s1.trans s2
 refine (exA rfl (exF tE rfl (SqT.of (s02 _ _ etE)) rfl (exB rfl (exC rfl rfl ?_))))
 refine (exA rfl (exA rfl ⟨v,.ref bE,one,n,e.1,0,rfl,dv.mono s02,z3c (s02 _ _ ebE),G,hn,by lia,l1,Int.le_refl 0,by lia,fun r3 t3 H3 s3 er3 et3=>?_⟩))
 refine (exF r3 rfl (SqT.of er3) rfl (exB rfl (exC rfl rfl ?_)))
 have s03:=s02.trans s3
 refine ⟨by show 0≤sizeLine;decide,fun ll hll=>?_⟩
 have s4:=same_up (o:=HO.lst []) (z0h.refl H3) hll
 have ell:upd H3 ll (.lst []) ll=some (.lst []):=z04
 have hll0:H ll=none:=s03.free hll
 generalize upd H3 ll (.lst [])=H4 at s4 ell
 refine fun ld hld=>?_
 have nld:ll≠ld:=z0f ell hld
 have s5:=same_up (o:=HO.dK []) (z0h.refl H4) hld
 have eld:upd H4 ld (.dK []) ld=some (.dK []):=z04
 have hld0:H ld=none:=(s03.trans s4).free hld
 replace ell:=s5 _ _ ell
 have s05:=s03.trans (s4.trans s5)
 replace et3:=(s4.trans s5) _ _ et3
 generalize upd H4 ld (.dK [])=H5 at s05 ell eld et3
 clear s1 s2 s3 s4 s5 s02 s03
 refine ⟨fun m σ H6=>∃ (t:Nat) (u8:Option V) (us:List V),m=one.length+1 - t∧σ=[some v,some (.ref tE),some (.ref bE),some (.ref cE),some (.ref t3),some (.int (z3Y one e t)),some (.ref ll),some (.ref ld),u8,none]∧z0h H H6∧H6 t3=some (.tup ((z1j one 0 e.1).map V.int))∧H6 ll=some (.lst us)∧DrL K H6 ((z2f one e t).map D.its) us∧H6 ld=some (.dK (prs kI (z7l one e t)))∧(z7l one e t).Nodup,
  ⟨_,0,none,[],rfl,rfl,s05,et3,ell,DrL.nil,eld,List.nodup_nil⟩,?_⟩
 rintro m σ H6 ⟨t,u8,us,rfl,rfl,t6,e6,el,dl,ed,nd⟩
 have ht:t≤one.length:=by
  have:=z3O nd (fun x hx=>by
   obtain ⟨j,_,rfl⟩:=List.mem_map.mp hx
   exact z6p G l1 l2 j)
  rw [z4o] at this
  exact this
 have hul:us.length=t:=by have:=dl.length;rw [List.length_map,zdl] at this;lia
 obtain ⟨a0,a1⟩:=z6p G l1 l2 t
 have h4000:=G.few
 refine (exA rfl (exA rfl ⟨ld,exA rfl ⟨z5A.k (k:=kI (z3Y one e t)) ed,exA rfl ?_⟩⟩))
 have hv:=z1X (κ:=Key) kI zec (z7l one e t) (z3Y one e t)
 by_cases hm:z3Y one e t∈z7l one e t
 ·rw [hv,if_pos hm]
  refine z7m ?_
  rw [if_pos hm] at hv
  obtain ⟨first,hf⟩:∃ first,first=(z7l one e t).idxOf (z3Y one e t):=⟨_,rfl⟩
  have hfl:first < t:=by rw [hf];have:=List.idxOf_lt_length_of_mem hm;rwa [z4o] at this
  have hfa:z3Y one e t=z3Y one e first:=by
   have h':(z7l one e t)[first]?=some (z3Y one e t):=by rw [hf,List.getElem?_eq_getElem (List.idxOf_lt_length_of_mem hm),List.getElem_idxOf]
   unfold z7l at h'
   rw [List.getElem?_map,List.getElem?_range hfl] at h'
   exact (Option.some.inj h').symm
  have hlat:=z9I one hne hfl hfa
  rw [←hf] at hv
  have hmk:t*e.2.length≤one.length*e.2.length:=Nat.mul_le_mul_right _ ht
  have hmf:first*e.2.length≤t*e.2.length:=Nat.mul_le_mul_right _ (Nat.le_of_lt hfl)
  have lt1:((z2f one e t).take first).flatten.length=first*e.2.length:=by
   have:(z2f one e t).take first=z2f one e first:=by
    unfold z2f
    rw [←List.map_take,List.take_range,Nat.min_eq_left (Nat.le_of_lt hfl)]
   rw [this,z2d]
  have lt2:((z2f one e t).drop first).flatten.length≤t*e.2.length:=by
   have h':((z2f one e t).take first).flatten.length+((z2f one e t).drop first).flatten.length=t*e.2.length:=by
    rw [←List.length_append,←List.flatten_append,List.take_append_drop,z2d]
   lia
  have hrne:((z2f one e t).drop first).flatten≠[]:=fun z=>by
   have h':((z2f one e t).take first).flatten.length+((z2f one e t).drop first).flatten.length=t*e.2.length:=by
    rw [←List.length_append,←List.flatten_append,List.take_append_drop,z2d]
   rw [z,lt1,List.length_nil,Nat.add_zero] at h'
   have:=Nat.eq_of_mul_eq_mul_right hL h'
   lia
  refine (exA rfl (exA rfl ⟨ld,exA rfl ⟨(by rw [←hv];exact z5A.k (k:=kI (z3Y one e t)) ed),?_⟩⟩))
  refine (exA rfl (exA rfl (exA rfl (exA rfl ⟨ll,exA rfl ⟨SqL.of el,fun p1 hp1=>?_⟩⟩))))
  rw [zeE us first (by lia)]
  have s7:=same_up (o:=HO.lst (us.take first)) (z0h.refl H6) hp1
  have e7:upd H6 p1 (.lst (us.take first)) p1=some (.lst (us.take first)):=z04
  generalize upd H6 p1 (.lst (us.take first))=H7 at s7 e7
  have d7:DrL K H7 (((z2f one e t).take first).map D.its) (us.take first):=by rw [List.map_take];exact z9y first (dl.mono s7)
  refine ⟨p1,exB rfl ⟨e7,d7,by lia,fun t8 H8 s8 e8=>⟨t3,t8,exC rfl rfl ⟨s8 _ _ (s7 _ _ e6),e8,?_,fun p9 H9 s9 e9=>?_⟩⟩⟩⟩
  ·rw [List.length_map,List.length_map,z1h,lt1]
   exact z6L (by lia)
  rw [←List.map_append] at e9
  have s79:=s7.trans (s8.trans s9)
  refine (exA rfl (exA rfl (exA rfl ⟨ll,exA rfl ⟨SqL.of (s79 _ _ el),fun p2 hp2=>?_⟩⟩)))
  rw [zaB us first (by lia)]
  have s10:=same_up (o:=HO.lst (us.drop first)) (z0h.refl H9) hp2
  have e10:upd H9 p2 (.lst (us.drop first)) p2=some (.lst (us.drop first)):=z04
  generalize upd H9 p2 (.lst (us.drop first))=H10 at s10 e10
  have d10:DrL K H10 (((z2f one e t).drop first).map D.its) (us.drop first):=by rw [List.map_drop];exact z9w first (dl.mono (s79.trans s10))
  refine ⟨p2,exB rfl ⟨e10,d10,by lia,fun t11 H11 s11 e11=>?_⟩⟩
  refine ⟨.ref p9,.ref t11,exB rfl ⟨z3c ((s10.trans s11) _ _ e9),z3c e11,?_,by lia,fun _ x H12 E s12 dE pE latE le1 le2=>?_,fun z=>absurd z hrne⟩⟩
  ·rw [List.length_append,z1h,lt1];lia
  ·rw [List.length_append,z1h,lt1] at le1
   exact q x H12 E (t6.trans (s79.trans (s10.trans (s11.trans s12)))) dE pE (fun i=>(latE i).trans (hlat i)) (by lia) (by lia)
 ·rw [hv,if_neg hm]
  refine zcs ?_
  refine ze5 fun N nx2=>?_
  refine (exA rfl (exG ll rfl (.inl (SqL.of el)) (exA rfl (exA rfl ⟨ld,exA rfl ⟨zdo.k (k:=kI (z3Y one e t)) ed (by rw [z1M,z4o];exact z1Q (by lia)),?_⟩⟩))))
  have e7l:upd H6 ld (.dK (z2P (prs kI (z7l one e t)) (kI (z3Y one e t)) (V.int (us.length:Nat)))) ll=some (.lst us):=by rw [z09 nld];exact el
  have k7:z19 H6 (upd H6 ld (.dK (z2P (prs kI (z7l one e t)) (kI (z3Y one e t)) (V.int (us.length:Nat))))):=z19.up (z19.refl _) ed (fun _ z=>by cases z)
  have e7d:upd H6 ld (.dK (z2P (prs kI (z7l one e t)) (kI (z3Y one e t)) (V.int (us.length:Nat)))) ld=some (.dK (prs kI (z7l one e (t+1)))):=by
   rw [z04,hul,z7N,←z47 kI zec hm,z4o]
  have t7:=z0g (o:=HO.dK (z2P (prs kI (z7l one e t)) (kI (z3Y one e t)) (V.int (us.length:Nat)))) t6 hld0
  generalize upd H6 ld (.dK (z2P (prs kI (z7l one e t)) (kI (z3Y one e t)) (V.int (us.length:Nat))))=H7 at *
  refine (exA rfl (exA rfl (exA rfl ⟨v,.ref cE,one,n,e.2,z3Y one e t,rfl,dv.mono t7,z3c (t7 _ _ ecE),G,hn,by lia,l2,a0,a1,fun r8 t8 H8 s8 er8 et8=>?_⟩)))
  refine (exF r8 rfl (SqT.of er8) rfl (exB rfl (exC rfl rfl ?_)))
  have e8l:=s8 _ _ e7l
  refine (exA rfl ⟨.inl ⟨rfl,_,SqL.of e8l⟩,exA rfl ⟨ll,exC rfl rfl ⟨e8l,by rw [hul];exact z1Q (by lia),?_⟩⟩⟩)
  have k9:z19 H8 (upd H8 ll (.lst (us++[.ref t8]))):=z19.up (z19.refl _) e8l (fun _ z=>by cases z)
  refine nx2 (one.length+1 - (t+1)) _ _ (by lia) ⟨t+1,_,us++[.ref t8],rfl,rfl,z0g (t7.trans s8) hll0,k9 _ _ (s8 _ _ (k7 _ _ e6)),z04,?_,?_,?_⟩
  ·rw [z5j,List.map_append]
   exact DrL.append (((dl.keyed k7 (z6G _)).mono s8).keyed k9 (z6G _)) (DrL.one (z3c (k9 _ _ et8)))
  ·rw [z09 nld.symm];exact s8 _ _ e7d
  ·rw [z7N]
   exact List.nodup_append.mpr ⟨nd,by simp,fun x hx y hy z=>hm (by rw [←(show y=z3Y one e t by simpa using hy),←z];exact hx)⟩
abbrev nOF:List Str:=["letters","many","count","place"]
theorem zgy:z0n nOF ["letters","many"] (z06 z4A):=⟨rfl,rfl,rfl,by decide +kernel,rfl,by decide +kernel,by decide +kernel⟩
theorem zad {Ct Cb:Addr} {bmB bmB2:List Value} {B newId initId B2 newId2 initId2:String} {tm:Tok} (mC:mg "BadCount"=some (.ref Cb)) (xC:PySem.W.excIn K Cb bmB newId=true) (hB:ExcBaseFacts B newId initId bmB) (mC2:mg "TooMany"=some (.ref Ct)) (xC2:PySem.W.excIn K Ct bmB2 newId2=true) (hB2:ExcBaseFacts B2 newId2 initId2 bmB2) (m_MOST_WORDS:mg "MOST_WORDS"=some (.int 1024 tm)) (mr:mg "range"=none) (F:Fun K "words_on_floor" "words_on_floor" z4A f fd):z0t P w K mg base (CXx P w) 1 f fd ["letters","many"] (z3U K Ct Cb):=by
 refine F.okx zgy (fun vs H Q E h=>?_) (fun cdv A outer s H vs Q E hr h=>?_)
 ·obtain ⟨n,many,rfl,_⟩:=h
  rfl
 obtain ⟨n,many,rfl,n2,n5,hm,gb,gx,gv⟩:=h
 refine ⟨_,z03 (z1J (z0W z5o (pv 1) z07 (z1d _)) (z08 (z2N mC rfl xC hB z5g)) z0G)
  (z03 (z0e (i:=2) zgy.nd rfl (Or.inl rfl) z07)
  (z03 (z20 PassesOwn.leaving rfl (z28 rfl mr (z02 (pv 1) z05)) (z0b (i:=3) zgy.nd rfl (Or.inl rfl))
   (z03 (z0e (i:=2) zgy.nd rfl (Or.inl rfl) (z0r z3t (pv 2) (pv 0)))
   (z08 (z1J (z0W zcR (pv 2) (z4F (v:=.int 1024) rfl m_MOST_WORDS ⟨_,rfl⟩) (z1d _)) (z08 (z2N mC2 rfl xC2 hB2 z5g)) z0G))))
  (z08 (z0v (pv 2))))),?_⟩
 refine (exA rfl (exC rfl rfl (exA rfl (z2p (fun c=>?_) (fun c=>?_)))))
 ·exact fun ea=>gb (of_decide_eq_true c) ea H (z0h.refl _)
 have c':=of_decide_eq_false (Bool.eq_false_iff.mpr c)
 obtain ⟨m,rfl⟩:=z2B (x:=many) (by lia)
 rw [Int.toNat_natCast] at gx gv
 refine (exA rfl ⟨(m:Int),rfl,by lia,by lia,z4J (n:=(m:Int).toNat) (fun i σ H3=>∃ (u3:Option V),σ=[some (.int n),some (.int m),some (.int ((n ^ i:Nat):Int)),u3]∧H3=H∧n ^ i≤1024) (exA rfl ⟨rfl,by simp⟩) (fun i σ H3 hi h=>?_) (fun σ H3 h=>?_)⟩)
 ·obtain ⟨u3,rfl,rfl,h4⟩:=h
  refine (exA rfl (exA rfl (exC rfl rfl ⟨Or.inr ⟨by lia,by lia⟩,?_⟩)))
  have ep:((n ^ i:Nat):Int)*(n:Int)=((n ^ (i+1):Nat):Int):=by rw [Nat.pow_succ,Int.natCast_mul]
  refine (exA rfl (exC rfl rfl (exA rfl (z2p (fun c2=>?_) (fun c2=>?_)))))
  ·have c2':=of_decide_eq_true c2
   rw [ep] at c2'
   have him:i+1≤m:=by lia
   have:=Nat.pow_le_pow_right (show 1≤n by lia) him
   exact fun ea=>gx (by lia) (by lia) ea _ (z0h.refl _)
  ·have c2':=of_decide_eq_false (Bool.eq_false_iff.mpr c2)
   rw [ep] at c2'
   refine ⟨some (V.int (0+(i:Int))),?_,rfl,by lia⟩
   show [some (V.int n),some (V.int m),some (V.int (((n ^ i:Nat):Int)*(n:Int))),some (V.int (0+(i:Int)))]=_
   rw [ep]
 ·obtain ⟨u3,rfl,rfl,h4⟩:=h
  rw [Int.toNat_natCast] at *
  exact (exA rfl (gv (by lia) h4))
abbrev nRs:List Str:=["guise","word","letters","made","count"]
theorem zfn:z0n nRs ["guise","word"] (z06 z6I):=⟨rfl,rfl,rfl,by decide +kernel,rfl,by decide +kernel,by decide +kernel⟩
theorem zbS {Cw Ct Cb aR aCk aO aW:Addr} {dR dCk dO dW:FuncData} (ml:mg "len"=none) (F:Fun K "rounds" "rounds" z6I f fd)
  (R:z0t P w K mg base (CXx P w) 2 aR dR ["guise"] (z1U K)) (bR:z0k K dR ["guise"] []) (kR:PySem.W.keepIn K (.ref aR)=true) (mR:mg "breadth"=some (.ref aR))
  (Ck:z0t P w K mg base (CXx P w) 2 aCk dCk ["letters","word"] (z3D K Cw)) (bCk:z0k K dCk ["letters","word"] []) (kCk:PySem.W.keepIn K (.ref aCk)=true) (mCk:mg "check_word"=some (.ref aCk))
  (O:z0t P w K mg base (CXx P w) 2 aO dO ["letters","many"] (z3U K Ct Cb)) (bO:z0k K dO ["letters","many"] []) (kO:PySem.W.keepIn K (.ref aO)=true) (mO:mg "words_on_floor"=some (.ref aO))
  (W:z0t P w K mg base (CXx P w) 2 aW dW ["guise","word"] (zbJ K Cw)) (bW:z0k K dW ["guise","word"] []) (kW:PySem.W.keepIn K (.ref aW)=true) (mW:mg "worn"=some (.ref aW)):z0t P w K mg base (CXx P w) 3 f fd ["guise","word"] (z4p K Cw Ct):=by
 refine F.okx zfn (fun vs H Q E h=>?_) (fun cdv A outer s H vs Q E hr h=>?_)
 ·obtain ⟨v,u,one,n,wd,rfl,_⟩:=h
  rfl
 obtain ⟨v,u,one,n,wd,rfl,dv,dw,GM,n2,n5,h5,gv,gx,gw⟩:=h
 refine ⟨_,z03 (z0e (i:=2) zfn.nd rfl (Or.inl rfl) (z0c R hr rfl mR kR bR .nil z0H (z02 (pv 0) z05)))
  (z03 (z0X (z0c Ck hr rfl mCk kCk bCk .nil (z3i fun _ _ _ z=>z) (z02 (pv 2) (z02 (pv 1) z05))))
  (z03 (z0X (z0c O hr rfl mO kO bO .nil (z3i fun _ _ _ z=>z) (z02 (pv 2) (z02 (z0m z0a rfl ml PySem.boot_len (z02 (pv 1) z05)) z05))))
  (z03 (z0e (i:=3) zfn.nd rfl (Or.inl rfl) (z0c W hr rfl mW kW bW .nil z0H (z02 (pv 0) (z02 (pv 1) z05))))
  (z03 (z0e (i:=4) zfn.nd rfl (Or.inl rfl) z07)
  (z03 (z1D PassesOwn.leaving (z0W (zee hr.units0) (pv 3) (pv 1) (z1d _))
   (z03 (z0e (i:=3) zfn.nd rfl (Or.inl rfl) (z0c W hr rfl mW kW bW .nil z0H (z02 (pv 0) (z02 (pv 3) z05))))
   (z08 (z9z (i:=4) zfn.nd rfl (Or.inl rfl) z07 z8S))))
  (z08 (z0v (pv 4)))))))),?_⟩
 have h1:=GM.some
 obtain ⟨r0,rt,er⟩:∃ r0 rt,one=r0::rt:=by
  cases one with
  | nil=>simp at h1
  | cons r0 rt=>exact ⟨r0,rt,rfl⟩
 have hl0:=(GM.perm r0 (by rw [er];simp)).len
 obtain ⟨aw,rfl,eaw⟩:=Dr.its_inv dw
 have lw':(wd.map V.int).length=wd.length:=List.length_map _
 refine (exA rfl ⟨v,r0,z0s rt,rfl,(by rw [er] at dv;exact dv),by lia,fun H1 s1=>?_⟩)
 rw [hl0]
 refine (exA rfl (exA rfl ⟨n,.ref aw,wd,rfl,dw.mono s1,by lia,fun hw H2 s2=>?_,fun hw ea H2 s2=>gw hw ea H2 (s1.trans s2)⟩))
 have s02:=s1.trans s2
 refine (exA rfl (exA rfl (exG aw rfl (.inr (SqT.of (s02 _ _ eaw))) ⟨n,exA rfl ⟨n2,n5,by lia,fun z=>absurd z (by lia),fun _ hx ea H3 s3=>?_,fun _ hx=>?_⟩⟩)))
 ·rw [Int.toNat_natCast,lw'] at hx
  exact gx hw hx ea H3 (s02.trans s3)
 rw [Int.toNat_natCast,lw'] at hx
 obtain ⟨r,R,hr2⟩:=zdm GM (by lia) hw
 have gv:=gv hw hx r R
 obtain ⟨r1,re,rlt⟩:=R
 refine (exA rfl (exA rfl ⟨v,.ref aw,one,n,wd,rfl,dv.mono s02,dw.mono s02,GM,by lia,h5,fun _ t H3 s3 e3=>?_,fun z=>absurd hw z⟩))
 refine ⟨fun m σ H4=>∃ (c:Nat) (t:Addr),σ=[some v,some (.ref aw),some (.int n),some (.ref t),some (.int c)]∧z0h H H4∧H4 t=some (.tup ((itW one c wd).map V.int))∧1≤c∧c+m=r∧(∀ k,1≤k→k < c→itW one k wd≠wd),
  ⟨r - 1,1,t,rfl,s02.trans s3,e3,Nat.le_refl _,by lia,fun k k1 k2=>absurd k2 (by lia)⟩,?_⟩
 rintro m σ H4 ⟨c,t,rfl,s4,e4,c1,hc,hlt⟩
 refine (exA rfl (exA rfl ⟨t,aw,_,wd,rfl,rfl,e4,s4 _ _ eaw,exA rfl (z2p (fun z=>?_) (fun z=>?_))⟩))
 ·have ne:itW one c wd≠wd:=fun y=>by rw [decide_eq_true y] at z;cases z
  have hcr:c < r:=by
   rcases Nat.lt_or_ge c r with y | y
   ·exact y
   ·have:c=r:=by lia
    rw [this] at ne
    exact absurd re ne
  refine ⟨fun σ' H'=>∃ m',m' < m∧_,fun _ _ w=>w,exA rfl (exA rfl ⟨v,.ref t,one,n,itW one c wd,rfl,dv.mono s4,Dr.tup e4 (DrL.ints _),GM,by lia,by rw [z3l];exact h5,fun _ t5 H5 s5 e5=>?_,fun y=>absurd (z4n GM c wd hw) y⟩)⟩
  refine (exA rfl (exC rfl rfl ⟨m - 1,by lia,c+1,t5,rfl,s4.trans s5,e5,by lia,by lia,fun k k1 k2=>?_⟩))
  by_cases y:k=c
  ·rw [y];exact ne
  ·exact hlt k k1 (by lia)
 ·have e:itW one c wd=wd:=Classical.byContradiction fun y=>z (by rw [decide_eq_false y];rfl)
  have hcr:c=r:=by
   rcases Nat.lt_or_ge c r with y | y
   ·exact absurd e (rlt c c1 y)
   ·lia
  rw [hcr]
  exact (exA rfl (gv H4 s4))
abbrev nWh:List Str:=["guise","many","count"]
theorem zhG:z0n nWh ["guise","many"] (z06 z7c):=⟨rfl,rfl,rfl,by decide +kernel,rfl,by decide +kernel,by decide +kernel⟩
theorem zc2 {Cw Ct Cb aR aO aN:Addr} {dR dO dN:FuncData} (F:Fun K "whirls" "whirls" z7c f fd)
  (R:z0t P w K mg base (CXx P w) 3 aR dR ["guise"] (z1U K)) (bR:z0k K dR ["guise"] []) (kR:PySem.W.keepIn K (.ref aR)=true) (mR:mg "breadth"=some (.ref aR))
  (O:z0t P w K mg base (CXx P w) 3 aO dO ["letters","many"] (z3U K Ct Cb)) (bO:z0k K dO ["letters","many"] []) (kO:PySem.W.keepIn K (.ref aO)=true) (mO:mg "words_on_floor"=some (.ref aO))
  (N:z0t P w K mg base (CXx P w) 3 aN dN ["guise","word"] (z4p K Cw Ct)) (bN:z0k K dN ["guise","word"] []) (kN:PySem.W.keepIn K (.ref aN)=true) (mN:mg "rounds"=some (.ref aN)):z0t P w K mg base (CXx P w) 4 f fd ["guise","many"] (z6W K Ct Cb):=by
 refine F.okx zhG (fun vs H Q E h=>?_) (fun cdv A outer s H vs Q E hr h=>?_)
 ·obtain ⟨v,one,n,many,rfl,_⟩:=h
  rfl
 obtain ⟨v,one,n,many,rfl,dv,GM,n2,n5,hm,gb,gx,gv⟩:=h
 refine ⟨_,z03 (z0e (i:=2) zhG.nd rfl (Or.inl rfl) (z0c O hr rfl mO kO bO .nil (z3i fun _ _ _ z=>z) (z02 (z0c R hr rfl mR kR bR .nil z0H (z02 (pv 0) z05)) (z02 (pv 1) z05))))
  (z08 (z0v (z6s zf5 (z0c N hr rfl mN kN bN .nil z0H (z02 (pv 0) (z02 (z0r zeU (z1F (z02 z07 z05)) (pv 1)) z05))) (pv 2) (z1d _)))),?_⟩
 have h1:=GM.some
 obtain ⟨r0,rt,er⟩:∃ r0 rt,one=r0::rt:=by
  cases one with
  | nil=>simp at h1
  | cons r0 rt=>exact ⟨r0,rt,rfl⟩
 have hl0:=(GM.perm r0 (by rw [er];simp)).len
 refine (exA rfl ⟨v,r0,z0s rt,rfl,(by rw [er] at dv;exact dv),by lia,fun H1 s1=>?_⟩)
 rw [hl0]
 refine (exA rfl ⟨n,many,rfl,n2,n5,hm,fun z ea H2 s2=>gb z ea H2 (s1.trans s2),fun z y ea H2 s2=>gx z y ea H2 (s1.trans s2),fun m0 hf=>?_⟩)
 have gv:=gv m0 hf
 obtain ⟨m,rfl⟩:=z2B m0
 rw [Int.toNat_natCast] at hf gv ⊢
 have hm10:=zbv n2 hf
 refine (exA rfl ⟨by show 1≤sizeLine;decide,fun p hp=>?_⟩)
 have s2:=same_up (o:=HO.tup [V.int 0]) (z0h.refl H1) hp
 refine (exA rfl ⟨p,(m:Int),exA rfl ⟨rfl,z04,by lia,by lia,?_,fun p3 H3 s3 e3=>?_⟩⟩)
 ·rw [Int.toNat_natCast]
  show 1*m≤sizeLine
  exact z0L (by lia)
 have ez:(List.replicate (m:Int).toNat [V.int 0]).flatten=(List.replicate m (0:Int)).map V.int:=by
  rw [Int.toNat_natCast]
  exact zfq m 0
 rw [ez] at e3
 have s03:=s1.trans (s2.trans s3)
 have hz:=zdg (n:=n) (by lia) m
 have hzl:(List.replicate m (0:Int)).length=m:=List.length_replicate
 refine ⟨v,.ref p3,one,n,exA rfl ⟨dv.mono s03,Dr.tup e3 (DrL.ints _),GM,n2,n5,by lia,fun _ _ r R H4 s4=>?_,fun _ z=>absurd z (by rw [hzl];lia),fun z=>absurd hz z⟩⟩
 refine (exA rfl ⟨rfl,?_⟩)
 have:=gv r R H4 (s03.trans s4)
 have e:decide (V.int (r:Int)=V.int ((n ^ m:Nat):Int))=decide (r=n ^ m):=by
  by_cases y:r=n ^ m
  ·rw [decide_eq_true y,y];exact decide_eq_true rfl
  ·rw [decide_eq_false y]
   exact decide_eq_false fun z=>y (by injection z with z;lia)
 rw [e]
 exact this
abbrev nTm:List Str:=["guise","many","told","count"]
theorem zgC:z0n nTm ["guise","many"] (z06 z9s):=⟨rfl,rfl,rfl,by decide +kernel,rfl,by decide +kernel,by decide +kernel⟩
theorem zcC {Ct Cb aS aR aJ aBk:Addr} {dS dR dJ dBk:FuncData} {Ts:List Tb} {bmB:List Value} {B newId initId:String} {tm:Tok} (mC:mg "BadCount"=some (.ref Cb)) (xC:PySem.W.excIn K Cb bmB newId=true) (hB:ExcBaseFacts B newId initId bmB) (m_MOST_TIMES:mg "MOST_TIMES"=some (.int 64 tm)) (mr:mg "range"=none) (mab:mg "abs"=none) (F:Fun K "times" "times" z9s f fd)
  (S:z0t P w K mg base (CXx P w) 7 aS dS ["letters"] (z4T K)) (bS:z0k K dS ["letters"] []) (kS:PySem.W.keepIn K (.ref aS)=true) (mS:mg "still"=some (.ref aS))
  (R:z0t P w K mg base (CXx P w) 7 aR dR ["guise"] (z1U K)) (bR:z0k K dR ["guise"] []) (kR:PySem.W.keepIn K (.ref aR)=true) (mR:mg "breadth"=some (.ref aR))
  (J:z0t P w K mg base (CXx P w) 7 aJ dJ ["one","other"] (z4B Ts K Ct)) (bJ:z0k K dJ ["one","other"] []) (kJ:PySem.W.keepIn K (.ref aJ)=true) (mJ:mg "joined"=some (.ref aJ))
  (Bk:z0t P w K mg base (CXx P w) 7 aBk dBk ["guise"] (zb1 Ts K Ct)) (bBk:z0k K dBk ["guise"] []) (kBk:PySem.W.keepIn K (.ref aBk)=true) (mBk:mg "back"=some (.ref aBk)):z0t P w K mg base (CXx P w) 8 f fd ["guise","many"] (z8E Ts K Ct Cb):=by
 refine F.okx zgC (fun vs H Q E h=>?_) (fun cdv A outer s H vs Q E hr h=>?_)
 ·obtain ⟨v,one,n,many,rfl,_⟩:=h
  rfl
 obtain ⟨v,one,n,many,rfl,hTb,dv,⟨GM,hf,h8,n2,n60⟩,gb,gx,gv⟩:=h
 refine ⟨_,z03 (z1J (zdU (z4r z6X z6X (zdJ z90 (z4F (v:=.int 64) rfl m_MOST_TIMES ⟨_,rfl⟩)) (pv 1) (z4F (v:=.int 64) rfl m_MOST_TIMES ⟨_,rfl⟩))) (z08 (z2N mC rfl xC hB z5g)) z0G)
  (z03 (z0e (i:=2) zgC.nd rfl (Or.inl rfl) (z0c S hr rfl mS kS bS .nil z0H (z02 (z0c R hr rfl mR kR bR .nil z0H (z02 (pv 0) z05)) z05)))
  (z03 (z20 PassesOwn.leaving rfl (z28 rfl mr (z02 (z0m zcN rfl mab PyProof.Rows.boot_abs (z02 (pv 1) z05)) z05)) (z0b (i:=3) zgC.nd rfl (Or.inl rfl))
   (z08 (z0e (i:=2) zgC.nd rfl (Or.inl rfl) (z0c J hr rfl mJ kJ bJ .nil (z3i fun _ _ _ z=>z) (z02 (pv 2) (z02 (pv 0) z05))))))
  (z08 (z0v (z9J (z0W z5o (pv 1) z07 (z1d _)) (z0c Bk hr rfl mBk kBk bBk .nil (z3i fun _ _ _ z=>z) (z02 (pv 2) z05)) (pv 2)))))),?_⟩
 have bad:¬ (-64≤many∧many≤64)→∀ ea:Addr,E (.ref ea) (some Cb) H:=fun z ea=>gb z ea H (z1w.refl _)
 refine (exA rfl (exA rfl (exC rfl rfl (exA rfl (z2p (fun c1=>(exC rfl rfl (exA rfl ?_))) (fun c1=>?_))))))
 rotate_left
 ·have c1':=of_decide_eq_false (Bool.eq_false_iff.mpr c1)
  refine (exA rfl (z2p (fun _=>bad (by lia)) (fun z=>absurd rfl z)))
 have c1':=of_decide_eq_true c1
 refine z2p (fun z=>bad (fun y=>by rw [decide_eq_true y.2] at z;cases z)) (fun z=>?_)
 have c2':many≤64:=by
  by_cases y:many≤64
  ·exact y
  ·exact absurd (by rw [decide_eq_false y];rfl) z
 have good:-64≤many∧many≤64:=⟨c1',c2'⟩
 replace gv:=gv good
 replace gx:=gx good
 have h1:=GM.some
 obtain ⟨r0,rt,er⟩:∃ r0 rt,one=r0::rt:=by
  cases one with
  | nil=>simp at h1
  | cons r0 rt=>exact ⟨r0,rt,rfl⟩
 have hl0:=(GM.perm r0 (by rw [er];simp)).len
 have hab:=zi8 many
 refine (exA rfl ⟨v,r0,z0s rt,rfl,(by rw [er] at dv;exact dv),by lia,fun H1 s1=>⟨n,(by rw [hl0];rfl),n2,n60,fun vs H2 s2 ds=>?_⟩⟩)
 have s02:=s1.trans s2
 have ds':Dr K H2 (D.tup (z0s (z0w n))) vs:=ds
 refine ⟨_,rfl,many,rfl,((many.natAbs:Nat):Int),(by rw [hab]),by lia,by lia,z8g (n:=((many.natAbs:Nat):Int).toNat) (fun i σ H3=>∃ (vt:V) (u3:Option V),σ=[some v,some (.int many),some vt,u3]∧z1w Ts H H3∧Dr K H3 (D.tup (z0s (pw n one i))) vt∧zgz n one i)
  ⟨vs,_,rfl,z0h.l s02,ds',fun j hj=>by rw [show j=0 by lia];simp [pw,z0w]⟩ (fun i σ H3 hi h Ed nx3=>?_) (fun σ H3 h=>?_)⟩
 ·obtain ⟨vt,u3,rfl,s3,dt,hj⟩:=h
  obtain ⟨Gi,_⟩:=z5G GM (by lia) i fun j hj'=>hj j (by lia)
  have hi60:=hj i (Nat.le_refl _)
  refine (exA rfl (exA rfl ⟨vt,v,n,_,one,rfl,s3.tabs hTb,dt,dv.monoL s3,Gi,GM,n60,Nat.le_trans (Nat.mul_le_mul hi60 h8) (by decide),fun hl v2 H4 s4 d4=>?_,fun hl ea H4 s4=>?_⟩))
  ·refine nx3 _ _ (exB rfl ⟨s3.trans s4,d4,fun j hj'=>?_⟩)
   by_cases e:j=i+1
   ·rw [e];exact hl
   ·exact hj j (by lia)
  ·exact gx (fun y=>absurd (y (i+1) (by lia)) (by show ¬ (shr (z0J (pw n one i) one)).length≤60;lia)) ea H4 (s3.trans s4)
 ·obtain ⟨vt,u3,rfl,s3,dt,hj⟩:=h
  rw [Int.toNat_natCast] at dt hj
  replace gv:=gv hj
  unfold tmS at gv
  obtain ⟨Gm,fm⟩:=z5G GM (by lia) many.natAbs fun j hj'=>hj j (by lia)
  refine (exA rfl (exC rfl rfl (exA rfl (z2p (fun c=>?_) (fun c=>?_)))))
  ·rw [if_pos (of_decide_eq_true c),←z8m GM h8 _ fun i hi=>hj i (by lia)] at gv
   have hcr:=z9b Gm fm
   have hm60:=hj _ (Nat.le_refl _)
   exact (exA rfl ⟨vt,n,exA rfl ⟨s3.tabs hTb,dt,Gm,n60,fun _ v4 H4 s4 d4=>gv v4 H4 (s3.trans s4) d4,fun y=>absurd y (by lia)⟩⟩)
  ·rw [if_neg (of_decide_eq_false (Bool.eq_false_iff.mpr c))] at gv
   exact (exA rfl (gv vt H3 s3 dt))
abbrev nOd:List Str:=["guise","most","leaves","told","count"]
theorem zfE:z0n nOd ["guise","most"] (z06 z9L):=⟨rfl,rfl,rfl,by decide +kernel,rfl,by decide +kernel,by decide +kernel⟩
theorem zdr {Ct Cb aS aR aJ:Addr} {dS dR dJ:FuncData} {Ts:List Tb} {bmB:List Value} {B newId initId:String} {tm:Tok} (mC:mg "BadCount"=some (.ref Cb)) (xC:PySem.W.excIn K Cb bmB newId=true) (hB:ExcBaseFacts B newId initId bmB) (m_MOST_TIMES:mg "MOST_TIMES"=some (.int 64 tm)) (mr:mg "range"=none) (F:Fun K "order" "order" z9L f fd)
  (S:z0t P w K mg base (CXx P w) 7 aS dS ["letters"] (z4T K)) (bS:z0k K dS ["letters"] []) (kS:PySem.W.keepIn K (.ref aS)=true) (mS:mg "still"=some (.ref aS))
  (R:z0t P w K mg base (CXx P w) 7 aR dR ["guise"] (z1U K)) (bR:z0k K dR ["guise"] []) (kR:PySem.W.keepIn K (.ref aR)=true) (mR:mg "breadth"=some (.ref aR))
  (J:z0t P w K mg base (CXx P w) 7 aJ dJ ["one","other"] (z4B Ts K Ct)) (bJ:z0k K dJ ["one","other"] []) (kJ:PySem.W.keepIn K (.ref aJ)=true) (mJ:mg "joined"=some (.ref aJ)):z0t P w K mg base (CXx P w) 8 f fd ["guise","most"] (z8Q Ts K Ct Cb):=by
 refine F.okx zfE (fun vs H Q E h=>?_) (fun cdv A outer s H vs Q E hr h=>?_)
 ·obtain ⟨v,one,n,most,rfl,_⟩:=h
  rfl
 obtain ⟨v,one,n,most,rfl,hTb,dv,⟨GM,hf,h60,n2,n60⟩,gv,gx,gb⟩:=h
 refine ⟨_,z03 (z1J (zdU (z4r z6X z6X z07 (pv 1) (z4F (v:=.int 64) rfl m_MOST_TIMES ⟨_,rfl⟩))) (z08 (z2N mC rfl xC hB z5g)) z0G)
  (z03 (z0e (i:=2) zfE.nd rfl (Or.inl rfl) (z0c S hr rfl mS kS bS .nil z0H (z02 (z0c R hr rfl mR kR bR .nil z0H (z02 (pv 0) z05)) z05)))
  (z03 (z0e (i:=3) zfE.nd rfl (Or.inl rfl) (pv 2))
  (z03 (z20 PassesOwn.leaving rfl (z7r rfl mr (z02 z07 (z02 (z0r z1g (pv 1) z07) z05))) (z0b (i:=4) zfE.nd rfl (Or.inl rfl))
   (z03 (z0e (i:=3) zfE.nd rfl (Or.inl rfl) (z0c J hr rfl mJ kJ bJ .nil (z3i fun _ _ _ z=>z) (z02 (pv 3) (z02 (pv 0) z05))))
   (z08 (z1J (z0W (zdS hr.units) (pv 3) (pv 2) (z1d _)) (z08 (z0v (pv 4))) z0G))))
  (z08 (z0v z9t))))),?_⟩
 have bad:¬ (1≤most∧most≤64)→∀ ea:Addr,E (.ref ea) (some Cb) H:=fun z ea=>gb z ea H (z1w.refl _)
 refine (exA rfl (exC rfl rfl (exA rfl (z2p (fun c1=>(exC rfl rfl (exA rfl ?_))) (fun c1=>?_)))))
 rotate_left
 ·have c1':=of_decide_eq_false (Bool.eq_false_iff.mpr c1)
  refine (exA rfl (z2p (fun _=>bad (by lia)) (fun z=>absurd rfl z)))
 have c1':=of_decide_eq_true c1
 refine z2p (fun z=>bad (fun y=>by rw [decide_eq_true y.2] at z;cases z)) (fun z=>?_)
 have c2':most≤64:=by
  by_cases y:most≤64
  ·exact y
  ·exact absurd (by rw [decide_eq_false y];rfl) z
 have good:1≤most∧most≤64:=⟨c1',c2'⟩
 replace gv:=gv good
 replace gx:=gx good
 obtain ⟨m,rfl⟩:=z2B (x:=most) (by lia)
 rw [Int.toNat_natCast] at gv gx
 have h1:=GM.some
 obtain ⟨r0,rt,er⟩:∃ r0 rt,one=r0::rt:=by
  cases one with
  | nil=>simp at h1
  | cons r0 rt=>exact ⟨r0,rt,rfl⟩
 have hp0:=GM.perm r0 (by rw [er];simp)
 have hl0:=hp0.len
 refine (exA rfl ⟨v,r0,z0s rt,rfl,(by rw [er] at dv;exact dv),by lia,fun H1 s1=>⟨n,(by rw [hl0];rfl),n2,n60,fun vs H2 s2 ds=>?_⟩⟩)
 have s02:=s1.trans s2
 have ds':Dr K H2 (D.tup (z0s (z0w n))) vs:=ds
 refine ⟨_,rfl,_,rfl,_,_,rfl,rfl,1,(m:Int)+1,rfl,by lia,z4J (n:=((m:Int)+1 - 1).toNat) (fun i σ H3=>∃ (vt:V) (u4:Option V),σ=[some v,some (.int m),some vs,some vt,u4]∧z1w Ts H2 H3∧Dr K H3 (D.tup (z0s (pw n one i))) vt∧(∀ j,j≤i→(pw n one j).length≤60)∧z8i n one 1 m=z8i n one (i+1) (m - i))
  ⟨vs,_,rfl,z1w.refl _,ds',(fun j hj=>by rw [show j=0 by lia];simp [pw,z0w]),rfl⟩ (fun i σ H3 hi h=>?_) (fun σ H3 h=>?_)⟩
 ·obtain ⟨vt,u4,rfl,s3,dt,hj,es⟩:=h
  have him:i < m:=by lia
  obtain ⟨Gi,_⟩:=z5G GM h60 i fun j hj'=>hj j (by lia)
  have hi60:=hj i (Nat.le_refl _)
  obtain ⟨k,hk⟩:∃ k,m - i=k+1:=⟨m - i - 1,by lia⟩
  rw [hk] at es
  have es':z8i n one 1 m=if 60 < (pw n one (i+1)).length then .str "many" else if pw n one (i+1)=z0w n then .int ((i+1:Nat):Int) else z8i n one (i+1+1) k:=es
  refine (exA rfl (exA rfl ⟨vt,v,n,_,one,rfl,((z0h.l s02).trans s3).tabs hTb,dt,dv.monoL ((z0h.l s02).trans s3),Gi,GM,n60,Nat.le_trans (Nat.mul_le_mul hi60 h60) (by decide),fun hl v2 H4 s4 d4=>?_,fun hl ea H4 s4=>?_⟩))
  ·have hl':¬ 60 < (pw n one (i+1)).length:=by
    show ¬ 60 < (shr (z0J (pw n one i) one)).length
    lia
   rw [if_neg hl'] at es'
   have s04:=s3.trans s4
   have dv2:Dr K H4 (D.tup (z0s (pw n one (i+1)))) v2:=d4
   obtain ⟨a1,_,rfl,_⟩:∃ (a:Addr) (us:List V),v2=.ref a∧H4 a=some (.tup us)∧DrL K H4 (z0s (pw n one (i+1))) us:=by
    simp only [Dr] at dv2
    exact dv2
   have ds4:=ds'.monoL s04
   obtain ⟨a2,_,rfl,_⟩:∃ (a:Addr) (us:List V),vs=.ref a∧H4 a=some (.tup us)∧DrL K H4 (z0s (z0w n)) us:=by
    simp only [Dr] at ds4
    exact ds4
   refine (exA rfl (exA rfl ⟨a1,a2,exC rfl rfl ⟨dv2,ds4,(by simp only [D.ok];exact z2G _ _),z60 _,?_⟩⟩))
   rw [z6g]
   refine (exA rfl (z2p (fun c=>?_) (fun c=>?_)))
   ·rw [if_pos (of_decide_eq_true c)] at es'
    refine (exA rfl ?_)
    have:=gv (by rw [es'];intro z;cases z) H4 ((z0h.l s02).trans s04)
    rw [es'] at this
    rw [show (1:Int)+(i:Int)=((i+1:Nat):Int) by lia]
    exact this
   ·rw [if_neg (of_decide_eq_false (Bool.eq_false_iff.mpr c))] at es'
    refine (exB rfl ⟨s04,dv2,fun j hj'=>?_,?_⟩)
    ·by_cases e:j=i+1
     ·subst e;lia
     ·exact hj j (by lia)
    ·rw [es',show m - (i+1)=k by lia]
  ·have hl':60 < (pw n one (i+1)).length:=hl
   rw [if_pos hl'] at es'
   exact gx es' ea H4 ((z0h.l s02).trans (s3.trans s4))
 ·obtain ⟨vt,u4,rfl,s3,dt,hj,es⟩:=h
  rw [show ((m:Int)+1 - 1).toNat=m by lia,Nat.sub_self] at es
  have es':z8i n one 1 m=.non:=es
  have:=gv (by rw [es'];intro z;cases z) H3 ((z0h.l s02).trans s3)
  rw [es'] at this
  exact this
end
end Gu
namespace Gu
open PySem L2
structure FA (K:PySem.W.Frag) (f:Addr) (x:Str) (st:Stmt):Prop where
 a:PySem.W.nsIn K mainGlobals x=some (some (.ref f))
 l:∃ oc od kV dc pm an cd ct sl,K.lookup f=some ⟨oc,od,.func (PySem.W.fnOf x x (z1Z st) (z1a st) (z06 st) .none kV dc pm an cd ct),sl⟩∧PySem.W.codeIn K cd x=true
 k:PySem.W.keepIn K (.ref f)=true
theorem FA.of {K:PySem.W.Frag} {f:Addr} {x:Str} {st:Stmt} {oc kV dc pm cd ct:Value} {od an:Option Addr} {sl:Array (Option Value)} (a:PySem.W.nsIn K mainGlobals x=some (some (.ref f))) (l:K.lookup f=some ⟨oc,od,.func (PySem.W.fnOf x x (z1Z st) (z1a st) (z06 st) .none kV dc pm an cd ct),sl⟩) (c:PySem.W.codeIn K cd x=true) (k:PySem.W.keepIn K (.ref f)=true):FA K f x st:=⟨a,⟨_,_,_,_,_,_,_,_,_,l,c⟩,k⟩
theorem FA.go {K:PySem.W.Frag} {f:Addr} {x:Str} {st:Stmt} {h:Heap} {mg:Str→Option Value} (A:FA K f x st) (X:K.In h) (G:h.Ns mainGlobals mg):∃ fd,Fun K x x st f fd∧mg x=some (.ref f)∧PySem.W.keepIn K (.ref f)=true:=by
 obtain ⟨a,⟨_,_,_,_,_,_,_,_,_,l,c⟩,k⟩:=A
 exact ⟨_,z99 l c k,PySem.W.mg_of X G a,k⟩
abbrev fnY (x:Str) (st:Stmt) (kV dc pm:Value) (an:Option Addr) (cd ct:Value):=PySem.W.fnOf x x (z1Z st) (z1a st) (z06 st) .none kV dc pm an cd ct
section
variable {K:PySem.W.Frag} {x:Str} {st:Stmt} {f:Addr} {fd:FuncData}
theorem zaq {a:Str} (F:Fun K x x st f fd) (h:∀ (kV dc pm:Value) (an:Option Addr) (cd ct u:Value),bindArgs (fnY x st kV dc pm an cd ct) ⟨[u],[]⟩=pure [(a,u)]):z0k K fd [a] []:=F.binds fun _ _ _ _ _ _ us hl=>by obtain ⟨_,rfl⟩:=zfF hl;exact h _ _ _ _ _ _ _
theorem z5z {a b:Str} (F:Fun K x x st f fd) (h:∀ (kV dc pm:Value) (an:Option Addr) (cd ct u v:Value),bindArgs (fnY x st kV dc pm an cd ct) ⟨[u,v],[]⟩=pure [(a,u),(b,v)]):z0k K fd [a,b] []:=F.binds fun _ _ _ _ _ _ us hl=>by obtain ⟨_,_,rfl⟩:=zh9 hl;exact h _ _ _ _ _ _ _ _
theorem zgb {a b c:Str} (F:Fun K x x st f fd) (h:∀ (kV dc pm:Value) (an:Option Addr) (cd ct u v w:Value),bindArgs (fnY x st kV dc pm an cd ct) ⟨[u,v,w],[]⟩=pure [(a,u),(b,v),(c,w)]):z0k K fd [a,b,c] []:=F.binds fun _ _ _ _ _ _ us hl=>by obtain ⟨_,_,_,rfl⟩:=zi5 hl;exact h _ _ _ _ _ _ _ _ _
end
abbrev zap (P20 P18:Addr):List Tb:=[⟨P20,z7T (z1a z5F),("back.<locals>."++"<lambda>":Str)⟩,⟨P18,z7T (z1a z2s),("joined.<locals>."++"<lambda>":Str)⟩]
theorem all_mk {l:PySem.W.OpenLaw} {w:World} {K:PySem.W.Frag} {h:Heap} {mg:Str→Option Value} {fa f1 f2 f3 f4 f5 f6 f7 f8 f9 f10 f11 f12 f13 f14 f15 f16 f17 f18 f19 f20 f21 f22 f23 f24 f25 f26 f27 f28 f29 f30 f31 f32 f33 f34 f35 f36 f37 f38 f39 f40 f41 f42:Addr} (X:K.In h) (G:h.Ns mainGlobals mg) (hfa:mg "law"=some (.ref fa))
  {od18 an18 od20 an20 od42 an42:Option Addr} {sl18 sl20 sl42:Array (Option Value)} {tk1 tk2 tk3:Tok}
  {oc18 kV18 dc18 pm18 ct18 oc20 kV20 dc20 pm20 ct20 oc42 kV42 dc42 pm42 ct42 cd42:Value}
  {cc20 P20 cc18 P18:Addr}
  (h1:FA K f1 "same_letters" zcL)
  (h2:FA K f2 "turned" z59)
  (h3:FA K f3 "undone" z6z)
  (h4:FA K f4 "still" z9u)
  (h5:FA K f5 "breadth" z4z)
  (h6:FA K f6 "read_from" z9i)
  (h7:FA K f7 "least_form" z9p)
  (h8:FA K f8 "rows_come_to" z6Z)
  (h9:FA K f9 "kinds_of_rows" z5S)
  (h10:FA K f10 "kinds_gone_to" zbO)
  (h11:FA K f11 "numbered" z2z)
  (h12:FA K f12 "check_word" z4H)
  (h13:FA K f13 "check_endless" z4x)
  (h14:FA K f14 "check_ring" zcB)
  (h15:FA K f15 "plain_word" z74)
  (h16:FA K f16 "least_ring" z6M)
  (h17:FA K f17 "count_ringed" z6v)
  (a18:PySem.W.nsIn K mainGlobals "joined"=some (some (.ref f18))) (l18:K.lookup f18=some ⟨oc18,od18,.func (PySem.W.fnOf "joined" "joined" (z1Z z2s) (z1a z2s) (z06 z2s) .none kV18 dc18 pm18 an18 (.ref cc18) ct18),sl18⟩) (c18:PySem.W.codeIn K (.ref cc18) "joined"=true) (k18:PySem.W.keepIn K (.ref f18)=true)
  (h19:FA K f19 "joined_row" z2x)
  (a20:PySem.W.nsIn K mainGlobals "back"=some (some (.ref f20))) (l20:K.lookup f20=some ⟨oc20,od20,.func (PySem.W.fnOf "back" "back" (z1Z z5F) (z1a z5F) (z06 z5F) .none kV20 dc20 pm20 an20 (.ref cc20) ct20),sl20⟩) (c20:PySem.W.codeIn K (.ref cc20) "back"=true) (k20:PySem.W.keepIn K (.ref f20)=true)
  (h21:FA K f21 "row_back" z3u)
  (h22:FA K f22 "times" z9s)
  (h23:FA K f23 "order" z9L)
  (h24:FA K f24 "worn" zcA)
  (h25:FA K f25 "worn_endless" z9q)
  (h26:FA K f26 "strung" z4S)
  (h27:FA K f27 "words_on_floor" z4A)
  (h28:FA K f28 "rounds" z6I)
  (h29:FA K f29 "whirls" z7c)
  (h30:FA K f30 "_law_cell" zcZ)
  (h31:FA K f31 "_law_letters" z4w)
  (h32:FA K f32 "_law_in_line" z56)
  (h33:FA K f33 "_law_shrunk" z49)
  (h34:FA K f34 "_law_numbers" z4v)
  (h35:FA K f35 "_law_rearranged" zd1)
  (h36:FA K f36 "_law_rows" z8L)
  (h37:FA K f37 "_law_guise" z9x)
  (h38:FA K f38 "_law_word" z7O)
  (h39:FA K f39 "_law_stories" z4s)
  (h40:FA K f40 "_law_coming" z4W)
  (h41:FA K f41 "_law_told" zdu)
  (a42:PySem.W.nsIn K mainGlobals "law"=some (some (.ref f42))) (l42:K.lookup f42=some ⟨oc42,od42,.func (PySem.W.fnOf "law" "law" (z1Z zco) (z1a zco) (z06 zco) .none kV42 dc42 pm42 an42 cd42 ct42),sl42⟩) (c42:PySem.W.codeIn K cd42 "law"=true) (k42:PySem.W.keepIn K (.ref f42)=true)
  (t20:PySem.W.codeHdIn K cc20 P20=true) (u20:K.lookup P20=none)
  (t18:PySem.W.codeHdIn K cc18 P18=true) (u18:K.lookup P18=none)
  (nP:([P20,P18]:List Addr).Nodup)
  (i1:PySem.W.nsIn K mainGlobals "MOST_FORM_ROWS"=some (some (.int 60 tk1)))
  (i2:PySem.W.nsIn K mainGlobals "MOST_TIMES"=some (some (.int 64 tk2)))
  (i3:PySem.W.nsIn K mainGlobals "MOST_WORDS"=some (some (.int 1024 tk3)))
  (z1:PySem.W.nsIn K mainGlobals "len"=some none)
  (z2:PySem.W.nsIn K mainGlobals "tuple"=some none)
  (z3:PySem.W.nsIn K mainGlobals "list"=some none)
  (z4:PySem.W.nsIn K mainGlobals "range"=some none)
  (z5:PySem.W.nsIn K mainGlobals "isinstance"=some none)
  (z6:PySem.W.nsIn K mainGlobals "int"=some none)
  (z7:PySem.W.nsIn K mainGlobals "bool"=some none)
  (z8:PySem.W.nsIn K mainGlobals "str"=some none)
  (z9:PySem.W.nsIn K mainGlobals "all"=some none)
  (z10:PySem.W.nsIn K mainGlobals "any"=some none)
  (z11:PySem.W.nsIn K mainGlobals "sorted"=some none)
  (z12:PySem.W.nsIn K mainGlobals "zip"=some none)
  (z13:PySem.W.nsIn K mainGlobals "max"=some none)
  (z14:PySem.W.nsIn K mainGlobals "min"=some none)
  (z15:PySem.W.nsIn K mainGlobals "enumerate"=some none)
  (z16:PySem.W.nsIn K mainGlobals "abs"=some none)
  {CtTooMany:Addr} (yTooMany:PySem.W.nsIn K mainGlobals "TooMany"=some (some (.ref CtTooMany))) (xTooMany:PySem.W.excIn K CtTooMany [.type "ValueError",.type "Exception",.type "BaseException",.type "object"] "ValueError.__new__"=true)
  {CtBadWord:Addr} (yBadWord:PySem.W.nsIn K mainGlobals "BadWord"=some (some (.ref CtBadWord))) (xBadWord:PySem.W.excIn K CtBadWord [.type "ValueError",.type "Exception",.type "BaseException",.type "object"] "ValueError.__new__"=true)
  {CtBadCount:Addr} (yBadCount:PySem.W.nsIn K mainGlobals "BadCount"=some (some (.ref CtBadCount))) (xBadCount:PySem.W.excIn K CtBadCount [.type "ValueError",.type "Exception",.type "BaseException",.type "object"] "ValueError.__new__"=true)
  : ∃ fd:FuncData,(∀ (s:Shared) (v:Value),BindsTo s fd ⟨[v],[]⟩ [("_law_script",v)])∧(∀ T∈(zap P20 P18),K.lookup T.at_=none∧∃ c,PySem.W.codeHdIn K c T.at_=true)∧∀ base:Heap,K.In base→base.Ns mainGlobals mg→z5L base mg→z0t l.prog w K mg base (CXx l.prog w) 10 fa fd ["_law_script"] (z94 (zap P20 P18) K):=by
 have e:=hfa.symm.trans (PySem.W.mg_of X G a42)
 cases e
 obtain ⟨d1,F1,m1,k1⟩:=h1.go X G
 have b1:z0k K d1 ["letters"] []:=zaq F1 fun _ _ _ _ _ _ _=>rfl
 obtain ⟨d2,F2,m2,k2⟩:=h2.go X G
 have b2:z0k K d2 ["one","other"] []:=z5z F2 fun _ _ _ _ _ _ _ _=>rfl
 obtain ⟨d3,F3,m3,k3⟩:=h3.go X G
 have b3:z0k K d3 ["one"] []:=zaq F3 fun _ _ _ _ _ _ _=>rfl
 obtain ⟨d4,F4,m4,k4⟩:=h4.go X G
 have b4:z0k K d4 ["letters"] []:=zaq F4 fun _ _ _ _ _ _ _=>rfl
 obtain ⟨d5,F5,m5,k5⟩:=h5.go X G
 have b5:z0k K d5 ["guise"] []:=zaq F5 fun _ _ _ _ _ _ _=>rfl
 obtain ⟨d6,F6,m6,k6⟩:=h6.go X G
 have b6:z0k K d6 ["guise","row","word"] []:=zgb F6 fun _ _ _ _ _ _ _ _ _=>rfl
 obtain ⟨d7,F7,m7,k7⟩:=h7.go X G
 have b7:z0k K d7 ["first","row_at"] []:=z5z F7 fun _ _ _ _ _ _ _ _=>rfl
 obtain ⟨d8,F8,m8,k8⟩:=h8.go X G
 have b8:z0k K d8 ["first","row_at"] []:=z5z F8 fun _ _ _ _ _ _ _ _=>rfl
 obtain ⟨d9,F9,m9,k9⟩:=h9.go X G
 have b9:z0k K d9 ["rows"] []:=zaq F9 fun _ _ _ _ _ _ _=>rfl
 obtain ⟨d10,F10,m10,k10⟩:=h10.go X G
 have b10:z0k K d10 ["kinds","goings"] []:=z5z F10 fun _ _ _ _ _ _ _ _=>rfl
 obtain ⟨d11,F11,m11,k11⟩:=h11.go X G
 have b11:z0k K d11 ["things"] []:=zaq F11 fun _ _ _ _ _ _ _=>rfl
 obtain ⟨d12,F12,m12,k12⟩:=h12.go X G
 have b12:z0k K d12 ["letters","word"] []:=z5z F12 fun _ _ _ _ _ _ _ _=>rfl
 obtain ⟨d13,F13,m13,k13⟩:=h13.go X G
 have b13:z0k K d13 ["letters","endless"] []:=z5z F13 fun _ _ _ _ _ _ _ _=>rfl
 obtain ⟨d14,F14,m14,k14⟩:=h14.go X G
 have b14:z0k K d14 ["ring"] []:=zaq F14 fun _ _ _ _ _ _ _=>rfl
 obtain ⟨d15,F15,m15,k15⟩:=h15.go X G
 have b15:z0k K d15 ["beginning","ring"] []:=z5z F15 fun _ _ _ _ _ _ _ _=>rfl
 obtain ⟨d16,F16,m16,k16⟩:=h16.go X G
 have b16:z0k K d16 ["ring"] []:=zaq F16 fun _ _ _ _ _ _ _=>rfl
 obtain ⟨d17,F17,m17,k17⟩:=h17.go X G
 have b17:z0k K d17 ["beginning","ring"] []:=z5z F17 fun _ _ _ _ _ _ _ _=>rfl
 have F18:=z99 (st:=z2s) l18 c18 k18
 have b18:=F18.binds (ps:=["one","other"]) fun _ _ _ _ _ _ us hl=>by obtain ⟨a0,a1,rfl⟩:=zh9 hl;rfl
 have m18:=PySem.W.mg_of X G a18
 obtain ⟨d19,F19,m19,k19⟩:=h19.go X G
 have b19:z0k K d19 ["one","other","pair"] []:=zgb F19 fun _ _ _ _ _ _ _ _ _=>rfl
 have F20:=z99 (st:=z5F) l20 c20 k20
 have b20:=F20.binds (ps:=["guise"]) fun _ _ _ _ _ _ us hl=>by obtain ⟨a0,rfl⟩:=zfF hl;rfl
 have m20:=PySem.W.mg_of X G a20
 obtain ⟨d21,F21,m21,k21⟩:=h21.go X G
 have b21:z0k K d21 ["row"] []:=zaq F21 fun _ _ _ _ _ _ _=>rfl
 obtain ⟨d22,F22,m22,k22⟩:=h22.go X G
 have b22:z0k K d22 ["guise","many"] []:=z5z F22 fun _ _ _ _ _ _ _ _=>rfl
 obtain ⟨d23,F23,m23,k23⟩:=h23.go X G
 have b23:z0k K d23 ["guise","most"] []:=z5z F23 fun _ _ _ _ _ _ _ _=>rfl
 obtain ⟨d24,F24,m24,k24⟩:=h24.go X G
 have b24:z0k K d24 ["guise","word"] []:=z5z F24 fun _ _ _ _ _ _ _ _=>rfl
 obtain ⟨d25,F25,m25,k25⟩:=h25.go X G
 have b25:z0k K d25 ["guise","endless"] []:=z5z F25 fun _ _ _ _ _ _ _ _=>rfl
 obtain ⟨d26,F26,m26,k26⟩:=h26.go X G
 have b26:z0k K d26 ["laps"] []:=zaq F26 fun _ _ _ _ _ _ _=>rfl
 obtain ⟨d27,F27,m27,k27⟩:=h27.go X G
 have b27:z0k K d27 ["letters","many"] []:=z5z F27 fun _ _ _ _ _ _ _ _=>rfl
 obtain ⟨d28,F28,m28,k28⟩:=h28.go X G
 have b28:z0k K d28 ["guise","word"] []:=z5z F28 fun _ _ _ _ _ _ _ _=>rfl
 obtain ⟨d29,F29,m29,k29⟩:=h29.go X G
 have b29:z0k K d29 ["guise","many"] []:=z5z F29 fun _ _ _ _ _ _ _ _=>rfl
 obtain ⟨d30,F30,m30,k30⟩:=h30.go X G
 have b30:z0k K d30 ["_law_script","_law_at"] []:=z5z F30 fun _ _ _ _ _ _ _ _=>rfl
 obtain ⟨d31,F31,m31,k31⟩:=h31.go X G
 have b31:z0k K d31 ["_law_script","_law_at"] []:=z5z F31 fun _ _ _ _ _ _ _ _=>rfl
 obtain ⟨d32,F32,m32,k32⟩:=h32.go X G
 have b32:z0k K d32 ["_law_rows_here","_law_line","_law_marks"] []:=zgb F32 fun _ _ _ _ _ _ _ _ _=>rfl
 obtain ⟨d33,F33,m33,k33⟩:=h33.go X G
 have b33:z0k K d33 ["_law_rows_here","_law_start"] []:=z5z F33 fun _ _ _ _ _ _ _ _=>rfl
 obtain ⟨d34,F34,m34,k34⟩:=h34.go X G
 have b34:z0k K d34 ["_law_cell_here","_law_many"] []:=z5z F34 fun _ _ _ _ _ _ _ _=>rfl
 obtain ⟨d35,F35,m35,k35⟩:=h35.go X G
 have b35:z0k K d35 ["_law_pick","_law_letters_here"] []:=z5z F35 fun _ _ _ _ _ _ _ _=>rfl
 obtain ⟨d36,F36,m36,k36⟩:=h36.go X G
 have b36:z0k K d36 ["_law_letters_here","_law_cell_here"] []:=z5z F36 fun _ _ _ _ _ _ _ _=>rfl
 obtain ⟨d37,F37,m37,k37⟩:=h37.go X G
 have b37:z0k K d37 ["_law_letters_here","_law_cell_here"] []:=z5z F37 fun _ _ _ _ _ _ _ _=>rfl
 obtain ⟨d38,F38,m38,k38⟩:=h38.go X G
 have b38:z0k K d38 ["_law_letters_here","_law_cell_here","_law_most"] []:=zgb F38 fun _ _ _ _ _ _ _ _ _=>rfl
 obtain ⟨d39,F39,m39,k39⟩:=h39.go X G
 have b39:z0k K d39 ["_law_letters_here"] []:=zaq F39 fun _ _ _ _ _ _ _=>rfl
 obtain ⟨d40,F40,m40,k40⟩:=h40.go X G
 have b40:z0k K d40 ["_law_letters_here","_law_cell_here","_law_most"] []:=zgb F40 fun _ _ _ _ _ _ _ _ _=>rfl
 obtain ⟨d41,F41,m41,k41⟩:=h41.go X G
 have b41:z0k K d41 ["_law_one"] []:=zaq F41 fun _ _ _ _ _ _ _=>rfl
 have F42:=z99 (st:=zco) l42 c42 k42
 have m42:=PySem.W.mg_of X G a42
 have mTooMany:=PySem.W.mg_of X G yTooMany
 have mBadWord:=PySem.W.mg_of X G yBadWord
 have mBadCount:=PySem.W.mg_of X G yBadCount
 have j1:=PySem.W.mg_of X G i1
 have j2:=PySem.W.mg_of X G i2
 have j3:=PySem.W.mg_of X G i3
 have n_len:=PySem.W.mg_none_of X G z1
 have n_tuple:=PySem.W.mg_none_of X G z2
 have n_list:=PySem.W.mg_none_of X G z3
 have n_range:=PySem.W.mg_none_of X G z4
 have n_isinstance:=PySem.W.mg_none_of X G z5
 have n_int:=PySem.W.mg_none_of X G z6
 have n_bool:=PySem.W.mg_none_of X G z7
 have n_str:=PySem.W.mg_none_of X G z8
 have n_all:=PySem.W.mg_none_of X G z9
 have n_any:=PySem.W.mg_none_of X G z10
 have n_sorted:=PySem.W.mg_none_of X G z11
 have n_zip:=PySem.W.mg_none_of X G z12
 have n_max:=PySem.W.mg_none_of X G z13
 have n_min:=PySem.W.mg_none_of X G z14
 have n_enumerate:=PySem.W.mg_none_of X G z15
 have n_abs:=PySem.W.mg_none_of X G z16
 have B:Blt mg:=⟨n_len,n_tuple,n_list,n_range,n_isinstance,n_int,n_bool,n_str,n_all⟩
 refine ⟨PySem.W.fnOf "law" "law" (z1Z zco) (z1a zco) (z06 zco) .none kV42 dc42 pm42 an42 cd42 ct42,fun s v=>.of_eq rfl,?_,fun base hK _ hBM=>?_⟩
 ·simp only [zap,List.forall_mem_cons]
  exact ⟨⟨u20,cc20,t20⟩,⟨u18,cc18,t18⟩,fun _ h=>absurd h (by simp)⟩
 have O1:z0t l.prog w K mg base (CXx l.prog w) 1 f1 _ ["letters"] (zaY K):=zet F1 B.tup B.rng
 have O11:z0t l.prog w K mg base (CXx l.prog w) 1 f11 _ ["things"] (z4c K):=z8k F11 B.len
 have O10:z0t l.prog w K mg base (CXx l.prog w) 1 f10 _ ["kinds","goings"] (z9N K):=zf4 F10 B.tup
 have O9:z0t l.prog w K mg base (CXx l.prog w) 2 f9 _ ["rows"] (z7d K CtTooMany):=zbk mTooMany xTooMany PySem.F.excBase_ValueError F9 n_zip n_max j1 O11 b11 k11 m11 O10 b10 k10 m10
 have O3:z0t l.prog w K mg base (CXx l.prog w) 1 f3 _ ["one"] (z6h K):=zau F3 B.tup B.len n_enumerate
 have O21:z0t l.prog w K mg base (CXx l.prog w) 2 f21 _ ["row"] (z4E K):=zan F21 B.tup O3 b3 k3 m3
 have O4:z0t l.prog w K mg base (CXx l.prog w) 2 f4 _ ["letters"] (z4T K):=zdz F4 O1 b1 k1 m1
 have O5:z0t l.prog w K mg base (CXx l.prog w) 1 f5 _ ["guise"] (z1U K):=zal F5 B.len
 have O8F:z0t l.prog w K mg base (CXx l.prog w) 5 f8 _ ["first","row_at"] (z8l l.prog w K mg base (CXx l.prog w) 4):=zcO F8 B.len B.tup
 have O8P:z0t l.prog w K mg base (CXx l.prog w) 5 f8 _ ["first","row_at"] (z8w l.prog w K mg base (CXx l.prog w) 4):=zdx F8 B.len B.tup
 have O7F:z0t l.prog w K mg base (CXx l.prog w) 6 f7 _ ["first","row_at"] (z6o l.prog w K mg base (CXx l.prog w) 4 CtTooMany):=((z7W F7 B.len B.tup n_zip (O8F.sub zgn) b8 k8 m8 (O9.mono (by decide)) b9 k9 m9 (O10.mono (by decide)) b10 k10 m10).sub zeq)
 have O7P:z0t l.prog w K mg base (CXx l.prog w) 6 f7 _ ["first","row_at"] (z6k l.prog w K mg base (CXx l.prog w) 4 CtTooMany):=((z7W F7 B.len B.tup n_zip (O8P.sub zfr) b8 k8 m8 (O9.mono (by decide)) b9 k9 m9 (O10.mono (by decide)) b10 k10 m10).sub zfj)
 have O20:z0t l.prog w K mg base (CXx l.prog w) 7 f20 _ ["guise"] (zb1 (zap P20 P18) K CtTooMany):=zd6 F20 rfl (PySem.W.codeHd_of_K hK t20) hBM List.mem_cons_self (zaW nP List.mem_cons_self) rfl rfl (O21.mono (by decide)) b21 k21 m21 O7F b7 k7 m7
 have O2:z0t l.prog w K mg base (CXx l.prog w) 1 f2 _ ["one","other"] (z6f K):=zb8 F2 B.tup
 have O19:z0t l.prog w K mg base (CXx l.prog w) 2 f19 _ ["one","other","pair"] (zc4 K):=zf0 F19 n_zip B.tup O2 b2 k2 m2
 have O18:z0t l.prog w K mg base (CXx l.prog w) 7 f18 _ ["one","other"] (z4B (zap P20 P18) K CtTooMany):=zbi F18 rfl (PySem.W.codeHd_of_K hK t18) hBM (List.mem_cons_of_mem _ List.mem_cons_self) (zaW nP (List.mem_cons_of_mem _ List.mem_cons_self)) rfl rfl (O19.mono (by decide)) b19 k19 m19 O7P b7 k7 m7
 have O22:z0t l.prog w K mg base (CXx l.prog w) 8 f22 _ ["guise","many"] (z8E (zap P20 P18) K CtTooMany CtBadCount):=zcC mBadCount xBadCount PySem.F.excBase_ValueError j2 B.rng n_abs F22 (O4.mono (by decide)) b4 k4 m4 (O5.mono (by decide)) b5 k5 m5 O18 b18 k18 m18 O20 b20 k20 m20
 have O23:z0t l.prog w K mg base (CXx l.prog w) 8 f23 _ ["guise","most"] (z8Q (zap P20 P18) K CtTooMany CtBadCount):=zdr mBadCount xBadCount PySem.F.excBase_ValueError j2 B.rng F23 (O4.mono (by decide)) b4 k4 m4 (O5.mono (by decide)) b5 k5 m5 O18 b18 k18 m18
 have O12:z0t l.prog w K mg base (CXx l.prog w) 1 f12 _ ["letters","word"] (z3D K CtBadWord):=zbm mBadWord xBadWord PySem.F.excBase_ValueError F12 n_any
 have O6:z0t l.prog w K mg base (CXx l.prog w) 1 f6 _ ["guise","row","word"] (z6Y K):=zcS F6 B.tup
 have O24:z0t l.prog w K mg base (CXx l.prog w) 2 f24 _ ["guise","word"] (zbJ K CtBadWord):=zf1 F24 O12 b12 k12 m12 O5 b5 k5 m5 O6 b6 k6 m6
 have O27:z0t l.prog w K mg base (CXx l.prog w) 1 f27 _ ["letters","many"] (z3U K CtTooMany CtBadCount):=zad mBadCount xBadCount PySem.F.excBase_ValueError mTooMany xTooMany PySem.F.excBase_ValueError j3 B.rng F27
 have O28:z0t l.prog w K mg base (CXx l.prog w) 3 f28 _ ["guise","word"] (z4p K CtBadWord CtTooMany):=zbS (Cb:=CtBadCount) B.len F28 (O5.mono (by decide)) b5 k5 m5 (O12.mono (by decide)) b12 k12 m12 (O27.mono (by decide)) b27 k27 m27 O24 b24 k24 m24
 have O29:z0t l.prog w K mg base (CXx l.prog w) 4 f29 _ ["guise","many"] (z6W K CtTooMany CtBadCount):=zc2 (Cw:=CtBadWord) F29 (O5.mono (by decide)) b5 k5 m5 (O27.mono (by decide)) b27 k27 m27 O28 b28 k28 m28
 have O16:z0t l.prog w K mg base (CXx l.prog w) 1 f16 _ ["ring"] (z4G K):=z7w F16 B.len
 have O17:z0t l.prog w K mg base (CXx l.prog w) 1 f17 _ ["beginning","ring"] (z75 K):=zbl F17 B.len
 have O14:z0t l.prog w K mg base (CXx l.prog w) 1 f14 _ ["ring"] (z8Z K CtBadWord):=zfb mBadWord xBadWord PySem.F.excBase_ValueError F14 B.len
 have O15:z0t l.prog w K mg base (CXx l.prog w) 2 f15 _ ["beginning","ring"] (z3K K CtBadWord):=zbp F15 B.len O14 b14 k14 m14 O16 b16 k16 m16 O17 b17 k17 m17
 have O13:z0t l.prog w K mg base (CXx l.prog w) 2 f13 _ ["letters","endless"] (z5v K CtBadWord):=zac F13 O14 b14 k14 m14 O12 b12 k12 m12
 have O26:z0t l.prog w K mg base (CXx l.prog w) 1 f26 _ ["laps"] (z4M K):=zbZ F26 B.tup
 have O25:z0t l.prog w K mg base (CXx l.prog w) 3 f25 _ ["guise","endless"] (z7h K CtBadWord):=zbE F25 B.len (O13.mono (by decide)) b13 k13 m13 (O5.mono (by decide)) b5 k5 m5 (O6.mono (by decide)) b6 k6 m6 (O15.mono (by decide)) b15 k15 m15 (O26.mono (by decide)) b26 k26 m26
 have O30:z0t l.prog w K mg base (CXx l.prog w) 1 f30 _ ["_law_script","_law_at"] (z9l K):=zeH F30 B.len
 have O31:z0t l.prog w K mg base (CXx l.prog w) 2 f31 _ ["_law_script","_law_at"] (z4Y K):=zaj F31 O30 b30 k30 m30
 have O34:z0t l.prog w K mg base (CXx l.prog w) 1 f34 _ ["_law_cell_here","_law_many"] (z2Z K):=z9Z F34 B.len
 have O35:z0t l.prog w K mg base (CXx l.prog w) 1 f35 _ ["_law_pick","_law_letters_here"] (zba K):=zeR F35 B.len B.tup B.rng B.lst
 have O36:z0t l.prog w K mg base (CXx l.prog w) 2 f36 _ ["_law_letters_here","_law_cell_here"] (zaA K):=zeX F36 B.rng B.tup n_min O34 b34 k34 m34 O35 b35 k35 m35
 have O32:z0t l.prog w K mg base (CXx l.prog w) 1 f32 _ ["_law_rows_here","_law_line","_law_marks"] (z4X K):=za5 F32 B.len B.tup
 have O33:z0t l.prog w K mg base (CXx l.prog w) 2 f33 _ ["_law_rows_here","_law_start"] (z5a K):=zae F33 B.len B.tup O32 b32 k32 m32
 have O37:z0t l.prog w K mg base (CXx l.prog w) 3 f37 _ ["_law_letters_here","_law_cell_here"] (z8v K):=zcY F37 O36 b36 k36 m36 ((O33.mono (by decide)).sub za3) b33 k33 m33
 have O38:z0t l.prog w K mg base (CXx l.prog w) 2 f38 _ ["_law_letters_here","_law_cell_here","_law_most"] (z8r K):=zcX F38 B.tup O34 b34 k34 m34
 have O39:z0t l.prog w K mg base (CXx l.prog w) 1 f39 _ ["_law_letters_here"] (z5c K):=zam F39
 have O40:z0t l.prog w K mg base (CXx l.prog w) 2 f40 _ ["_law_letters_here","_law_cell_here","_law_most"] (z7f K):=zbd F40 B.len B.tup O34 b34 k34 m34
 have O41:z0t l.prog w K mg base (CXx l.prog w) 9 f41 _ ["_law_one"] (z73 (zap P20 P18) K):=zb7 mTooMany xTooMany PySem.F.excBase_ValueError.hasBase F41 O23 b23 k23 m23
 exact zg3 B.rng F42 (O30.mono (by decide)) b30 k30 m30 (O31.mono (by decide)) b31 k31 m31 (O37.mono (by decide)) b37 k37 m37 O41 b41 k41 m41 (O4.mono (by decide)) b4 k4 m4 (O22.mono (by decide)) b22 k22 m22 (O38.mono (by decide)) b38 k38 m38 (O39.mono (by decide)) b39 k39 m39 (O28.mono (by decide)) b28 k28 m28 (O40.mono (by decide)) b40 k40 m40 (O25.mono (by decide)) b25 k25 m25 (O15.mono (by decide)) b15 k15 m15 (O29.mono (by decide)) b29 k29 m29
theorem walk {l:PySem.W.OpenLaw} {q:Program} {loose:List Str} {XP:(Str→Option Value)→Heap→Prop} {YP:World→Heap→Prop} {d:DefRec} {K:Params→PySem.W.Frag} {P20 P18:Addr} (hn:l.most=some 63) (hdf:d.params.defaults=[])
  (hY:∀ (w:World) (h:Heap),YP w h→(K w.params).In h∧∀ P∈([P20,P18]:List Addr),h.get? P=some (PySem.W.tabObj #[]))
  (F:∀ (w:World) (mg:Str→Option Value) (fa:Addr) (h:Heap),(K w.params).In h→h.Ns mainGlobals mg→mg d.name=some (.ref fa) →
   ∃ fd:FuncData,(∀ (s:Shared) (u:Value),BindsTo s fd ⟨[u],[]⟩ [("_law_script",u)])∧(∀ T∈(zap P20 P18),(K w.params).lookup T.at_=none∧∃ c,PySem.W.codeHdIn (K w.params) c T.at_=true)∧∀ base:Heap,(K w.params).In base→base.Ns mainGlobals mg→z5L base mg→z0t l.prog w (K w.params) mg base (CXx l.prog w) 10 fa fd ["_law_script"] (z94 (zap P20 P18) (K w.params))) :
  PySem.W.WalkO q loose XP YP l.row.toRowW d [] (fun f vs=>PySem.call f vs) :=
 L2.walk_of2 (Ts:=(zap P20 P18)) (n:=63) (k:=10) (x:="_law_script") (CX:=fun w=>(CXx l.prog w)) (sp:=fun w=>z94 (zap P20 P18) (K w.params)) hn (by decide) hdf ⟨rfl,by decide,by decide⟩ hY F (fun _ _ a ns hl hT hS=>⟨a,ns,rfl,hS,hl,hT,fun _=>rfl⟩) fun _ _ _ _ _ z=>(by obtain ⟨_,_,_,_,_,_,_,_,_,h⟩:=z;exact h)
end Gu
open PySem PySem.W PyProof.Rows
set_option maxRecDepth 100000 in
set_option maxHeartbeats 0 in
theorem PySem.Challenge.cw_guisery_k30_whole_orders_holds : PySem.Challenge.rw_guisery_k30_whole_orders.Holds := by
 w_on;o_law;refine holds_open (q:=Gu.viewOf Gu.pY) (loose:=[]) (Xt:=fun s=>xlAt (Gu.viewOf Gu.pY) [] s && recOk (RowW.records Gu.rY.toRowW) s) (XP:=XL (Gu.viewOf Gu.pY) []) (Yf:=Hook.obs Gu.HK) (Ya:=Hook.val Gu.HK) (YP:=Hook.says (PySem.W.kmHook Gu.KH Gu.KA (fun _=>by kernel_rfl) [184,172])) (N:=4508) Gu.left (Hook.of Gu.HK) (Hook.keeps Gu.HK) (fun s e=>xl_of s (Bool.and_eq_true_iff.mp e).1) XL.keeps (by rfl) (by rfl) (by rfl) (fun s e=>recFacts_of (Bool.and_eq_true_iff.mp e).2) (by rfl) (by first | assumption | decide +kernel) (by decide +kernel) ⟨rfl,rfl,rfl,rfl,rfl,by decide +kernel⟩ ?hw ?hc;(case hw=>w_witness2)
 k_fill
 refine Gu.walk (l:=PySem.Challenge.rw_guisery_k30_whole_orders) rfl rfl (fun w h Y=>⟨PySem.W.km_in_of Y,PySem.W.km_tabs_of Y⟩) ?F
 case F =>
  intro w mg fa h KX G hmg
  refine' Gu.all_mk KX G hmg ?h1 ?h2 ?h3 ?h4 ?h5 ?h6 ?h7 ?h8 ?h9 ?h10 ?h11 ?h12 ?h13 ?h14 ?h15 ?h16 ?h17 ?a18 ?l18 ?c18 ?k18 ?h19 ?a20 ?l20 ?c20 ?k20 ?h21 ?h22 ?h23 ?h24 ?h25 ?h26 ?h27 ?h28 ?h29 ?h30 ?h31 ?h32 ?h33 ?h34 ?h35 ?h36 ?h37 ?h38 ?h39 ?h40 ?h41 ?a42 ?l42 ?c42 ?k42 ?t20 ?u20 ?t18 ?u18 ?nP ?i1 ?i2 ?i3 ?z1 ?z2 ?z3 ?z4 ?z5 ?z6 ?z7 ?z8 ?z9 ?z10 ?z11 ?z12 ?z13 ?z14 ?z15 ?z16 ?yTooMany ?xTooMany ?yBadWord ?xBadWord ?yBadCount ?xBadCount
  all_goals try (refine' Gu.FA.of ?_ ?_ ?_ ?_<;>try k_is)
  (case a18=>k_is);(case l18=>k_is);(case c18=>k_is);(case k18=>k_is)
  (case a20=>k_is);(case l20=>k_is);(case c20=>k_is);(case k20=>k_is)
  (case a42=>k_is);(case l42=>k_is);(case c42=>k_is);(case k42=>k_is)
  (case t20=>(first | kernel_rfl | k_is))
  (case u20=>(first | kernel_rfl | k_is))
  (case t18=>(first | kernel_rfl | k_is))
  (case u18=>(first | kernel_rfl | k_is))
  (case nP=>decide)
  (case i1=>k_is)
  (case i2=>k_is)
  (case i3=>k_is)
  (case z1=>k_is)
  (case z2=>k_is)
  (case z3=>k_is)
  (case z4=>k_is)
  (case z5=>k_is)
  (case z6=>k_is)
  (case z7=>k_is)
  (case z8=>k_is)
  (case z9=>k_is)
  (case z10=>k_is)
  (case z11=>k_is)
  (case z12=>k_is)
  (case z13=>k_is)
  (case z14=>k_is)
  (case z15=>k_is)
  (case z16=>k_is)
  (case yTooMany=>k_is)
  (case xTooMany=>k_exc)
  (case yBadWord=>k_is)
  (case xBadWord=>k_exc)
  (case yBadCount=>k_is)
  (case xBadCount=>k_exc)
