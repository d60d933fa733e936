import PyProof.Rows.All
import Wide.All
import OpenK.AllK
import Wide.FinOn
import Lean
import PyProof.EqAt
import PyProof.EqKinds
import PyProof.TupleCall
import PyProof.ListRange
import PyProof.TupleOfSeq
import PyProof.ConsumeWalk
import PyProof.WalksMore
import PyProof.Draws
import PyProof.EnumMake
import PyProof.ZipIter
import PyProof.Rows.EnumRows
import PyProof.Rows.FactsT2
import PyProof.MeetsSeq3
import PyProof.DictRoadsH
import PyProof.Rows.TupTab
import PyProof.Rows.SortWalk
import PyProof.Rows.SeqCalls
import PyProof.ListMulRoad
import KE.KDictLaws
import OpenK.KRaise
import KE.KLam
import KE.KNestM
import PyProof.IsRules
import KE.KDictList
import PyProof.DictCompW
import PyProof.Rows.SetFrom
import PyProof.Rows.SortRuns
import PySem.Challenge.RW_guisery_k25_whole_floors_joined
set_option Elab.async false
set_option linter.all false
set_option maxRecDepth 100000
set_option maxHeartbeats 4000000
theorem zLm.{u,v} {α:Type u} {β:Type v} {as:List α} (f:α→β) : (List.map f as).length=as.length:=List.length_map f
theorem zGe.{u} {α:Type u} {l:List α} {i:Nat} (h:i < l.length) : l[i]?=some l[i]:=List.getElem?_eq_getElem h
theorem zGd.{u} {α:Type u} {l:List α} {i:Nat} {a:α} : l.getD i a=l[i]?.getD a:=List.getD_eq_getElem?_getD
theorem zGm.{u,v} {α:Type u} {β:Type v} {f:α→β} {l:List α} {i:Nat} : (List.map f l)[i]?=Option.map f l[i]?:=List.getElem?_map
theorem zGs.{u} {α:Type u} {i:Nat} {a:α} {l:List α} : l[i]?=some a↔∃ h,l[i]=a:=List.getElem?_eq_some_iff
namespace L2
open PySem PySem.Spec PyProof.Rows
abbrev Key:=Sum Int Str
def z9s:Key→Value→Bool
 | .inl k,v=>Value.isInt k v
 | .inr x,v=>Value.isStrOf x v
def zhe (w:World):Key→Int
 | .inl k=>hashInt k
 | .inr x=>hashStr w x
theorem z0W:∀ {k:Key} {v:Value},z9s k v=true→(∃ i t,k=Sum.inl i∧v=Value.int i t)∨(∃ x t,k=Sum.inr x∧v=Value.str x t)
 | .inl i,v,h=>by
  obtain ⟨t,e⟩:=Value.isInt_shape (k:=i) (v:=v) h
  exact .inl ⟨i,t,rfl,e⟩
 | .inr x,v,h=>by
  obtain ⟨t,e⟩:=Value.isStrOf_shape (x:=x) (v:=v) h
  exact .inr ⟨x,t,rfl,e⟩
theorem z9Y (i:Int) (t:Tok):z9s (.inl i) (.int i t)=true:=by simp [z9s,Value.isInt]
theorem zaF (x:Str) (t:Tok):z9s (.inr x) (.str x t)=true:=by simp [z9s,Value.isStrOf]
theorem zeK (a b:Int):decide ((Sum.inl a:Key)=Sum.inl b)=(a == b):=by
 by_cases e:a=b
 ·subst e;simp
 ·have h:¬ (Sum.inl a:Key)=Sum.inl b:=fun q=>e (Sum.inl.inj q)
  rw [decide_eq_false h]
  exact (beq_eq_false_iff_ne.mpr e).symm
theorem zex (a b:Str):decide ((Sum.inr a:Key)=Sum.inr b)=decide (a=b):=by
 by_cases e:a=b
 ·subst e;simp
 ·have h:¬ (Sum.inr a:Key)=Sum.inr b:=fun q=>e (Sum.inr.inj q)
  rw [decide_eq_false h,decide_eq_false e]
theorem zeO (a:Int) (b:Str):decide ((Sum.inl a:Key)=Sum.inr b)=false:=decide_eq_false (fun q=>nomatch q)
theorem zeV (a:Str) (b:Int):decide ((Sum.inr a:Key)=Sum.inl b)=false:=decide_eq_false (fun q=>nomatch q)
def z1k (prog:Program) (w:World):PySem.KeyKind prog w Key where
 is:=z9s
 hash:=zhe w
 inj:=fun v a b ha hb=>by
  rcases z0W ha with ⟨i,t,rfl,rfl⟩ | ⟨x,t,rfl,rfl⟩
  ·rcases z0W hb with ⟨j,u,rfl,e⟩ | ⟨y,u,rfl,e⟩
   ·injection e with e1 _;rw [e1]
   ·exact nomatch e
  ·rcases z0W hb with ⟨j,u,rfl,e⟩ | ⟨y,u,rfl,e⟩
   ·exact nomatch e
   ·injection e with e1 _;rw [e1]
 byValue:=fun k v h=>by
  rcases z0W h with ⟨i,t,rfl,rfl⟩ | ⟨x,t,rfl,rfl⟩<;>rfl
 pyHash:=fun hv h=>by
  rcases z0W hv with ⟨i,t,rfl,rfl⟩ | ⟨x,t,rfl,rfl⟩
  ·exact wpAny_pyHash_int h
  ·exact wpAny_pyHash_str h
 eqBool:=fun hu hv h=>by
  rcases z0W hu with ⟨i,t,rfl,rfl⟩ | ⟨x,t,rfl,rfl⟩
  ·rcases z0W hv with ⟨j,u,rfl,rfl⟩ | ⟨y,u,rfl,rfl⟩
   ·rw [zeK] at h;exact wpAny_eqBool_int h
   ·rw [zeO] at h;exact SeqAt.EqAt.int_str i t y u _ _ _ _ h
  ·rcases z0W hv with ⟨j,u,rfl,rfl⟩ | ⟨y,u,rfl,rfl⟩
   ·rw [zeV] at h;exact SeqAt.EqAt.str_int x t j u _ _ _ _ h
   ·rw [zex] at h;exact wpAny_eqBool_str h
 «strs»:=fun k x t v h=>by
  rcases z0W h with ⟨i,u,rfl,e⟩ | ⟨y,u,rfl,e⟩
  ·exact nomatch e
  ·injection e with e1 _
   subst e1
   cases v<;>rfl
theorem z7p (prog:Program) (w:World) (i:Int) (t:Tok):(z1k prog w).is (.inl i) (.int i t)=true:=z9Y i t
theorem z7U (prog:Program) (w:World) (x:Str) (t:Tok):(z1k prog w).is (.inr x) (.str x t)=true:=zaF x t
inductive V where
 | non | bl (b:Bool) | int (i:Int) | str (x:Str) | byt (b:Array UInt8) | flt (b:UInt64) | ref (a:Addr) | ty (n:String)
 deriving DecidableEq
def z1c:V→Value→Prop
 | .non,u=>u=Value.none
 | .bl b,u=>u=Value.bool b
 | .int i,u=>∃ t,u=Value.int i t
 | .str x,u=>∃ t,u=Value.str x t
 | .byt b,u=>∃ t,u=Value.bytes b t
 | .flt b,u=>∃ t,u=Value.float b t
 | .ref a,u=>u=Value.ref a
 | .ty n,u=>u=Value.type n
abbrev z0V:List V→List Value→Prop:=Paired z1c
theorem z0V.length {xs:List V} {us:List Value} (r:z0V xs us):xs.length=us.length:=Paired.length r
theorem z0V.get:∀ {xs:List V} {us:List Value} {i:Nat} {x:V},z0V xs us→xs[i]?=some x→∃ u,us[i]?=some u∧z1c x u
 | _,_,_,_,.nil,e=>by simp at e
 | _,_,0,_,.cons r _,e=>by simp at e;subst e;exact ⟨_,rfl,r⟩
 | _,_,i+1,x,.cons _ t,e=>by
  obtain ⟨u,h1,h2⟩:=z0V.get (i:=i) (x:=x) t (by simpa using e)
  exact ⟨u,by simpa using h1,h2⟩
theorem z0V.set {x:V} {u:Value} (r:z1c x u):∀ {xs:List V} {us:List Value} (i:Nat),z0V xs us→z0V (xs.set i x) (us.set i u)
 | _,_,_,.nil=>.nil
 | _,_,0,.cons _ t=>.cons r t
 | _,_,i+1,.cons q t=>.cons q (z0V.set r i t)
theorem z0V.append:∀ {xs ys:List V} {us ws:List Value},z0V xs us→z0V ys ws→z0V (xs++ys) (us++ws)
 | _,_,_,_,.nil,s=>s
 | _,_,_,_,.cons r t,s=>.cons r (z0V.append t s)
theorem z0V.take:∀ {xs:List V} {us:List Value} (n:Nat),z0V xs us→z0V (xs.take n) (us.take n)
 | _,_,0,_=>.nil
 | _,_,_+1,.nil=>.nil
 | _,_,n+1,.cons r t=>.cons r (z0V.take n t)
theorem z0V.drop:∀ {xs:List V} {us:List Value} (n:Nat),z0V xs us→z0V (xs.drop n) (us.drop n)
 | _,_,0,r=>r
 | _,_,_+1,.nil=>.nil
 | _,_,n+1,.cons _ t=>z0V.drop n t
def z97:Option V→Option Value→Prop
 | some v,some u=>z1c v u
 | none,none=>True
 | _,_=>False
def KV {κ:Type}:List (κ × V)→List (κ × Value)→Prop:=Paired fun (p:κ × V) (q:κ × Value)=>p.1=q.1∧z1c p.2 q.2
def kV:Key→V
 | .inl i=>.int i
 | .inr x=>.str x
inductive HO where
  | lst (xs:List V)
  | tup (xs:List V)
  | dK (kvs:List (Key × V)) | dT (kvs:List (List Key × V))
  | set (S:Int→Bool) (n:Nat)
  | ins (C dx:Addr) (fs:List (Str × V))
  | own (x:Addr)
  | xd (fs:List (Str × V))
  | met (f x:Addr)
  | rng (lo hi:Int)
  | frz (o:Obj) (u:HO)
  | tbl (ps:Array Value)
  | ext (φ:Heap→Prop)
abbrev Hp:=Addr→Option HO
def upd (H:Hp) (a:Addr) (o:HO):Hp:=fun b=>if b=a then some o else H b
theorem z01 {H:Hp} {a:Addr} {o:HO}:upd H a o a=some o:=by unfold upd;rw [if_pos rfl]
theorem z07 {H:Hp} {a b:Addr} {o:HO} (h:b≠a):upd H a o b=H b:=by unfold upd;rw [if_neg h]
theorem z36 {H:Hp} {a b:Addr} {o u:HO} (h:H a=some o) (h':H b=some u) (d:o≠u):a≠b:=by
 intro e;subst e;rw [h] at h';exact d (Option.some.inj h')
theorem z0c {H:Hp} {a b:Addr} {o:HO} (h:H a=some o) (h':H b=none):a≠b:=by
 intro e;subst e;rw [h] at h';cases h'
section
variable (P:Program) (w:World)
def z1J (H:Hp) (h:Heap) (a:Addr):HO→Prop
 | .lst xs=>xs.length≤sizeLine∧∃ (its:List Value) (n:Nat),z0V xs its∧h.get? a=some { cls:=.type "list",data:=.seq its.toArray n }
 | .tup xs=>xs.length≤sizeLine∧∃ (its:List Value) (n:Nat),z0V xs its∧h.get? a=some { cls:=.type "tuple",data:=.seq its.toArray n }
 | .dK kvs=>kvs.length≤sizeLine∧(a == sysModules)=false∧∃ vs,KV kvs vs∧h.DictOf (z1k P w) a vs
 | .dT kvs=>kvs.length≤sizeLine∧(a == sysModules)=false∧∃ xs:List (List Key × Addr × Value),
   Paired (fun (p:List Key × V) (q:List Key × Addr × Value)=>p.1=q.1∧H q.2.1=some (.tup (p.1.map kV))∧z1c p.2 q.2.2) kvs xs ∧
   ∃ o es ep,h.get? a=some o∧o.ExactDict∧o.data=.dict es ep∧es.toList=xs.map (entryOfKey (tupleKind (z1k P w)))∧(xs.map (·.1)).Nodup
 | .set S n=>h.SetOf (intKind P w) a S n
 | .ins C dx fs=>H dx=some (.own a)∧fs.length≤1000∧dx≠a∧h.get? a=some (PySem.W.instObj C dx) ∧
   ∃ mA,h.Ns1 dx mA∧(∀ f,z97 (fs.lookup f) (mA f))∧PySem.Within mA (fs.map (·.1))
 | .own _=>∃ o,h.get? a=some o
 | .xd fs=>∃ mA,h.Ns1 a mA∧∀ f,z97 (fs.lookup f) (mA f)
 | .rng lo hi=>∃ t u v,h.get? a=some { cls:=.type "range",data:=.fields #[.int lo t,.int hi u,.int 1 v] }
 | .frz o u=>h.get? a=some o∧z1J H h a u
 | .tbl ps=>h.get? a=some { cls:=.none,data:=.fields ps }
 | .met f x=>h.get? a=some (PySem.W.methodObj (.ref f) (.ref x))
 | .ext φ=>φ h∧(∃ o,h.get? a=some o)∧∀ h1 h2:Heap,φ h1→(∀ o,h1.get? a=some o→h2.get? a=some o)→φ h2
def HOk (H:Hp) (h:Heap):Prop:=∀ a o,H a=some o→z1J P w H h a o
end
section
variable {P:Program} {w:World} {H H':Hp} {h h':Heap} {a:Addr} {o:HO}
theorem z1J.lt (x:z1J P w H h a o):a < h.objs.size:=by
 cases o with
 | lst xs=>obtain ⟨_,_,_,_,e⟩:=x;exact Heap.lt_size e
 | tup xs=>obtain ⟨_,_,_,_,e⟩:=x;exact Heap.lt_size e
 | dK kvs=>obtain ⟨_,_,_,_,o,_,_,e,_⟩:=x;exact Heap.lt_size e
 | dT kvs=>obtain ⟨_,_,_,_,o,_,_,e,_⟩:=x;exact Heap.lt_size e
 | set S n=>obtain ⟨o,_,_,_,e,_⟩:=x;exact Heap.lt_size e
 | ins C dx fs=>obtain ⟨_,_,_,e,_⟩:=x;exact Heap.lt_size e
 | own y=>obtain ⟨_,e⟩:=x;exact Heap.lt_size e
 | xd fs=>obtain ⟨_,⟨_,_,_,e,_⟩,_⟩:=x;exact Heap.lt_size e
 | rng lo hi=>obtain ⟨_,_,_,e⟩:=x;exact Heap.lt_size e
 | frz ob u=>obtain ⟨e,_⟩:=x;exact Heap.lt_size e
 | tbl ps=>exact Heap.lt_size (show h.get? a=some _ from x)
 | met f y=>exact Heap.lt_size (show h.get? a=some _ from x)
 | ext φ=>obtain ⟨_,⟨_,e⟩,_⟩:=x;exact Heap.lt_size e
theorem Paired.mapP {α β:Type} {F G:α→β→Prop}:∀ {l₁:List α} {l₂:List β},Paired F l₁ l₂→(∀ a b,F a b→G a b)→Paired G l₁ l₂
 | _,_,.nil,_=>.nil
 | _,_,.cons r t,f=>.cons (f _ _ r) (Paired.mapP t f)
theorem z1J.stay (x:z1J P w H h a o) (k:∀ b u,(b=a∨H b=some (.own a))→h.get? b=some u→h'.get? b=some u)
  (ho:∀ b,H b=some (.own a)→H' b=some (.own a)) (ht:∀ b xs,H b=some (.tup xs)→H' b=some (.tup xs)):z1J P w H' h' a o:=by
 induction o with
 | lst xs=>obtain ⟨z,its,n,r,e⟩:=x;exact ⟨z,its,n,r,k _ _ (.inl rfl) e⟩
 | tup xs=>obtain ⟨z,its,n,r,e⟩:=x;exact ⟨z,its,n,r,k _ _ (.inl rfl) e⟩
 | dK kvs=>obtain ⟨z,y,vs,r,ob,es,ep,e,c⟩:=x;exact ⟨z,y,vs,r,ob,es,ep,k _ _ (.inl rfl) e,c⟩
 | dT kvs =>
  obtain ⟨z,y,xs,r,ob,es,ep,e,c⟩:=x
  exact ⟨z,y,xs,Paired.mapP r fun p q z=>⟨z.1,ht _ _ z.2.1,z.2.2⟩,ob,es,ep,k _ _ (.inl rfl) e,c⟩
 | set S n=>obtain ⟨ob,es,ep,t,e,c⟩:=x;exact ⟨ob,es,ep,t,k _ _ (.inl rfl) e,c⟩
 | ins C dx fs =>
  obtain ⟨d,z,ne,e,mA,⟨od,es,ep,e2,c⟩,r⟩:=x
  exact ⟨ho _ d,z,ne,k _ _ (.inl rfl) e,mA,⟨od,es,ep,k _ _ (.inr d) e2,c⟩,r⟩
 | own y=>obtain ⟨ob,e⟩:=x;exact ⟨ob,k _ _ (.inl rfl) e⟩
 | xd fs=>obtain ⟨mA,⟨od,es,ep,e,c⟩,r⟩:=x;exact ⟨mA,⟨od,es,ep,k _ _ (.inl rfl) e,c⟩,r⟩
 | rng lo hi=>obtain ⟨t,u,v,e⟩:=x;exact ⟨t,u,v,k _ _ (.inl rfl) e⟩
 | frz ob u ih=>obtain ⟨e,q⟩:=x;exact ⟨k _ _ (.inl rfl) e,ih q⟩
 | tbl ps =>
  have e:h.get? a=some { cls:=.none,data:=.fields ps }:=x
  show h'.get? a=some { cls:=.none,data:=.fields ps }
  exact k a _ (.inl rfl) e
 | met f y =>
  have e:h.get? a=some (PySem.W.methodObj (.ref f) (.ref y)):=x
  show h'.get? a=some (PySem.W.methodObj (.ref f) (.ref y))
  exact k a _ (.inl rfl) e
 | ext φ=>obtain ⟨p,⟨o,e⟩,st⟩:=x;exact ⟨st _ _ p fun o q=>k _ _ (.inl rfl) q,⟨o,k _ _ (.inl rfl) e⟩,st⟩
theorem HOk.lt (x:HOk P w H h) (e:H a=some o):a < h.objs.size:=(x a o e).lt
theorem HOk.fresh (x:HOk P w H h) (e:h.objs.size≤a):H a=none:=by
 cases q:H a with
 | none=>rfl
 | some u=>exact absurd (Nat.lt_of_lt_of_le (x.lt q) e) (Nat.lt_irrefl _)
theorem HOk.kept (x:HOk P w H h) (k:∀ b u,h.get? b=some u→h'.get? b=some u):HOk P w H h':=fun a o e =>
 (x a o e).stay (fun b u _ q=>k b u q) (fun _ q=>q) fun _ _ q=>q
theorem HOk.laid (x:HOk P w H h) (k:∀ b u,h.get? b=some u→h'.get? b=some u) (hp:h.objs.size≤a) (new:z1J P w (upd H a o) h' a o):HOk P w (upd H a o) h':=fun b u e=>by
 have hn:=x.fresh hp
 by_cases hb:b=a
 ·subst hb;rw [z01] at e;cases e;exact new
 ·rw [z07 hb] at e
  exact (x b u e).stay (fun c v _ q=>k c v q) (fun c q=>by rw [z07 (z0c q hn)];exact q) fun c xs q=>by rw [z07 (z0c q hn)];exact q
end
def Rd (H:Hp) (a:Addr) (u:HO):Prop:=H a=some u∨∃ o,H a=some (.frz o u)
theorem Rd.ok {P:Program} {w:World} {H:Hp} {h:Heap} {a:Addr} {u:HO} (r:Rd H a u) (x:HOk P w H h):z1J P w H h a u:=by
 rcases r with r | ⟨o,r⟩
 ·exact x a u r
 ·obtain ⟨_,q⟩:=x a _ r
  exact q
def Mut:Option HO→Prop
 | some (.lst _)=>True
 | some (.dK _)=>True
 | some (.dT _)=>True
 | some (.set _ _)=>True
 | some (.ins _ _ _)=>True
 | some (.ext _)=>True
 | _=>False
section
variable {P:Program} {w:World} {H:Hp} {h h':Heap} {x e:Addr} {o':HO}
theorem HOk.write (ok:HOk P w H h) (mu:Mut (H x)) (he:e=x∨H e=some (.own x)) (k:∀ b u,b≠e→h.get? b=some u→h'.get? b=some u) (heo:∃ u,h'.get? e=some u)
  (new:z1J P w (upd H x o') h' x o'):HOk P w (upd H x o') h':=fun b u q=>by
 have nown:∀ c y,H c=some (.own y)→c≠x:=fun c y r z=>by subst z;rw [r] at mu;exact mu
 have ntup:∀ c xs,H c=some (.tup xs)→c≠x:=fun c xs r z=>by subst z;rw [r] at mu;exact mu
 by_cases hb:b=x
 ·subst hb;rw [z01] at q;cases q;exact new
 ·rw [z07 hb] at q
  by_cases hbe:b=e
  ·have q':H b=some (.own x):=by
    rcases he with z | z
    ·exact absurd (hbe.trans z) hb
    ·rw [hbe];exact z
   rw [q] at q';cases q'
   obtain ⟨v,hv⟩:=heo
   exact ⟨v,by rw [hbe];exact hv⟩
  ·refine (ok b u q).stay (fun c v hc r=>k c v ?_ r) (fun c r=>by rw [z07 (nown c b r)];exact r) fun c xs r=>by rw [z07 (ntup c xs r)];exact r
   rcases hc with rfl | hc
   ·exact hbe
   ·rintro rfl
    rcases he with z | z
    ·exact nown c b hc z
    ·rw [hc] at z;cases z;exact hb rfl
end
structure Un (fs ex:List Addr) (H H':Hp) (h h':Heap):Prop where
 keep:∀ b o,h.get? b=some o→H b=none→b∉fs→b∉ex→h'.get? b=some o
 slot:∀ b o,h.get? b=some o→H b=none→b∈fs→b∉ex→∃ sl,h'.get? b=some { o with slots:=sl }
 free:∀ b o,h.get? b=some o→H b=none→b∉ex→H' b=none
 there:∀ b o,h.get? b=some o→b∉ex→∃ o',h'.get? b=some o'
 tups:∀ b xs,H b=some (.tup xs)→H' b=some (.tup xs)
 frzs:∀ b o u,H b=some (.frz o u)→H' b=some (.frz o u)
 tbls:∀ b ps,H b=some (.tbl ps)→∃ more,H' b=some (.tbl (ps++more))
section
variable {fs fs' ex ex':List Addr} {H H1 H2:Hp} {h h1 h2 h':Heap} {a x e:Addr} {o:HO}
theorem Un.any (u:Un fs ex H H1 h h1) {b:Addr} {ob:Obj} (q:h.get? b=some ob) (n:H b=none) (hx:b∉ex):∃ sl,h1.get? b=some { ob with slots:=sl }:=by
 by_cases hb:b∈fs
 ·exact u.slot b ob q n hb hx
 ·exact ⟨ob.slots,u.keep b ob q n hb hx⟩
theorem Un.kept (k:∀ b u,h.get? b=some u→h'.get? b=some u):Un fs ex H H h h' :=
 ⟨fun b ob q _ _ _=>k b ob q,fun b ob q _ _ _=>⟨ob.slots,k b ob q⟩,fun _ _ _ n _=>n,fun b ob q _=>⟨ob,k b ob q⟩,fun _ _ q=>q,fun _ _ _ q=>q,fun _ ps q=>⟨#[],by rw [q];simp⟩⟩
theorem Un.refl:Un fs ex H H h h:=Un.kept fun _ _ q=>q
theorem Un.laid (k:∀ b u,h.get? b=some u→h'.get? b=some u) (hp:h.objs.size≤a) (hn:H a=none):Un fs ex H (upd H a o) h h' where
 keep:=fun b u q _ _ _=>k b u q
 slot:=fun b u q _ _ _=>⟨u.slots,k b u q⟩
 free:=fun b u q n _=>by rw [z07 (Nat.ne_of_lt (Nat.lt_of_lt_of_le (Heap.lt_size q) hp))];exact n
 there:=fun b u q _=>⟨u,k b u q⟩
 tups:=fun b xs q=>by rw [z07 (z0c q hn)];exact q
 frzs:=fun b u xs q=>by rw [z07 (z0c q hn)];exact q
 tbls:=fun b ps q=>⟨#[],by rw [z07 (z0c q hn),q];simp⟩
theorem Un.write (mu:Mut (H x)) (he:e=x∨H e=some (.own x)) (k:∀ b u,b≠e→h.get? b=some u→h'.get? b=some u) (heo:∃ u,h'.get? e=some u):Un fs ex H (upd H x o) h h':=by
 have hx:∀ b,H b=none→b≠x:=fun b n z=>by subst z;rw [n] at mu;exact mu
 have hb:∀ b,H b=none→b≠e:=fun b n z=>by
  subst z
  rcases he with r | r
  ·exact hx b n r
  ·rw [n] at r;cases r
 have hm:∀ b u,H b=some u→¬ Mut (some u)→b≠x:=fun b u q nm z=>by subst z;rw [q] at mu;exact nm mu
 refine ⟨fun b u q n _ _=>k b u (hb b n) q,fun b u q n _ _=>⟨u.slots,k b u (hb b n) q⟩,fun b u q n _=>by rw [z07 (hx b n)];exact n,fun b u q _=>?_,
  fun b xs q=>by rw [z07 (hm b _ q fun z=>z)];exact q,fun b u xs q=>by rw [z07 (hm b _ q fun z=>z)];exact q,fun b ps q=>⟨#[],by rw [z07 (hm b _ q fun z=>z),q];simp⟩⟩
 by_cases hbe:b=e
 ·subst hbe;exact heo
 ·exact ⟨u,k b u hbe q⟩
end
def trk (h:Heap) (H:Hp):List Addr:=(List.range h.objs.size).filter fun a=>(H a).isSome
def zbq (h:Heap) (H:Hp):Heap:=PySem.W.hideAll h (trk h H)
theorem zat (h:Heap) (H:Hp):(zbq h H).objs.size=h.objs.size:=PySem.W.hideAll_size _ _
theorem zc0 {h:Heap} {H:Hp} {b:Addr} {o:Obj} (e:h.get? b=some o) (n:H b=none):(zbq h H).get? b=some o :=
 PySem.W.hideAll_get _ e fun hm=>by
  have q:(H b).isSome=true:=(List.mem_filter.mp hm).2
  rw [n] at q;simp at q
theorem ze6 {h:Heap} {H:Hp} {b:Addr} {o:Obj} (e:(zbq h H).get? b=some o):h.get? b=some o∧H b=none:=by
 have e':h.get? b=some o:=PySem.W.of_hideAll (trk h H) e
 refine ⟨e',?_⟩
 cases q:H b with
 | none=>rfl
 | some x =>
  have hm:b∈trk h H:=List.mem_filter.mpr ⟨List.mem_range.mpr (Heap.lt_size e'),by simp [q]⟩
  have z:(zbq h H).get? b=none:=PySem.W.hideAll_none (trk h H) hm
  rw [z] at e;cases e
def zdI (g h:Heap) (L:Addr):List (Addr × Obj):=(List.range h.objs.size).filterMap fun a=>if a=L∨(g.get? a).isSome=true then none else (h.get? a).map fun o=>(a,o)
def z1A (g h:Heap) (L d:Addr):List (Addr × Obj):=(zdI g h L).filter fun p=>decide (p.1≠d)
structure Mod (K:PySem.W.Frag) (mg:Str→Option Value) (base:Heap):Prop where
 kin:K.In base
 glob:base.Ns mainGlobals mg
 blt:∃ mb,base.Ns builtinsNs mb∧∀ x:Str,x≠"__name__"→mb x=bootBuiltins x
 nolimit:base.NoLimit
structure Cx where
 prog:Program
 w:World
 K:PySem.W.Frag
 mg:Str→Option Value
 base:Heap
 A:Around
 N:List Str
 s₀:Shared
 H₀:Hp
 env:Env
 outer:List Env
 stack:List Env
 ex:List Addr
 fn:Str→Bool
 calm:Bool
 pn:List (Addr × Obj)
 xe:Value→Shared→Prop
def frs (l:List Env):List Addr:=l.filterMap (·.frame)
abbrev Cx.fs (X:Cx):List Addr:=frs X.outer
def Vis (sc:Scope) (x:Str):Prop:=sc.names.lookup x=some .local∨sc.names.lookup x=some .cell∨sc.names.lookup x=some .free
def Loc (sc:Scope) (x:Str):Prop:=sc.names.lookup x=some .local∨sc.names.lookup x=some .cell
def zhg (env:Env) (h:Heap) (m:Str→Option Value) (x:Str) (u:Value):Prop :=
 (env.kindOf x=some .local∧m x=some u)∨((env.kindOf x=some .cell∨env.kindOf x=some .free)∧∃ c,env.cells.lookup x=some c∧h.IsCell c (some u))
structure Cx.Ok (X:Cx):Prop where
 mod:Mod X.K X.mg X.base
 kind:X.env.scope.kind=.function
 glob:X.env.globals=mainGlobals
 blt:X.env.builtins=builtinsNs
 above:X.s₀.heap.objs.size≤X.env.locals
 inj:∀ x y c,X.env.cells.lookup x=some c→X.env.cells.lookup y=some c→x=y
 has:∀ x,(X.env.kindOf x=some .cell∨X.env.kindOf x=some .free)→∃ c,X.env.cells.lookup x=some c
 cab:∀ x c,X.fn x=true→X.env.cells.lookup x=some c→X.s₀.heap.objs.size≤c
 hd:X.calm=true→X.A.handled=none
 frames:X.A.frames=some X.stack
 stk:X.stack=X.outer∨(X.stack=X.env::X.outer∧X.env.frame=some X.env.locals)
 exf:∀ b∈X.ex,b≠X.env.locals∧∀ x c,X.env.cells.lookup x=some c→c≠b
 bs:∀ b o,X.base.get? b=some o→X.s₀.heap.get? b=some o∧X.H₀ b=none
 bsz:X.base.objs.size≤X.s₀.heap.objs.size
 noex:∀ b o,X.base.get? b=some o→b∉X.ex
 exfs:∀ b∈X.ex,b∉X.fs
 funs:X.s₀.heap.FunFrames X.base X.outer
 frf:∀ b∈X.fs,X.H₀ b=none
structure Inv (X:Cx) (pins:List (Addr × Obj)) (σ:List (Option V)) (H:Hp) (s:Shared):Prop where
 ok:X.Ok
 os:s.os=X.s₀.os
 bare:AllBare s.gens
 base:Un X.fs X.ex X.H₀ H X.s₀.heap s.heap
 loc:∃ m,s.heap.Ns X.env.locals m∧∀ (i:Nat) (x:Str) (v:V),X.N[i]?=some x→σ[i]?=some (some v)→Vis X.env.scope x→∃ u,z1c v u∧zhg X.env s.heap m x u
 cell:∀ x c,X.env.cells.lookup x=some c→∃ v,s.heap.IsCell c v
 free:H X.env.locals=none
 freeC:∀ x c,X.env.cells.lookup x=some c→H c=none
 pin:∀ p∈X.pn++pins,s.heap.get? p.1=some p.2∧H p.1=none∧p.1≠X.env.locals∧p.1∉X.fs∧∀ v,p.2.data≠.cell v
 hok:HOk X.prog X.w H s.heap
 len:σ.length=X.N.length
section
variable {X:Cx} {pins:List (Addr × Obj)} {σ:List (Option V)} {H H':Hp} {s:Shared} {h':Heap}
theorem Cx.Ok.nofr (ok:X.Ok) {b:Addr} {o:Obj} (e:X.base.get? b=some o):b∉X.fs:=fun hb=>by
 have:=(ok.funs.mem hb).1
 rw [e] at this;cases this
theorem Inv.bs (I:Inv X pins σ H s):∀ b o,X.base.get? b=some o→s.heap.get? b=some o∧H b=none:=fun b o e =>
 ⟨I.base.keep b o (I.ok.bs b o e).1 (I.ok.bs b o e).2 (I.ok.nofr e) (I.ok.noex b o e),I.base.free b o (I.ok.bs b o e).1 (I.ok.bs b o e).2 (I.ok.noex b o e)⟩
theorem Inv.bk (I:Inv X pins σ H s):∀ b o,X.base.get? b=some o→s.heap.get? b=some o:=fun b o e=>(I.bs b o e).1
theorem Inv.mod (I:Inv X pins σ H s):Mod X.K X.mg X.base:=I.ok.mod
theorem Inv.kIn (I:Inv X pins σ H s):X.K.In s.heap:=I.ok.mod.kin.keeps I.bk
theorem Inv.lt (I:Inv X pins σ H s):X.env.locals < s.heap.objs.size:=let ⟨_,hn,_⟩:=I.loc;hn.lt
theorem Inv.sz (I:Inv X pins σ H s):X.s₀.heap.objs.size≤s.heap.objs.size:=Nat.le_trans I.ok.above (Nat.le_of_lt I.lt)
theorem Inv.nofs (I:Inv X pins σ H s) {a:Addr} (h:s.heap.objs.size≤a):a∉X.fs:=fun hb=>by
 obtain ⟨_,o,ho,_⟩:=I.ok.funs.mem hb
 exact absurd (Nat.lt_of_lt_of_le (Heap.lt_size ho) (Nat.le_trans I.sz h)) (Nat.lt_irrefl _)
theorem Inv.cne (I:Inv X pins σ H s):∀ x c,X.env.cells.lookup x=some c→c≠X.env.locals:=fun x c e z=>by
 obtain ⟨v,o,ho,hd⟩:=I.cell x c e
 obtain ⟨m,⟨o',es,ep,ho',hd',_⟩,_⟩:=I.loc
 rw [z,ho'] at ho;cases ho;rw [hd'] at hd;cases hd
theorem Inv.funs (I:Inv X pins σ H s):s.heap.FunFrames X.base X.outer:=by
 have all:∀ (l:List Env),(∀ b∈frs l,b∈X.fs)→X.s₀.heap.FunFrames X.base l→s.heap.FunFrames X.base l:=by
  intro l
  induction l with
  | nil=>intro _ _;trivial
  | cons env r ih =>
   intro hs hl
   obtain ⟨hk,⟨L,o,hf,hn,ho,hd⟩,hr⟩:=hl
   have hL:L∈X.fs:=hs L (by unfold frs;rw [List.filterMap_cons,hf];exact List.mem_cons_self)
   obtain ⟨sl,e⟩:=I.base.slot L o ho (I.ok.frf L hL) hL fun z=>I.ok.exfs L z hL
   exact ⟨hk,⟨L,_,hf,hn,e,hd⟩,ih (fun b hb=>hs b (by unfold frs;rw [List.filterMap_cons,hf];exact List.mem_cons_of_mem _ hb)) hr⟩
 exact all X.outer (fun _ hb=>hb) I.ok.funs
theorem Inv.stack (I:Inv X pins σ H s):s.heap.FunFrames X.base X.stack:=by
 rcases I.ok.stk with e | ⟨e,hf⟩
 ·rw [e];exact I.funs
 ·rw [e]
  obtain ⟨m,hn,_⟩:=I.loc
  refine .cons (by rw [I.ok.kind];decide) hf hn ?_ I.funs
  exact Heap.get?_none_of_le (Nat.le_trans I.ok.bsz I.ok.above)
theorem Inv.stkSub (I:Inv X pins σ H s):∀ b∈frs X.stack,b∈X.env.locals::X.fs:=fun b hb=>by
 rcases I.ok.stk with e | ⟨e,hf⟩
 ·rw [e] at hb;exact List.mem_cons_of_mem _ hb
 ·rw [e] at hb
  unfold frs at hb
  rw [List.filterMap_cons,hf] at hb
  exact hb
theorem Inv.stkFree (I:Inv X pins σ H s):∀ b∈frs X.stack,H b=none:=fun b hb=>by
 rcases List.mem_cons.mp (I.stkSub b hb) with e | hb
 ·rw [e];exact I.free
 ·obtain ⟨_,o,ho,_⟩:=I.ok.funs.mem hb
  exact I.base.free b o ho (I.ok.frf b hb) fun z=>I.ok.exfs b z hb
theorem Inv.step {g':Array GenState} {t':Nat} {d':Drawn} {ch:List Addr} (I:Inv X pins σ H s)
  (hch:∀ b∈ch,(b∈X.ex∨X.s₀.heap.objs.size≤b)∧b≠X.env.locals∧(∀ x c,X.env.cells.lookup x=some c→c≠b)∧∀ p∈X.pn++pins,p.1≠b)
  (keep:∀ b o,b≠X.env.locals→b∉X.fs→b∉ch→s.heap.get? b=some o→H b=none→h'.get? b=some o)
  (slot:∀ b o,b≠X.env.locals→b∈X.fs→b∉ch→s.heap.get? b=some o→H b=none→∃ sl,h'.get? b=some { o with slots:=sl }) (free:∀ b o,b∉ch→s.heap.get? b=some o→H b=none→H' b=none)
  (there:∀ b o,b∉ch→s.heap.get? b=some o→∃ o',h'.get? b=some o')
  (tups:∀ b xs,H b=some (.tup xs)→H' b=some (.tup xs)) (frzs:∀ b o u,H b=some (.frz o u)→H' b=some (.frz o u)) (tbls:∀ b ps,H b=some (.tbl ps)→∃ more,H' b=some (.tbl (ps++more)))
  (ns:∀ m,s.heap.Ns X.env.locals m→h'.Ns X.env.locals m) (hok:HOk X.prog X.w H' h') (hg:AllBare g') :
  Inv X pins σ H' { s with heap:=h',gens:=g',drawn:=d',toks:=t' }:=by
 have neL:∀ b o,X.s₀.heap.get? b=some o→b≠X.env.locals:=fun b o e=>Nat.ne_of_lt (Nat.lt_of_lt_of_le (Heap.lt_size e) I.ok.above)
 have neC:∀ b o,X.s₀.heap.get? b=some o→b∉X.ex→b∉ch:=fun b o e hx hb=>by
  rcases (hch b hb).1 with z | z
  ·exact hx z
  ·exact absurd (Nat.lt_of_lt_of_le (Heap.lt_size e) z) (Nat.lt_irrefl _)
 have cellK:∀ x c,X.env.cells.lookup x=some c→∀ v,s.heap.IsCell c v→h'.IsCell c v:=fun x c e v ⟨o,ho,hd⟩=>by
  have nch:c∉ch:=fun z=>(hch c z).2.2.1 x c e rfl
  by_cases hc:c∈X.fs
  ·obtain ⟨sl,q⟩:=slot c o (I.cne x c e) hc nch ho (I.freeC x c e)
   exact ⟨_,q,hd⟩
  ·exact ⟨o,keep c o (I.cne x c e) hc nch ho (I.freeC x c e),hd⟩
 refine ⟨I.ok,I.os,hg,⟨fun b o e n hb hx=>?_,fun b o e n hb hx=>?_,fun b o e n hx=>?_,fun b o e hx=>?_,fun b xs e=>tups b xs (I.base.tups b xs e),fun b o xs e=>frzs b o xs (I.base.frzs b o xs e),fun b ps e=>?_⟩,?_,fun x c e=>?_,?_,fun x c e=>?_,fun p hp=>?_,hok,I.len⟩
 ·exact keep b o (neL b o e) hb (neC b o e hx) (I.base.keep b o e n hb hx) (I.base.free b o e n hx)
 ·obtain ⟨sl,e1⟩:=I.base.slot b o e n hb hx
  obtain ⟨sl',e2⟩:=slot b _ (neL b o e) hb (neC b o e hx) e1 (I.base.free b o e n hx)
  exact ⟨sl',e2⟩
 ·obtain ⟨o',e1⟩:=I.base.there b o e hx
  exact free b o' (neC b o e hx) e1 (I.base.free b o e n hx)
 ·obtain ⟨o',e1⟩:=I.base.there b o e hx
  exact there b o' (neC b o e hx) e1
 ·obtain ⟨m1,e1⟩:=I.base.tbls b ps e
  obtain ⟨m2,e2⟩:=tbls b _ e1
  exact ⟨m1++m2,by rw [e2,Array.append_assoc]⟩
 ·obtain ⟨m,hn,hl⟩:=I.loc
  refine ⟨m,ns m hn,fun i x v e1 e2 e3=>?_⟩
  obtain ⟨u,r,l⟩:=hl i x v e1 e2 e3
  refine ⟨u,r,?_⟩
  rcases l with l | ⟨k,c,e,z⟩
  ·exact .inl l
  ·exact .inr ⟨k,c,e,cellK x c e _ z⟩
 ·obtain ⟨v,z⟩:=I.cell x c e
  exact ⟨v,cellK x c e v z⟩
 ·obtain ⟨m,⟨o,_,_,ho,_⟩,_⟩:=I.loc
  exact free _ o (fun z=>(hch _ z).2.1 rfl) ho I.free
 ·obtain ⟨v,o,ho,hd⟩:=I.cell x c e
  exact free c o (fun z=>(hch c z).2.2.1 x c e rfl) ho (I.freeC x c e)
 ·obtain ⟨e,n,ne,nf,d⟩:=I.pin p hp
  have nch:p.1∉ch:=fun z=>(hch p.1 z).2.2.2 p hp rfl
  exact ⟨keep p.1 p.2 ne nf nch e n,free p.1 p.2 nch e n,ne,nf,d⟩
theorem Inv.un {t':Nat} (I:Inv X pins σ H s) (u:Un X.fs [] H H' s.heap h') (hok:HOk X.prog X.w H' h'):Inv X pins σ H' { s with heap:=h',toks:=t' }:=by
 obtain ⟨m,⟨o,es,ep,ho,r⟩,_⟩:=id I.loc
 obtain ⟨sl,hL⟩:=u.any ho I.free (by simp)
 exact I.step (g':=s.gens) (d':=s.drawn) (ch:=[]) (fun _ z=>nomatch z) (fun b o _ hb _ e n=>u.keep b o e n hb (by simp)) (fun b o _ hb _ e n=>u.slot b o e n hb (by simp)) (fun b o _ e n=>u.free b o e n (by simp)) (fun b o _ e=>u.there b o e (by simp)) u.tups u.frzs u.tbls (fun m' hm=>by
  obtain ⟨o',es',ep',ho',r'⟩:=hm
  rw [ho] at ho';cases ho'
  exact ⟨_,es',ep',hL,r'⟩) hok I.bare
theorem Inv.call {g':Array GenState} {t':Nat} {d':Drawn} {ch:List Addr} (I:Inv X pins σ H s) (u:Un (frs X.stack) ch H H' s.heap h') (hok:HOk X.prog X.w H' h') (hg:AllBare g')
  (hch:∀ b∈ch,(b∈X.ex∨X.s₀.heap.objs.size≤b)∧b≠X.env.locals∧(∀ x c,X.env.cells.lookup x=some c→c≠b)∧∀ p∈X.pn++pins,p.1≠b) :
  Inv X pins σ H' { s with heap:=h',gens:=g',drawn:=d',toks:=t' }:=by
 obtain ⟨m,⟨o,es,ep,ho,r⟩,_⟩:=id I.loc
 obtain ⟨sl,hL⟩:=u.any ho I.free fun z=>(hch _ z).2.1 rfl
 exact I.step (ch:=ch) hch (fun b o hL hb hc e n=>u.keep b o e n (fun z=>(List.mem_cons.mp (I.stkSub b z)).elim hL hb) hc) (fun b o _ _ hc e n=>u.any e n hc) (fun b o hc e n=>u.free b o e n hc) (fun b o hc e=>u.there b o e hc) u.tups u.frzs u.tbls (fun m' hm=>by
  obtain ⟨o',es',ep',ho',r'⟩:=hm
  rw [ho] at ho';cases ho'
  exact ⟨_,es',ep',hL,r'⟩) hok hg
theorem Inv.turned {t':Nat} {it:Addr} (I:Inv X pins σ H s) (k:∀ b o,b≠it→s.heap.get? b=some o→h'.get? b=some o) (hn:H it=none) (hL:it≠X.env.locals)
  (h1:it∈X.ex∨X.s₀.heap.objs.size≤it) (h2:∀ x c,X.env.cells.lookup x=some c→c≠it) (h3:∀ p∈X.pn++pins,p.1≠it):Inv X pins σ H { s with heap:=h',toks:=t' }:=by
 have nit:∀ b u,H b=some u→b≠it:=fun b u e z=>by rw [z,hn] at e;cases e
 refine I.step (g':=s.gens) (d':=s.drawn) (ch:=[it]) (fun b hb=>?_) (fun b o _ _ hc e _=>k b o (fun z=>hc (by simp [z])) e) (fun b o _ _ hc e _=>⟨o.slots,k b o (fun z=>hc (by simp [z])) e⟩) (fun _ _ _ _ n=>n)
  (fun b o hc e=>⟨o,k b o (fun z=>hc (by simp [z])) e⟩) (fun _ _ e=>e) (fun _ _ _ e=>e) (fun b ps e=>⟨#[],by rw [e];simp⟩) (fun m hm=>?_) (fun b u e=>?_) I.bare
 ·have e:b=it:=by simpa using hb
  subst e
  exact ⟨h1,hL,h2,h3⟩
 ·obtain ⟨o,es,ep,ho,r⟩:=hm
  exact ⟨o,es,ep,k _ o (Ne.symm hL) ho,r⟩
 ·refine (I.hok b u e).stay (fun c v hc q=>k c v ?_ q) (fun _ q=>q) fun _ _ q=>q
  rcases hc with z | z
  ·rw [z];exact nit b u e
  ·exact nit c _ z
theorem Inv.tok (I:Inv X pins σ H s) (t:Nat):Inv X pins σ H { s with toks:=t }:=I.un (h':=s.heap) (t':=t) Un.refl I.hok
theorem Inv.kept {t':Nat} (I:Inv X pins σ H s) (k:∀ b u,s.heap.get? b=some u→h'.get? b=some u):Inv X pins σ H { s with heap:=h',toks:=t' }:=I.un (Un.kept k) (I.hok.kept k)
theorem Inv.laid {a:Addr} {o:HO} {t':Nat} (I:Inv X pins σ H s) (k:∀ b u,s.heap.get? b=some u→h'.get? b=some u) (hp:s.heap.objs.size≤a) (new:z1J X.prog X.w (upd H a o) h' a o) :
  Inv X pins σ (upd H a o) { s with heap:=h',toks:=t' }:=I.un (Un.laid k hp (I.hok.fresh hp)) (I.hok.laid k hp new)
theorem Inv.write {x e:Addr} {o:HO} {t':Nat} (I:Inv X pins σ H s) (mu:Mut (H x)) (he:e=x∨H e=some (.own x)) (k:∀ b u,b≠e→s.heap.get? b=some u→h'.get? b=some u) (heo:∃ u,h'.get? e=some u)
  (new:z1J X.prog X.w (upd H x o) h' x o):Inv X pins σ (upd H x o) { s with heap:=h',toks:=t' }:=I.un (Un.write mu he k heo) (I.hok.write mu he k heo new)
theorem Inv.pins_of {pins':List (Addr × Obj)} (I:Inv X pins σ H s) (h:∀ p∈pins',s.heap.get? p.1=some p.2∧H p.1=none∧p.1≠X.env.locals∧p.1∉X.fs∧∀ v,p.2.data≠.cell v):Inv X pins' σ H s :=
 ⟨I.ok,I.os,I.bare,I.base,I.loc,I.cell,I.free,I.freeC,fun p hp=>(List.mem_append.mp hp).elim (fun z=>I.pin p (List.mem_append_left _ z)) (h p),I.hok,I.len⟩
theorem z64 {N:List Str} (hN:N.Nodup) {i j:Nat} {x:Str} (a:N[i]?=some x) (b:N[j]?=some x):i=j:=by
 obtain ⟨h1,e1⟩:=zGs.mp a
 obtain ⟨h2,e2⟩:=zGs.mp b
 exact (List.getElem_inj hN).mp (e1.trans e2.symm)
theorem z6K {M:Model} {A:Around} {E:Value→Shared→Prop} {i:Nat} {x:Str} {v:V} {u:Value} {Q:Unit→Shared→Prop} (I:Inv X pins σ H s) (hN:X.N.Nodup) (hi:X.N[i]?=some x) (hx:Loc X.env.scope x) (r:z1c v u)
  (h:∀ s',Inv X pins (σ.set i (some v)) H s'→(∃ a,Heap.SameBut a s.heap s'.heap∧(a=X.env.locals∨X.env.cells.lookup x=some a))→Q () s') (hf:X.fn x=true∨X.env.scope.names.lookup x=some .local:=by first | exact .inl rfl | exact .inr rfl | assumption):wpAny M A (storeName X.env x u) Q E s:=by
 obtain ⟨m,hn,hl⟩:=id I.loc
 have hcls:(X.env.scope.kind == .class || (X.env.scope.kind == .module && X.env.locals != X.env.globals))=false:=by rw [I.ok.kind];rfl
 have hiσ:i < σ.length:=by rw [I.len];exact (zGs.mp hi).1
 have cne:=I.cne
 have tracked:∀ {a:Addr} {h':Heap},(∃ o,s.heap.get? a=some o∧H a=none)→Heap.SameBut a s.heap h'→HOk X.prog X.w H h':=fun {a h'} ha hs b ob e=>by
  obtain ⟨_,_,hfree⟩:=ha
  refine (I.hok b ob e).stay (fun c w' hc q=>(hs.2 c ?_).trans q) (fun _ q=>q) fun _ _ q=>q
  rintro rfl
  rcases hc with rfl | hc
  ·rw [hfree] at e;cases e
  ·rw [hfree] at hc;cases hc
 rcases hx with hk | hk
 ·refine wpAny_storeName_local hk hn (fun h' hn' hs=>?_) hcls
  obtain ⟨oL,_,_,hoL,_⟩:=id hn
  refine h _ ⟨I.ok,I.os,I.bare,⟨fun b o e n hb hx=>?_,fun b o e n hb hx=>?_,I.base.free,fun b o e hx=>?_,I.base.tups,I.base.frzs,I.base.tbls⟩,⟨_,hn',fun j y v' e1 e2 e3=>?_⟩,fun y c e=>?_,I.free,I.freeC,fun p hp=>?_,tracked ⟨oL,hoL,I.free⟩ hs,by simpa using I.len⟩ ⟨_,hs,.inl rfl⟩
  ·exact (hs.2 b (Nat.ne_of_lt (Nat.lt_of_lt_of_le (Heap.lt_size e) I.ok.above))).trans (I.base.keep b o e n hb hx)
  ·obtain ⟨sl,e1⟩:=I.base.slot b o e n hb hx
   exact ⟨sl,(hs.2 b (Nat.ne_of_lt (Nat.lt_of_lt_of_le (Heap.lt_size e) I.ok.above))).trans e1⟩
  ·obtain ⟨o',e1⟩:=I.base.there b o e hx
   exact ⟨o',(hs.2 b (Nat.ne_of_lt (Nat.lt_of_lt_of_le (Heap.lt_size e) I.ok.above))).trans e1⟩
  ·by_cases hj:j=i
   ·subst hj
    rw [hi] at e1;cases e1
    rw [List.getElem?_set_self hiσ] at e2
    cases e2
    exact ⟨u,r,.inl ⟨hk,by simp⟩⟩
   ·rw [List.getElem?_set_ne (Ne.symm hj)] at e2
    obtain ⟨u',r',q⟩:=hl j y v' e1 e2 e3
    refine ⟨u',r',?_⟩
    rcases q with ⟨k,e⟩ | ⟨k,c,e,z⟩
    ·refine .inl ⟨k,?_⟩
     have:y≠x:=fun e=>hj (z64 hN e1 (e ▸ hi))
     simp [this,e]
    ·exact .inr ⟨k,c,e,z.sameBut hs (cne y c e)⟩
  ·obtain ⟨w',z⟩:=I.cell y c e
   exact ⟨w',z.sameBut hs (cne y c e)⟩
  ·obtain ⟨e,n,ne,nf,d⟩:=I.pin p hp
   exact ⟨(hs.2 p.1 ne).trans e,n,ne,nf,d⟩
 ·have hfn:X.fn x=true:=by
   rcases hf with z | z
   ·exact z
   ·rw [z] at hk;cases hk
  obtain ⟨c,hc⟩:=I.ok.has x (.inl hk)
  obtain ⟨w',z⟩:=I.cell x c hc
  refine wpAny_storeName_cell I.ok.kind hk hc z (fun h' hc' hs=>?_)
  obtain ⟨oc,hoc,hocd⟩:=id z
  refine h { s with heap:=h' } ⟨I.ok,I.os,I.bare,⟨fun b o e n hb hx=>?_,fun b o e n hb hx=>?_,I.base.free,fun b o e hx=>?_,I.base.tups,I.base.frzs,I.base.tbls⟩,⟨m,hn.sameBut hs (Ne.symm (cne x c hc)),fun j y v' e1 e2 e3=>?_⟩,fun y c' e=>?_,I.free,I.freeC,fun p hp=>?_,tracked ⟨oc,hoc,I.freeC x c hc⟩ hs,by simpa using I.len⟩ ⟨c,hs,.inr hc⟩
  ·exact (hs.2 b (Nat.ne_of_lt (Nat.lt_of_lt_of_le (Heap.lt_size e) (I.ok.cab x c hfn hc)))).trans (I.base.keep b o e n hb hx)
  ·obtain ⟨sl,e1⟩:=I.base.slot b o e n hb hx
   exact ⟨sl,(hs.2 b (Nat.ne_of_lt (Nat.lt_of_lt_of_le (Heap.lt_size e) (I.ok.cab x c hfn hc)))).trans e1⟩
  ·obtain ⟨o',e1⟩:=I.base.there b o e hx
   exact ⟨o',(hs.2 b (Nat.ne_of_lt (Nat.lt_of_lt_of_le (Heap.lt_size e) (I.ok.cab x c hfn hc)))).trans e1⟩
  ·by_cases hj:j=i
   ·subst hj
    rw [hi] at e1;cases e1
    rw [List.getElem?_set_self hiσ] at e2
    cases e2
    exact ⟨u,r,.inr ⟨.inl hk,c,hc,hc'⟩⟩
   ·rw [List.getElem?_set_ne (Ne.symm hj)] at e2
    obtain ⟨u',r',q⟩:=hl j y v' e1 e2 e3
    refine ⟨u',r',?_⟩
    rcases q with q | ⟨k,c',e,z'⟩
    ·exact .inl q
    ·refine .inr ⟨k,c',e,z'.sameBut hs ?_⟩
     rintro rfl
     exact hj (z64 hN e1 (I.ok.inj _ _ _ e hc ▸ hi))
  ·by_cases hcc:c'=c
   ·subst hcc;exact ⟨_,hc'⟩
   ·obtain ⟨w2,z2⟩:=I.cell y c' e
    exact ⟨w2,z2.sameBut hs hcc⟩
  ·obtain ⟨e,n,ne,nf,d⟩:=I.pin p hp
   refine ⟨(hs.2 p.1 ?_).trans e,n,ne,nf,d⟩
   intro q
   rw [q,hoc] at e
   have q':oc=p.2:=Option.some.inj e
   exact d w' (by rw [←q'];exact hocd)
theorem z68 {M:Model} {A:Around} {E:Value→Shared→Prop} {i:Nat} {x:Str} {v:V} {u:Value} {Q:Unit→Shared→Prop} (I:Inv X pins σ H s) (hN:X.N.Nodup) (hi:X.N[i]?=some x) (hx:Loc X.env.scope x) (r:z1c v u)
  (h:∀ s',Inv X pins (σ.set i (some v)) H s'→Q () s') (hf:X.fn x=true∨X.env.scope.names.lookup x=some .local:=by first | exact .inl rfl | exact .inr rfl | assumption):wpAny M A (storeName X.env x u) Q E s :=
 z6K I hN hi hx r (fun s' I' _=>h s' I') hf
theorem Inv.call' {s':Shared} {ch:List Addr} (I:Inv X pins σ H s) (ho:s'.os=s.os) (u:Un (frs X.stack) ch H H' s.heap s'.heap) (hok:HOk X.prog X.w H' s'.heap) (hg:AllBare s'.gens)
  (hch:∀ b∈ch,(b∈X.ex∨X.s₀.heap.objs.size≤b)∧b≠X.env.locals∧(∀ x c,X.env.cells.lookup x=some c→c≠b)∧∀ p∈X.pn++pins,p.1≠b):Inv X pins σ H' s':=by
 obtain ⟨h',g',d',t',o'⟩:=s'
 have e:o'=s.os:=ho
 subst e
 exact I.call (g':=g') (t':=t') (d':=d') u hok hg hch
end
abbrev XK:=Value→Option Addr→Hp→Prop
abbrev St:=List (Option V)
abbrev VK:=V→Hp→Prop
abbrev TE:=St→Hp→VK→Prop
abbrev TT:=St→Hp→(Bool→Hp→Prop)→Prop
abbrev TA:=St→Hp→(List V→Hp→Prop)→Prop
structure z3Y where
 nx:St→Hp→Prop
 rt:VK
 bk:St→Hp→Prop:=fun _ _=>False
 ct:St→Hp→Prop:=fun _ _=>False
abbrev TS:=z3Y→St→Hp→Prop
def EP (X:Cx) (pins:List (Addr × Obj)) (σ:St) (Q:VK) (u:Value) (s':Shared):Prop:=∃ v H',Inv X pins σ H' s'∧z1c v u∧Q v H'
def TP (X:Cx) (pins:List (Addr × Obj)) (σ:St) (Q:Bool→Hp→Prop) (b:Bool) (s':Shared):Prop:=∃ H',Inv X pins σ H' s'∧Q b H'
def AP (X:Cx) (pins:List (Addr × Obj)) (σ:St) (Q:List V→Hp→Prop) (us:List Value) (s':Shared):Prop:=∃ vs H',Inv X pins σ H' s'∧z0V vs us∧Q vs H'
def SP (X:Cx) (pins:List (Addr × Obj)) (D:z3Y) (f:Flow) (s':Shared):Prop :=
 match f with
 | .next=>∃ σ' H',Inv X pins σ' H' s'∧D.nx σ' H'
 | .brk=>∃ σ' H',Inv X pins σ' H' s'∧D.bk σ' H'
 | .cont=>∃ σ' H',Inv X pins σ' H' s'∧D.ct σ' H'
 | .ret u=>∃ v σ' H',Inv X pins σ' H' s'∧z1c v u∧D.rt v H'
def PE (X:Cx) (e:Expr) (t:TE):Prop :=
 ∀ (pins:List (Addr × Obj)) (s:Shared) (σ:St) (H:Hp) (Q:VK),Inv X pins σ H s→t σ H Q→wpAny (model X.prog X.w) X.A (eval e X.env) (EP X pins σ Q) X.xe s
def PT (X:Cx) (e:Expr) (t:TT):Prop :=
 ∀ (pins:List (Addr × Obj)) (s:Shared) (σ:St) (H:Hp) (Q:Bool→Hp→Prop),Inv X pins σ H s→t σ H Q→wpAny (model X.prog X.w) X.A (isTrue e X.env (eval e X.env)) (TP X pins σ Q) X.xe s
def PW (X:Cx) (e:Expr) (t:TT):Prop :=
 ∀ (whole:Sem Value) (pins:List (Addr × Obj)) (s:Shared) (σ:St) (H:Hp) (Q:Bool→Hp→Prop),Inv X pins σ H s→t σ H Q→wpAny (model X.prog X.w) X.A (isTrue e X.env whole) (TP X pins σ Q) X.xe s
theorem PW.pt {X:Cx} {e:Expr} {t:TT} (h:PW X e t):PT X e t:=h _
def PA (X:Cx) (es:List Expr) (t:TA):Prop :=
 ∀ (pos:Pos) (pins:List (Addr × Obj)) (s:Shared) (σ:St) (H:Hp) (Q:List V→Hp→Prop),Inv X pins σ H s→t σ H Q→wpAny (model X.prog X.w) X.A (spliced (backTo pos (starEach es X.env))) (AP X pins σ Q) X.xe s
def PS (X:Cx) (st:Stmt) (t:TS):Prop :=
 ∀ (pins:List (Addr × Obj)) (s:Shared) (σ:St) (H:Hp) (D:z3Y),Inv X pins σ H s→t D σ H→wpAny (model X.prog X.w) X.A (exec st X.env) (SP X pins D) X.xe s
def PSs (X:Cx) (st:List Stmt) (t:TS):Prop :=
 ∀ (pins:List (Addr × Obj)) (s:Shared) (σ:St) (H:Hp) (D:z3Y),Inv X pins σ H s→t D σ H→wpAny (model X.prog X.w) X.A (execs st X.env) (SP X pins D) X.xe s
theorem thn {α:Type} {t:Sem α} {Q Q':α→Shared→Prop} {M:Model} {A:Around} {E:Value→Shared→Prop} {s:Shared} (h:wpAny M A t Q E s) (hQ:∀ a s,Q a s→Q' a s):wpAny M A t Q' E s:=wpAny_mono h hQ fun _ _ x=>x
theorem exA {α:Sort _} {f g:α→Prop} {a:α} (h:f a) (k:g a):∃ x,f x∧g x:=⟨a,h,k⟩
theorem exB {α β:Sort _} {f g:α→β→Prop} {a:α} {b:β} (h:f a b) (k:g a b):∃ x y,f x y∧g x y:=⟨a,b,h,k⟩
theorem exC {α β:Sort _} {f f' g:α→β→Prop} {a:α} {b:β} (h:f a b) (h':f' a b) (k:g a b):∃ x y,f x y∧f' x y∧g x y:=⟨a,b,h,h',k⟩
theorem exD {α β γ δ:Sort _} {f1 f2 f3 f4 g:α→β→γ→δ→Prop} (a:α) (b:β) (c:γ) (d:δ) (h1:f1 a b c d) (h2:f2 a b c d) (h3:f3 a b c d) (h4:f4 a b c d) (k:g a b c d):∃ x y z w,f1 x y z w∧f2 x y z w∧f3 x y z w∧f4 x y z w∧g x y z w:=⟨a,b,c,d,h1,h2,h3,h4,k⟩
theorem exF {α β:Sort _} {f1 f2 f3 g:α→β→Prop} (a:α) {b:β} (h1:f1 a b) (h2:f2 a b) (h3:f3 a b) (k:g a b):∃ x y,f1 x y∧f2 x y∧f3 x y∧g x y:=⟨a,b,h1,h2,h3,k⟩
theorem exG {α β:Sort _} {f1 f2 g:α→β→Prop} (a:α) {b:β} (h1:f1 a b) (h2:f2 a b) (k:g a b):∃ x y,f1 x y∧f2 x y∧g x y:=⟨a,b,h1,h2,k⟩
theorem z1B {X:Cx} {pins:List (Addr × Obj)} {σ:St} {Q:VK} {t:Sem Value} {R:Value→Shared→Prop} {s:Shared} (h:wpAny (model X.prog X.w) X.A t (EP X pins σ Q) X.xe s) (k:∀ u s1 x H1,Inv X pins σ H1 s1→z1c x u→Q x H1→R u s1):wpAny (model X.prog X.w) X.A t R X.xe s:=thn h fun u s1 z=>by
 obtain ⟨x,H1,I1,r,q⟩:=z
 exact k u s1 x H1 I1 r q
end L2
namespace L2
open PySem PySem.Spec PyProof.Rows
section
variable {X:Cx}
theorem bin {a b:Expr} {ta tb:TE} (ha:PE X a ta) (hb:PE X b tb) {pins:List (Addr × Obj)} {s:Shared} {σ:St} {H:Hp} {R:V→V→Hp→Prop} (I:Inv X pins σ H s) (h:ta σ H fun x H1=>tb σ H1 fun y H2=>R x y H2)
  {α:Type} {Q:α→Shared→Prop} {f:Value→Value→Sem α}
  (hf:∀ v u s2 x y H2,Inv X pins σ H2 s2→z1c x v→z1c y u→R x y H2→wpAny (model X.prog X.w) X.A (f v u) Q X.xe s2) :
  wpAny (model X.prog X.w) X.A (eval a X.env) (fun v s₁=>wpAny (model X.prog X.w) X.A (eval b X.env) (fun u s₂=>wpAny (model X.prog X.w) X.A (f v u) Q X.xe s₂) X.xe s₁) X.xe s:=by
 refine z1B (ha pins s σ H _ I h) fun v s1 x H1 I1 r1 q1=>?_
 refine z1B (hb pins s1 σ H1 _ I1 q1) fun u s2 y H2 I2 r2 q2=>?_
 exact hf v u s2 x y H2 I2 r1 r2 q2
def zgz (i:Nat):TE:=fun σ H Q=>∃ v,σ[i]?=some (some v)∧Q v H
def tC (v:V):TE:=fun _ H Q=>Q v H
theorem zcG {i:Nat} {x:Str} {pos:Pos} (hN:X.N[i]?=some x) (hv:Vis X.env.scope x) (hd:(x == ("__debug__":Str))=false:=by decide) (hcd:(x == ("__classdict__":Str))=false:=by decide):PE X (.Name x pos) (zgz i):=by
 intro pins s σ H Q I h
 obtain ⟨v,e,h⟩:=h
 obtain ⟨m,hn,hl⟩:=I.loc
 obtain ⟨u,r,l⟩:=hl i x v hN e hv
 have fin:EP X pins σ Q u s:=⟨v,H,I,r,h⟩
 rcases l with ⟨hk,hm⟩ | ⟨hk,c,hc,hcell⟩
 ·exact wpAny_Name (wpAny_loadName_local I.ok.kind hk hn hm fin) hd
 ·rcases hk with hk | hk
  ·exact wpAny_Name (wpAny_loadName_cell I.ok.kind hk hc hcell fin) hd
  ·exact wpAny_Name (wpAny_loadName_free I.ok.kind hk hc hcell fin hcd) hd
theorem z08 {i j pos}:PE X (.Constant (.int i) j pos) (tC (.int i)):=fun _ _ _ H _ I h=>wpAny_Constant_int ⟨.int i,H,I.tok _,⟨_,rfl⟩,h⟩
theorem z9K {b j pos}:PE X (.Constant (.bool b) j pos) (tC (.bl b)):=fun _ _ _ H _ I h=>Constant_bool ⟨.bl b,H,I,rfl,h⟩
theorem zac {j pos}:PE X (.Constant .none j pos) (tC .non):=fun _ _ _ H _ I h=>Constant_none ⟨.non,H,I,rfl,h⟩
theorem z5o {x j pos}:PE X (.Constant (.str x) j pos) (tC (.str x)):=fun _ _ _ H _ I h=>Calls.Constant_str ⟨.str x,H,I.tok _,⟨_,rfl⟩,h⟩
def Gl (X:Cx) (x:Str):Prop:=X.env.kindOf x=some .globalImplicit
theorem z4v {E:Value→Shared→Prop} {pins:List (Addr × Obj)} {s:Shared} {σ:St} {H:Hp} {x:Str} {u:Value} {pos:Pos} {Q:Value→Shared→Prop} (I:Inv X pins σ H s) (hg:Gl X x) (hm:X.mg x=some u) (h:Q u s)
  (hd:(x == ("__debug__":Str))=false:=by decide):wpAny (model X.prog X.w) X.A (eval (.Name x pos) X.env) Q E s :=
 Calls.Name_function_global I.ok.kind hg (Calls.loadGlobal_global (by rw [I.ok.glob];exact I.mod.glob.keeps I.bk) hm h) hd
theorem z5v {E:Value→Shared→Prop} {pins:List (Addr × Obj)} {s:Shared} {σ:St} {H:Hp} {x:Str} {u:Value} {pos:Pos} {Q:Value→Shared→Prop} (I:Inv X pins σ H s) (hg:Gl X x) (hm:X.mg x=none) (hv:bootBuiltins x=some u) (h:Q u s)
  (hn:x≠"__name__":=by decide) (hd:(x == ("__debug__":Str))=false:=by decide):wpAny (model X.prog X.w) X.A (eval (.Name x pos) X.env) Q E s:=by
 obtain ⟨mb,h1,h2⟩:=I.mod.blt
 exact Calls.Name_function_global I.ok.kind hg (Calls.loadGlobal_builtin (by rw [I.ok.glob];exact I.mod.glob.keeps I.bk) hm (by rw [I.ok.blt];exact h1.keeps I.bk) ((h2 x hn).trans hv) h) hd
theorem z81 {x:Str} {v:V} {u:Value} {pos:Pos} (hg:Gl X x) (hm:X.mg x=some u) (r:z1c v u) (hd:(x == ("__debug__":Str))=false:=by decide):PE X (.Name x pos) (tC v) :=
 fun _ _ _ H _ I h=>z4v I hg hm ⟨v,H,I,r,h⟩ hd
def t2I (ta tb:TE) (k:Int→Int→Hp→Prop):St→Hp→Prop:=fun σ H=>ta σ H fun x H1=>tb σ H1 fun y H2=>∃ i j,x=.int i∧y=.int j∧k i j H2
variable {a b:Expr} {ta tb:TE} {pos:Pos}
def PC (X:Cx) (op:CmpOp) (a b:Expr) (t:TE):Prop :=
 ∀ (pins:List (Addr × Obj)) (s:Shared) (σ:St) (H:Hp) (Q:VK),Inv X pins σ H s→t σ H Q →
  wpAny (model X.prog X.w) X.A (eval a X.env) (fun v s₁=>wpAny (model X.prog X.w) X.A (eval b X.env) (fun u s₂=>wpAny (model X.prog X.w) X.A (compareOp op v u) (EP X pins σ Q) X.xe s₂) X.xe s₁) X.xe s
theorem zca (b:Expr) {op:CmpOp} (h:op≠.In) (h2:op≠.NotIn):behindInMarks op b=false:=by
 have e1:(op == CmpOp.In)=false:=by cases op<;>first | rfl | exact absurd rfl h
 have e2:(op == CmpOp.NotIn)=false:=by cases op<;>first | rfl | exact absurd rfl h2
 cases b<;>simp [behindInMarks,e1,e2]
def zg6 (p:Int→Int→Bool) (ta tb:TE):TE:=fun σ H Q=>t2I ta tb (fun i j H2=>Q (.bl (p i j)) H2) σ H
abbrev zh0:TE→TE→TE:=zg6 fun i j=>decide (i=j)
abbrev zh4:TE→TE→TE:=zg6 fun i j=>!decide (i=j)
theorem zcY {op:CmpOp} {p:Int→Int→Bool} (ha:PE X a ta) (hb:PE X b tb)
  (rule:∀ (i j:Int) (t u:Tok) (Q:Value→Shared→Prop) (s:Shared),Q (.bool (p i j)) s→wpAny (model X.prog X.w) X.A (compareOp op (.int i t) (.int j u)) Q X.xe s):PC X op a b (zg6 p ta tb):=by
 intro pins s σ H Q I h
 refine bin ha hb I h fun v u s2 x y H2 I2 rx ry q=>?_
 obtain ⟨i,j,rfl,rfl,q⟩:=q
 obtain ⟨t,rfl⟩:=rx
 obtain ⟨t',rfl⟩:=ry
 exact rule i j t t' _ s2 ⟨.bl _,H2,I2,rfl,q⟩
theorem z3X (ha:PE X a ta) (hb:PE X b tb):PC X .Eq a b (zh0 ta tb):=zcY ha hb fun _ _ _ _ _ _ h=>eq_int (by rw [Bool.beq_eq_decide_eq];exact h)
theorem zfh (ha:PE X a ta) (hb:PE X b tb):PC X .NotEq a b (zh4 ta tb):=zcY ha hb fun _ _ _ _ _ _ h=>ne_int (by rw [bne,Bool.beq_eq_decide_eq];exact h)
def tB (t:TE):TT:=fun σ H Q=>t σ H fun x H1=>∃ c,x=.bl c∧Q c H1
theorem z21 {op:CmpOp} {t:TE} (h:PC X op a b t) (h1:behindInMarks op b=false:=by first | exact zca _ (by decide) (by decide) | rfl):PT X (.Compare a [op] [b] pos) (tB t):=by
 intro pins s σ H Q I hw
 refine wpAny_isTrue_Compare1 (thn (h pins s σ H _ I hw) fun v s1 h1=>thn h1 fun u s2 h2=>thn h2 fun c s3 hz8=>?_) h1
 obtain ⟨x,H1,I1,r1,q1⟩:=hz8
 obtain ⟨d,rfl,q⟩:=q1
 cases r1
 exact wpAny_truthy_bool ⟨H1,I1,q⟩
theorem zcE {e:Expr} {t:TE} (h:PE X e t) (he:∀ whole,isTrue e X.env whole=(do let v ←whole;standAt e.pos;holding [v] (truthy v)):=by intro _;rfl):PT X e (tB t):=by
 intro pins s σ H Q I hw
 refine isTrue_plain (z1B (h pins s σ H _ I hw) fun v s1 x H1 I1 r1 q1=>?_) (he _)
 obtain ⟨d,rfl,q⟩:=q1
 cases r1
 exact wpAny_truthy_bool ⟨H1,I1,q⟩
variable {tA tB':TT} {z1A:List Expr}
def zhl (t u:TT):TT:=fun σ H Q=>t σ H fun c H1=>if c=true then u σ H1 Q else Q false H1
def tOr (t u:TT):TT:=fun σ H Q=>t σ H fun c H1=>if c=true then Q true H1 else u σ H1 Q
def zhu (t:TT):TT:=fun σ H Q=>t σ H fun c H1=>Q (!c) H1
theorem z4Q (ha:PT X a tA):PW X (.BoolOp .And [a] pos) tA:=by
 intro wh pins s σ H Q I h
 refine isTrue_and (thn (ha pins s σ H Q I h) fun c s1 e=>?_)
 cases c with
 | true=>exact isTrue_and_nil e
 | false=>exact e
theorem zel (ha:PT X a tA):PW X (.BoolOp .Or [a] pos) tA:=by
 intro wh pins s σ H Q I h
 refine isTrue_or (thn (ha pins s σ H Q I h) fun c s1 e=>?_)
 cases c with
 | false=>exact isTrue_or_nil e
 | true=>exact e
theorem z6J (ha:PT X a tA) (hb:PW X (.BoolOp .And (b::z1A) pos) tB'):PW X (.BoolOp .And (a::b::z1A) pos) (zhl tA tB'):=by
 intro wh pins s σ H Q I h
 refine isTrue_and (thn (ha pins s σ H _ I h) fun c s1 hz8=>?_)
 obtain ⟨H1,I1,q1⟩:=hz8
 cases c with
 | true=>exact hb wh pins s1 σ H1 Q I1 q1
 | false=>exact ⟨H1,I1,q1⟩
theorem zfQ (ha:PT X a tA) (hb:PW X (.BoolOp .Or (b::z1A) pos) tB'):PW X (.BoolOp .Or (a::b::z1A) pos) (tOr tA tB'):=by
 intro wh pins s σ H Q I h
 refine isTrue_or (thn (ha pins s σ H _ I h) fun c s1 hz8=>?_)
 obtain ⟨H1,I1,q1⟩:=hz8
 cases c with
 | true=>exact ⟨H1,I1,q1⟩
 | false=>exact hb wh pins s1 σ H1 Q I1 q1
theorem zeI (ha:PT X a tA):PT X (.UnaryOp .Not a pos) (zhu tA):=by
 intro pins s σ H Q I h
 exact isTrue_not (ha pins s σ H (fun c H1=>Q (!c) H1) I h)
def zgm (ta tb:TE):TE:=fun σ H Q=>ta σ H fun x H1=>∃ c,x=.bl c∧if c=true then tb σ H1 Q else Q (.bl false) H1
def zfB (ta:TE):TE:=fun σ H Q=>ta σ H fun x H1=>∃ c,x=.bl c∧Q (.bl (!c)) H1
theorem zfk {op} {t:TE} (h:PE X a t):PE X (.BoolOp op [a] pos) t:=fun pins s σ H Q I hw=>BoolOp_one (h pins s σ H Q I hw)
theorem zeN (ha:PE X a ta) (hb:PE X (.BoolOp .And (b::z1A) pos) tb):PE X (.BoolOp .And (a::b::z1A) pos) (zgm ta tb):=by
 intro pins s σ H Q I h
 refine BoolOp_and (z1B (ha pins s σ H _ I h) fun v s1 x H1 I1 r1 q1=>?_)
 obtain ⟨c,rfl,q1⟩:=q1
 cases r1
 refine wpAny_truthy_bool ?_
 cases c with
 | true=>exact hb pins s1 σ H1 Q I1 q1
 | false=>exact ⟨.bl false,H1,I1,rfl,q1⟩
theorem zeS (ha:PE X a ta):PE X (.UnaryOp .Not a pos) (zfB ta):=by
 intro pins s σ H Q I h
 refine UnaryOp_ (z1B (ha pins s σ H _ I h) fun v s1 x H1 I1 r1 q1=>?_)
 obtain ⟨c,rfl,q1⟩:=q1
 cases r1
 exact not_of (wpAny_truthy_bool ⟨.bl (!c),H1,I1,rfl,q1⟩)
def tIf (t:TT) (ta tb:TE):TE:=fun σ H Q=>t σ H fun c H1=>if c=true then ta σ H1 Q else tb σ H1 Q
theorem zbN {c:Expr} (hc:PT X c tA) (ha:PE X a ta) (hb:PE X b tb):PE X (.IfExp c a b pos) (tIf tA ta tb):=by
 intro pins s σ H Q I h
 refine wpAny_IfExp (thn (hc pins s σ H _ I h) fun d s1 hz8=>?_)
 obtain ⟨H1,I1,q1⟩:=hz8
 cases d with
 | true=>exact ha pins s1 σ H1 Q I1 q1
 | false=>exact hb pins s1 σ H1 Q I1 q1
end
end L2
namespace L2
open PySem PySem.Spec PyProof.Rows
def SqL (K:PySem.W.Frag) (H:Hp) (a:Addr) (xs:List V):Prop :=
 Rd H a (.lst xs) ∨
  ∃ (o:Obj) (its:Array Value) (n:Nat),K.lookup a=some o∧o.cls=.type "list"∧o.dict=none∧o.data=.seq its n∧its.size≤sizeLine∧z0V xs its.toList
def SqT (K:PySem.W.Frag) (H:Hp) (a:Addr) (xs:List V):Prop :=
 Rd H a (.tup xs) ∨
  ∃ (o:Obj) (its:Array Value) (n:Nat),K.lookup a=some o∧o.cls=.type "tuple"∧o.data=.seq its n∧its.size≤sizeLine∧z0V xs its.toList
def zgY:Value→Option V
 | .none=>some .non
 | .bool b=>some (.bl b)
 | .int i _=>some (.int i)
 | .str x _=>some (.str x)
 | .bytes b _=>some (.byt b)
 | .float b _=>some (.flt b)
 | .ref a=>some (.ref a)
 | .type n=>some (.ty n)
 | _=>none
theorem z1c.abs {x:V} {u:Value} (r:z1c x u):zgY u=some x:=by
 cases x with
 | non=>cases r;rfl
 | bl _=>cases r;rfl
 | int _=>obtain ⟨t,rfl⟩:=r;rfl
 | str _=>obtain ⟨t,rfl⟩:=r;rfl
 | byt _=>obtain ⟨t,rfl⟩:=r;rfl
 | flt _=>obtain ⟨t,rfl⟩:=r;rfl
 | ref _=>cases r;rfl
 | ty _=>cases r;rfl
theorem z1c.inj {x y:V} {u:Value} (r:z1c x u) (q:z1c y u):x=y:=Option.some.inj (r.abs.symm.trans q.abs)
theorem z0V.inj:∀ {xs ys:List V} {us:List Value},z0V xs us→z0V ys us→xs=ys
 | _,_,_,.nil,.nil=>rfl
 | _,_,_,.cons r t,.cons r' t'=>by rw [r.inj r',z0V.inj t t']
section
variable {X:Cx} {pins:List (Addr × Obj)} {σ:St} {H:Hp} {s:Shared} {a:Addr} {xs ys:List V}
theorem SqL.of {K:PySem.W.Frag} (h:H a=some (.lst xs)):SqL K H a xs:=.inl (.inl h)
theorem SqT.of {K:PySem.W.Frag} (h:H a=some (.tup xs)):SqT K H a xs:=.inl (.inl h)
theorem Inv.list (I:Inv X pins σ H s) (h:SqL X.K H a xs):∃ its:List Value,z0V xs its∧PlainL s.heap a its.toArray∧xs.length≤sizeLine:=by
 rcases h with h | ⟨o,its,n,hk,hc,hd,hs,hz,r⟩
 ·obtain ⟨z,its,n,r,e⟩:=h.ok I.hok
  exact ⟨its,r,⟨_,n,e,rfl,rfl,rfl⟩,z⟩
 ·refine ⟨its.toList,r,⟨o,n,I.kIn a o hk,hc,hd,by simpa using hs⟩,?_⟩
  have e:=r.length
  simp only [Array.length_toList] at e
  lia
theorem Inv.tuple (I:Inv X pins σ H s) (h:SqT X.K H a xs):∃ its:List Value,z0V xs its∧IsTup s.heap a its.toArray∧xs.length≤sizeLine:=by
 rcases h with h | ⟨o,its,n,hk,hc,hs,hz,r⟩
 ·obtain ⟨z,its,n,r,e⟩:=h.ok I.hok
  exact ⟨its,r,⟨_,e,rfl,n,rfl⟩,z⟩
 ·refine ⟨its.toList,r,⟨o,I.kIn a o hk,hc,n,by simpa using hs⟩,?_⟩
  have e:=r.length
  simp only [Array.length_toList] at e
  lia
theorem Inv.list_inj (I:Inv X pins σ H s) (h:SqL X.K H a xs) (h':SqL X.K H a ys):xs=ys:=by
 obtain ⟨its,r,⟨o,n,e,_,_,d⟩,_⟩:=I.list h
 obtain ⟨its',r',⟨o',n',e',_,_,d'⟩,_⟩:=I.list h'
 rw [e] at e';cases e'
 rw [d] at d'
 injection d' with d1 _
 have:its=its':=by simpa using congrArg Array.toList d1
 subst this
 exact r.inj r'
theorem Inv.tuple_inj (I:Inv X pins σ H s) (h:SqT X.K H a xs) (h':SqT X.K H a ys):xs=ys:=by
 obtain ⟨its,r,⟨o,e,_,n,d⟩,_⟩:=I.tuple h
 obtain ⟨its',r',⟨o',e',_,n',d'⟩,_⟩:=I.tuple h'
 rw [e] at e';cases e'
 rw [d] at d'
 injection d' with d1 _
 have:its=its':=by simpa using congrArg Array.toList d1
 subst this
 exact r.inj r'
end
abbrev Cx.wish (X:Cx) (E:Value→Shared→Prop):Cx:={ X with xe:=E }
abbrev Cx.nox (X:Cx):Cx:=X.wish fun _ _=>False
theorem Cx.Ok.wish {X:Cx} (ok:X.Ok) (E:Value→Shared→Prop):(X.wish E).Ok :=
 ⟨ok.mod,ok.kind,ok.glob,ok.blt,ok.above,ok.inj,ok.has,ok.cab,ok.hd,ok.frames,ok.stk,ok.exf,ok.bs,ok.bsz,ok.noex,ok.exfs,ok.funs,ok.frf⟩
theorem Cx.Ok.unwish {X:Cx} {E:Value→Shared→Prop} (ok:(X.wish E).Ok):X.Ok :=
 ⟨ok.mod,ok.kind,ok.glob,ok.blt,ok.above,ok.inj,ok.has,ok.cab,ok.hd,ok.frames,ok.stk,ok.exf,ok.bs,ok.bsz,ok.noex,ok.exfs,ok.funs,ok.frf⟩
section
variable {X:Cx} {pins:List (Addr × Obj)} {σ:St} {H:Hp} {s:Shared} {E:Value→Shared→Prop}
theorem Inv.wish (I:Inv X pins σ H s) (E:Value→Shared→Prop):Inv (X.wish E) pins σ H s:=⟨I.ok.wish E,I.os,I.bare,I.base,I.loc,I.cell,I.free,I.freeC,I.pin,I.hok,I.len⟩
theorem Inv.unwish (I:Inv (X.wish E) pins σ H s):Inv X pins σ H s:=⟨I.ok.unwish,I.os,I.bare,I.base,I.loc,I.cell,I.free,I.freeC,I.pin,I.hok,I.len⟩
theorem SP.unwish {D:z3Y} {f:Flow} {s':Shared} (h:SP (X.wish E) pins D f s'):SP X pins D f s':=by
 cases f with
 | next=>obtain ⟨σ',H',I,q⟩:=h;exact ⟨σ',H',I.unwish,q⟩
 | brk=>obtain ⟨σ',H',I,q⟩:=h;exact ⟨σ',H',I.unwish,q⟩
 | cont=>obtain ⟨σ',H',I,q⟩:=h;exact ⟨σ',H',I.unwish,q⟩
 | ret u=>obtain ⟨v,σ',H',I,r,q⟩:=h;exact ⟨v,σ',H',I.unwish,r,q⟩
theorem PSs.nox {st:List Stmt} {t:TS} (h:PSs X.nox st t):PSs X st t:=fun pins s σ H D I hw =>
 wpAny_mono (h pins s σ H D (I.wish _) hw) (fun _ _ q=>q.unwish) fun _ _ z=>False.elim z
end
section
variable {X:Cx} {st:Stmt} {z1A:List Stmt} {t u:TS} {e:Expr} {te:TE} {pos:Pos}
def zg2:TS:=fun D σ H=>D.nx σ H
def zgP (t u:TS):TS:=fun D σ H=>t { D with nx:=u D } σ H
theorem z0L:PSs X [] zg2:=fun _ _ σ H _ I h=>wpAny_execs_nil ⟨σ,H,I,h⟩
theorem z02 (h1:PS X st t) (h2:PSs X z1A u):PSs X (st::z1A) (zgP t u):=by
 intro pins s σ H D I h
 refine wpAny_execs_cons (thn (h1 pins s σ H { D with nx:=u D } I h) fun f s1 q=>?_)
 cases f with
 | next =>
  obtain ⟨σ',H',I',q⟩:=q
  exact h2 pins s1 σ' H' D I' q
 | ret v=>exact q
 | brk=>exact q
 | cont=>exact q
theorem z06 (h1:PS X st t):PSs X [st] t:=by
 intro pins s σ H D I h
 refine wpAny_execs_cons (thn (h1 pins s σ H D I h) fun f s1 q=>?_)
 cases f with
 | next=>exact wpAny_execs_nil q
 | ret v=>exact q
 | brk=>exact q
 | cont=>exact q
theorem Inv.quiet {pins:List (Addr × Obj)} {σ:St} {H:Hp} {s:Shared} (I:Inv X pins σ H s):interactive X.env=false:=by simp [interactive,I.ok.kind]
def zfX (te:TE):TS:=fun D σ H=>te σ H fun _ H1=>D.nx σ H1
theorem z19 (he:PE X e te) (hs:swapsWith e none pos.line X.env=pure false:=by rfl):PS X (.Expr e pos) (zfX te):=by
 intro pins s σ H D I h
 exact wpAny_Expr_any (z1B (he pins s σ H _ I h) fun v s1 x H1 I1 r1 q1=>⟨σ,H1,I1,q1⟩) I.quiet hs
def zhi (te:TE):TS:=fun D σ H=>te σ H D.rt
theorem z0x (he:PE X e te):PS X (.Return (some e) pos) (zhi te):=by
 intro pins s σ H D I h
 exact wpAny_Return_some (z1B (he pins s σ H _ I h) fun v s1 x H1 I1 r1 q1=>⟨x,σ,H1,I1,r1,q1⟩)
def zh5 (c:TT) (t u:TS):TS:=fun D σ H=>c σ H fun b H1=>if b=true then t D σ H1 else u D σ H1
theorem z1V {c:Expr} {a b:List Stmt} {tc:TT} (hc:PT X c tc) (ha:PSs X a t) (hb:PSs X b u):PS X (.If c a b pos) (zh5 tc t u):=by
 intro pins s σ H D I h
 refine wpAny_If (thn (hc pins s σ H _ I h) fun d s1 hz8=>?_)
 obtain ⟨H1,I1,q1⟩:=hz8
 cases d with
 | true=>exact ha pins s1 σ H1 D I1 q1
 | false=>exact hb pins s1 σ H1 D I1 q1
end
abbrev TG:=V→St→Hp→(St→Hp→Prop)→Prop
abbrev TGs:=List V→St→Hp→(St→Hp→Prop)→Prop
def PG (X:Cx) (target:Expr) (t:TG):Prop :=
 ∀ (pins:List (Addr × Obj)) (s:Shared) (σ:St) (H:Hp) (v:V) (u:Value) (Q:St→Hp→Prop),Inv X pins σ H s→z1c v u→t v σ H Q →
  wpAny (model X.prog X.w) X.A (assign target X.env u) (fun _ s'=>∃ σ' H',Inv X pins σ' H' s'∧Q σ' H') X.xe s
def PGs (X:Cx) (ts:List Expr) (t:TGs):Prop :=
 ∀ (pins:List (Addr × Obj)) (s:Shared) (σ:St) (H:Hp) (vs:List V) (us:List Value) (Q:St→Hp→Prop),Inv X pins σ H s→z0V vs us→t vs σ H Q →
  wpAny (model X.prog X.w) X.A (assignInOrder ((assignEach ts X.env).map (·.2)) us) (fun _ s'=>∃ σ' H',Inv X pins σ' H' s'∧Q σ' H') X.xe s
abbrev zga:=V→V→V→Hp→(Hp→Prop)→Prop
def zgN (X:Cx) (t:zga):Prop :=
 ∀ (pins:List (Addr × Obj)) (s:Shared) (σ:St) (H:Hp) (o i v:V) (ov iv u:Value) (Q:Hp→Prop),Inv X pins σ H s→z1c o ov→z1c i iv→z1c v u→t o i v H Q →
  wpAny (model X.prog X.w) X.A (setItem ov iv u) (fun _ s'=>∃ H',Inv X pins σ H' s'∧Q H') X.xe s
abbrev TIp:=V→V→Hp→VK→Prop
def PIp (X:Cx) (op:Operator) (t:TIp):Prop :=
 ∀ (pins:List (Addr × Obj)) (s:Shared) (σ:St) (H:Hp) (x y:V) (v u:Value) (Q:VK),Inv X pins σ H s→z1c x v→z1c y u→t x y H Q →
  wpAny (model X.prog X.w) X.A (inplaceOp op v u) (EP X pins σ Q) X.xe s
section
variable {X:Cx} {pos:Pos}
def zcA (i:Nat):TG:=fun v σ H Q=>Q (σ.set i (some v)) H
theorem z0a {i:Nat} {x:Str} (hN:X.N.Nodup) (hi:X.N[i]?=some x) (hx:Loc X.env.scope x) (hf:X.fn x=true∨X.env.scope.names.lookup x=some .local:=by first | exact .inl rfl | exact .inr rfl | assumption):PG X (.Name x pos) (zcA i):=by
 intro pins s σ H v u Q I r h
 exact wpAny_assign_Name (z68 I hN hi hx r (fun s' I'=>⟨_,H,I',h⟩) hf)
def zha:TGs:=fun vs σ H Q=>vs=[]∧Q σ H
def zg7 (t:TG) (u:TGs):TGs:=fun vs σ H Q=>∃ v r,vs=v::r∧t v σ H fun σ' H'=>u r σ' H' Q
theorem z0Y:PGs X [] zha:=by
 intro pins s σ H vs us Q I r h
 obtain ⟨e,h⟩:=h
 subst e
 cases r
 exact assignInOrder_nil ⟨σ,H,I,h⟩
theorem z0i {e:Expr} {es:List Expr} {t:TG} {u:TGs} (h1:PG X e t) (h2:PGs X es u)
  (hs:(assignEach (e::es) X.env).map (·.2)=assign e X.env::(assignEach es X.env).map (·.2):=by rfl):PGs X (e::es) (zg7 t u):=by
 intro pins s σ H vs us Q I r h
 obtain ⟨v,vr,e1,h⟩:=h
 subst e1
 cases r with
 | cons r rr =>
  rw [hs]
  refine assignInOrder_cons (thn (h1 pins s σ H _ _ _ I r h) fun _ s1 hz8=>?_)
  obtain ⟨σ1,H1,I1,q1⟩:=hz8
  exact h2 pins s1 σ1 H1 _ _ Q I1 rr q1
def zgH (K:PySem.W.Frag) (n:Nat) (t:TGs):TG:=fun v σ H Q=>∃ a xs,v=.ref a∧SqT K H a xs∧xs.length=n∧t xs σ H Q
theorem z1S {es:List Expr} {k:Nat} {t:TGs} {n:Nat} (hc:X.calm=true) (h:PGs X es t)
  (hn:(assignEach es X.env).length=n:=by rfl) (hst:(assignEach es X.env).findIdx? (·.1)=none:=by rfl):PG X (.Tuple es k pos) (zgH X.K n t):=by
 intro pins s σ H v u Q I r hw
 obtain ⟨a,xs,e1,hq,hl,hw⟩:=hw
 subst e1
 cases r
 obtain ⟨its,rv,ht,hz⟩:=I.tuple hq
 refine assign_Tuple_tuple (I.ok.hd hc) ht (by simp [hn,←hl,rv.length]) hst fun h' hx=>?_
 have I1:Inv X pins σ H { s with heap:=h' }:=I.kept (t':=s.toks) fun b o e=>hx b o (Nat.ne_of_lt (Heap.lt_size e)) e
 exact h pins _ σ H xs _ Q I1 (by simpa using rv) hw
def zhb (to ti:TE) (t:zga):TG:=fun v σ H Q=>to σ H fun o H1=>ti σ H1 fun i H2=>t o i v H2 fun H3=>Q σ H3
theorem zf6 {o i:Expr} {to ti:TE} {t:zga} (ho:PE X o to) (hi:PE X i ti) (hs:zgN X t)
  (ha:∀ v,assign (.Subscript o i pos) X.env v=(do
   let ov ←holding [v] (eval o X.env)
   let iv ←holding [v,ov] (eval i X.env)
   standAt pos
   holding [v,ov,iv] (setItem ov iv v)
   release [v,ov,iv] []):=by intro _;rfl):PG X (.Subscript o i pos) (zhb to ti t):=by
 intro pins s σ H v u Q I r h
 rw [ha]
 refine wpAny_bind (wpAny_holding (z1B (ho pins s σ H _ I h) fun ov s1 x H1 I1 r1 q1=>?_))
 refine wpAny_bind (wpAny_holding (z1B (hi pins s1 σ H1 _ I1 q1) fun iv s2 y H2 I2 r2 q2=>?_))
 refine wpAny_bind (wpAny_standAt (wpAny_bind (wpAny_holding (thn (hs pins s2 σ H2 x y v ov iv u _ I2 r1 r2 r q2) fun _ s3 hz8=>?_))))
 obtain ⟨H3,I3,q3⟩:=hz8
 exact wpAny_release ⟨σ,H3,I3,q3⟩
def zgc (te:TE) (g:TG):TS:=fun D σ H=>te σ H fun x H1=>g x σ H1 D.nx
theorem z2x {tg e:Expr} {te:TE} {g:TG} (he:PE X e te) (hg:PG X tg g) (hs:swapsWithSole [tg] e pos.line X.env=pure false:=by rfl) (hw:swappedStores [tg] e X.env=pure none:=by rfl)
  (h1:(assignEach [tg] X.env).map (·.2)=[assign tg X.env]:=by rfl):PS X (.Assign [tg] e pos) (zgc te g):=by
 intro pins s σ H D I h
 refine wpAny_Assign_stores (z1B (he pins s σ H _ I h) fun v s1 x H1 I1 r1 q1=>?_) hs hw
 rw [h1]
 exact thn (hg pins s1 σ H1 x v _ I1 r1 q1) fun _ s2 q=>q
theorem z0e {i:Nat} {x:Str} {e:Expr} {te:TE} {pos':Pos} (hN:X.N.Nodup) (hi:X.N[i]?=some x) (hx:Loc X.env.scope x) (he:PE X e te) (hs:swapsWith e (some (.Name x pos')) pos.line X.env=pure false:=by rfl) (hf:X.fn x=true∨X.env.scope.names.lookup x=some .local:=by first | exact .inl rfl | exact .inr rfl | assumption) :
  PS X (.Assign [.Name x pos'] e pos) (zgc te (zcA i)):=by
 intro pins s σ H D I h
 refine wpAny_Assign_Name (z1B (he pins s σ H _ I h) fun v s1 y H1 I1 r1 q1=>?_) hs
 exact z68 I1 hN hi hx r1 (fun s2 I2=>⟨_,H1,I2,q1⟩) hf
def zhv (i:Nat) (te:TE) (ti:TIp):TS:=fun D σ H=>∃ x,σ[i]?=some (some x)∧te σ H fun y H1=>ti x y H1 fun z H2=>D.nx (σ.set i (some z)) H2
theorem zeT {i:Nat} {x:Str} {e:Expr} {te:TE} {op:Operator} {ti:TIp} {pos':Pos} (hN:X.N.Nodup) (hi:X.N[i]?=some x) (hx:Loc X.env.scope x) (he:PE X e te) (ho:PIp X op ti) (hf:X.fn x=true∨X.env.scope.names.lookup x=some .local:=by first | exact .inl rfl | exact .inr rfl | assumption) :
  PS X (.AugAssign (.Name x pos') op e pos) (zhv i te ti):=by
 intro pins s σ H D I h
 obtain ⟨v,e1,h⟩:=h
 obtain ⟨m,hn,hl⟩:=I.loc
 have vis:Vis X.env.scope x:=by rcases hx with k | k;exact .inl k;exact .inr (.inl k)
 obtain ⟨u,r,l⟩:=hl i x v hi e1 vis
 refine wpAny_AugAssign_Name ?_
 have go:wpAny (model X.prog X.w) X.A (eval e X.env) (fun w s₂=>wpAny (model X.prog X.w) X.A (inplaceOp op u w) (fun r s₃=>wpAny (model X.prog X.w) X.A (storeName X.env x r) (fun _=>SP X pins D .next) X.xe s₃) X.xe s₂) X.xe s:=by
  refine z1B (he pins s σ H _ I h) fun w s1 y H1 I1 r1 q1=>?_
  refine z1B (ho pins s1 σ H1 v y u w _ I1 r r1 q1) fun z s2 zv H2 I2 r2 q2=>?_
  exact z68 I2 hN hi hx r2 (fun s3 I3=>⟨_,H2,I3,q2⟩) hf
 rcases l with ⟨hk,hm⟩ | ⟨hk,c,hc,hcell⟩
 ·exact wpAny_loadName_local I.ok.kind hk hn hm go
 ·rcases hk with hk | hk
  ·exact wpAny_loadName_cell I.ok.kind hk hc hcell go
  ·rcases hx with k | k
   ·have:X.env.scope.names.lookup x=some .free:=hk
    rw [k] at this;cases this
   ·have:X.env.scope.names.lookup x=some .free:=hk
    rw [k] at this;cases this
def ipI (f:Int→Int→Int):TIp:=fun x y H Q=>∃ i j,x=.int i∧y=.int j∧Q (.int (f i j)) H
theorem zeP:PIp X .Add (ipI fun i j=>i+j):=by
 intro pins s σ H x y v u Q I r1 r2 h
 obtain ⟨i,j,e1,e2,q⟩:=h
 subst e1;subst e2
 obtain ⟨t,rfl⟩:=r1
 obtain ⟨t',rfl⟩:=r2
 exact iadd_int ⟨.int _,H,I.tok _,⟨_,rfl⟩,q⟩
end
section
variable {X:Cx} {pos:Pos}
def z6I (c:TT) (tb:TS):TS:=fun D σ H=>∃ W:Nat→St→Hp→Prop,(∃ m,W m σ H)∧∀ m σ H,W m σ H →
 c σ H fun b H1=>if b=true then ∃ N:St→Hp→Prop,(∀ σ' H',N σ' H'→∃ m',m' < m∧W m' σ' H')∧tb { D with nx:=N,ct:=N,bk:=D.nx } σ H1 else D.nx σ H1
theorem z2t {c:Expr} {body:List Stmt} {tc:TT} {tb:TS} (hp:PassesOwn (model X.prog X.w) X.A X.env X.xe) (hc:PT X c tc) (hb:PSs X body tb):PS X (.While c body [] pos) (z6I tc tb):=by
 intro pins s σ H D I h
 obtain ⟨W,⟨m0,w0⟩,z59⟩:=h
 refine wpAny_While (codeAny_whileLoop (fun n s'=>∃ σ' H',Inv X pins σ' H' s'∧W n σ' H') ?_ m0 ⟨σ,H,I,w0⟩)
 rintro n s1 ⟨σ1,H1,I1,w1⟩
 refine wpAny_passesOwn hp (thn (hc pins s1 σ1 H1 _ I1 (z59 n σ1 H1 w1)) fun b s2 hz8=>?_)
 obtain ⟨H2,I2,q2⟩:=hz8
 cases b with
 | true =>
  obtain ⟨N,hN,q2⟩:=q2
  rw [if_pos rfl]
  refine wpAny_passesOwn hp (thn (hb pins s2 σ1 H2 _ I2 q2) fun f s3 q3=>?_)
  cases f with
  | next =>
   obtain ⟨σ3,H3,I3,n3⟩:=q3
   obtain ⟨m',hm,w3⟩:=hN σ3 H3 n3
   exact ⟨m',hm,σ3,H3,I3,w3⟩
  | cont =>
   obtain ⟨σ3,H3,I3,n3⟩:=q3
   obtain ⟨m',hm,w3⟩:=hN σ3 H3 n3
   exact ⟨m',hm,σ3,H3,I3,w3⟩
  | brk=>exact q3
  | ret v=>exact q3
 | false =>
  rw [if_neg Bool.false_ne_true]
  exact wpAny_execs_nil ⟨σ1,H2,I2,q2⟩
end
structure It where
 go:Nat→Hp→Prop
 yld:Nat→Hp→V→Hp→Prop
 stop:Nat→Hp→Prop
def z9F (X:Cx) (pins:List (Addr × Obj)) (H:Hp) (b:Addr):Prop :=
 H b=none∧b≠X.env.locals∧b∉X.fs∧(b∈X.ex∨X.s₀.heap.objs.size≤b)∧(∀ x c,X.env.cells.lookup x=some c→c≠b)∧∀ p∈X.pn++pins,p.1≠b
theorem Inv.fpOk {X:Cx} {pins:List (Addr × Obj)} {σ:St} {H H':Hp} {s:Shared} {b:Addr} (I:Inv X pins σ H s) (hb:s.heap.objs.size≤b) (hn:H' b=none):z9F X pins H' b:=by
 refine ⟨hn,Nat.ne_of_gt (Nat.lt_of_lt_of_le I.lt hb),I.nofs hb,.inr (Nat.le_trans I.sz hb),fun x c e z=>?_,fun p hp z=>?_⟩
 ·obtain ⟨v,q⟩:=I.cell x c e
  exact absurd (Nat.lt_of_lt_of_le q.lt (by rw [z];exact hb)) (Nat.lt_irrefl _)
 ·exact absurd (Nat.lt_of_lt_of_le (Heap.lt_size (I.pin p hp).1) (by rw [z];exact hb)) (Nat.lt_irrefl _)
structure zcP (P:Program) (w:World) (K:PySem.W.Frag) (tg:Expr) (J:It) (fp:List Addr) (it:Addr) (tn:Nat→Heap→Prop):Prop where
 mem:it∈fp
 obj:∀ i h,tn i h→∀ b∈fp,∃ o,h.get? b=some o∧∀ v,o.data≠.cell v
 keep:∀ i h h',tn i h→(∀ b∈fp,∀ o,h.get? b=some o→h'.get? b=some o)→tn i h'
 item:∀ (X:Cx),X.prog=P→X.w=w→X.K=K→X.calm=true→∀ (i:Nat) (pins:List (Addr × Obj)) (s:Shared) (σ:St) (H:Hp) (E:Value→Shared→Prop),Inv X pins σ H s→(∀ b∈fp,z9F X pins H b)→tn i s.heap→J.go i H →
  wpAny (model P w) X.A (pyNext (.ref it)) (fun r s1=>∃ u,r=some u ∧
   wpAny (model P w) X.A (letOwnedTupleGo tg (.ref it) u) (fun _ s2=>∃ x H',Inv X pins σ H' s2∧z1c x u∧J.yld i H x H'∧tn (i+1) s2.heap∧∀ b∈fp,H' b=none) E s1) E s
 done:∀ (X:Cx),X.prog=P→X.w=w→X.K=K→X.calm=true→∀ (i:Nat) (pins:List (Addr × Obj)) (s:Shared) (σ:St) (H:Hp) (E:Value→Shared→Prop),Inv X pins σ H s→(∀ b∈fp,z9F X pins H b)→tn i s.heap→J.stop i H →
  wpAny (model P w) X.A (pyNext (.ref it)) (fun r s1=>r=none∧Inv X pins σ H s1) E s
 self:∀ (A:Around) (i:Nat) (s:Shared) (Q:Value→Shared→Prop) (E:Value→Shared→Prop),tn i s.heap→Q (.ref it) s→wpAny (model P w) A (pyIter (.ref it)) Q E s
abbrev TI:=St→Hp→(It→Hp→Prop)→Prop
def PIE (X:Cx) (pins:List (Addr × Obj)) (σ:St) (tg:Expr) (R:It→Hp→Prop) (itv:Value) (s2:Shared):Prop :=
 ∃ (it:Addr) (fp:List Addr) (tn:Nat→Heap→Prop) (J:It) (H':Hp),itv=.ref it∧Inv X pins σ H' s2∧zcP X.prog X.w X.K tg J fp it tn∧tn 0 s2.heap∧(∀ b∈fp,z9F X pins H' b)∧R J H'
def PI (X:Cx) (tg iter:Expr) (wi:TI):Prop :=
 ∀ (pins:List (Addr × Obj)) (s:Shared) (σ:St) (H:Hp) (R:It→Hp→Prop),Inv X pins σ H s→wi σ H R →
  wpAny (model X.prog X.w) X.A (eval iter X.env) (fun v s1=>wpAny (model X.prog X.w) X.A (pyIter v) (PIE X pins σ tg R) X.xe s1) X.xe s
theorem zdO {M:Model} {A:Around} {E:Value→Shared→Prop} {s:Shared} {tg:Expr} {it:Addr} {u:Value} {o:Obj} {n:String} {vs:Array Value} {Q:Unit→Shared→Prop} (ho:s.heap.get? it=some o) (hc:o.cls=.type n) (hd:o.data=.fields vs)
  (hn:["enumerate","zip","dict_itemiterator","dict_reverseitemiterator","odict_iterator","itertools.zip_longest","itertools.pairwise"].contains n=false) (hQ:Q () s):wpAny M A (letOwnedTupleGo tg (.ref it) u) Q E s:=by
 unfold letOwnedTupleGo
 cases tg<;>first
  | exact wpAny_pure hQ
  | (cases u<;>first
    | exact wpAny_pure hQ
    | (refine wpAny_bind (wpAny_load ho ?_)
       rw [hc,hd]
       show wpAny M A (if (["enumerate","zip","dict_itemiterator","dict_reverseitemiterator","odict_iterator","itertools.zip_longest","itertools.pairwise"].contains n && vs[0]? == some (rawInt _))=true then _ else _) Q E s
       rw [if_neg (by intro h;rw [hn,Bool.false_and] at h;cases h)]
       exact wpAny_pure hQ))
def Itl (K:PySem.W.Frag) (a:Addr):It :=
 ⟨fun i H=>∃ xs x,SqL K H a xs∧xs[i]?=some x,fun i H x H'=>H'=H∧∀ xs,SqL K H a xs→xs[i]?=some x,fun i H=>∃ xs,SqL K H a xs∧xs.length≤i⟩
def Itt (K:PySem.W.Frag) (a:Addr):It :=
 ⟨fun i H=>∃ xs x,SqT K H a xs∧xs[i]?=some x,fun i H x H'=>H'=H∧∀ xs,SqT K H a xs→xs[i]?=some x,fun i H=>∃ xs,SqT K H a xs∧xs.length≤i⟩
def Itr (lo:Int) (n:Nat):It:=⟨fun i _=>i < n,fun i H x H'=>H'=H∧x=.int (lo+i),fun i _=>n≤i⟩
theorem zaO {P:Program} {w:World} {K:PySem.W.Frag} {tg:Expr} (a it:Addr):zcP P w K tg (Itl K a) [it] it (fun i h=>h.IsListIter it a i) where
 mem:=by simp
 obj:=fun i h st b hb=>by
  have e:b=it:=by simpa using hb
  subst e
  obtain ⟨o,e,c,d⟩:=st
  exact ⟨o,e,fun v z=>by rw [d] at z;cases z⟩
 keep:=fun i h h' st k=>st.at fun o e=>k it (by simp) o e
 item:=by
  intro X hP hw hK hc i pins s σ H E I hf st hg
  subst hP hw hK
  obtain ⟨xs,x,hq,hx⟩:=hg
  obtain ⟨its,rv,p,hz⟩:=I.list hq
  obtain ⟨u,hu,ru⟩:=rv.get hx
  obtain ⟨f0,f1,f2,f3,f4,f5⟩:=hf it (by simp)
  refine wpAny_pyNext_list_item st p.isList (x:=u) (by simpa using hu) fun h' st' sb=>?_
  have I1:Inv X pins σ H { s with heap:=h' }:=I.turned (t':=s.toks) (fun b o hb e=>(sb.2 b hb).trans e) f0 f1 f3 f4 f5
  obtain ⟨o,e,c,d⟩:=id st'
  exact ⟨u,rfl,zdO (s:={ s with heap:=h' }) e c d (by decide) ⟨x,H,I1,ru,⟨rfl,fun ys hy=>by rw [I.list_inj hy hq];exact hx⟩,st',fun b hb=>(hf b hb).1⟩⟩
 done:=by
  intro X hP hw hK hc i pins s σ H E I hf st hg
  subst hP hw hK
  obtain ⟨xs,hq,hx⟩:=hg
  obtain ⟨its,rv,p,hz⟩:=I.list hq
  obtain ⟨f0,f1,f2,f3,f4,f5⟩:=hf it (by simp)
  have hl:=rv.length
  exact wpAny_pyNext_list_end (I.ok.hd hc) st p.isList (by simp;lia) fun h' eb=>⟨rfl,I.turned (t':=s.toks) (fun b o hb e=>eb b o hb e) f0 f1 f3 f4 f5⟩
 self:=fun _ _ _ _ _ st h=>wpAny_pyIter_listiter st h
theorem z9B {P:Program} {w:World} {K:PySem.W.Frag} {tg:Expr} (a it:Addr):zcP P w K tg (Itt K a) [it] it (fun i h=>h.IsTupleIter it a i) where
 mem:=by simp
 obj:=fun i h st b hb=>by
  have e:b=it:=by simpa using hb
  subst e
  obtain ⟨o,e,c,d⟩:=st
  exact ⟨o,e,fun v z=>by rw [d] at z;cases z⟩
 keep:=fun i h h' st k=>st.at fun o e=>k it (by simp) o e
 item:=by
  intro X hP hw hK hc i pins s σ H E I hf st hg
  subst hP hw hK
  obtain ⟨xs,x,hq,hx⟩:=hg
  obtain ⟨its,rv,p,hz⟩:=I.tuple hq
  obtain ⟨u,hu,ru⟩:=rv.get hx
  obtain ⟨f0,f1,f2,f3,f4,f5⟩:=hf it (by simp)
  refine wpAny_pyNext_tuple_item st (show s.heap.IsTuple a its.toArray from p) (x:=u) (by simpa using hu) fun h' st' sb=>?_
  have I1:Inv X pins σ H { s with heap:=h' }:=I.turned (t':=s.toks) (fun b o hb e=>(sb.2 b hb).trans e) f0 f1 f3 f4 f5
  obtain ⟨o,e,c,d⟩:=id st'
  exact ⟨u,rfl,zdO (s:={ s with heap:=h' }) e c d (by decide) ⟨x,H,I1,ru,⟨rfl,fun ys hy=>by rw [I.tuple_inj hy hq];exact hx⟩,st',fun b hb=>(hf b hb).1⟩⟩
 done:=by
  intro X hP hw hK hc i pins s σ H E I hf st hg
  subst hP hw hK
  obtain ⟨xs,hq,hx⟩:=hg
  obtain ⟨its,rv,p,hz⟩:=I.tuple hq
  obtain ⟨f0,f1,f2,f3,f4,f5⟩:=hf it (by simp)
  have hl:=rv.length
  exact wpAny_pyNext_tuple_end (I.ok.hd hc) st (show s.heap.IsTuple a its.toArray from p) (by simp;lia) fun h' eb=>⟨rfl,I.turned (t':=s.toks) (fun b o hb e=>eb b o hb e) f0 f1 f3 f4 f5⟩
 self:=fun _ _ _ _ _ st h=>wpAny_pyIter_tupleiter st h
theorem z9w {P:Program} {w:World} {K:PySem.W.Frag} {tg:Expr} (it:Addr) (lo:Int) (n:Nat):zcP P w K tg (Itr lo n) [it] it (fun i h=>IsRangeIter h it (lo+(i:Nat)*1) ((n:Int) - (i:Nat)) 1) where
 mem:=by simp
 obj:=fun i h st b hb=>by
  have e:b=it:=by simpa using hb
  subst e
  exact ⟨_,st,fun v z=>by
   have z':Data.fields _=Data.cell v:=z
   cases z'⟩
 keep:=fun i h h' st k=>k it (by simp) _ st
 item:=by
  intro X hP hw hK hc i pins s σ H E I hf st hg
  subst hP hw hK
  obtain ⟨f0,f1,f2,f3,f4,f5⟩:=hf it (by simp)
  have W:=Walks.range (prog:=X.prog) (w:=X.w) (I.ok.hd hc) it lo 1 n
  refine W.item i s _ _ hg st fun v h' tk hv st' kk=>?_
  obtain ⟨t,rfl⟩:=hv
  have I1:Inv X pins σ H { s with heap:=h',toks:=tk }:=I.turned (fun b o hb e=>kk b o (by simpa using hb) e) f0 f1 f3 f4 f5
  refine ⟨_,rfl,zdO (s:={ s with heap:=h',toks:=tk }) (n:="range_iterator") st' rfl rfl (by decide) ⟨.int (lo+i),H,I1,⟨t,?_⟩,⟨rfl,rfl⟩,st',fun b hb=>(hf b hb).1⟩⟩
  rw [Int.mul_one]
 done:=by
  intro X hP hw hK hc i pins s σ H E I hf st hg
  subst hP hw hK
  obtain ⟨f0,f1,f2,f3,f4,f5⟩:=hf it (by simp)
  exact wpAny_pyNext_range_end (I.ok.hd hc) st (by have:n≤i:=hg;lia) fun h' eb=>⟨rfl,I.turned (t':=s.toks) (fun b o hb e=>eb b o hb e) f0 f1 f3 f4 f5⟩
 self:=fun _ _ _ _ _ st h=>wpAny_pyIter_rangeiter st h
end L2
namespace L2
open PySem PySem.Spec PyProof.Rows
section
variable {X:Cx} {tg:Expr}
def zg1 (K:PySem.W.Frag) (tl:TE):TI:=fun σ H R=>tl σ H fun x H1=>∃ a,x=.ref a∧(∃ xs,SqL K H1 a xs)∧R (Itl K a) H1
def zgO (K:PySem.W.Frag) (tl:TE):TI:=fun σ H R=>tl σ H fun x H1=>∃ a,x=.ref a∧(∃ xs,SqT K H1 a xs)∧R (Itt K a) H1
theorem z1Y {l:Expr} {tl:TE} (hl:PE X l tl):PI X tg l (zg1 X.K tl):=by
 intro pins s σ H R I h
 refine z1B (hl pins s σ H _ I h) fun v s1 x H1 I1 r1 q1=>?_
 obtain ⟨a,e,⟨xs,hq⟩,q⟩:=q1
 subst e
 cases r1
 obtain ⟨its,rv,p,hz⟩:=I1.list hq
 refine wpAny_pyIter_list p.isList ?_
 refine ⟨s1.heap.objs.size,[s1.heap.objs.size],_,_,H1,rfl,I1.kept (t':=s1.toks) fun b o e=>Heap.get?_push_of_some _ e,zaO a _,⟨_,Heap.get?_push_size _ rfl,rfl,rfl⟩,fun b hb=>?_,q⟩
 have e:b=s1.heap.objs.size:=by simpa using hb
 subst e
 exact I1.fpOk (Nat.le_refl _) (I1.hok.fresh (Nat.le_refl _))
theorem z23 {l:Expr} {tl:TE} (hl:PE X l tl):PI X tg l (zgO X.K tl):=by
 intro pins s σ H R I h
 refine z1B (hl pins s σ H _ I h) fun v s1 x H1 I1 r1 q1=>?_
 obtain ⟨a,e,⟨xs,hq⟩,q⟩:=q1
 subst e
 cases r1
 obtain ⟨its,rv,p,hz⟩:=I1.tuple hq
 refine wpAny_pyIter_tuple (show s1.heap.IsTuple a its.toArray from p) ?_
 refine ⟨s1.heap.objs.size,[s1.heap.objs.size],_,_,H1,rfl,I1.kept (t':=s1.toks) fun b o e=>Heap.get?_push_of_some _ e,z9B a _,⟨_,Heap.get?_push_size _ rfl,rfl,rfl⟩,fun b hb=>?_,q⟩
 have e:b=s1.heap.objs.size:=by simpa using hb
 subst e
 exact I1.fpOk (Nat.le_refl _) (I1.hok.fresh (Nat.le_refl _))
theorem zcu {pins:List (Addr × Obj)} {σ:St} {H:Hp} {s:Shared} {R:It→Hp→Prop} {E:Value→Shared→Prop} {lo hi:Int} {t u v:Tok} {tk:Nat} (I:Inv X pins σ H s) (h1:-(2 ^ 62)≤lo) (h2:lo < 2 ^ 62) (h3:-(2 ^ 62)≤hi) (h4:hi < 2 ^ 62)
  (q:R (Itr lo (hi - lo).toNat) H):wpAny (model X.prog X.w) X.A (pyIter (.ref s.heap.objs.size)) (PIE X pins σ tg R) E { s with heap:=s.heap.push { cls:=.type "range",data:=.fields #[.int lo t,.int hi u,.int 1 v] },toks:=tk }:=by
 refine wpAny_pyIter_range (IsRange.new ..) (small_one h1 h2 h3 h4) ?_
 have I1:Inv X pins σ H { s with heap:=s.heap.push { cls:=.type "range",data:=.fields #[.int lo t,.int hi u,.int 1 v] },toks:=tk }:=I.kept fun b o e=>Heap.get?_push_of_some _ e
 refine ⟨(s.heap.push { cls:=.type "range",data:=.fields #[.int lo t,.int hi u,.int 1 v] }).objs.size,[(s.heap.push { cls:=.type "range",data:=.fields #[.int lo t,.int hi u,.int 1 v] }).objs.size],_,_,H,rfl,
  I1.kept (t':=tk) fun b o e=>Heap.get?_push_of_some _ e,z9w _ lo (hi - lo).toNat,?_,fun b hb=>?_,q⟩
 ·have e1:lo+((0:Nat):Int)*1=lo:=by simp
  have e2:(((hi - lo).toNat:Nat):Int) - ((0:Nat):Int)=Builtin.Range.rangeSize lo hi 1:=by rw [rangeSize_one];split<;>lia
  show IsRangeIter _ _ (lo+((0:Nat):Int)*1) ((((hi - lo).toNat:Nat):Int) - ((0:Nat):Int)) 1
  rw [e1,e2]
  exact Heap.get?_push_size _ rfl
 ·have e:b=(s.heap.push { cls:=.type "range",data:=.fields #[.int lo t,.int hi u,.int 1 v] }).objs.size:=by simpa using hb
  subst e
  exact I1.fpOk (Nat.le_refl _) (I1.hok.fresh (Nat.le_refl _))
def zgk (ta:TA):TI:=fun σ H R=>ta σ H fun vs H1=>∃ j:Int,vs=[.int j]∧-(2 ^ 62)≤j∧j < 2 ^ 62∧R (Itr 0 j.toNat) H1
theorem z1z {a:Expr} {ta:TA} {p pos:Pos} (hg:Gl X "range") (hm:X.mg "range"=none) (ha:PA X [a] ta) (hs:starEach [a] X.env=[(false,eval a X.env)]:=by rfl):PI X tg (.Call (.Name "range" p) [a] [] pos) (zgk ta):=by
 intro pins s σ H R I h
 refine Call_ (z5v I hg hm boot_range (PyProof.Rows.callWith_type1 (thn (ha pos pins s σ H _ I h) fun us s1 hz8=>?_) hs rfl))
 obtain ⟨vs,H1,I1,r1,q1⟩:=hz8
 obtain ⟨j,e,q1,q2,q⟩:=q1
 subst e
 cases r1 with
 | cons r rr =>
  cases rr
  obtain ⟨t,rfl⟩:=r
  exact call_range_1 (zcu I1 (by lia) (by lia) q1 q2 (by simpa using q))
def zh7 (wi:TI) (g:TG) (tb:TS):TS:=fun D σ H=>wi σ H fun J H1=>∃ W:Nat→Nat→St→Hp→Prop,(∃ m,W 0 m σ H1)∧∀ i m σ H,W i m σ H →
 (J.stop i H∧D.nx σ H)∨(J.go i H∧∃ N:St→Hp→Prop,(∀ σ' H',N σ' H'→∃ m',m' < m∧W (i+1) m' σ' H')∧∀ x H',J.yld i H x H'→g x σ H' fun σ2 H2=>tb { D with nx:=N,ct:=N,bk:=D.nx } σ2 H2)
def z8d (fp:List Addr) (h:Heap):List (Addr × Obj):=fp.filterMap fun b=>(h.get? b).map fun o=>(b,o)
theorem z2N {fp:List Addr} {h:Heap} {b:Addr} {o:Obj} (hb:b∈fp) (e:h.get? b=some o):(b,o)∈z8d fp h:=List.mem_filterMap.mpr ⟨b,hb,by rw [e];rfl⟩
theorem za6 {fp:List Addr} {h:Heap} {p:Addr × Obj} (hp:p∈z8d fp h):p.1∈fp∧h.get? p.1=some p.2:=by
 obtain ⟨b,hb,e⟩:=List.mem_filterMap.mp hp
 cases q:h.get? b with
 | none=>rw [q] at e;cases e
 | some o =>
  rw [q] at e
  have e':(b,o)=p:=Option.some.inj e
  subst e'
  exact ⟨hb,q⟩
theorem Inv.pinned {pins:List (Addr × Obj)} {σ:St} {H:Hp} {s:Shared} {fp:List Addr} (I:Inv X pins σ H s) (hf:∀ b∈fp,z9F X pins H b) (ho:∀ b∈fp,∃ o,s.heap.get? b=some o∧∀ v,o.data≠.cell v):Inv X (pins++z8d fp s.heap) σ H s :=
 I.pins_of fun p hp=>(List.mem_append.mp hp).elim (fun z=>I.pin p (List.mem_append_right _ z)) fun z=>by
  obtain ⟨hb,e⟩:=za6 z
  obtain ⟨f0,f1,f2,_⟩:=hf p.1 hb
  obtain ⟨o,e',d⟩:=ho p.1 hb
  rw [e] at e';cases e'
  exact ⟨e,f0,f1,f2,d⟩
theorem Inv.unpinned {pins pl:List (Addr × Obj)} {σ:St} {H:Hp} {s:Shared} (I:Inv X (pins++pl) σ H s):Inv X pins σ H s:=I.pins_of fun p hp=>I.pin p (List.mem_append_right _ (List.mem_append_left _ hp))
theorem z1R {iter:Expr} {body:List Stmt} {wi:TI} {g:TG} {tb:TS} {pos:Pos} (hp:PassesOwn (model X.prog X.w) X.A X.env X.xe) (hc:X.calm=true) (hi:PI X tg iter wi) (hg:PG X tg g) (hb:PSs X body tb)
  (hs:∀ x,foldedSetIterable iter X.env x=pure x:=by intro _;rfl):PS X (.For tg iter body [] pos) (zh7 wi g tb):=by
 intro pins s σ H D I h
 refine wpAny_For (thn (hi pins s σ H _ I h) fun v s1 h1=>thn h1 fun itv s2 h2=>?_) hs
 obtain ⟨it,fp,tn,J,H2,e,I2,T,st2,f2,W,⟨m0,w0⟩,z59⟩:=h2
 subst e
 have stat:∀ {H':Hp},(∀ b∈fp,H' b=none)→∀ b∈fp,z9F X pins H' b:=fun hn b hb=>⟨hn b hb,(f2 b hb).2⟩
 refine codeAny_forLoop_any (fun n s'=>∃ i σ' H',Inv X pins σ' H' s'∧tn i s'.heap∧(∀ b∈fp,H' b=none)∧W i n σ' H') ?_ m0 ⟨0,σ,H2,I2,st2,fun b hb=>(f2 b hb).1,w0⟩
 rintro n s3 ⟨i,σ3,H3,I3,st3,fr3,w3⟩
 rcases z59 i n σ3 H3 w3 with ⟨stop,qn⟩ | ⟨go,N,hN,step⟩
 ·refine wpAny_passesOwn hp (thn (T.done X rfl rfl rfl hc i pins s3 σ3 H3 X.xe I3 (stat fr3) st3 stop) fun r s4 hz8=>?_)
  obtain ⟨hr,I4⟩:=hz8
  subst hr
  exact wpAny_execs_nil ⟨σ3,H3,I4,qn⟩
 ·refine wpAny_passesOwn hp (thn (T.item X rfl rfl rfl hc i pins s3 σ3 H3 X.xe I3 (stat fr3) st3 go) fun r s4 hz8=>?_)
  obtain ⟨u,hr,h4⟩:=hz8
  subst hr
  refine wpAny_passesOwn hp (thn h4 fun _ s5 hz8=>?_)
  obtain ⟨x,H5,I5,r5,y5,st5,fr5⟩:=hz8
  have I5':=I5.pinned (stat fr5) (T.obj _ _ st5)
  refine wpAny_passesOwn hp (thn (hg _ s5 σ3 H5 x u _ I5' r5 (step x H5 y5)) fun _ s6 hz8=>?_)
  obtain ⟨σ6,H6,I6,q6⟩:=hz8
  refine wpAny_passesOwn hp (thn (hb _ s6 σ6 H6 _ I6 q6) fun f s7 q7=>?_)
  have again:∀ {σ7:St} {H7:Hp},Inv X (pins++z8d fp s5.heap) σ7 H7 s7→N σ7 H7→∃ m,m < n∧∃ i σ' H',Inv X pins σ' H' s7∧tn i s7.heap∧(∀ b∈fp,H' b=none)∧W i m σ' H':=fun {σ7 H7} I7 n7=>by
   obtain ⟨m',hm,w7⟩:=hN σ7 H7 n7
   refine ⟨m',hm,i+1,σ7,H7,I7.unpinned,T.keep _ _ _ st5 fun b hb o e=>(I7.pin (b,o) (List.mem_append_right _ (List.mem_append_right _ (z2N hb e)))).1,fun b hb=>?_,w7⟩
   obtain ⟨o,e,d⟩:=T.obj _ _ st5 b hb
   exact (I7.pin (b,o) (List.mem_append_right _ (List.mem_append_right _ (z2N hb e)))).2.1
  cases f with
  | next=>obtain ⟨σ7,H7,I7,n7⟩:=q7;exact again I7 n7
  | cont=>obtain ⟨σ7,H7,I7,n7⟩:=q7;exact again I7 n7
  | brk=>obtain ⟨σ7,H7,I7,q7⟩:=q7;exact ⟨σ7,H7,I7.unpinned,q7⟩
  | ret v=>obtain ⟨x7,σ7,H7,I7,r7,q7⟩:=q7;exact ⟨x7,σ7,H7,I7.unpinned,r7,q7⟩
end
theorem z8H {K:PySem.W.Frag} {a:Addr} {xs:List V} {g:TG} {tb:TS} {D:z3Y} {σ:St} {H:Hp} (Pv:Nat→St→Hp→Prop) (h0:Pv 0 σ H) (hl:∀ i σ H,i≤xs.length→Pv i σ H→SqL K H a xs)
  (hs:∀ i x σ H,xs[i]?=some x→Pv i σ H→g x σ H fun σ2 H2=>tb { D with nx:=Pv (i+1),ct:=Pv (i+1),bk:=D.nx } σ2 H2) (hd:∀ σ H,Pv xs.length σ H→D.nx σ H) :
  ∃ W:Nat→Nat→St→Hp→Prop,(∃ m,W 0 m σ H)∧∀ i m σ H,W i m σ H →
   ((Itl K a).stop i H∧D.nx σ H)∨((Itl K a).go i H∧∃ N:St→Hp→Prop,(∀ σ' H',N σ' H'→∃ m',m' < m∧W (i+1) m' σ' H')∧∀ x H',(Itl K a).yld i H x H'→g x σ H' fun σ2 H2=>tb { D with nx:=N,ct:=N,bk:=D.nx } σ2 H2):=by
 refine ⟨fun i m σ H=>m=xs.length - i∧i≤xs.length∧Pv i σ H,⟨xs.length,by simp,Nat.zero_le _,h0⟩,?_⟩
 rintro i m σ H ⟨rfl,hi,p⟩
 have q:=hl i σ H hi p
 by_cases hlt:i < xs.length
 ·refine .inr ⟨⟨xs,xs[i],q,by simp [hlt]⟩,Pv (i+1),fun σ' H' p'=>⟨xs.length - (i+1),by lia,rfl,hlt,p'⟩,fun x H' y=>?_⟩
  obtain ⟨e,y⟩:=y
  subst e
  exact hs i x σ _ (y xs q) p
 ·have e:i=xs.length:=by lia
  subst e
  exact .inl ⟨⟨xs,q,Nat.le_refl _⟩,hd σ H p⟩
theorem z82 {K:PySem.W.Frag} {a:Addr} {xs:List V} {g:TG} {tb:TS} {D:z3Y} {σ:St} {H:Hp} (Pv:Nat→St→Hp→Prop) (h0:Pv 0 σ H) (hl:∀ i σ H,i≤xs.length→Pv i σ H→SqT K H a xs)
  (hs:∀ i x σ H,xs[i]?=some x→Pv i σ H→g x σ H fun σ2 H2=>tb { D with nx:=Pv (i+1),ct:=Pv (i+1),bk:=D.nx } σ2 H2) (hd:∀ σ H,Pv xs.length σ H→D.nx σ H) :
  ∃ W:Nat→Nat→St→Hp→Prop,(∃ m,W 0 m σ H)∧∀ i m σ H,W i m σ H →
   ((Itt K a).stop i H∧D.nx σ H)∨((Itt K a).go i H∧∃ N:St→Hp→Prop,(∀ σ' H',N σ' H'→∃ m',m' < m∧W (i+1) m' σ' H')∧∀ x H',(Itt K a).yld i H x H'→g x σ H' fun σ2 H2=>tb { D with nx:=N,ct:=N,bk:=D.nx } σ2 H2):=by
 refine ⟨fun i m σ H=>m=xs.length - i∧i≤xs.length∧Pv i σ H,⟨xs.length,by simp,Nat.zero_le _,h0⟩,?_⟩
 rintro i m σ H ⟨rfl,hi,p⟩
 have q:=hl i σ H hi p
 by_cases hlt:i < xs.length
 ·refine .inr ⟨⟨xs,xs[i],q,by simp [hlt]⟩,Pv (i+1),fun σ' H' p'=>⟨xs.length - (i+1),by lia,rfl,hlt,p'⟩,fun x H' y=>?_⟩
  obtain ⟨e,y⟩:=y
  subst e
  exact hs i x σ _ (y xs q) p
 ·have e:i=xs.length:=by lia
  subst e
  exact .inl ⟨⟨xs,q,Nat.le_refl _⟩,hd σ H p⟩
theorem z4x {lo:Int} {n:Nat} {g:TG} {tb:TS} {D:z3Y} {σ:St} {H:Hp} (Pv:Nat→St→Hp→Prop) (h0:Pv 0 σ H)
  (hs:∀ i σ H,i < n→Pv i σ H→g (.int (lo+i)) σ H fun σ2 H2=>tb { D with nx:=Pv (i+1),ct:=Pv (i+1),bk:=D.nx } σ2 H2) (hd:∀ σ H,Pv n σ H→D.nx σ H) :
  ∃ W:Nat→Nat→St→Hp→Prop,(∃ m,W 0 m σ H)∧∀ i m σ H,W i m σ H →
   ((Itr lo n).stop i H∧D.nx σ H)∨((Itr lo n).go i H∧∃ N:St→Hp→Prop,(∀ σ' H',N σ' H'→∃ m',m' < m∧W (i+1) m' σ' H')∧∀ x H',(Itr lo n).yld i H x H'→g x σ H' fun σ2 H2=>tb { D with nx:=N,ct:=N,bk:=D.nx } σ2 H2):=by
 refine ⟨fun i m σ H=>m=n - i∧i≤n∧Pv i σ H,⟨n,by simp,Nat.zero_le _,h0⟩,?_⟩
 rintro i m σ H ⟨rfl,hi,p⟩
 by_cases hlt:i < n
 ·refine .inr ⟨hlt,Pv (i+1),fun σ' H' p'=>⟨n - (i+1),by lia,rfl,hlt,p'⟩,fun x H' y=>?_⟩
  obtain ⟨e,y⟩:=y
  subst e y
  exact hs i σ _ hlt p
 ·have e:i=n:=by lia
  subst e
  exact .inl ⟨Nat.le_refl _,hd σ H p⟩
end L2
namespace L2
open PySem PySem.Spec PyProof.Rows
abbrev R2:=V→V→Hp→VK→Prop
def OpR (X:Cx) (f:Value→Value→Sem Value) (r:R2):Prop :=
 ∀ (pins:List (Addr × Obj)) (s:Shared) (σ:St) (H:Hp) (x y:V) (v u:Value) (Q:VK),Inv X pins σ H s→z1c x v→z1c y u→r x y H Q →
  wpAny (model X.prog X.w) X.A (f v u) (EP X pins σ Q) X.xe s
def UnR (X:Cx) (f:Value→Sem Value) (r:V→Hp→VK→Prop):Prop :=
 ∀ (pins:List (Addr × Obj)) (s:Shared) (σ:St) (H:Hp) (x:V) (v:Value) (Q:VK),Inv X pins σ H s→z1c x v→r x H Q →
  wpAny (model X.prog X.w) X.A (f v) (EP X pins σ Q) X.xe s
def z3e (X:Cx) (f:Value) (r:List V→Hp→VK→Prop):Prop :=
 ∀ (pins:List (Addr × Obj)) (s:Shared) (σ:St) (H:Hp) (xs:List V) (us:List Value) (Q:VK),Inv X pins σ H s→z0V xs us→r xs H Q →
  wpAny (model X.prog X.w) X.A (call f us) (EP X pins σ Q) X.xe s
def tOp (r:R2) (ta tb:TE):TE:=fun σ H Q=>ta σ H fun x H1=>tb σ H1 fun y H2=>r x y H2 Q
def tUn (r:V→Hp→VK→Prop) (ta:TE):TE:=fun σ H Q=>ta σ H fun x H1=>r x H1 Q
def rI (C:Int→Int→Prop) (g:Int→Int→V):R2:=fun x y H Q=>∃ i j,x=.int i∧y=.int j∧C i j∧Q (g i j) H
def rI0 (g:Int→Int→V):R2:=fun x y H Q=>∃ i j,x=.int i∧y=.int j∧Q (g i j) H
def rU (g:Int→V):V→Hp→VK→Prop:=fun x H Q=>∃ i,x=.int i∧Q (g i) H
section
variable {X:Cx} {a b c:Expr} {ta tb tc:TE} {pos:Pos}
theorem zgn (ha:PE X a ta) (hb:PE X b tb) {pins:List (Addr × Obj)} {s:Shared} {σ:St} {H:Hp} {R:V→V→Hp→Prop} (I:Inv X pins σ H s)
  (h:ta σ H fun x H1=>tb σ H1 fun y H2=>R x y H2) {Q:Value→Shared→Prop} {f:Value→Value→Sem Value}
  (hf:∀ v u s2 x y H2,Inv X pins σ H2 s2→z1c x v→z1c y u→R x y H2→wpAny (model X.prog X.w) X.A (f v u) Q X.xe s2) :
  wpAny (model X.prog X.w) X.A (eval a X.env) (fun v s₁=>wpAny (model X.prog X.w) X.A (eval b X.env) (fun u s₂=>wpAny (model X.prog X.w) X.A (f v u) Q X.xe s₂) X.xe s₁) X.xe s:=by
 refine z1B (ha pins s σ H _ I h) fun v s1 x H1 I1 r1 q1=>?_
 refine z1B (hb pins s1 σ H1 _ I1 q1) fun u s2 y H2 I2 r2 q2=>?_
 exact hf v u s2 x y H2 I2 r1 r2 q2
theorem z0A {op:Operator} {r:R2} (ho:OpR X (binaryOp op) r) (ha:PE X a ta) (hb:PE X b tb):PE X (.BinOp a op b pos) (tOp r ta tb):=by
 intro pins s σ H Q I h
 exact wpAny_BinOp (zgn ha hb I h fun v u s2 x y H2 I2 rx ry q=>ho pins s2 σ H2 x y v u Q I2 rx ry q)
theorem zg5 {op:UnaryOp} {r:V→Hp→VK→Prop} (ho:UnR X (unaryOp op) r) (ha:PE X a ta):PE X (.UnaryOp op a pos) (tUn r ta):=by
 intro pins s σ H Q I h
 exact UnaryOp_ (z1B (ha pins s σ H _ I h) fun v s1 x H1 I1 r1 q1=>ho pins s1 σ H1 x v Q I1 r1 q1)
theorem opI {f:Value→Value→Sem Value} {C:Int→Int→Prop} {g:Int→Int→Int}
  (rule:∀ (i j:Int) (t u:Tok) (s:Shared) (Q:Value→Shared→Prop) (E:Value→Shared→Prop),C i j→Q (.int (g i j) s.toks) { s with toks:=s.toks+1 }→wpAny (model X.prog X.w) X.A (f (.int i t) (.int j u)) Q E s) :
  OpR X f (rI C fun i j=>.int (g i j)):=by
 intro pins s σ H x y v u Q I rx ry h
 obtain ⟨i,j,rfl,rfl,hc,q⟩:=h
 obtain ⟨t,rfl⟩:=rx
 obtain ⟨t',rfl⟩:=ry
 exact rule i j t t' s _ _ hc ⟨.int (g i j),H,I.tok _,⟨_,rfl⟩,q⟩
theorem zgA {f:Value→Value→Sem Value} {g:Int→Int→Int}
  (rule:∀ (i j:Int) (t u:Tok) (s:Shared) (Q:Value→Shared→Prop) (E:Value→Shared→Prop),Q (.int (g i j) s.toks) { s with toks:=s.toks+1 }→wpAny (model X.prog X.w) X.A (f (.int i t) (.int j u)) Q E s) :
  OpR X f (rI0 fun i j=>.int (g i j)):=by
 intro pins s σ H x y v u Q I rx ry h
 obtain ⟨i,j,rfl,rfl,q⟩:=h
 obtain ⟨t,rfl⟩:=rx
 obtain ⟨t',rfl⟩:=ry
 exact rule i j t t' s _ _ ⟨.int (g i j),H,I.tok _,⟨_,rfl⟩,q⟩
theorem zfM {f:Value→Value→Sem Value} {g:Int→Int→Bool}
  (rule:∀ (i j:Int) (t u:Tok) (s:Shared) (Q:Value→Shared→Prop) (E:Value→Shared→Prop),Q (.bool (g i j)) s→wpAny (model X.prog X.w) X.A (f (.int i t) (.int j u)) Q E s) :
  OpR X f (rI0 fun i j=>.bl (g i j)):=by
 intro pins s σ H x y v u Q I rx ry h
 obtain ⟨i,j,rfl,rfl,q⟩:=h
 obtain ⟨t,rfl⟩:=rx
 obtain ⟨t',rfl⟩:=ry
 exact rule i j t t' s _ _ ⟨.bl (g i j),H,I,rfl,q⟩
def zgL (i j:Int):Prop:=0 < j∧j < 1073741824
def zhh (i j:Int):Prop:=0≤j∧j≤1000000∧i.natAbs < 2 ^ 64
def zfO (i j:Int):Prop:=(-(2 ^ 64) < i∧i < 2 ^ 64)∨(-(2 ^ 64) < j∧j < 2 ^ 64)
theorem zfO.ok {i j:Int} (h:zfO i j):IntMulOk i j:=by
 rcases h with ⟨h1,h2⟩ | ⟨h1,h2⟩
 ·exact .of_left (intBits_le_64 h1 h2)
 ·exact .of_right (intBits_le_64 h1 h2)
theorem z1p:OpR X (binaryOp .Add) (rI0 fun i j=>.int (i+j)):=zgA fun _ _ _ _ _ _ _ q=>add_int q
theorem z56:OpR X (binaryOp .Sub) (rI0 fun i j=>.int (i - j)):=zgA fun _ _ _ _ _ _ _ q=>sub_int q
theorem z3Z:OpR X (binaryOp .Mult) (rI zfO fun i j=>.int (i*j)):=opI fun _ _ _ _ _ _ _ hc q=>mul_int q hc.ok
theorem z4D:OpR X (binaryOp .FloorDiv) (rI zgL fun i j=>.int (i / j)):=opI fun i j _ _ _ _ _ hc q=>by
 have h1:(0:Int) < j:=hc.1
 have h2:j < 1073741824:=hc.2
 exact floordiv_int (by lia) (by rw [Int.fdiv_eq_ediv_of_nonneg i (by lia)];exact q) (.inl (PyProof.noPylong_small (by lia)))
theorem z1Q:OpR X (binaryOp .Mod) (rI (fun _ j=>0 < j) fun i j=>.int (i % j)):=opI fun i j _ _ _ _ _ hc q=>by
 have h1:(0:Int) < j:=hc
 exact mod_int' (by lia) (by rw [Int.fmod_eq_emod_of_nonneg i (by lia)];exact q)
theorem zeQ:OpR X (binaryOp .Pow) (rI zhh fun i j=>.int (i ^ j.toNat)):=opI fun _ _ _ _ _ _ _ hc q=>pow_int_small hc.1 hc.2.1 hc.2.2 q
theorem unI {f:Value→Sem Value} {g:Int→Int}
  (rule:∀ (i:Int) (t:Tok) (s:Shared) (Q:Value→Shared→Prop) (E:Value→Shared→Prop),Q (.int (g i) s.toks) { s with toks:=s.toks+1 }→wpAny (model X.prog X.w) X.A (f (.int i t)) Q E s) :
  UnR X f (rU fun i=>.int (g i)):=by
 intro pins s σ H x v Q I rx h
 obtain ⟨i,rfl,q⟩:=h
 obtain ⟨t,rfl⟩:=rx
 exact rule i t s _ _ ⟨.int (g i),H,I.tok _,⟨_,rfl⟩,q⟩
theorem zf4:UnR X (unaryOp .USub) (rU fun i=>.int (-i)):=unI fun _ _ _ _ _ q=>neg_int q
end
def zgQ:V→V→Bool
 | .non,.non=>true | .non,.int _=>true | .int _,.non=>true | .non,.bl _=>true | .bl _,.non=>true | .non,.str _=>true | .str _,.non=>true
 | .int _,.int _=>true | .bl _,.bl _=>true | .str _,.str _=>true | .byt _,.byt _=>true
 | .int _,.str _=>true | .str _,.int _=>true | .bl _,.str _=>true | .str _,.bl _=>true
 | _,_=>false
def rEq:R2:=fun x y H Q=>zgQ x y=true∧Q (.bl (decide (x=y))) H
theorem zdo {i j:Int}:decide (V.int i=V.int j)=(i == j):=by
 rw [Bool.eq_iff_iff]
 simp
theorem zeB {i j:Bool}:decide (V.bl i=V.bl j)=(i == j):=by
 rw [Bool.eq_iff_iff]
 simp
theorem ze8 {i j:Str}:decide (V.str i=V.str j)=(i == j):=by
 rw [Bool.eq_iff_iff]
 simp
theorem zdu {i j:Array UInt8}:decide (V.byt i=V.byt j)=(i.toList == j.toList):=by
 rw [Bool.eq_iff_iff]
 cases i
 cases j
 simp
section
variable {X:Cx} {a b c:Expr} {ta tb tc:TE} {pos:Pos}
theorem z1H {pins:List (Addr × Obj)} {σ:St} {H:Hp} {s:Shared} {Q:VK} {k k':Bool} (I:Inv X pins σ H s) (q:Q (.bl k) H) (e:k=k'):EP X pins σ Q (.bool k') s:=by
 subst e
 exact ⟨.bl k,H,I,rfl,q⟩
theorem zfL:OpR X (compareOp .Eq) rEq:=by
 intro pins s σ H x y v u Q I rx ry h
 obtain ⟨hs,q⟩:=h
 cases x with
 | non =>
  cases rx
  cases y with
  | non=>cases ry;exact PySem.EqNone.eq_none_none (z1H I q (by simp))
  | bl j=>cases ry;exact PySem.EqNone.eq_none_bool (z1H I q (by simp))
  | int j=>obtain ⟨t',rfl⟩:=ry;exact PySem.EqNone.eq_none_int (z1H I q (by simp))
  | str j=>obtain ⟨t',rfl⟩:=ry;exact PySem.EqNone.eq_none_str (z1H I q (by simp))
  | _=>exact absurd (show false=true from hs) Bool.false_ne_true
 | bl i =>
  cases rx
  cases y with
  | non=>cases ry;exact PySem.EqNone.eq_bool_none (z1H I q (by simp))
  | bl j=>cases ry;exact eq_bool (z1H I q zeB)
  | str j=>obtain ⟨t',rfl⟩:=ry;exact PySem.EqMixed.eq_bool_str (z1H I q (by simp))
  | _=>exact absurd (show false=true from hs) Bool.false_ne_true
 | int i =>
  obtain ⟨t,rfl⟩:=rx
  cases y with
  | non=>cases ry;exact PySem.EqNone.eq_int_none (z1H I q (by simp))
  | int j=>obtain ⟨t',rfl⟩:=ry;exact eq_int (z1H I q zdo)
  | str j=>obtain ⟨t',rfl⟩:=ry;exact PySem.EqMixed.eq_int_str (z1H I q (by simp))
  | _=>exact absurd (show false=true from hs) Bool.false_ne_true
 | str i =>
  obtain ⟨t,rfl⟩:=rx
  cases y with
  | non=>cases ry;exact PySem.EqNone.eq_str_none (z1H I q (by simp))
  | bl j=>cases ry;exact PySem.EqMixed.eq_str_bool (z1H I q (by simp))
  | int j=>obtain ⟨t',rfl⟩:=ry;exact PySem.EqMixed.eq_str_int (z1H I q (by simp))
  | str j=>obtain ⟨t',rfl⟩:=ry;exact eq_str (z1H I q ze8)
  | _=>exact absurd (show false=true from hs) Bool.false_ne_true
 | byt i =>
  obtain ⟨t,rfl⟩:=rx
  cases y with
  | byt j=>obtain ⟨t',rfl⟩:=ry;exact PySem.W.eq_bytes (z1H I q zdu)
  | _=>exact absurd (show false=true from hs) Bool.false_ne_true
 | _=>cases y<;>exact absurd (show false=true from hs) Bool.false_ne_true
theorem z5U:OpR X (compareOp .Lt) (rI0 fun i j=>.bl (decide (i < j))):=zfM fun _ _ _ _ _ _ _ q=>lt_int q
theorem z83:OpR X (compareOp .LtE) (rI0 fun i j=>.bl (decide (i≤j))):=zfM fun _ _ _ _ _ _ _ q=>le_int q
theorem zbb:OpR X (compareOp .Gt) (rI0 fun i j=>.bl (decide (j < i))):=zfM fun _ _ _ _ _ _ _ q=>gt_int q
theorem zdN:OpR X (compareOp .IsNot) (fun x y H Q=>y=.non∧Q (.bl (!decide (x=.non))) H):=by
 intro pins s σ H x y v u Q I rx ry h
 obtain ⟨rfl,q⟩:=h
 cases ry
 refine isnot_none_gen (z1H I q ?_)
 cases x<;>first
  | (cases rx;rfl)
  | (obtain ⟨t,rfl⟩:=rx;rfl)
theorem z1e (b:Expr) {op:CmpOp} (h:op≠.In:=by decide) (h2:op≠.NotIn:=by decide):behindInMarks op b=false:=by
 have e1:(op == CmpOp.In)=false:=by cases op<;>first | rfl | exact absurd rfl h
 have e2:(op == CmpOp.NotIn)=false:=by cases op<;>first | rfl | exact absurd rfl h2
 cases b<;>simp [behindInMarks,e1,e2]
theorem z7w {op:CmpOp} {r:R2} (ho:OpR X (compareOp op) r) (ha:PE X a ta) (hb:PE X b tb) (hm:behindInMarks op b=false):PE X (.Compare a [op] [b] pos) (tOp r ta tb):=by
 intro pins s σ H Q I h
 exact wpAny_Compare1 (zgn ha hb I h fun v u s2 x y H2 I2 rx ry q=>ho pins s2 σ H2 x y v u Q I2 rx ry q) hm
def zfo (t:TE):TT:=fun σ H Q=>t σ H fun x H'=>∃ k,x=.bl k∧Q k H'
theorem z18 {op:CmpOp} {r:R2} (ho:OpR X (compareOp op) r) (ha:PE X a ta) (hb:PE X b tb) (hm:behindInMarks op b=false):PT X (.Compare a [op] [b] pos) (zfo (tOp r ta tb)):=by
 intro pins s σ H Q I h
 refine wpAny_isTrue_Compare1 (z1B (ha pins s σ H _ I h) fun v s1 x H1 I1 r1 q1=>z1B (hb pins s1 σ H1 _ I1 q1) fun u s2 y H2 I2 r2 q2 =>
  thn (ho pins s2 σ H2 x y v u _ I2 r1 r2 q2) fun c s3 ⟨z,H3,I3,r3,k,e,q3⟩=>?_) hm
 subst e
 cases r3
 exact wpAny_truthy_bool ⟨H3,I3,q3⟩
def zcB (r r':R2) (ta tb tc:TE):TE:=fun σ H Q=>ta σ H fun x H1=>tb σ H1 fun y H2=>r x y H2 fun z H3=>∃ k,z=.bl k ∧
 (if k=true then tc σ H3 fun w' H4=>r' y w' H4 Q else Q (.bl false) H3)
theorem zbL {op op':CmpOp} {r r':R2} (ho:OpR X (compareOp op) r) (ho':OpR X (compareOp op') r') (ha:PE X a ta) (hb:PE X b tb) (hc:PE X c tc)
  (hm:lastMarks [op,op'] [b,c]=false:=by with_unfolding_all rfl):PE X (.Compare a [op,op'] [b,c] pos) (zcB r r' ta tb tc):=by
 intro pins s σ H Q I h
 refine Compare_chain (z1B (ha pins s σ H _ I h) fun v s1 x H1 I1 r1 q1=>chain_link (z1B (hb pins s1 σ H1 _ I1 q1) fun u s2 y H2 I2 r2 q2 =>
  thn (ho pins s2 σ H2 x y v u _ I2 r1 r2 q2) fun d s3 ⟨z,H3,I3,r3,k,e,q3⟩=>?_)) hm
 subst e
 cases r3
 refine wpAny_truthy_bool ?_
 cases k with
 | false=>exact ite_ff ⟨.bl false,H3,I3,rfl,q3⟩
 | true=>exact ite_tt (chain_last (thn (hc pins s3 σ H3 _ I3 q3) fun w' s4 ⟨z',H4,I4,r4,q4⟩=>ho' pins s4 σ H4 y z' u w' Q I4 r2 r4 q4))
theorem z6C {op op':CmpOp} {r r':R2} (ho:OpR X (compareOp op) r) (ho':OpR X (compareOp op') r') (ha:PE X a ta) (hb:PE X b tb) (hc:PE X c tc)
  (hm:lastMarks [op,op'] [b,c]=false:=by with_unfolding_all rfl):PT X (.Compare a [op,op'] [b,c] pos) (zfo (zcB r r' ta tb tc)):=by
 intro pins s σ H Q I h
 refine isTrue_chain (z1B (ha pins s σ H _ I h) fun v s1 x H1 I1 r1 q1=>test_link (z1B (hb pins s1 σ H1 _ I1 q1) fun u s2 y H2 I2 r2 q2 =>
  thn (ho pins s2 σ H2 x y v u _ I2 r1 r2 q2) fun d s3 ⟨z,H3,I3,r3,k,e,q3⟩=>?_)) hm
 subst e
 cases r3
 refine wpAny_truthy_bool ?_
 cases k with
 | false =>
  obtain ⟨k',e',q'⟩:=q3
  cases e'
  exact ite_ff ⟨H3,I3,q'⟩
 | true =>
  refine ite_tt (test_last (z1B (hc pins s3 σ H3 _ I3 q3) fun w' s4 z' H4 I4 r4 q4=>z1B (ho' pins s4 σ H4 y z' u w' _ I4 r2 r4 q4) fun d' s5 z2 H5 I5 r5 hz9=>?_))
  obtain ⟨k2,e2,q5⟩:=hz9
  subst e2
  cases r5
  exact wpAny_truthy_bool ⟨H5,I5,q5⟩
theorem z7c:(sizeLine:Nat) < 2 ^ 63:=by rw [sizeLine_eq];decide
theorem z5l {x:V} {us:List Value} (r:z0V [x] us):∃ u,us=[u]∧z1c x u:=by
 cases r with
 | cons r1 r2=>cases r2;exact ⟨_,rfl,r1⟩
theorem zbI {x y:V} {us:List Value} (r:z0V [x,y] us):∃ u w',us=[u,w']∧z1c x u∧z1c y w':=by
 cases r with
 | cons r1 r2 =>
  cases r2 with
  | cons r3 r4=>cases r4;exact ⟨_,_,rfl,r1,r3⟩
theorem zae (hc:X.calm=true):z3e X (.builtin "min") (fun xs H Q=>∃ i j,xs=[.int i,.int j]∧Q (.int (if j < i then j else i)) H):=by
 intro pins s σ H xs us Q I r h
 obtain ⟨i,j,rfl,q⟩:=h
 obtain ⟨u,w',rfl,⟨t,rfl⟩,⟨t',rfl⟩⟩:=zbI r
 refine min_two_ints (I.ok.hd hc) fun h' tk k=>⟨_,H,I.kept k,?_,q⟩
 by_cases hj:j < i
 ·rw [if_pos hj,if_pos hj];exact ⟨_,rfl⟩
 ·rw [if_neg hj,if_neg hj];exact ⟨_,rfl⟩
theorem z7q:z3e X (.builtin "divmod") (fun xs H Q=>∃ i j,xs=[.int i,.int j]∧zgL i j∧∀ p,H p=none→Q (.ref p) (upd H p (.tup [.int (i / j),.int (i % j)]))):=by
 intro pins s σ H xs us Q I r h
 obtain ⟨i,j,rfl,⟨h1,h2⟩,q⟩:=h
 obtain ⟨u,w',rfl,⟨t,rfl⟩,⟨t',rfl⟩⟩:=zbI r
 refine divmod_int (by lia) ?_ (.inl (PyProof.noPylong_small (by lia)))
 rw [Int.fdiv_eq_ediv_of_nonneg i (by lia),Int.fmod_eq_emod_of_nonneg i (by lia)]
 have hn:H s.heap.objs.size=none:=I.hok.fresh (Nat.le_refl _)
 refine ⟨.ref s.heap.objs.size,_,?_,rfl,q _ hn⟩
 refine I.laid (fun b o e=>Heap.get?_push_of_some _ e) (Nat.le_refl _) ⟨by simp only [List.length_cons,List.length_nil];rw [sizeLine_eq];decide,[.int (i / j) s.toks,.int (i % j) (s.toks+1)],0,.cons ⟨_,rfl⟩ (.cons ⟨_,rfl⟩ .nil),?_⟩
 exact Heap.get?_push_size s.heap rfl
end
end L2
namespace L2
open PySem PySem.Spec PyProof.Rows
section
variable {prog:Program} {w:World} {A:Around} {E:Value→Shared→Prop} {s:Shared} {K:PySem.W.Frag} {x dx C f:Addr} {mA:Str→Option Value} {name:Str} {v:Value}
end
theorem z97.some_of {v:V} {o:Option Value} (r:z97 (some v) o):∃ u,o=some u∧z1c v u:=by
 cases o with
 | none=>exact (show False from r).elim
 | some u=>exact ⟨u,rfl,r⟩
section
variable {P:Program} {w:World} {H H':Hp} {h h':Heap} {a C dx:Addr} {fs fs':List (Str × V)}
end
section
variable {X:Cx} {pins:List (Addr × Obj)} {σ:St} {H:Hp} {s:Shared} {a C dx:Addr} {fs:List (Str × V)} {f:Str} {v:V} {A:Around} {E:Value→Shared→Prop}
end
section
variable {X:Cx} {o e value:Expr} {f:Str} {pos pos' tpos:Pos} {ta tv:TE}
end
section
variable {X:Cx} {pins:List (Addr × Obj)} {σ:St} {H:Hp} {s:Shared} {A:Around} {E:Value→Shared→Prop} {Q:Value→Shared→Prop} {c:Value} {b:Bool}
end
end L2
namespace L2
open PySem PySem.Spec PyProof.Rows
structure z3Q (k:Nat) (A:Around):Prop where
 hd:A.handled=none
 dp:A.depth+3*k+5 < recursionLimit
 un:A.units+16*k+200 < cLine
theorem z3Q.mono {j k:Nat} {A:Around} (r:z3Q k A) (h:j≤k):z3Q j A:=⟨r.hd,by have:=r.dp;lia,by have:=r.un;lia⟩
theorem z3Q.deeper {k:Nat} {A:Around} (r:z3Q (k+1) A) (env:Env):z3Q k (A.deeper env) :=
 ⟨r.hd,by have:=r.dp;show A.depth+1+3*k+5 < _;lia,by have:=r.un;show A.units+3+16*k+200 < _;lia⟩
theorem z3Q.depth {k:Nat} {A:Around} (r:z3Q k A):A.depth < recursionLimit:=by have:=r.dp;lia
theorem z3Q.units {k:Nat} {A:Around} (r:z3Q k A):A.units+64 < cLine:=by have:=r.un;lia
def zgr:TA:=fun _ H Q=>Q [] H
def zdi (ta:TE) (tr:TA):TA:=fun σ H Q=>ta σ H fun x H1=>tr σ H1 fun xs H2=>Q (x::xs) H2
section
variable {X:Cx} {e:Expr} {es:List Expr} {te:TE} {t:TA} {pos:Pos}
theorem z03:PA X [] zgr:=fun _ _ _ _ H Q I h=>Calls.spliced_nil ⟨[],H,I,.nil,h⟩
theorem z00 (ha:PE X e te) (hr:PA X es t) (hs:starEach (e::es) X.env=(false,eval e X.env)::starEach es X.env:=by rfl):PA X (e::es) (zdi te t):=by
 intro pos pins s σ H Q I h
 rw [hs]
 show wpAny _ _ (spliced ((false,eval e X.env)::backTo pos (starEach es X.env))) _ _ s
 refine Calls.spliced_cons (z1B (ha pins s σ H _ I h) fun u s1 x H1 I1 r1 q1=>?_)
 exact thn (hr pos pins s1 σ H1 _ I1 q1) fun us s2 ⟨xs,H2,I2,r2,q2⟩=>⟨x::xs,H2,I2,.cons r1 r2,q2⟩
def zhq (t:TA):TE:=fun σ H Q=>t σ H fun xs H1=>xs.length≤sizeLine∧∀ p,H1 p=none→Q (.ref p) (upd H1 p (.tup xs))
def zh1 (t:TA):TE:=fun σ H Q=>t σ H fun xs H1=>xs.length≤sizeLine∧∀ p,H1 p=none→Q (.ref p) (upd H1 p (.lst xs))
theorem z1I {x1} (h:PA X es t):PE X (.Tuple es x1 pos) (zhq t):=by
 intro pins s σ H Q I hq
 refine wpAny_Tuple_spliced (thn (h pos pins s σ H _ I hq) fun us s1 ⟨xs,H1,I1,r,z,q⟩=>⟨by rw [←r.length];exact z,?_⟩)
 have hf:H1 s1.heap.objs.size=none:=I1.hok.fresh (Nat.le_refl _)
 refine ⟨.ref s1.heap.objs.size,upd H1 s1.heap.objs.size (.tup xs),I1.laid (t':=s1.toks) (fun b u e=>Heap.get?_push_of_some _ e) (Nat.le_refl _) ?_,rfl,q _ hf⟩
 exact ⟨z,us,0,r,Heap.get?_push_size _ rfl⟩
theorem z1x (h:PA X es t):PE X (.List es pos) (zh1 t):=by
 intro pins s σ H Q I hq
 refine wpAny_List_spliced (thn (h pos pins s σ H _ I hq) fun us s1 ⟨xs,H1,I1,r,z,q⟩=>⟨by rw [←r.length];exact z,?_⟩)
 have hf:H1 s1.heap.objs.size=none:=I1.hok.fresh (Nat.le_refl _)
 refine ⟨.ref s1.heap.objs.size,upd H1 s1.heap.objs.size (.lst xs),I1.laid (t':=s1.toks) (fun b u e=>Heap.get?_push_of_some _ e) (Nat.le_refl _) ?_,rfl,q _ hf⟩
 exact ⟨z,us,0,r,Heap.get?_push_size _ rfl⟩
end
abbrev Sp:=List V→Hp→VK→XK→Prop
abbrev CXT:=List Env→Hp→Shared→XK→Value→Shared→Prop
structure zdx (P:Program) (w:World) (K:PySem.W.Frag) (mg:Str→Option Value) (base:Heap) (A:Around) (outer:List Env) (s:Shared) (H:Hp):Prop where
 frames:A.frames=some outer
 mod:Mod K mg base
 bs:∀ b o,base.get? b=some o→s.heap.get? b=some o∧H b=none
 bsz:base.objs.size≤s.heap.objs.size
 funs:s.heap.FunFrames base outer
 frf:∀ b∈frs outer,H b=none
 hok:HOk P w H s.heap
 bare:AllBare s.gens
def CE (outer:List Env) (P:Program) (w:World) (H:Hp) (s:Shared) (Q:VK) (u:Value) (s':Shared):Prop :=
 ∃ v H',s'.os=s.os∧AllBare s'.gens∧Un (frs outer) [] H H' s.heap s'.heap∧HOk P w H' s'.heap∧z1c v u∧Q v H'
def CR (CX:CXT) (outer:List Env) (P:Program) (w:World) (H:Hp) (s:Shared) (Q:VK) (E:XK) (r:Result) (s':Shared):Prop :=
 match r with
 | .ok (.ret u)=>CE outer P w H s Q u s'
 | .ok _=>False
 | .error e=>CX outer H s E e s'
structure z0v (P:Program) (w:World) (K:PySem.W.Frag) (mg:Str→Option Value) (base:Heap) (CX:CXT) (k:Nat) (f:Addr) (fd:FuncData) (ps:List Str) (sp:Sp):Prop where
 len:∀ vs H Q E,sp vs H Q E→vs.length=ps.length
 run:∀ (A:Around) (outer:List Env) (s:Shared) (H:Hp) (args:Args) (us:List Value) (vs:List V) (Q:VK) (E:XK),z3Q k A→zdx P w K mg base A outer s H→BindsTo s fd args (ps.zip us)→z0V vs us→sp vs H Q E →
  codeAny (model P w) A (.call (.ref f) args) (CR CX outer P w H s Q E) s
theorem z0v.mono {P:Program} {w:World} {K:PySem.W.Frag} {mg:Str→Option Value} {base:Heap} {CX:CXT} {j k:Nat} {f:Addr} {fd:FuncData} {ps:List Str} {sp:Sp} (F:z0v P w K mg base CX j f fd ps sp) (h:j≤k) :
  z0v P w K mg base CX k f fd ps sp:=⟨F.len,fun A outer s H args us vs Q E hr=>F.run A outer s H args us vs Q E (hr.mono h)⟩
section
variable {X:Cx} {pins:List (Addr × Obj)} {σ:St} {H:Hp} {s s':Shared}
theorem Inv.env0 (I:Inv X pins σ H s):zdx X.prog X.w X.K X.mg X.base X.A X.stack s H :=
 ⟨I.ok.frames,I.ok.mod,I.bs,Nat.le_trans I.ok.bsz I.sz,I.stack,I.stkFree,I.hok,I.bare⟩
theorem Inv.after {Q:VK} {u:Value} (I:Inv X pins σ H s) (h:CE X.stack X.prog X.w H s Q u s'):EP X pins σ Q u s':=by
 obtain ⟨v,H',os,bare,un,hok,r,q⟩:=h
 obtain ⟨hh,g,d,t,os'⟩:=s'
 obtain rfl:os'=s.os:=os
 exact ⟨v,H',I.call (h':=hh) (g':=g) (d':=d) (t':=t) (ch:=[]) un hok bare (fun b z=>absurd z (by simp)),r,q⟩
end
def zgi (sp:Sp) (dvs:List V) (E:XK) (t:TA):TE:=fun σ H Q=>t σ H fun vs H1=>sp (vs++dvs) H1 Q E
def z0o (K:PySem.W.Frag) (fd:FuncData) (ps:List Str) (ds:List Value):Prop :=
 ∀ (s:Shared) (us:List Value),K.In s.heap→(us++ds).length=ps.length→BindsTo s fd ⟨us,[]⟩ (ps.zip (us++ds))
theorem z0o.all {K:PySem.W.Frag} {fd:FuncData} {ps:List Str} (h:∀ us:List Value,us.length=ps.length→bindArgs fd ⟨us,[]⟩=pure (ps.zip us)):z0o K fd ps []:=fun s us _ hl=>by
 rw [List.append_nil] at hl ⊢
 exact .of_eq (h us hl)
def z4G (CX:CXT) (X:Cx) (E:XK):Prop:=∀ (pins:List (Addr × Obj)) (σ:St) (H:Hp) (s:Shared) (e:Value) (s':Shared),Inv X pins σ H s→CX X.stack H s E e s'→X.xe e s'
section
variable {X:Cx} {CX:CXT} {k:Nat} {f C:Addr} {fd:FuncData} {ps:List Str} {sp:Sp} {dvs:List V} {ds:List Value} {E:XK} {x m:Str} {p pos apos:Pos} {e o:Expr} {es:List Expr} {ta:TE} {t:TA}
theorem zfc {pins:List (Addr × Obj)} {σ:St} {H:Hp} {s:Shared} {Q:VK} {us:List Value} {vs:List V} (F:z0v X.prog X.w X.K X.mg X.base CX k f fd ps sp) (hr:z3Q k X.A) (hb:z0o X.K fd ps ds) (hd:z0V dvs ds) (hx:z4G CX X E)
  (I:Inv X pins σ H s) (r:z0V vs us) (h:sp (vs++dvs) H Q E):wpAny (model X.prog X.w) X.A (call (.ref f) us) (EP X pins σ Q) X.xe s:=by
 have r2:z0V (vs++dvs) (us++ds):=r.append hd
 have hl:(us++ds).length=ps.length:=by rw [←r2.length];exact F.len _ _ _ _ h
 refine wpAny_call (codeAny_mono (F.run X.A X.stack s H ⟨us,[]⟩ (us++ds) (vs++dvs) Q E hr I.env0 (hb s us I.kIn hl) r2 h) fun r s' hq=>?_)
 cases r with
 | error e=>exact hx pins σ H s e s' I hq
 | ok fl =>
  cases fl with
  | ret u=>exact I.after hq
  | next=>exact False.elim hq
  | brk=>exact False.elim hq
  | cont=>exact False.elim hq
theorem z0h (F:z0v X.prog X.w X.K X.mg X.base CX k f fd ps sp) (hr:z3Q k X.A) (hg:Gl X x) (hm:X.mg x=some (.ref f)) (hk:PySem.W.keepIn X.K (.ref f)=true) (hb:z0o X.K fd ps ds) (hd:z0V dvs ds) (hx:z4G CX X E)
  (ha:PA X (e::es) t) (hdb:(x == ("__debug__":Str))=false:=by decide) (he:starEach (e::es) X.env=(false,eval e X.env)::starEach es X.env:=by rfl) (hpl:(backTo pos (starEach es X.env)).any (·.1)=false:=by rfl) :
  PE X (.Call (.Name x p) (e::es) [] pos) (zgi sp dvs E t):=by
 intro pins s σ H Q I h
 refine wpAny_Call_Name_kw (z4v I hg hm ?_ hdb)
 refine PySem.W.callWith_K (h₀:=X.base) I.ok.mod.kin hk (thn (ha pos pins s σ H _ I h) fun us s1 ⟨vs,H1,I1,r,q⟩=>⟨I1.kIn,?_⟩) he hpl
 exact zfc F hr hb hd hx I1 r q
end
section
variable {X:Cx} {CX:CXT} {k:Nat} {f C:Addr} {fd:FuncData} {ps ks:List Str} {sp:Sp} {E:XK} {x m:Str} {p pos apos kpos:Pos} {e o:Expr} {es:List Expr} {kws:List Keyword} {te ta:TE} {t tk:TA} {nm:Option Str}
variable {g:List Value→List Value→List Value} {gV:List V→List V→List V}
end
structure z0p (N P:List Str) (sc:Scope):Prop where
 kind:sc.kind=.function:=by rfl
 co:sc.isCoroutine=false:=by rfl
 gen:sc.isGenerator=false:=by rfl
 nd:N.Nodup:=by decide +kernel
 pre:N.take P.length=P:=by rfl
 par:∀ x∈P,sc.names.lookup x=some .local∨sc.names.lookup x=some .cell:=by decide +kernel
 nofree:∀ y∈sc.names,y.2≠.free:=by decide +kernel
theorem z6Y {kindOf:Str→Option NameKind} {x:Str}:∀ {binds:List (Str × Value)} {m:Str→Option Value},(∀ v,(x,v)∉binds)→bindL kindOf binds m x=m x
 | [],_,_=>rfl
 | (n,v)::r,m,h=>by
  unfold bindL
  rw [z6Y fun w hw=>h w (List.mem_cons_of_mem _ hw)]
  split
  ·have:x≠n:=by rintro rfl;exact h v List.mem_cons_self
   simp [this]
  ·rfl
theorem z6N {kindOf:Str→Option NameKind} {x:Str}:∀ {binds:List (Str × Value)} {m:Str→Option Value},(∀ v,(x,v)∉binds)→bindC kindOf binds m x=m x
 | [],_,_=>rfl
 | (n,v)::r,m,h=>by
  unfold bindC
  rw [z6N fun w hw=>h w (List.mem_cons_of_mem _ hw)]
  split
  ·rfl
  ·have:x≠n:=by rintro rfl;exact h v List.mem_cons_self
   simp [this]
theorem z6G {kindOf:Str→Option NameKind} {x:Str} {v:Value}:∀ {P:List Str} {vs:List Value} {i:Nat} {m:Str→Option Value},P.Nodup→P[i]?=some x→vs[i]?=some v→kindOf x=some .local →
  bindL kindOf (P.zip vs) m x=some v
 | [],_,_,_,_,h,_,_=>by simp at h
 | _::_,[],_,_,_,_,h,_=>by simp at h
 | p::P,w::vs,0,m,nd,h1,h2,hk=>by
  simp at h1 h2;subst h1;subst h2
  show bindL kindOf ((p,w)::P.zip vs) m p=_
  unfold bindL
  rw [z6Y fun v hv=>(List.nodup_cons.mp nd).1 (List.of_mem_zip hv).1,if_pos hk]
  simp
 | p::P,w::vs,i+1,m,nd,h1,h2,hk=>by
  show bindL kindOf ((p,w)::P.zip vs) m x=_
  unfold bindL
  exact z6G (i:=i) (List.nodup_cons.mp nd).2 (by simpa using h1) (by simpa using h2) hk
theorem z7d {kindOf:Str→Option NameKind} {x:Str} {v:Value}:∀ {P:List Str} {vs:List Value} {i:Nat} {m:Str→Option Value},P.Nodup→P[i]?=some x→vs[i]?=some v→kindOf x≠some .local →
  bindC kindOf (P.zip vs) m x=some v
 | [],_,_,_,_,h,_,_=>by simp at h
 | _::_,[],_,_,_,_,h,_=>by simp at h
 | p::P,w::vs,0,m,nd,h1,h2,hk=>by
  simp at h1 h2;subst h1;subst h2
  show bindC kindOf ((p,w)::P.zip vs) m p=_
  unfold bindC
  rw [z6N fun v hv=>(List.nodup_cons.mp nd).1 (List.of_mem_zip hv).1,if_neg hk]
  simp
 | p::P,w::vs,i+1,m,nd,h1,h2,hk=>by
  show bindC kindOf ((p,w)::P.zip vs) m x=_
  unfold bindC
  exact z7d (i:=i) (List.nodup_cons.mp nd).2 (by simpa using h1) (by simpa using h2) hk
def z5e (N:List Str) (vs:List V):St:=vs.map some++List.replicate (N.length - vs.length) none
def z6E (CX:CXT) (P:Program) (w:World) (K:PySem.W.Frag) (mg:Str→Option Value) (base:Heap) (N:List Str) (qual:Str) (scope:Scope) (f:Addr) (cd:Value) (A:Around) (outer:List Env) (s:Shared) (H:Hp) (E:XK):Cx where
 prog:=P
 w:=w
 K:=K
 mg:=mg
 base:=base
 A:=A.deeper (envOfC qual scope s.heap.objs.size f cd)
 N:=N
 s₀:=s
 H₀:=H
 env:=envOfC qual scope s.heap.objs.size f cd
 outer:=outer
 stack:=envOfC qual scope s.heap.objs.size f cd::outer
 ex:=[]
 calm:=true
 fn:=fun _=>true
 pn:=[]
 xe:=fun e s'=>wpAny (model P w) (A.deeper (envOfC qual scope s.heap.objs.size f cd)) (leaving (envOfC qual scope s.heap.objs.size f cd) e) (fun _ s''=>CX outer H s E e s'') (fun e' s''=>CX outer H s E e' s'') s'
theorem z8P {sc:Scope} {n:Nat} {x:Str} (h:sc.names.lookup x=some .cell):∃ c,(cellsFrom n sc.names []).lookup x=some c:=by
 have q:=PySem.W.cellsFrom_some sc.names n [] (.inl h)
 exact Option.isSome_iff_exists.mp q
theorem zaR {CX:CXT} {P:Program} {w:World} {K:PySem.W.Frag} {mg:Str→Option Value} {base:Heap} {N ps:List Str} {qual:Str} {scope:Scope} {f:Addr} {cd:Value} {A:Around} {outer:List Env} {s s1:Shared} {H:Hp} {E:XK} {us:List Value} {vs:List V}
  (S:z0p N ps scope) (hd:A.handled=none) (e0:zdx P w K mg base A outer s H) (hl:vs.length=ps.length) (r:z0V vs us)
  (x:InCallC s s.heap.objs.size (bindL (envOfC qual scope s.heap.objs.size f cd).kindOf (ps.zip us) fun _=>none) (cellsFrom (s.heap.objs.size+1) scope.names []) (bindC (envOfC qual scope s.heap.objs.size f cd).kindOf (ps.zip us) fun _=>none) s1) :
  Inv (z6E CX P w K mg base N qual scope f cd A outer s H E) [] (z5e N vs) H s1:=by
 have hpl:ps.length≤N.length:=by have:=congrArg List.length S.pre;rw [List.length_take] at this;lia
 obtain ⟨h1,tk,rfl,hk⟩:=x.done
 have noA:∀ b:Addr,b∉(z6E CX P w K mg base N qual scope f cd A outer s H E).ex:=fun b z=>absurd (show b∈([]:List Addr) from z) (by simp)
 refine ⟨⟨e0.mod,S.kind,rfl,rfl,Nat.le_refl _,fun y z c h1 h2=>?_,fun y hy=>?_,fun y c _ h=>?_,fun _=>hd,Around.frames_deeper e0.frames,.inr ⟨rfl,rfl⟩,fun b z=>absurd z (noA b),e0.bs,e0.bsz,fun b _ _=>noA b,fun b z=>absurd z (noA b),e0.funs,e0.frf⟩,
  rfl,e0.bare,Un.kept hk,⟨_,x.toInCall.ns,fun i y v h1 h2 h3=>?_⟩,fun y c h=>⟨_,x.cell y c h⟩,e0.hok.fresh (Nat.le_refl _),fun y c h=>?_,fun p hp=>absurd (show p∈([]:List (Addr × Obj)) from hp) (by simp),e0.hok.kept hk,?_⟩
 ·exact name_of_addr x.apart (PySem.mem_of_lookup h1) (PySem.mem_of_lookup h2)
 ·have hy:scope.names.lookup y=some .cell∨scope.names.lookup y=some .free:=hy
  rcases hy with hy | hy
  ·exact z8P hy
  ·exact absurd rfl (S.nofree _ (PySem.mem_of_lookup hy))
 ·exact Nat.le_of_lt (x.above y c (PySem.mem_of_lookup h))
 ·have hi:i < vs.length:=by
   unfold z5e at h2
   by_cases hi:i < vs.length
   ·exact hi
   ·rw [List.getElem?_append_right (by simpa using hi)] at h2
    rw [List.getElem?_replicate] at h2
    split at h2<;>cases h2
  have ha:vs[i]?=some v:=by
   unfold z5e at h2
   rw [List.getElem?_append_left (by simpa using hi),zGm] at h2
   cases e:vs[i]? with
   | none=>rw [e] at h2;cases h2
   | some a=>rw [e] at h2;cases h2;rfl
  obtain ⟨u,hu,rv⟩:=r.get ha
  have hp:ps[i]?=some y:=by
   rw [←S.pre,List.getElem?_take_of_lt (by lia)];exact h1
  have ndP:ps.Nodup:=by rw [←S.pre];exact S.nd.sublist (List.take_sublist _ _)
  refine ⟨u,rv,?_⟩
  rcases S.par y (List.mem_of_getElem? hp) with k | k
  ·exact .inl ⟨k,z6G ndP hp hu k⟩
  ·obtain ⟨c,e⟩:=z8P (n:=s.heap.objs.size+1) k
   refine .inr ⟨.inl k,c,e,?_⟩
   have q:=x.cell y c e
   rw [z7d ndP hp hu (by show scope.names.lookup y≠_;rw [k];decide)] at q
   exact q
 ·exact e0.hok.fresh (Nat.le_of_lt (x.above y c (PySem.mem_of_lookup h)))
 ·unfold z5e
  show _=N.length
  rw [List.length_append,zLm,List.length_replicate]
  lia
theorem ze7 {CX:CXT} {P:Program} {w:World} {K:PySem.W.Frag} {mg:Str→Option Value} {base:Heap} {k:Nat} {f:Addr} {name qual:Str} {params:Arguments} {body:List Stmt} {scope:Scope} {dV kV doc pm cdv ct oc:Value} {an od:Option Addr}
  {osl:Array (Option Value)} {N ps:List Str} {sp:Sp} (lk:K.lookup f=some ⟨oc,od,.func (PySem.W.fnOf name qual params body scope dV kV doc pm an cdv ct),osl⟩) (hcd:PySem.W.codeIn K cdv qual=true) (S:z0p N ps scope)
  (len:∀ vs H Q E,sp vs H Q E→vs.length=ps.length)
  (hbody:∀ (A:Around) (outer:List Env) (s:Shared) (H:Hp) (vs:List V) (Q:VK) (E:XK),z3Q k (A.deeper (envOfC qual scope s.heap.objs.size f cdv))→sp vs H Q E →
   ∃ t,PSs (z6E CX P w K mg base N qual scope f cdv A outer s H E) body t∧t { nx:=fun _ H'=>Q .non H',rt:=Q } (z5e N vs) H) :
  z0v P w K mg base CX (k+1) f (PySem.W.fnOf name qual params body scope dV kV doc pm an cdv ct) ps sp:=by
 refine ⟨len,fun A outer s H args us vs Q E hr e0 hb r hsp=>?_⟩
 have hl:=len _ _ _ _ hsp
 have KX:K.In s.heap:=e0.mod.kin.keeps fun b o e=>(e0.bs b o e).1
 have lim:s.heap.NoLimit:=e0.mod.nolimit.keeps fun b o e=>(e0.bs b o e).1
 have hkind:∀ y∈ps.zip us,scope.names.lookup y.1=some .local∨(scope.names.lookup y.1=some .cell∧((cellsFrom (s.heap.objs.size+1) scope.names []).lookup y.1).isSome=true):=fun ⟨n,v⟩ hy=>by
  rcases S.par n (List.of_mem_zip hy).1 with q | q
  ·exact .inl q
  ·exact .inr ⟨q,PySem.W.cellsFrom_some _ _ _ (.inl q)⟩
 refine codeAny_call_function hr.depth (KX _ _ lk) rfl S.co S.gen rfl (PySem.W.codeRec_of KX hcd) (hb _ _ _ _ ?_)
 refine wpAny_newFunctionEnv_cells S.kind hkind fun env he s1 x=>?_
 subst he
 refine ⟨lim.keeps x.toInCall.keep,codeAny_func ?_⟩
 obtain ⟨t,ht,hq⟩:=hbody A outer s H vs Q E (hr.deeper _) hsp
 have I:Inv (z6E CX P w K mg base N qual scope f cdv A outer s H E) [] (z5e N vs) H s1:=zaR S hr.hd e0 hl r x
 refine wpAny_mono (ht [] s1 (z5e N vs) H _ I hq) (fun fl s' hs=>?_) fun e s' hs=>hs
 have fin:∀ {σ':St} {H':Hp} {v:V} {u:Value},Inv (z6E CX P w K mg base N qual scope f cdv A outer s H E) [] σ' H' s'→z1c v u→Q v H'→CE outer P w H s Q u s' :=
  fun {σ' H' v u} J rv q=>⟨v,H',J.os,J.bare,J.base,J.hok,rv,q⟩
 cases fl with
 | ret u =>
  obtain ⟨v,σ',H',J,rv,q⟩:=hs
  exact fin J rv q
 | next =>
  obtain ⟨σ',H',J,q⟩:=hs
  exact fin (v:=V.non) (u:=Value.none) J rfl q
 | brk =>
  obtain ⟨_,_,_,q⟩:=hs
  exact False.elim q
 | cont =>
  obtain ⟨_,_,_,q⟩:=hs
  exact False.elim q
end L2
namespace L2
open PySem PySem.Spec PyProof.Rows
section
variable {X:Cx} {x:Str} {p pos:Pos} {e:Expr} {es:List Expr} {t:TA} {id T:String} {r:List V→Hp→VK→Prop}
def tCB (r:List V→Hp→VK→Prop) (t:TA):TE:=fun σ H Q=>t σ H fun vs H1=>r vs H1 Q
theorem z0m (hc:z3e X (.builtin id) r) (hg:Gl X x) (hm:X.mg x=none) (hv:bootBuiltins x=some (.builtin id)) (ha:PA X (e::es) t) (hn:x≠"__name__":=by decide) (hdb:(x == ("__debug__":Str))=false:=by decide)
  (he:starEach (e::es) X.env=(false,eval e X.env)::starEach es X.env:=by rfl) (hpl:(backTo pos (starEach es X.env)).any (·.1)=false:=by rfl):PE X (.Call (.Name x p) (e::es) [] pos) (tCB r t):=by
 intro pins s σ H Q I h
 refine wpAny_Call_Name_kw (z5v I hg hm hv ?_ hn hdb)
 exact PyProof.Rows.callWith_builtin1 (thn (ha pos pins s σ H _ I h) fun us s1 ⟨vs,H1,I1,r1,q1⟩=>hc pins s1 σ H1 vs us Q I1 r1 q1) he hpl
theorem z0q (hc:z3e X (.type T) r) (hg:Gl X x) (hm:X.mg x=none) (hv:bootBuiltins x=some (.type T)) (ha:PA X (e::es) t) (hn:x≠"__name__":=by decide) (hdb:(x == ("__debug__":Str))=false:=by decide)
  (he:starEach (e::es) X.env=(false,eval e X.env)::starEach es X.env:=by rfl) (hpl:(backTo pos (starEach es X.env)).any (·.1)=false:=by rfl):PE X (.Call (.Name x p) (e::es) [] pos) (tCB r t):=by
 intro pins s σ H Q I h
 refine wpAny_Call_Name_kw (z5v I hg hm hv ?_ hn hdb)
 exact PyProof.Rows.callWith_type1 (thn (ha pos pins s σ H _ I h) fun us s1 ⟨vs,H1,I1,r1,q1⟩=>hc pins s1 σ H1 vs us Q I1 r1 q1) he hpl
end
end L2
namespace HT
open PySem PyProof.Rows
section
open PySem.SeqAt
open PySem.AutoSeq1 (wpAny_loadPart')
open PySem.MeetsSeq PySem.MeetsSeq2 PySem.MeetsSeq3
end
section
variable {prog:Program} {w:World} {A:Around} {E:Value→Shared→Prop} {s:Shared}
def sIx (n d:Nat):Option Int→Nat
 | none=>d
 | some v=>if v < 0 then (v+(n:Int)).toNat else min v.toNat n
theorem sIx_nat (n d k:Nat):sIx n d (some (k:Int))=min k n:=by
 show (if (k:Int) < 0 then ((k:Int)+(n:Int)).toNat else min (k:Int).toNat n)=min k n
 rw [if_neg (by lia),Int.toNat_natCast]
end
end HT
namespace L2
open PySem PySem.Spec PyProof.Rows
abbrev TO:=St→Hp→(Option Int→Hp→Prop)→Prop
def PO (X:Cx) (e:Option Expr) (t:TO):Prop :=
 ∀ (pins:List (Addr × Obj)) (s:Shared) (σ:St) (H:Hp) (Q:Option Int→Hp→Prop),Inv X pins σ H s→t σ H Q →
  wpAny (model X.prog X.w) X.A (evalPart e X.env) (fun u s'=>∃ o H',Inv X pins σ H' s'∧IsPart u o∧Q o H') X.xe s
def zfE (t:TE):TO:=fun σ H Q=>t σ H fun x H1=>∃ i,x=.int i∧Q (some i) H1
section
variable {X:Cx} {e:Expr} {te:TE} {lo hi:Option Expr} {tl th:TO} {pos p2:Pos}
theorem zaq (h:PE X e te):PO X (some e) (zfE te):=by
 intro pins s σ H Q I hw
 rw [evalPart_some]
 refine z1B (h pins s σ H _ I hw) fun u s1 x H1 I1 r1 q1=>?_
 obtain ⟨i,rfl,q⟩:=q1
 obtain ⟨t,rfl⟩:=r1
 exact ⟨some i,H1,I1,.int i t,q⟩
def SlR (X:Cx) (r:V→Option Int→Option Int→Hp→VK→Prop):Prop :=
 ∀ (pins:List (Addr × Obj)) (s:Shared) (σ:St) (H:Hp) (x:V) (v vl vu:Value) (lo hi:Option Int) (sl:Addr) (Q:VK),Inv X pins σ H s→z1c x v→s.heap.IsSliceOf sl vl vu .none→IsPart vl lo→IsPart vu hi→r x lo hi H Q →
  ∃ T id,typeLookup (.type T) "__getitem__"=pure (some (.builtin id))∧s.TypeIs v T∧wpAny (model X.prog X.w) X.A (getItem v (.ref sl)) (EP X pins σ Q) X.xe s
def tSl (r:V→Option Int→Option Int→Hp→VK→Prop) (te:TE) (tl th:TO):TE:=fun σ H Q=>te σ H fun x H1=>tl σ H1 fun l H2=>th σ H2 fun u H3=>r x l u H3 Q
theorem zcy {r:V→Option Int→Option Int→Hp→VK→Prop} (hr:SlR X r) (he:PE X e te) (hl:PO X lo tl) (hu:PO X hi th):PE X (.Subscript e (.Slice lo hi none p2) pos) (tSl r te tl th):=by
 intro pins s σ H Q I h
 refine Subscript_ (z1B (he pins s σ H _ I h) fun v s1 x H1 I1 r1 q1=>?_)
 refine wpAny_Slice (thn (hl pins s1 σ H1 _ I1 q1) fun vl s2 ⟨l,H2,I2,pl,q2⟩=>thn (hu pins s2 σ H2 _ I2 q2) fun vu s3 hz8=>?_)
 obtain ⟨u,H3,I3,pu,q3⟩:=hz8
 rw [evalPart_none]
 refine wpAny_pure ?_
 have I4:Inv X pins σ H3 { s3 with heap:=s3.heap.push { cls:=.type "slice",data:=.fields #[vl,vu,.none] } }:=I3.kept (t':=s3.toks) fun b ob q=>Heap.get?_push_of_some _ q
 obtain ⟨T,id,hT,ht,hg⟩:=hr pins { s3 with heap:=s3.heap.push { cls:=.type "slice",data:=.fields #[vl,vu,.none] } } σ H3 x v vl vu l u s3.heap.objs.size Q I4 r1 (Heap.IsSliceOf.new ..) pl pu q3
 show wpAny (model X.prog X.w) X.A (subscriptTail e (.Slice lo hi none p2) v (.ref s3.heap.objs.size)) (EP X pins σ Q) X.xe { s3 with heap:=s3.heap.push { cls:=.type "slice",data:=.fields #[vl,vu,.none] } }
 exact tail_any (ops:=[.ref s3.heap.objs.size,v]) ht hT hg (by with_unfolding_all rfl)
def zed (xs:List V) (lo hi:Option Int):List V:=(xs.drop (HT.sIx xs.length 0 lo)).take (HT.sIx xs.length xs.length hi - HT.sIx xs.length 0 lo)
theorem z7D (xs:List V) (lo hi:Option Int):(zed xs lo hi).length≤xs.length:=by
 unfold zed
 rw [List.length_take,List.length_drop]
 lia
end
end L2
namespace L2
open PySem PySem.Spec PyProof.Rows
def ixN (n:Nat) (i:Int):Option Nat:=if 0≤i then (if i < n then some i.toNat else none) else if -(n:Int)≤i then some (i+n).toNat else none
def atI {α:Type} (xs:List α) (i:Int):Option α:=(ixN xs.length i).bind fun j=>xs[j]?
theorem zb4 {n:Nat} {i:Int} {j:Nat} (h:ixN n i=some j):seqIndex? i n=some j∧j < n∧-(n:Int)≤i∧i < n:=by
 unfold ixN at h
 by_cases h0:0≤i
 ·rw [if_pos h0] at h
  by_cases h1:i < n
  ·rw [if_pos h1] at h
   have e:i.toNat=j:=Option.some.inj h
   exact ⟨by rw [seqIndex_of h0 h1,e],by lia,by lia,h1⟩
  ·rw [if_neg h1] at h;cases h
 ·rw [if_neg h0] at h
  by_cases h1:-(n:Int)≤i
  ·rw [if_pos h1] at h
   have e:(i+n).toNat=j:=Option.some.inj h
   exact ⟨by rw [seqIndex_neg (by lia) h1,e],by lia,h1,by lia⟩
  ·rw [if_neg h1] at h;cases h
theorem z4s {α:Type} {xs:List α} {i:Int} {v:α} (h:atI xs i=some v):∃ j,seqIndex? i xs.length=some j∧xs[j]?=some v∧j < xs.length∧-(xs.length:Int)≤i∧i < xs.length:=by
 unfold atI at h
 cases e:ixN xs.length i with
 | none=>rw [e] at h;cases h
 | some j =>
  rw [e] at h
  obtain ⟨h1,h2,h3,h4⟩:=zb4 e
  exact ⟨j,h1,h,h2,h3,h4⟩
theorem z0y {α:Type} {xs:List α} {j:Nat} {v:α} (h:xs[j]?=some v):atI xs (j:Int)=some v:=by
 have hj:j < xs.length:=(zGs.mp h).1
 have e:ixN xs.length (j:Int)=some j:=by
  unfold ixN
  rw [if_pos (by lia),if_pos (by lia)];simp
 unfold atI;rw [e];exact h
def ze2 (b:Expr):Prop:=∀ o i,subscripted b false o i=operate [o,i] (getItem o i)
def IxR (X:Cx) (r:R2):Prop :=
 ∀ (value slice:Expr) (pins:List (Addr × Obj)) (s:Shared) (σ:St) (H:Hp) (x y:V) (v u:Value) (Q:VK),Inv X pins σ H s→z1c x v→z1c y u→r x y H Q →
  subscripted slice false v u=operate [v,u] (getItem v u)→wpAny (model X.prog X.w) X.A (subscriptTail value slice v u) (EP X pins σ Q) X.xe s
def MtR (X:Cx) (id:String) (r:V→List V→Hp→VK→Prop):Prop :=
 ∀ (pins:List (Addr × Obj)) (s:Shared) (σ:St) (H:Hp) (x:V) (xs:List V) (v:Value) (us:List Value) (Q:VK),Inv X pins σ H s→z1c x v→z0V xs us→r x xs H Q →
  wpAny (model X.prog X.w) X.A (call (.builtin id) (v::us)) (EP X pins σ Q) X.xe s
section
variable {X:Cx} {a b:Expr} {ta tb:TE} {pos:Pos}
theorem z0R {r:R2} (hr:IxR X r) (ha:PE X a ta) (hb:PE X b tb) (hs:ze2 b):PE X (.Subscript a b pos) (tOp r ta tb):=by
 intro pins s σ H Q I h
 exact Subscript_ (zgn ha hb I h fun v u s2 x y H2 I2 rx ry q=>hr a b pins s2 σ H2 x y v u Q I2 rx ry q (hs _ _))
def zgG (K:PySem.W.Frag):R2:=fun x y H Q=>∃ p xs i v,x=.ref p∧y=.int i∧SqL K H p xs∧atI xs i=some v∧Q v H
def zgD (K:PySem.W.Frag):R2:=fun x y H Q=>∃ p xs i v,x=.ref p∧y=.int i∧SqT K H p xs∧atI xs i=some v∧Q v H
theorem z1C:IxR X (zgG X.K):=by
 intro value slice pins s σ H x y v u Q I rx ry h hs
 obtain ⟨p,xs,i,z,rfl,rfl,hq,he,q⟩:=h
 cases rx
 obtain ⟨t,rfl⟩:=ry
 obtain ⟨its,r,pl,hz⟩:=I.list hq
 obtain ⟨j,h1,h2,h3,h4,h5⟩:=z4s he
 obtain ⟨w,ew,rw'⟩:=r.get h2
 have hl:=r.length
 have hn:=z7c
 have fin:EP X pins σ Q w s:=⟨z,H,I,rw',q⟩
 by_cases h0:0≤i
 ·have hj:i.toNat=j:=by
   rw [seqIndex_of h0 h5] at h1
   exact Option.some.inj h1
  exact item_listR pl.isList h0 (by lia) (by rw [hj];simpa using ew) fin hs
 ·have hj:(i+(its.toArray.size:Int)).toNat=j:=by
   rw [seqIndex_neg (by lia) h4] at h1
   rw [List.size_toArray,←hl]
   exact Option.some.inj h1
  exact subscriptTail_builtinR (x:=w) pl.isList.typeIs slot_list_getitem.lookup
   (wpAny_getItem_list_neg (Q:=fun r s'=>r=w∧EP X pins σ Q r s') pl.isList (by lia) (by rw [List.size_toArray]<;>lia) (by lia) (by rw [hj];simpa using ew) ⟨rfl,fin⟩) hs
theorem z1w:IxR X (zgD X.K):=by
 intro value slice pins s σ H x y v u Q I rx ry h hs
 obtain ⟨p,xs,i,z,rfl,rfl,hq,he,q⟩:=h
 cases rx
 obtain ⟨t,rfl⟩:=ry
 obtain ⟨its,r,pl,hz⟩:=I.tuple hq
 obtain ⟨j,h1,h2,h3,h4,h5⟩:=z4s he
 obtain ⟨w,ew,rw'⟩:=r.get h2
 have hl:=r.length
 have hn:=z7c
 have fin:EP X pins σ Q w s:=⟨z,H,I,rw',q⟩
 exact subscriptTail_builtinR (x:=w) pl.typeIs slot_tuple_getitem.lookup
  (getItem_tuple (j:=j) (Q:=fun r s'=>r=w∧EP X pins σ Q r s') pl (by lia) (by lia) (by rw [List.size_toArray,←hl];exact h1) (by simpa using ew) ⟨rfl,fin⟩) hs
theorem z9k (its:List Value) (n j:Nat) (u:Value):Obj.mapSeq (·.setIfInBounds j u) { cls:=.type "list",data:=.seq its.toArray n }={ cls:=.type "list",data:=.seq (its.set j u).toArray n }:=by
 simp [Obj.mapSeq]
theorem Inv.lst {pins:List (Addr × Obj)} {σ:St} {H:Hp} {s:Shared} {p:Addr} {xs:List V} (I:Inv X pins σ H s) (h:H p=some (.lst xs)) :
  ∃ (its:List Value) (n:Nat),z0V xs its∧s.heap.get? p=some { cls:=.type "list",data:=.seq its.toArray n }∧xs.length≤sizeLine:=by
 obtain ⟨z,its,n,r,e⟩:=I.hok p _ h
 exact ⟨its,n,r,e,z⟩
theorem Inv.lstUpd {pins:List (Addr × Obj)} {σ:St} {H:Hp} {s:Shared} {p:Addr} {xs ys:List V} {its its':List Value} {n n':Nat} {f:Obj→Obj} (I:Inv X pins σ H s) (h:H p=some (.lst xs))
  (ho:s.heap.get? p=some { cls:=.type "list",data:=.seq its.toArray n }) (hf:f { cls:=.type "list",data:=.seq its.toArray n }={ cls:=.type "list",data:=.seq its'.toArray n' }) (r:z0V ys its') (hz:ys.length≤sizeLine) (t:Nat) :
  Inv X pins σ (upd H p (.lst ys)) { s with heap:=s.heap.update p f,toks:=t }:=by
 have e:(s.heap.update p f).get? p=some { cls:=.type "list",data:=.seq its'.toArray n' }:=by
  rw [Heap.get?_update_self f ho (by rw [hf]<;>rfl),hf]
 refine I.write (x:=p) (e:=p) (by rw [h];trivial) (.inl rfl) (fun b u hb q=>(Heap.get?_update_other _ _ (Ne.symm hb)).trans q) ⟨_,e⟩ ?_
 exact ⟨hz,its',n',r,e⟩
def zfT:V→V→V→Hp→(Hp→Prop)→Prop:=fun o i v H Q=>∃ p xs k j,o=.ref p∧i=.int k∧H p=some (.lst xs)∧ixN xs.length k=some j∧Q (upd H p (.lst (xs.set j v)))
theorem zbu:zgN X zfT:=by
 intro pins s σ H o i v ov iv u Q I ro ri rv h
 obtain ⟨p,xs,k,j,rfl,rfl,hp,hj,q⟩:=h
 cases ro
 obtain ⟨t,rfl⟩:=ri
 obtain ⟨its,n,r,ho,hz⟩:=I.lst hp
 obtain ⟨h1,h2,h3,h4⟩:=zb4 hj
 have hl:=r.length
 have hn:=z7c
 have I':Inv X pins σ (upd H p (.lst (xs.set j v))) { s with heap:=s.heap.update p (Obj.mapSeq (·.setIfInBounds j u)) } :=
  I.lstUpd hp ho (z9k its n j u) (r.set rv j) (by rw [List.length_set];exact hz) s.toks
 by_cases h0:0≤k
 ·have hk:k.toNat=j:=by
   rw [seqIndex_of h0 h4] at h1
   exact Option.some.inj h1
  exact PySem.W.ki_setAt ho h0 (by lia) (by rw [List.size_toArray,←hl];exact h4) (by rw [hk];exact ⟨_,I',q⟩)
 ·have hk:(k+(its.toArray.size:Int)).toNat=j:=by
   rw [seqIndex_neg (by lia) h3] at h1
   rw [List.size_toArray,←hl]
   exact Option.some.inj h1
  exact PySem.W.ki_setBack ho (by lia) (by rw [List.size_toArray,←hl];exact h3) (by lia) (by rw [hk];exact ⟨_,I',q⟩)
theorem z7f (lo hi:Option Int) (n:Nat):(sliceBounds lo hi none n).1=((HT.sIx n 0 lo:Nat):Int)∧(sliceBounds lo hi none n).2.1=((HT.sIx n n hi:Nat):Int)∧(sliceBounds lo hi none n).2.2=1:=by
 refine ⟨?_,?_,rfl⟩
 ·cases lo with
  | none=>simp [sliceBounds,HT.sIx]
  | some i =>
   simp only [sliceBounds,HT.sIx,Option.getD_none,show (1:Int) > 0 by decide,if_true]
   by_cases h:i < 0
   ·simp only [h,if_true]<;>lia
   ·simp only [h,if_false]<;>lia
 ·cases hi with
  | none=>simp [sliceBounds,HT.sIx]
  | some i =>
   simp only [sliceBounds,HT.sIx,Option.getD_none,show (1:Int) > 0 by decide,if_true]
   by_cases h:i < 0
   ·simp only [h,if_true]<;>lia
   ·simp only [h,if_false]<;>lia
theorem z6v (its:List Value) (lo hi:Option Int):slicePick its.toArray lo hi none=((its.drop (HT.sIx its.length 0 lo)).take (HT.sIx its.length its.length hi - HT.sIx its.length 0 lo)).toArray:=by
 obtain ⟨h1,h2,h3⟩:=z7f lo hi its.toArray.size
 unfold slicePick
 rw [h1,h2,h3]
 simp only [sliceRange_one,pick_run,List.size_toArray]<;>rfl
def zht (K:PySem.W.Frag):V→Option Int→Option Int→Hp→VK→Prop:=fun x lo hi H Q=>∃ a xs,x=.ref a∧SqL K H a xs∧∀ p,H p=none→Q (.ref p) (upd H p (.lst (zed xs lo hi)))
theorem zdr:SlR X (zht X.K):=by
 intro pins s σ H x v vl vu lo hi sl Q I rx hs pl pu h
 obtain ⟨a,xs,rfl,hx,q⟩:=h
 cases rx
 obtain ⟨its,r,ht,hz⟩:=I.list hx
 have hlen:=r.length
 refine ⟨"list",_,slot_list_getitem.lookup,ht.isList.typeIs,?_⟩
 refine wpAny_getItem_list_slice ht.isList hs pl pu .none (by simp) ?_ (by rw [List.size_toArray]<;>lia)
 rw [z6v,←hlen]
 refine ⟨.ref s.heap.objs.size,_,I.laid (t':=s.toks) (o:=.lst (zed xs lo hi)) (fun b ob q=>Heap.get?_push_of_some _ q) (Nat.le_refl _) ?_,rfl,q _ (I.hok.fresh (Nat.le_refl _))⟩
 exact ⟨Nat.le_trans (z7D xs lo hi) hz,_,0,(r.drop (HT.sIx xs.length 0 lo)).take (HT.sIx xs.length xs.length hi - HT.sIx xs.length 0 lo),Heap.get?_push_size _ rfl⟩
theorem z0g:z3e X (.builtin "len") (fun xs H Q=>∃ p ys,xs=[.ref p]∧(SqL X.K H p ys∨SqT X.K H p ys)∧Q (.int ys.length) H):=by
 intro pins s σ H xs us Q I r h
 obtain ⟨p,ys,rfl,hq,q⟩:=h
 obtain ⟨u,rfl,rx⟩:=z5l r
 cases rx
 have hn:=z7c
 rcases hq with hq | hq
 ·obtain ⟨its,r',pl,hz⟩:=I.list hq
  have hlen:=r'.length
  exact Calls.call_len_list pl.isList (by simp only [List.size_toArray]<;>lia) ⟨.int ys.length,H,I.tok _,⟨s.toks+1,by rw [List.size_toArray,hlen]⟩,q⟩
 ·obtain ⟨its,r',pl,hz⟩:=I.tuple hq
  have hlen:=r'.length
  exact len_tuple pl (by simp only [List.size_toArray]<;>lia) ⟨.int ys.length,H,I.tok _,⟨s.toks+1,by rw [List.size_toArray,hlen]⟩,q⟩
theorem z0n:z3e X (.type "tuple") (fun xs H Q=>∃ p ys,xs=[.ref p]∧((SqL X.K H p ys∧∀ l,H l=none→Q (.ref l) (upd H l (.tup ys)))∨(SqT X.K H p ys∧Q (.ref p) H))):=by
 intro pins s σ H xs us Q I r h
 obtain ⟨p,ys,rfl,h⟩:=h
 obtain ⟨u,rfl,rx⟩:=z5l r
 cases rx
 rcases h with ⟨hq,q⟩ | ⟨hq,q⟩
 ·obtain ⟨its,r',pl,hz⟩:=I.list hq
  have hlen:=r'.length
  refine call_tuple_list pl.isList (fun h' kp=>?_) (by simp only [List.size_toArray]<;>lia)
  have I1:Inv X pins σ H { s with heap:=h' }:=I.kept (t':=s.toks) kp
  have I2:Inv X pins σ (upd H h'.objs.size (.tup ys)) { s with heap:=h'.push { cls:=.type "tuple",data:=.seq its.toArray } } :=
   I1.laid (t':=s.toks) (fun b o e=>Heap.get?_push_of_some _ e) (Nat.le_refl _) (show z1J X.prog X.w _ _ _ (.tup ys) from ⟨hz,its,0,r',Heap.get?_push_size _ rfl⟩)
  exact ⟨.ref h'.objs.size,_,I2,rfl,q _ (I1.hok.fresh (Nat.le_refl _))⟩
 ·obtain ⟨its,r',pl,hz⟩:=I.tuple hq
  exact call_tuple_same pl ⟨.ref p,H,I,rfl,q⟩
def tyV (K:PySem.W.Frag) (T:String) (x:V) (H:Hp):Prop:=match x with
 | .str _=>T="str"
 | .int _=>T="int"
 | .ref p=>(T="list"∧∃ xs,SqL K H p xs)∨(T="tuple"∧((∃ o,K.lookup p=some o∧o.cls=.type "tuple"∧o.dict=none)∨∃ xs,H p=some (.tup xs))) ∨
   (T="dict"∧((∃ kvs,H p=some (.dK kvs))∨∃ kvs,H p=some (.dT kvs)))∨(T="set"∧∃ S n,H p=some (.set S n))
 | _=>False
theorem zeA {pins:List (Addr × Obj)} {σ:St} {H:Hp} {s:Shared} {T:String} {x:V} {v:Value} (I:Inv X pins σ H s) (r:z1c x v) (ty:tyV X.K T x H) :
  s.TypeIs v T∧∀ a,v=.ref a→∃ ob,s.heap.get? a=some ob∧ob.dict=none:=by
 cases x with
 | str z =>
  obtain ⟨t,rfl⟩:=r
  cases (show T="str" from ty)
  exact ⟨typeIs_str s z t,fun _ e=>nomatch e⟩
 | int i =>
  obtain ⟨t,rfl⟩:=r
  cases (show T="int" from ty)
  exact ⟨typeIs_int s i t,fun _ e=>nomatch e⟩
 | ref p =>
  cases r
  rcases ty with ⟨rfl,xs,hq⟩ | ⟨rfl,⟨o,hk,hc,hd⟩ | ⟨xs,hq⟩⟩ | ⟨rfl,hk⟩ | ⟨rfl,S,n,hk⟩
  ·obtain ⟨its,_,pl,_⟩:=I.list hq
   refine ⟨pl.isList.typeIs,fun a e=>?_⟩
   cases e
   obtain ⟨o,n,e,c,hd,_⟩:=pl
   exact ⟨o,e,hd⟩
  ·refine ⟨⟨o,I.kIn p o hk,hc⟩,fun a e=>?_⟩
   cases e
   exact ⟨o,I.kIn _ o hk,hd⟩
  ·obtain ⟨_,its,n,_,h1⟩:=(show z1J X.prog X.w H s.heap p (.tup xs) from I.hok p _ hq)
   refine ⟨⟨_,h1,rfl⟩,fun a e=>?_⟩
   cases e
   exact ⟨_,h1,rfl⟩
  ·have z:∃ o,s.heap.get? p=some o∧o.ExactDict:=by
    rcases hk with ⟨kvs,hk⟩ | ⟨kvs,hk⟩
    ·obtain ⟨_,_,_,_,o,_,_,e,ex,_⟩:=I.hok p _ hk
     exact ⟨o,e,ex⟩
    ·obtain ⟨_,_,_,_,o,_,_,e,ex,_⟩:=I.hok p _ hk
     exact ⟨o,e,ex⟩
   obtain ⟨o,e,ex⟩:=z
   refine ⟨⟨o,e,ex.1⟩,fun a e2=>?_⟩
   cases e2
   exact ⟨o,e,ex.2.1⟩
  ·obtain ⟨o,_,_,_,e,ex,_⟩:=I.hok p _ hk
   refine ⟨⟨o,e,ex.1⟩,fun a e2=>?_⟩
   cases e2
   exact ⟨o,e,ex.2.1⟩
 | _=>exact False.elim ty
def tBM (K:PySem.W.Frag) (T:String) (r:V→List V→Hp→VK→Prop) (to:TE) (t:TA):TE:=fun σ H Q=>to σ H fun x H1=>tyV K T x H1∧t σ H1 fun xs H2=>r x xs H2 Q
variable {o e:Expr} {es:List Expr} {to:TE} {t:TA} {name:Str} {apos cpos:Pos} {T id:String} {r:V→List V→Hp→VK→Prop}
theorem z2X (pa:PlainAttrs T) (slot:Slot T name id) (hty:typeOf (.builtin id)=pure (.type "method_descriptor")) (hm:MtR X id r) (ho:PE X o to) (ha:PA X (e::es) t)
  (hbase:attributeBase o name X.env (eval o X.env)=eval o X.env:=by rfl)
  (hfew:((backTo cpos (starEach (e::es) X.env)).all (fun x=>!x.1) && (backToKw cpos (keywordEach [] X.env)).all (fun x=>x.1.isSome)
   && decide ((e::es).length+([]:List Keyword).length+(if ([]:List Keyword).isEmpty then 0 else 1) < 30))=true:=by rfl)
  (hline:(apos.endLine == cpos.line)=true:=by rfl) (hs:starEach (e::es) X.env=(false,eval e X.env)::starEach es X.env:=by rfl) (hplain:(backTo cpos (starEach es X.env)).any (·.1)=false:=by rfl) :
  PE X (.Call (.Attribute o name apos) (e::es) [] cpos) (tBM X.K T r to t):=by
 intro pins s σ H Q I h
 refine wpAny_Call_method_late hbase hfew hline rfl (z1B (ho pins s σ H _ I h) fun v s1 x H1 I1 r1 hz9=>?_)
 obtain ⟨ty,q1⟩:=hz9
 obtain ⟨h1,h2⟩:=zeA I1 r1 ty
 refine ⟨T,id,pa,slot,hty,h1,h2,?_⟩
 have hA:=ha cpos pins s1 σ H1 _ I1 q1
 rw [hs] at hA ⊢
 refine Calls.callWith_builtin (by show (false || (backTo cpos (starEach es X.env)).any (·.1))=false;rw [hplain]<;>rfl) (Calls.evalArgs_plain ?_)
 exact thn hA fun us s2 ⟨vs,H2,I2,r2,q2⟩=>hm pins s2 σ H2 x vs v us Q I2 r1 r2 q2
end
end L2
namespace L2
open PySem PySem.Spec PyProof.Rows
def MtM (X:Cx) (id:String) (r:V→List V→Hp→VK→Prop):Prop :=
 ∀ (pins:List (Addr × Obj)) (s:Shared) (σ:St) (H:Hp) (x:V) (xs:List V) (v:Value) (us:List Value) (Q:VK),Inv X pins σ H s→z1c x v→z0V xs us→r x xs H Q →
  wpAny (model X.prog X.w) X.A (call (.builtin id) (v::us)) (EP X pins σ Q) X.xe s
theorem z0V.one:∀ {x:V} {us:List Value},z0V [x] us→∃ u,us=[u]∧z1c x u
 | _,_,.cons r .nil=>⟨_,rfl,r⟩
theorem z0V.eraseIdx:∀ {xs:List V} {us:List Value} (i:Nat),z0V xs us→z0V (xs.eraseIdx i) (us.eraseIdx i)
 | _,_,_,.nil=>.nil
 | _,_,0,.cons _ t=>t
 | _,_,i+1,.cons r t=>.cons r (z0V.eraseIdx i t)
theorem z0V.reverse {xs:List V} {us:List Value} (h:z0V xs us):z0V xs.reverse us.reverse:=by
 induction h with
 | nil=>exact .nil
 | cons r t ih=>rw [List.reverse_cons,List.reverse_cons];exact z0V.append ih (.cons r .nil)
theorem z0V.rep {xs:List V} {us:List Value} (h:z0V xs us):∀ k:Nat,z0V (List.replicate k xs).flatten (List.replicate k us).flatten
 | 0=>.nil
 | k+1=>by
  rw [List.replicate_succ,List.replicate_succ,List.flatten_cons,List.flatten_cons]
  exact z0V.append h (z0V.rep h k)
theorem z72 {α:Type}:∀ (l:List α) (i:Nat),(l.eraseIdx i).length≤l.length
 | [],_=>Nat.le_refl _
 | _::_,0=>Nat.le_succ _
 | _::r,i+1=>Nat.succ_le_succ (z72 r i)
theorem z7b (its:List Value):∀ (k:Nat) (acc:List Value),
  List.foldl (fun x1 x2=>x1++x2) acc.toArray (List.replicate k its.toArray)=(acc++(List.replicate k its).flatten).toArray
 | 0,acc=>by simp
 | k+1,acc=>by
  have e:acc.toArray++its.toArray=(acc++its).toArray:=by simp
  have e2:(acc++its)++(List.replicate k its).flatten=acc++(List.replicate (k+1) its).flatten:=by
   rw [List.replicate_succ,List.flatten_cons,List.append_assoc]
  rw [←e2,←z7b its k (acc++its),←e,List.replicate_succ,List.foldl_cons]
section
variable {X:Cx} {pins:List (Addr × Obj)} {σ:St} {H:Hp} {s:Shared} {l b:Addr} {xs ys zs:List V}
theorem Inv.lset {its its':List Value} {n:Nat} {f:Array Value→Array Value} {t':Nat} (I:Inv X pins σ H s) (hH:H l=some (.lst xs))
  (e:s.heap.get? l=some { cls:=.type "list",data:=.seq its.toArray n }) (hf:f its.toArray=its'.toArray) (hv:z0V ys its') (hz:ys.length≤sizeLine) :
  Inv X pins σ (upd H l (.lst ys)) { s with heap:=s.heap.update l (Obj.mapSeq f),toks:=t' }:=by
 have q:=PySem.IsL.update e f
 rw [hf] at q
 refine I.write (x:=l) (e:=l) (by rw [hH];exact trivial) (.inl rfl) (fun b' u hb hu=>(Heap.get?_update_other s.heap (Obj.mapSeq f) (Ne.symm hb)).trans hu) ⟨_,q⟩ ?_
 exact ⟨hz,its',_,hv,q⟩
theorem Inv.lnew {its:List Value} {t':Nat} (I:Inv X pins σ H s) (hv:z0V ys its) (hz:ys.length≤sizeLine) :
  Inv X pins σ (upd H s.heap.objs.size (.lst ys)) { s with heap:=s.heap.push { cls:=.type "list",data:=.seq its.toArray },toks:=t' } :=
 I.laid (fun _ _ q=>Heap.get?_push_of_some _ q) (Nat.le_refl _) ⟨hz,its,0,hv,Heap.get?_push_size _ rfl⟩
theorem Inv.fresh (I:Inv X pins σ H s):H s.heap.objs.size=none:=I.hok.fresh (Nat.le_refl _)
theorem Inv.lstM (I:Inv X pins σ H s) (hH:H l=some (.lst xs)):xs.length≤sizeLine∧∃ (its:List Value) (n:Nat),z0V xs its∧xs.length=its.length∧s.heap.get? l=some { cls:=.type "list",data:=.seq its.toArray n }:=by
 obtain ⟨z,its,n,r,e⟩:=I.hok l _ hH
 exact ⟨z,its,n,r,r.length,e⟩
theorem z8s {n:Nat} (h:n≤sizeLine):Builtin.List.listTooLong n=false:=by
 unfold Builtin.List.listTooLong
 exact decide_eq_false (by lia)
end
section
variable {X:Cx}
def zd9:V→List V→Hp→VK→Prop:=fun x vs H Q=>∃ l xs y,x=.ref l∧vs=[y]∧H l=some (.lst xs)∧xs.length < sizeLine∧Q .non (upd H l (.lst (xs++[y])))
theorem z0J:MtM X "list.append" zd9:=by
 intro pins s σ H x vs v us Q I rx rv h
 obtain ⟨l,xs,y,rfl,rfl,hH,hz,q⟩:=h
 cases rx
 obtain ⟨u,rfl,ru⟩:=rv.one
 obtain ⟨z,its,n,r,hl,e⟩:=I.lstM hH
 refine call_meets F.slot_list_append ⟨_,e,rfl⟩ F.entry_list_append (F.args_list_append_2 _ _) (PySem.list_append l its.toArray n u (by rw [List.size_toArray];lia)) ⟨e,?_⟩
 refine ⟨.non,_,I.lset (its':=its++[u]) hH e (by simp) (r.append (.cons ru .nil)) ?_,rfl,q⟩
 rw [List.length_append,List.length_singleton]
 lia
def zdn:V→List V→Hp→VK→Prop:=fun x vs H Q=>∃ l b xs zs,x=.ref l∧vs=[.ref b]∧H l=some (.lst xs)∧H b=some (.lst zs)∧xs.length+zs.length≤sizeLine∧Q .non (upd H l (.lst (xs++zs)))
theorem zag:MtM X "list.extend" zdn:=by
 intro pins s σ H x vs v us Q I rx rv h
 obtain ⟨l,b,xs,zs,rfl,rfl,hH,hB,hz,q⟩:=h
 cases rx
 obtain ⟨u,rfl,ru⟩:=rv.one
 cases ru
 obtain ⟨z,its,n,r,hl,e⟩:=I.lstM hH
 obtain ⟨z2,its2,n2,r2,hl2,e2⟩:=I.lstM hB
 have hsz:its.toArray.size+its2.toArray.size≤sizeLine:=by rw [List.size_toArray,List.size_toArray];lia
 have hlong:¬ (!its.toArray.isEmpty && Builtin.List.listTooLong (its.toArray.size+its2.toArray.size))=true:=by
  rw [z8s hsz,Bool.and_false]
  exact Bool.false_ne_true
 refine call_meets F.slot_list_extend ⟨_,e,rfl⟩ F.entry_list_extend (F.args_list_extend_2 _ _)
  (AutoSeq1.list_extend_list_list_0 l its.toArray n b its2.toArray n2 hlong (by rw [List.size_toArray];lia) (by lia)) ⟨e,e2,?_⟩
 refine ⟨.non,_,I.lset (its':=its++its2) hH e (by simp) (r.append r2) ?_,rfl,q⟩
 rw [List.length_append]
 lia
def zey:V→List V→Hp→VK→Prop:=fun x vs H Q=>∃ l xs i k y,x=.ref l∧vs=[.int i]∧H l=some (.lst xs)∧-(2 ^ 63)≤i∧i < 2 ^ 63∧seqIndex? i xs.length=some k∧xs[k]?=some y∧Q y (upd H l (.lst (xs.eraseIdx k)))
theorem zc9:MtM X "list.pop" zey:=by
 intro pins s σ H x vs v us Q I rx rv h
 obtain ⟨l,xs,i,k,y,rfl,rfl,hH,h1,h2,hk,hy,q⟩:=h
 cases rx
 obtain ⟨u,rfl,ru⟩:=rv.one
 obtain ⟨t,rfl⟩:=ru
 obtain ⟨z,its,n,r,hl,e⟩:=I.lstM hH
 obtain ⟨w,hw,rw'⟩:=r.get hy
 refine call_meets F.slot_list_pop ⟨_,e,rfl⟩ F.entry_list_pop (F.args_list_pop_2 _ _)
  (MeetsSeq.list_pop_at l its.toArray n i t k w (fitsIndex_both h1 h2) (by rw [List.size_toArray,←hl];exact hk) (by rw [←Array.getElem?_toList];exact hw) (by rw [List.size_toArray];lia)) ⟨e,?_⟩
 refine ⟨y,_,I.lset (its':=its.eraseIdx k) hH e ?_ (r.eraseIdx k) ?_,rw',q⟩
 ·show its.toArray.eraseIdxIfInBounds k=(its.eraseIdx k).toArray
  rw [List.eraseIdxIfInBounds_toArray]
 ·have:=z72 xs k
  lia
def zh3:R2:=fun x y H Q=>∃ l b xs zs,x=.ref l∧y=.ref b∧H l=some (.lst xs)∧H b=some (.lst zs)∧xs.length+zs.length≤sizeLine∧∀ p,H p=none→Q (.ref p) (upd H p (.lst (xs++zs)))
theorem zeU:OpR X (binaryOp .Add) zh3:=by
 intro pins s σ H x y v u Q I rx ry h
 obtain ⟨l,b,xs,zs,rfl,rfl,hH,hB,hz,q⟩:=h
 cases rx
 cases ry
 obtain ⟨z,its,n,r,hl,e⟩:=I.lstM hH
 obtain ⟨z2,its2,n2,r2,hl2,e2⟩:=I.lstM hB
 refine PySem.P.add_list e e2 ?_ (by rw [List.size_toArray,List.size_toArray];lia)
 have ea:its.toArray++its2.toArray=(its++its2).toArray:=by simp
 rw [ea]
 exact ⟨.ref _,_,I.lnew (t':=s.toks) (r.append r2) (by rw [List.length_append];lia),rfl,q _ I.fresh⟩
def zhj:R2:=fun x y H Q=>∃ l k xs,x=.ref l∧y=.int k∧H l=some (.lst xs)∧-(2 ^ 63)≤k∧k < 2 ^ 63∧xs.length*k.toNat≤sizeLine ∧
 ∀ p,H p=none→Q (.ref p) (upd H p (.lst (List.replicate k.toNat xs).flatten))
theorem zdF {α:Type} (xs:List α) (k:Nat):(List.replicate k xs).flatten.length=k*xs.length:=by
 induction k with
 | zero=>simp
 | succ k ih=>rw [List.replicate_succ,List.flatten_cons,List.length_append,ih,Nat.succ_mul,Nat.add_comm]
theorem zcC:OpR X (binaryOp .Mult) zhj:=by
 intro pins s σ H x y v u Q I rx ry h
 obtain ⟨l,k,xs,rfl,rfl,hH,h1,h2,hz,q⟩:=h
 cases rx
 obtain ⟨t,rfl⟩:=ry
 obtain ⟨z,its,n,r,hl,e⟩:=I.lstM hH
 have hlen:its.toArray.size*k.toNat≤sizeLine:=by rw [List.size_toArray,←hl];exact hz
 have hcap:¬ its.toArray.size*k.toNat > (2 ^ 63 - 1) / 8:=by
  have:(sizeLine:Nat)≤(2 ^ 63 - 1) / 8:=by decide
  lia
 have hfit:¬ (!Builtin.List.listFitsIndex k)=true:=by
  rw [fitsIndex_both h1 h2]
  exact Bool.false_ne_true
 have hlong:¬ Builtin.List.listTooLong (its.toArray.size*k.toNat)=true:=by
  rw [z8s hlen]
  exact Bool.false_ne_true
 have hnew:List.foldl (fun x1 x2=>x1++x2) #[] (List.replicate (if its.toArray.isEmpty=true then 0 else k.toNat) its.toArray)=(List.replicate k.toNat its).flatten.toArray:=by
  have f0:∀ m:Nat,List.foldl (fun x1 x2=>x1++x2) #[] (List.replicate m its.toArray)=(List.replicate m its).flatten.toArray:=fun m=>by
   have:=z7b its m []
   rw [List.nil_append] at this
   exact this
  rw [f0]
  cases its with
  | nil=>simp
  | cons a r'=>rw [if_neg (by simp)]
 refine wpAny_binaryOp_repeat_ref (T:="list") (U:="int") (by decide) ⟨_,e,rfl⟩ (fun s'=>typeIs_int s' k t) noFill_list_mul F.fills_int_mul F.slot_int_rmul repeat_list F.slot_int_index.lookup
  (call_meets F.slot_int_rmul (typeIs_int s k t) F.entry_int_rmul (F.args_int_rmul_2 _ _) (int___rmul___int_list k t l its.toArray n)
   ⟨e,rfl,⟨_,e,rfl⟩,call_meets F.slot_list_mul ⟨_,e,rfl⟩ F.entry_list_mul (F.args_list_mul_2 _ _) (AutoListH.list___mul___list_int_3 l its.toArray n k t hfit hcap hlong) ⟨e,?_⟩⟩)
 rw [hnew]
 exact ⟨.ref _,_,I.lnew (t':=s.toks) (r.rep k.toNat) (by rw [zdF,Nat.mul_comm];exact hz),rfl,q _ I.fresh⟩
end
section
variable {prog:Program} {w:World} {A:Around} {E:Value→Shared→Prop} {s:Shared}
end
section
variable {X:Cx}
end
end L2
namespace L2
open PySem PySem.Spec PyProof.Rows
section
variable {κ:Type} [DecidableEq κ]
def z3d (kvs:List (κ × V)) (k:κ):Option V:=(kvs.find? fun kv=>decide (kv.1=k)).map (·.2)
def z2Z (kvs:List (κ × V)) (k:κ) (v:V):List (κ × V) :=
 if (kvs.any fun kv=>decide (kv.1=k))=true then kvs.map (fun kv=>if kv.1=k then (kv.1,v) else kv) else kvs++[(k,v)]
theorem z2V {p:κ × V} {r:List (κ × V)} {k:κ} (e:p.1=k):z3d (p::r) k=some p.2:=by simp [z3d,List.find?_cons,e]
theorem z2q {p:κ × V} {r:List (κ × V)} {k:κ} (e:¬ p.1=k):z3d (p::r) k=z3d r k:=by simp [z3d,List.find?_cons,e]
theorem z3q (k:κ):∀ kvs:List (κ × V),(kvs.any fun kv=>decide (kv.1=k))=(z3d kvs k).isSome
 | []=>rfl
 | p::r=>by
  rw [List.any_cons]
  by_cases e:p.1=k
  ·simp only [z2V e,decide_eq_true e,Bool.true_or,Option.isSome_some]
  ·rw [z2q e,decide_eq_false e,Bool.false_or];exact z3q k r
theorem z1O (kvs:List (κ × V)) (k:κ) (v:V):(z2Z kvs k v).length≤kvs.length+1:=by
 unfold z2Z
 split
 ·rw [zLm];lia
 ·rw [List.length_append,List.length_cons,List.length_nil];lia
theorem z8G {kvs:List (κ × V)} {k:κ} (v:V) (h:z3d kvs k=none):z2Z kvs k v=kvs++[(k,v)]:=by
 unfold z2Z
 rw [z3q,h]
 exact if_neg (by decide)
theorem z97.isSome_eq {o:Option V} {u:Option Value} (r:z97 o u):o.isSome=u.isSome:=by
 cases o with
 | none=>cases u with
  | none=>rfl
  | some _=>exact (show False from r).elim
 | some _=>cases u with
  | none=>exact (show False from r).elim
  | some _=>rfl
theorem z97.getD {o:Option V} {u:Option Value} {d:V} {d':Value} (r:z97 o u) (rd:z1c d d'):z1c (o.getD d) (u.getD d'):=by
 cases o with
 | none=>cases u with
  | none=>exact rd
  | some _=>exact (show False from r).elim
 | some _=>cases u with
  | none=>exact (show False from r).elim
  | some _=>exact r
theorem KV.val {kvs:List (κ × V)} {vs:List (κ × Value)} (r:KV kvs vs) (k:κ):z97 (z3d kvs k) (valueAt vs k):=by
 unfold KV at r
 induction r with
 | nil=>exact True.intro
 | @cons p q ps qs h t ih =>
  obtain ⟨h1,h2⟩:=h
  by_cases e:p.1=k
  ·have e':q.1=k:=h1.symm.trans e
   have b:valueAt (q::qs) k=some q.2:=by simp [valueAt,List.find?_cons,e']
   rw [z2V e,b];exact h2
  ·have e':¬ q.1=k:=fun z=>e (h1.trans z)
   have b:valueAt (q::qs) k=valueAt qs k:=by simp [valueAt,List.find?_cons,e']
   rw [z2q e,b];exact ih
theorem KV.any {kvs:List (κ × V)} {vs:List (κ × Value)} (r:KV kvs vs) (k:κ):(kvs.any fun kv=>decide (kv.1=k))=vs.any fun kv=>decide (kv.1=k):=by
 unfold KV at r
 induction r with
 | nil=>rfl
 | cons h t ih=>rw [List.any_cons,List.any_cons,ih,h.1]
theorem KV.repl {kvs:List (κ × V)} {vs:List (κ × Value)} (r:KV kvs vs) (k:κ) {y:V} {u:Value} (ry:z1c y u) :
  KV (kvs.map fun kv=>if kv.1=k then (kv.1,y) else kv) (vs.map fun kv=>if kv.1=k then (kv.1,u) else kv):=by
 unfold KV at r ⊢
 induction r with
 | nil=>exact .nil
 | @cons p q ps qs h t ih =>
  rw [List.map_cons,List.map_cons]
  refine .cons ?_ ih
  obtain ⟨h1,h2⟩:=h
  by_cases e:p.1=k
  ·rw [if_pos e,if_pos (h1.symm.trans e)];exact ⟨h1,ry⟩
  ·rw [if_neg e,if_neg (fun z=>e (h1.trans z))];exact ⟨h1,h2⟩
theorem KV.put {kvs:List (κ × V)} {vs:List (κ × Value)} (r:KV kvs vs) (k:κ) {y:V} {u:Value} (ry:z1c y u):KV (z2Z kvs k y) (stored vs k u):=by
 unfold z2Z stored
 rw [r.any k]
 by_cases e:(vs.any fun kv=>decide (kv.1=k))=true
 ·rw [if_pos e,if_pos e];exact r.repl k ry
 ·rw [if_neg e,if_neg e];exact Paired.snoc r ⟨rfl,ry⟩
theorem KV.length {kvs:List (κ × V)} {vs:List (κ × Value)} (r:KV kvs vs):kvs.length=vs.length:=Paired.length r
end
theorem zao {P:Program} {w:World} {k:Key} {u:Value} (r:z1c (kV k) u):(z1k P w).is k u=true:=by
 cases k with
 | inl i=>obtain ⟨t,e⟩:=(show ∃ t,u=Value.int i t from r);subst e;exact z7p P w i t
 | inr x=>obtain ⟨t,e⟩:=(show ∃ t,u=Value.str x t from r);subst e;exact z7U P w x t
theorem z6R {P:Program} {w:World}:∀ {ks:List Key} {us:List Value},z0V (ks.map kV) us→ItemsAre (z1k P w) ks us
 | [],_,r=>by rw [List.map_nil] at r;cases r;exact .nil
 | k::ks,_,r=>by
  rw [List.map_cons] at r
  cases r with
  | cons h t=>exact .cons (zao h) (z6R t)
abbrev KT (H:Hp):List (List Key × V)→List (List Key × Addr × Value)→Prop:=Paired fun p q=>p.1=q.1∧H q.2.1=some (.tup (p.1.map kV))∧z1c p.2 q.2.2
theorem KT.val {H:Hp} {kvs:List (List Key × V)} {xs:List (List Key × Addr × Value)} (r:KT H kvs xs) (k:List Key):z97 (z3d kvs k) ((atKey xs k).map (·.2)):=by
 induction r with
 | nil=>exact True.intro
 | @cons p q ps qs h t ih =>
  obtain ⟨h1,_,h2⟩:=h
  by_cases e:p.1=k
  ·have e':q.1=k:=h1.symm.trans e
   have b:atKey (q::qs) k=some q.2:=by simp [atKey,List.find?_cons,e']
   rw [z2V e,b];exact h2
  ·have e':¬ q.1=k:=fun z=>e (h1.trans z)
   have b:atKey (q::qs) k=atKey qs k:=by simp [atKey,List.find?_cons,e']
   rw [z2q e,b];exact ih
theorem KT.repl {H:Hp} {kvs:List (List Key × V)} {xs:List (List Key × Addr × Value)} (r:KT H kvs xs) (k:List Key) {y:V} {u:Value} (ry:z1c y u) :
  KT H (kvs.map fun kv=>if kv.1=k then (kv.1,y) else kv) (xs.map (putAt k u)):=by
 induction r with
 | nil=>exact .nil
 | @cons p q ps qs h t ih =>
  rw [List.map_cons,List.map_cons]
  refine .cons ?_ ih
  obtain ⟨h1,h2,h3⟩:=h
  unfold putAt
  by_cases e:p.1=k
  ·rw [if_pos e,if_pos (h1.symm.trans e)];exact ⟨h1,h2,ry⟩
  ·rw [if_neg e,if_neg (fun z=>e (h1.trans z))];exact ⟨h1,h2,h3⟩
theorem KT.put {H:Hp} {kvs:List (List Key × V)} {xs:List (List Key × Addr × Value)} (r:KT H kvs xs) (k:List Key) {b:Addr} {y:V} {u:Value} (hb:H b=some (.tup (k.map kV))) (ry:z1c y u) :
  KT H (z2Z kvs k y) (storedH xs k b u):=by
 have e:(kvs.any fun kv=>decide (kv.1=k))=(atKey xs k).isSome:=by
  rw [z3q,(r.val k).isSome_eq,Option.isSome_map]
 unfold z2Z storedH
 rw [e]
 by_cases q:(atKey xs k).isSome=true
 ·rw [if_pos q,if_pos q];exact r.repl k ry
 ·rw [if_neg q,if_neg q];exact Paired.snoc r ⟨rfl,hb,ry⟩
theorem KT.keeps {H H':Hp} {kvs:List (List Key × V)} {xs:List (List Key × Addr × Value)} (r:KT H kvs xs) (ht:∀ b ys,H b=some (.tup ys)→H' b=some (.tup ys)):KT H' kvs xs :=
 Paired.mapP r fun _ _ z=>⟨z.1,ht _ _ z.2.1,z.2.2⟩
section
variable {P:Program} {w:World} {H:Hp} {h:Heap} {a:Addr}
theorem zf7 {u:HO} (ok:HOk P w H h) (e:Rd H a u):z1J P w H h a u:=e.ok ok
theorem zch {kvs:List (Key × V)} (ok:HOk P w H h) (e:Rd H a (.dK kvs)):kvs.length≤sizeLine∧(a == sysModules)=false∧∃ vs,KV kvs vs∧h.DictOf (z1k P w) a vs :=
 show z1J P w H h a (.dK kvs) from zf7 ok e
theorem zej {kvs:List (Key × V)} (ok:HOk P w H h) (e:H a=some (.dK kvs)):kvs.length≤sizeLine∧(a == sysModules)=false∧∃ vs,KV kvs vs∧h.DictOf (z1k P w) a vs:=zch ok (.inl e)
theorem z8j {ks:List Key} (ok:HOk P w H h) (e:H a=some (.tup (ks.map kV))):(tupleKind (z1k P w)).is h ks a:=by
 obtain ⟨_,its,n,r,h1⟩:=(show z1J P w H h a (.tup (ks.map kV)) from ok a _ e)
 exact ⟨_,its.toArray,n,h1,rfl,rfl,by simpa using z6R r⟩
theorem zbx {kvs:List (List Key × V)} (ok:HOk P w H h) (e:Rd H a (.dT kvs)):kvs.length≤sizeLine∧(a == sysModules)=false ∧
  ∃ xs,KT H kvs xs∧h.DictOfH (tupleKind (z1k P w)) a xs:=by
 obtain ⟨z,y,xs,r,o,es,ep,h1,h2,h3,h4,h5⟩:=(show z1J P w H h a (.dT kvs) from zf7 ok e)
 refine ⟨z,y,xs,r,o,es,ep,h1,h2,h3,h4,fun x hx=>?_,h5⟩
 have all:∀ {l:List (List Key × V)} {m:List (List Key × Addr × Value)},KT H l m→∀ x∈m,(tupleKind (z1k P w)).is h x.1 x.2.1:=by
  intro l m q
  induction q with
  | nil=>intro x hx;exact nomatch hx
  | @cons p q ps qs hq t ih =>
   intro x hx
   rcases List.mem_cons.mp hx with e | hx
   ·subst e
    exact z8j ok (by rw [←hq.1];exact hq.2.1)
   ·exact ih x hx
 exact all r x hx
theorem zfV {kvs:List (List Key × V)} (ok:HOk P w H h) (e:H a=some (.dT kvs)):kvs.length≤sizeLine∧(a == sysModules)=false ∧
  ∃ xs,KT H kvs xs∧h.DictOfH (tupleKind (z1k P w)) a xs:=zbx ok (.inl e)
end
def z5G (H:Hp) (a:Addr) (y:V) (r:Option V):Prop :=
 (∃ kvs k,Rd H a (.dK kvs)∧y=kV k∧r=z3d kvs k)∨∃ kvs k b,Rd H a (.dT kvs)∧y=.ref b∧H b=some (.tup (k.map kV))∧r=z3d kvs k
def zcD (H:Hp) (a:Addr) (y v:V) (H':Hp):Prop :=
 (∃ kvs k,H a=some (.dK kvs)∧y=kV k∧kvs.length < sizeLine∧H'=upd H a (.dK (z2Z kvs k v))) ∨
 ∃ kvs k b,H a=some (.dT kvs)∧y=.ref b∧H b=some (.tup (k.map kV))∧kvs.length < sizeLine∧H'=upd H a (.dT (z2Z kvs k v))
theorem z5G.k {H:Hp} {a:Addr} {kvs:List (Key × V)} {k:Key} (e:H a=some (.dK kvs)):z5G H a (kV k) (z3d kvs k):=.inl ⟨kvs,k,.inl e,rfl,rfl⟩
theorem zcD.k {H:Hp} {a:Addr} {kvs:List (Key × V)} {k:Key} {v:V} (e:H a=some (.dK kvs)) (hl:kvs.length < sizeLine):zcD H a (kV k) v (upd H a (.dK (z2Z kvs k v))):=.inl ⟨kvs,k,e,rfl,hl,rfl⟩
section
variable {X:Cx} {pins:List (Addr × Obj)} {σ:St} {H:Hp} {s:Shared} {a:Addr} {y v:V} {u r:Value} {o:Option V} {A:Around} {E:Value→Shared→Prop}
theorem Inv.big (I:Inv X pins σ H s):sysModules < s.heap.objs.size:=by
 have h:mainGlobals < s.heap.objs.size:=(I.mod.glob.keeps I.bk).lt
 exact Nat.lt_trans (by decide) h
theorem zal {Q:Value→Shared→Prop} (hu:A.units+1 < cLine) (I:Inv X pins σ H s) (g:z5G H a y (some v)) (ry:z1c y u) (h:∀ w' s',Inv X pins σ H s'→z1c v w'→Q w' s') :
  wpAny (model X.prog X.w) A (getItem (.ref a) u) Q E s:=by
 rcases g with ⟨kvs,k,e,ey,l⟩ | ⟨kvs,k,b,e,ey,eb,l⟩
 ·subst ey
  obtain ⟨z,hd,vs,rel,dd⟩:=zch I.hok e
  obtain ⟨w',hw,rw'⟩:=z97.some_of (v:=v) (o:=valueAt vs k) (by rw [l];exact rel.val k)
  exact wpAny_getItem_of (zao ry) dd.mapOf hw (h w' _ (I.tok _) rw')
 ·subst ey
  cases (show u=Value.ref b from ry)
  obtain ⟨z,hd,xs,rel,dd⟩:=zbx I.hok e
  obtain ⟨w',hw,rw'⟩:=z97.some_of (v:=v) (o:=(atKey xs k).map (·.2)) (by rw [l];exact rel.val k)
  obtain ⟨p,hp,hp2⟩:=Option.map_eq_some_iff.mp hw
  refine wpAny_getItem_heap (tupleKind_room_in1 hu) (z8j I.hok eb) dd hp ?_
  rw [hp2]
  exact h w' _ (I.tok _) rw'
theorem zdh {Q:Value→Shared→Prop} (hu:A.units+1 < cLine) (I:Inv X pins σ H s) (g:z5G H a y o) (ry:z1c y u) (h:∀ s',Inv X pins σ H s'→Q (.bool (!o.isSome)) s') :
  wpAny (model X.prog X.w) A (compareOp .NotIn u (.ref a)) Q E s:=by
 rcases g with ⟨kvs,k,e,ey,l⟩ | ⟨kvs,k,b,e,ey,eb,l⟩
 ·subst ey
  obtain ⟨z,hd,vs,rel,dd⟩:=zch I.hok e
  refine wpAny_notIn_of (zao ry) hd dd.mapOf ?_
  rw [←(rel.val k).isSome_eq,←l]
  exact h _ (I.tok _)
 ·subst ey
  cases (show u=Value.ref b from ry)
  obtain ⟨z,hd,xs,rel,dd⟩:=zbx I.hok e
  refine wpAny_notIn_heap (tupleKind_room_in1 hu) (z8j I.hok eb) hd dd ?_
  have q:=(rel.val k).isSome_eq
  rw [Option.isSome_map] at q
  rw [←q,←l]
  exact h _ (I.tok _)
theorem z4o {h':Heap} {t':Nat} {ob:HO} (I:Inv X pins σ H s) (mu:Mut (H a)) (hs:Heap.SameBut a s.heap h') (he:∃ q,h'.get? a=some q) (new:z1J X.prog X.w (upd H a ob) h' a ob) :
  Inv X pins σ (upd H a ob) { s with heap:=h',toks:=t' } :=
 I.write (x:=a) (e:=a) mu (.inl rfl) (fun b q hb z=>(hs.2 b hb).trans z) he new
theorem zd4 {P:Program} {w:World} {H':Hp} {h':Heap} {kvs:List (Key × V)} {vs:List (Key × Value)} (z:kvs.length≤sizeLine) (hd:(a == sysModules)=false) (rel:KV kvs vs) (dd:h'.DictOf (z1k P w) a vs) :
  z1J P w H' h' a (.dK kvs):=⟨z,hd,vs,rel,dd⟩
theorem z9W {H':Hp} {Q:Unit→Shared→Prop} (hu:A.units+1 < cLine) (I:Inv X pins σ H s) (g:zcD H a y v H') (ry:z1c y u) (rv:z1c v r) (h:∀ s',Inv X pins σ H' s'→Q () s') :
  wpAny (model X.prog X.w) A (setItem (.ref a) u r) Q E s:=by
 rcases g with ⟨kvs,k,e,ey,l,eH⟩ | ⟨kvs,k,b,e,ey,eb,l,eH⟩
 ·subst ey eH
  obtain ⟨z,hd,vs,rel,dd⟩:=zej I.hok e
  have hz:vs.length≤sizeLine:=by rw [←rel.length];exact z
  have hl:(z2Z kvs k v).length≤sizeLine:=by have:=z1O kvs k v;lia
  refine wpAny_setItem_pairs (hsz:=hz) (zao ry) dd fun h' dd' hs=>h _ ?_
  have he:∃ q,h'.get? a=some q:=let ⟨q,_,_,hq,_⟩:=dd';⟨q,hq⟩
  exact z4o I (by rw [e];exact True.intro) hs he (zd4 hl hd (rel.put k rv) dd')
 ·subst ey eH
  cases (show u=Value.ref b from ry)
  obtain ⟨z,hd,xs,rel,dd⟩:=zfV I.hok e
  have hz:xs.length≤sizeLine:=by rw [←Paired.length rel];exact z
  have hl:(z2Z kvs k v).length≤sizeLine:=by have:=z1O kvs k v;lia
  refine wpAny_setItem_heap (hsz:=hz) (tupleKind_room_in1 hu) (z8j I.hok eb) dd fun h' dd' hs=>h _ ?_
  obtain ⟨q,es,ep,hq,h2,h3,h4,_,h5⟩:=dd'
  refine z4o I (by rw [e];exact True.intro) hs ⟨q,hq⟩ ⟨hl,hd,_,(rel.put k eb rv).keeps fun c ys ec=>?_,q,es,ep,hq,h2,h3,h4,h5⟩
  rw [z07 (z36 ec e (fun z=>nomatch z))]
  exact ec
end
section
variable {X:Cx} {pins:List (Addr × Obj)} {σ:St} {H:Hp} {s:Shared} {a:Addr} {kvs:List (Key × V)} {k:Key} {u:Value} {A:Around} {E:Value→Shared→Prop}
end
def zfw (i:Expr):Prop:=∀ ov iv,subscripted i false ov iv=operate [ov,iv] (getItem ov iv)
theorem zb5 {prog:Program} {w:World} {A:Around} {E:Value→Shared→Prop} {s:Shared} {env:Env} {value slice:Expr} {pos:Pos} {T id:String} {Q:Value→Shared→Prop}
  (hl:typeLookup (.type T) "__getitem__"=pure (some (.builtin id))) (hs:zfw slice)
  (h:wpAny (model prog w) A (eval value env) (fun o s₁=>wpAny (model prog w) A (eval slice env) (fun i s₂=>s₂.TypeIs o T∧wpAny (model prog w) A (getItem o i) Q E s₂) E s₁) E s) :
  wpAny (model prog w) A (eval (.Subscript value slice pos) env) Q E s:=by
 refine Subscript_ (wpAny_mono h (fun o s₁ h₁=>wpAny_mono h₁ (fun i s₂ h₂=>?_) fun _ _ x=>x) fun _ _ x=>x)
 obtain ⟨hT,h₂⟩:=h₂
 unfold subscriptTail
 refine wpAny_bind ?_
 rw [getitemInPython_of_ne hT.not_modules]
 refine wpAny_bind (wpAny_specialOf hT hl ?_)
 have fin:wpAny (model prog w) A (subscripted slice false o i) (fun r s₃=>wpAny (model prog w) A (letTemporaryGo value o r >>= fun _=>pure r) Q E s₃) E s₂:=by
  rw [hs o i]
  exact wpAny_operating (wpAny_mono h₂ (fun r s₃ h₃=>wpAny_bind (wpAny_letTemporaryGo (wpAny_pure h₃))) fun _ _ x=>x)
 first
  | exact wpAny_pure (wpAny_bind fin)
  | exact wpAny_bind (wpAny_pure (wpAny_bind fin))
  | exact wpAny_bind fin
theorem z7N {X:Cx} {pins:List (Addr × Obj)} {σ:St} {H:Hp} {s:Shared} {a:Addr} {y:V} {o:Option V} (I:Inv X pins σ H s) (g:z5G H a y o):s.TypeIs (.ref a) "dict":=by
 rcases g with ⟨kvs,k,e,_,_⟩ | ⟨kvs,k,b,e,_,_,_⟩
 ·obtain ⟨_,_,vs,_,dd⟩:=zch I.hok e
  exact dd.typeIs
 ·obtain ⟨_,_,xs,_,dd⟩:=zbx I.hok e
  exact dd.typeIs
def zge (td ty:TE):TE:=fun σ H Q=>td σ H fun x H1=>ty σ H1 fun y H2=>∃ a v,x=.ref a∧z5G H2 a y (some v)∧Q v H2
def zdW (ty td:TE):TE:=fun σ H Q=>ty σ H fun y H1=>td σ H1 fun x H2=>∃ a o,x=.ref a∧z5G H2 a y o∧Q (.bl (!o.isSome)) H2
def zfG (td ty tv:TE):TS:=fun D σ H=>tv σ H fun v H1=>td σ H1 fun x H2=>ty σ H2 fun y H3=>∃ a H4,x=.ref a∧zcD H3 a y v H4∧D.nx σ H4
section
variable {X:Cx} {o i e value:Expr} {pos pos' tpos:Pos} {td ty tv:TE}
theorem z3c (hu:X.A.units+1 < cLine) (ho:PE X o td) (hi:PE X i ty) (hs:zfw i):PE X (.Subscript o i pos) (zge td ty):=by
 intro pins s σ H Q I h
 refine zb5 PySem.F.slot_dict_getitem.lookup hs (z1B (ho pins s σ H _ I h) fun u s1 x H1 I1 rx q1=>z1B (hi pins s1 σ H1 _ I1 q1) fun iv s2 y H2 I2 ry hz9=>?_)
 obtain ⟨a,v,ex,g,q2⟩:=hz9
 subst ex
 obtain rfl:u=Value.ref a:=rx
 exact ⟨z7N I2 g,zal hu I2 g ry fun w' s3 I3 rw'=>⟨v,H2,I3,rw',q2⟩⟩
theorem z4n (hu:X.A.units+1 < cLine) (hi:PE X i ty) (ho:PE X o td):PC X .NotIn i o (zdW ty td):=by
 intro pins s σ H Q I h
 refine z1B (hi pins s σ H _ I h) fun iv s1 y H1 I1 ry q1=>z1B (ho pins s1 σ H1 _ I1 q1) fun u s2 x H2 I2 rx hz9=>?_
 obtain ⟨a,ov,ex,g,q2⟩:=hz9
 subst ex
 obtain rfl:u=Value.ref a:=rx
 exact zdh hu I2 g ry fun s3 I3=>⟨.bl (!ov.isSome),H2,I3,rfl,q2⟩
theorem z6g (hu:X.A.units+1 < cLine) (ho:PE X o td) (hi:PE X i ty) (hv:PE X value tv) (hs:swapsWith value (some (.Subscript o i pos')) pos.line X.env=pure false) :
  PS X (.Assign [.Subscript o i pos'] value pos) (zfG td ty tv):=by
 intro pins s σ H D I h
 refine wpAny_Assign_Subscript (z1B (hv pins s σ H _ I h) fun r s1 v H1 I1 rv q1=>z1B (ho pins s1 σ H1 _ I1 q1) fun u s2 x H2 I2 rx q2=>z1B (hi pins s2 σ H2 _ I2 q2) fun iv s3 y H3 I3 ry hz9=>?_) hs
 obtain ⟨a,H4,ex,g,q3⟩:=hz9
 subst ex
 obtain rfl:u=Value.ref a:=rx
 exact z9W hu I3 g ry rv fun s4 I4=>⟨σ,H4,I4,q3⟩
end
theorem z91 {P:Program} {w:World} {H:Hp} (h:Heap) (hb:sysModules < h.objs.size):z1J P w H (h.push { cls:=.type "dict",data:=.dict #[] }) h.objs.size (.dK []) :=
 ⟨Nat.zero_le _,beq_eq_false_iff_ne.mpr (Ne.symm (Nat.ne_of_lt hb)),[],.nil,Heap.DictOf.new h⟩
def zet:TE:=fun _ H Q=>∀ p,H p=none→Q (.ref p) (upd H p (.dK []))
section
variable {X:Cx} {pos:Pos}
theorem z8M:PE X (.Dict [] [] pos) zet:=fun pins s σ H Q I h =>
 wpAny_Dict_empty ⟨.ref s.heap.objs.size,_,I.laid (a:=s.heap.objs.size) (o:=.dK []) (t':=s.toks) (fun _ _ q=>Heap.get?_push_of_some _ q) (Nat.le_refl _) (z91 s.heap I.big),rfl,h _ (I.hok.fresh (Nat.le_refl _))⟩
end
def zbo:List (TE × TE)→St→Hp→(List (V × V)→Hp→Prop)→Prop
 | [],_,H,Q=>Q [] H
 | (tk,tv)::r,σ,H,Q=>tk σ H fun x H1=>tv σ H1 fun y H2=>zbo r σ H2 fun ps H3=>Q ((x,y)::ps) H3
abbrev VV:List (V × V)→List (Value × Value)→Prop:=Paired fun p q=>z1c p.1 q.1∧z1c p.2 q.2
def PPs (X:Cx) (pos:Pos) (keys:List (Option Expr)) (values:List Expr) (trs:List (TE × TE)):Prop :=
 ∀ (pins:List (Addr × Obj)) (s:Shared) (σ:St) (H:Hp) (Q:List (V × V)→Hp→Prop),Inv X pins σ H s→zbo trs σ H Q →
  wpAny (model X.prog X.w) X.A (evalPairs (pairTrees keys values X.env pos)) (fun vs s'=>∃ ps H',Inv X pins σ H' s'∧VV ps vs∧Q ps H') X.xe s
theorem z7Z {X:Cx} {pos:Pos}:PPs X pos [] [] []:=fun pins s σ H Q I h=>pairTrees_nil_walk ⟨[],H,I,.nil,h⟩
theorem z66 {X:Cx} {pos:Pos} {k v:Expr} {ks:List (Option Expr)} {vs:List Expr} {tk tv:TE} {trs:List (TE × TE)} (hk:PE X k tk) (hv:PE X v tv) (hr:PPs X pos ks vs trs) :
  PPs X pos (some k::ks) (v::vs) ((tk,tv)::trs):=fun pins s σ H Q I h =>
 pairTrees_cons_walk (thn (hk pins s σ H _ I h) fun u s1 ⟨x,H1,I1,rx,q1⟩=>thn (hv pins s1 σ H1 _ I1 q1) fun w2 s2 ⟨y,H2,I2,ry,q2⟩ =>
  thn (hr pins s2 σ H2 _ I2 q2) fun ws s3 ⟨ps,H3,I3,rel,q3⟩=>⟨(x,y)::ps,H3,I3,.cons ⟨rx,ry⟩ rel,q3⟩)
def z3S (kvs more:List (Key × V)):List (Key × V):=more.foldl (fun acc kv=>z2Z acc kv.1 kv.2) kvs
theorem KV.merge:∀ {more:List (Key × V)} {rs:List (Key × Value)} {kvs:List (Key × V)} {vs:List (Key × Value)},KV more rs→KV kvs vs→KV (z3S kvs more) (merged vs rs):=by
 intro more rs kvs vs r
 unfold KV at r
 induction r generalizing kvs vs with
 | nil=>intro q;exact q
 | @cons p q ps qs h t ih =>
  intro r0
  have e:KV (z2Z kvs p.1 p.2) (stored vs q.1 q.2):=by
   have:=r0.put p.1 h.2
   rw [←h.1];exact this
  exact ih e
theorem z3u:∀ (more kvs:List (Key × V)),(z3S kvs more).length≤kvs.length+more.length
 | [],kvs=>by show kvs.length≤kvs.length+0;lia
 | p::r,kvs=>by
  have h1:=z3u r (z2Z kvs p.1 p.2)
  have h2:=z1O kvs p.1 p.2
  show (z3S (z2Z kvs p.1 p.2) r).length≤_
  rw [List.length_cons];lia
theorem z5D {P:Program} {w:World}:∀ {kvs:List (Key × V)} {ws:List (Value × Value)},VV (kvs.map fun kv=>(kV kv.1,kv.2)) ws→∃ rs,Carries (z1k P w) ws rs∧KV kvs rs
 | [],_,r=>by rw [List.map_nil] at r;cases r;exact ⟨[],True.intro,.nil⟩
 | p::kvs,_,r=>by
  rw [List.map_cons] at r
  cases r with
  | @cons a b as bs h t =>
   obtain ⟨rs,c,q⟩:=z5D (P:=P) (w:=w) t
   obtain ⟨b1,b2⟩:=b
   exact ⟨(p.1,b2)::rs,⟨zao h.1,rfl,c⟩,.cons ⟨rfl,h.2⟩ q⟩
def zfH (trs:List (TE × TE)):TE:=fun σ H Q=>∀ p,H p=none→zbo trs σ (upd H p (.dK [])) fun ps H2=>H2 p=some (.dK [])∧∃ kvs:List (Key × V),ps=kvs.map (fun kv=>(kV kv.1,kv.2))∧kvs.length≤15∧Q (.ref p) (upd H2 p (.dK (z3S [] kvs)))
theorem zaL {X:Cx} {pos:Pos} {keys:List (Option Expr)} {values:List Expr} {trs:List (TE × TE)} (h:PPs X pos keys values trs) (hall:keys.all (·.isSome)=true) (hl:keys.length=values.length) (h0:keys≠[])
  (h15:keys.length≤15):PE X (.Dict keys values pos) (zfH trs):=by
 intro pins s σ H Q I q
 have hn:=I.hok.fresh (Nat.le_refl s.heap.objs.size)
 have I1:=I.laid (a:=s.heap.objs.size) (o:=.dK []) (h':=s.heap.push { cls:=.type "dict",data:=.dict #[] }) (t':=s.toks) (fun _ _ q=>Heap.get?_push_of_some _ q) (Nat.le_refl _) (z91 s.heap I.big)
 refine wpAny_Dict_walk (knd:=z1k X.prog X.w) hall hl h0 h15 (thn (h pins _ σ _ _ I1 (q _ hn)) fun ws s2 hz8=>?_)
 obtain ⟨ps,H2,I2,rel,e,kvs,ep,lk,q2⟩:=hz8
 subst ep
 obtain ⟨rs,c,rk⟩:=z5D (P:=X.prog) (w:=X.w) rel
 obtain ⟨z,hd,vs0,r0,dd⟩:=zej I2.hok e
 cases r0
 refine ⟨rs,c,dd,fun h' dd' hs=>⟨.ref s.heap.objs.size,_,?_,rfl,q2⟩⟩
 have hz:(z3S [] kvs).length≤sizeLine:=by
  have h1:=z3u kvs []
  rw [List.length_nil] at h1
  rw [sizeLine_eq];lia
 have he:∃ q,h'.get? s.heap.objs.size=some q:=let ⟨q,_,_,hq,_⟩:=dd';⟨q,hq⟩
 exact z4o I2 (by rw [e];exact True.intro) hs he (zd4 hz hd (rk.merge .nil) dd')
structure M1 (X:Cx) (o:Expr) (m:Str) (apos:Pos) (e:Expr) (cpos:Pos):Prop where
 base:attributeBase o m X.env (eval o X.env)=eval o X.env
 few:((backTo cpos (starEach [e] X.env)).all (fun x=>!x.1) && (backToKw cpos (keywordEach [] X.env)).all (fun x=>x.1.isSome)
  && decide (([e]:List Expr).length+([]:List Keyword).length+(if ([]:List Keyword).isEmpty then 0 else 1) < 30))=true
 line:(apos.endLine == cpos.line)=true
 trees:backTo cpos (starEach [e] X.env)=[(false,eval e X.env)]
structure M2 (X:Cx) (o:Expr) (m:Str) (apos:Pos) (e f:Expr) (cpos:Pos):Prop where
 base:attributeBase o m X.env (eval o X.env)=eval o X.env
 few:((backTo cpos (starEach [e,f] X.env)).all (fun x=>!x.1) && (backToKw cpos (keywordEach [] X.env)).all (fun x=>x.1.isSome)
  && decide (([e,f]:List Expr).length+([]:List Keyword).length+(if ([]:List Keyword).isEmpty then 0 else 1) < 30))=true
 line:(apos.endLine == cpos.line)=true
 trees:backTo cpos (starEach [e,f] X.env)=[(false,eval e X.env),(false,eval f X.env)]
section
variable {X:Cx} {pins:List (Addr × Obj)} {σ:St} {H:Hp} {s:Shared} {a:Addr} {y d:V} {u r:Value} {o:Option V} {A:Around} {E:Value→Shared→Prop}
end
section
variable {X:Cx} {o e f:Expr} {apos cpos:Pos} {td ty tx:TE}
end
section
variable {X:Cx} {pins:List (Addr × Obj)} {σ:St} {H:Hp} {s:Shared} {a:Addr} {kvs:List (Key × V)} {A:Around} {E:Value→Shared→Prop}
end
section
variable {X:Cx} {pins:List (Addr × Obj)} {σ:St} {H:Hp} {s:Shared} {a:Addr} {y:V} {u:Value} {A:Around} {E:Value→Shared→Prop}
end
end L2
namespace Att
open PySem PySem.W PySem.Calls PyProof.Rows
theorem z53 {P:Params} {h:Heap}:∀ (ns:List Int) (vs:List Value),WellAll P h vs (ns.map WData.int)→IntsAre vs ns:=by
 intro ns
 induction ns with
 | nil =>
  intro vs w
  rw [List.map_nil] at w
  cases w
  exact .nil
 | cons n ns ih =>
  intro vs w
  rw [List.map_cons] at w
  cases w with
  | cons a b =>
   cases a
   exact .cons _ _ (ih _ b)
theorem z9P {l:OpenLaw} {n:Nat} (hn:l.most=some n) {P:Params} {h:Heap} {args:List WData} {vals:List Value}
  (hpre:l.row.toRowW.claim.pre args=true) (hwl:WellAll P h vals args) :
  ∃ a vs ns,vals=[Value.ref a]∧args=[WData.list (ns.map WData.int)]∧h.get? a=some { cls:=.type "list",data:=.seq vs.toArray }∧IntsAre vs ns∧ns.length≤n:=by
 have hsh:WShape.hasAll [] args [.list .int]=true:=(pre_splitW hpre).1
 have hc:l.pre.holds [] { args:=args }=true:=(pre_splitW hpre).2
 obtain ⟨d,r,rfl,h1,h2⟩:=hasAllW_cons hsh
 obtain rfl:=hasAllW_nil h2
 obtain ⟨xs,rfl,h3⟩:=hasW_list h1
 obtain ⟨ns,rfl⟩:=items_int h3
 have hlen:ns.length≤n:=by
  unfold OpenLaw.pre at hc
  have h4:(WTm.not (.lt (.lit (.int (n:Int))) (.len (.arg 0)))).holds [] { args:=[.list (ns.map .int)] }=true:=by
   have h4:=(holds_andW hc).1
   rw [hn] at h4
   exact h4
  have h5:=condW_of h4 (w_not (w_lt w_lit (w_len_list (w_arg rfl))))
  rw [zLm] at h5
  refine Nat.le_of_not_lt fun q=>?_
  have q':(n:Int) < ((ns.length:Nat):Int):=by lia
  first
   | (rw [decide_eq_true q'] at h5;exact absurd h5 (by decide))
   | (simp at h5;lia)
 cases hwl with
 | cons w1 w2 =>
  cases w2
  cases w1 with
  | list ho hall=>exact ⟨_,_,ns,rfl,rfl,ho,z53 ns _ hall,hlen⟩
theorem zaX (l:OpenLaw) (args:List WData):l.row.toRowW.claim.post args (.bool true) args=true :=
 postW_of (r:=l.row.toRowW) (X:=(true == true))
  (show WShape.has [] (.bool true) .bool=true by first | rfl | decide | simp [WShape.has,WShape.arms,WShape.armsAll])
  (show (WTm.eq .res (.lit (.bool true))).value [] { args:=args,res:=some (.bool true),after:=args }=some (.bool (true == true)) from w_eq_bool (w_res rfl) w_lit) rfl
theorem attach_call {l:OpenLaw} {n:Nat} {q:Program} {loose:List Str} {XP:(Str→Option Value)→Heap→Prop} {YP:World→Heap→Prop} {d:DefRec}
  (hn:l.most=some n) (hdf:d.params.defaults=[])
  (call:∀ (w:World) (s₀ s₁:Shared) (mg mb:Str→Option Value) (fa:Addr) (o:Obj) (pm cd doc:Value) (a:Addr) (vs:List Value) (ns:List Int),
   Ground q loose [] XP w s₀ mg mb s₁.heap→YP w s₁.heap →
   s₁.heap.get? fa=some o→o.data=.func (docDef d.name d.params d.body d.scope pm cd doc)→s₁.heap.CodeRec cd d.name→mg d.name=some (.ref fa) →
   s₁.heap.get? a=some { cls:=.type "list",data:=.seq vs.toArray }→IntsAre vs ns→ns.length≤n→s₁.gens=#[] →
   codeAny (model l.prog w) callerA (.call (.ref fa) ⟨[.ref a],[]⟩) (fun r s'=>r=.ok (.ret (.bool true))∧OldK s₁.heap s'.heap∧s'.os=s₁.os∧AllBare s'.gens) s₁) :
  WalkO q loose XP YP l.row.toRowW d [] (fun f vs=>PySem.call f vs):=by
 intro w s₀ s₁ mg mb G Y fa o pm cd doc dV kV ho hd hcd hD hmg hg args vals as hpre hlay hrd hwl hlo
 obtain rfl:dV=.none:=Dflts.none hD hdf
 obtain rfl:kV=.none:=Dflts.noKw hD
 obtain ⟨a,vs,ns,rfl,rfl,hobj,hints,hlen⟩:=z9P hn hpre hwl
 refine enter_call (codeAny_mono (call w s₀ s₁ mg mb fa o pm cd doc a vs ns G Y ho (fd_plain hd) hcd hmg hobj hints hlen hg) fun r s' hq=>?_)
 obtain ⟨rfl,h2,h3,h4⟩:=hq
 exact ⟨.inl ⟨.bool true,.bool true,[],rfl,fun _=>rfl,.bool true,zaX l _,fun _=>⟨List.Pairwise.nil,fun _ hm=>(nomatch hm)⟩⟩,h2,h3,h4⟩
section
variable {prog:Program} {w:World} {A:Around} {E:Value→Shared→Prop} {s:Shared} {K:Frag}
def zgs (h:Heap) (L d:Addr):List (Addr × Obj):=(List.range h.objs.size).filterMap fun a=>if a=L∨a=d then none else (h.get? a).map fun o=>(a,o)
end
end Att
namespace L2
open PySem PySem.Spec PyProof.Rows
theorem z7g:∀ {vs:List Value} {ns:List Int},IntsAre vs ns→z0V (ns.map V.int) vs
 | _,_,.nil=>.nil
 | _,_,.cons n t h=>.cons ⟨t,rfl⟩ (z7g h)
def z1n (s:Stmt):Arguments:=match s with
 | .FunctionDef _ a _ _ _ _ _ _ _ _=>a
 | _=>{ posonlyargs:=[],args:=[],vararg:=none,kwonlyargs:=[],kw_defaults:=[],kwarg:=none,defaults:=[] }
def z0F (s:Stmt):List Stmt:=match s with
 | .FunctionDef _ _ b _ _ _ _ _ _ _=>b
 | _=>[]
def z05 (s:Stmt):Scope:=match s with
 | .FunctionDef _ _ _ _ _ _ sc _ _ _=>sc
 | _=>{ kind:=.function,names:=[],isGenerator:=false,isCoroutine:=false }
abbrev E0:XK:=fun _ _ _=>False
structure Fun (K:PySem.W.Frag) (x qual:Str) (st:Stmt) (f:Addr) (fd:FuncData):Prop where
 ex:∃ (oc:Value) (od:Option Addr) (kV doc pm:Value) (an:Option Addr) (cdv ct:Value) (osl:Array (Option Value)),
  fd=PySem.W.fnOf x qual (z1n st) (z0F st) (z05 st) .none kV doc pm an cdv ct∧K.lookup f=some ⟨oc,od,.func fd,osl⟩∧PySem.W.codeIn K cdv qual=true
 kp:PySem.W.keepIn K (.ref f)=true
section
variable {P:Program} {w:World} {K:PySem.W.Frag} {mg:Str→Option Value} {base:Heap}
theorem Fun.binds {x qual:Str} {st:Stmt} {f:Addr} {fd:FuncData} {ps:List Str} (F:Fun K x qual st f fd)
  (h:∀ (kV doc pm:Value) (an:Option Addr) (cdv ct:Value) (us:List Value),us.length=ps.length→bindArgs (PySem.W.fnOf x qual (z1n st) (z0F st) (z05 st) .none kV doc pm an cdv ct) ⟨us,[]⟩=pure (ps.zip us)):z0o K fd ps []:=by
 obtain ⟨oc,od,kV,doc,pm,an,cdv,ct,osl,rfl,lk,hcd⟩:=F.ex
 exact .all (h kV doc pm an cdv ct)
theorem z5J {x qual:Str} {st:Stmt} {f:Addr} {oc:Value} {od an:Option Addr} {osl:Array (Option Value)} {kV doc pm cdv ct:Value} (l:K.lookup f=some ⟨oc,od,.func (PySem.W.fnOf x qual (z1n st) (z0F st) (z05 st) .none kV doc pm an cdv ct),osl⟩)
  (c:PySem.W.codeIn K cdv qual=true) (k:PySem.W.keepIn K (.ref f)=true):Fun K x qual st f (PySem.W.fnOf x qual (z1n st) (z0F st) (z05 st) .none kV doc pm an cdv ct):=⟨⟨oc,od,kV,doc,pm,an,cdv,ct,osl,rfl,l,c⟩,k⟩
end
theorem zcv {A:Around} {k:Nat} (hr:z3Q k A):A.units+1 < cLine:=Nat.lt_of_le_of_lt (Nat.add_le_add_left (by decide:1≤64) _) hr.units
theorem z2E {n:Nat} (h:n≤1000):n < sizeLine:=Nat.lt_of_le_of_lt h (by decide)
section
variable {X:Cx}
theorem pv (i:Nat) {x:Str} {pos:Pos} (hN:X.N[i]?=some x:=by rfl) (hv:Vis X.env.scope x:=by first | exact Or.inl rfl | exact Or.inr (Or.inl rfl) | exact Or.inr (Or.inr rfl)) (hd:(x == ("__debug__":Str))=false:=by decide)
  (hcd:(x == ("__classdict__":Str))=false:=by decide):PE X (.Name x pos) (zgz i):=zcG hN hv hd hcd
end
theorem z85 {A B:Prop} (h:B):if false=true then A else B:=by
 rw [if_neg Bool.false_ne_true]
 exact h
theorem zda {A B:Prop} (h:A):if true=true then A else B:=by
 rw [if_pos rfl]
 exact h
theorem z34 {c A B:Prop} [Decidable c] (h1:c→A) (h2:¬ c→B):if c then A else B:=by
 by_cases h:c
 ·rw [if_pos h]
  exact h1 h
 ·rw [if_neg h]
  exact h2 h
def z0f (H H':Hp):Prop:=∀ b o,H b=some o→H' b=some o
theorem z0f.refl (H:Hp):z0f H H:=fun _ _ h=>h
theorem z0f.trans {H H1 H2:Hp} (a:z0f H H1) (b:z0f H1 H2):z0f H H2:=fun c o h=>b c o (a c o h)
theorem z0f.free {H H':Hp} (e:z0f H H') {l:Addr} (h:H' l=Option.none):H l=Option.none:=by
 cases q:H l with
 | none=>rfl
 | some o =>
  rw [e l o q] at h
  cases h
theorem z0f.seq {K:PySem.W.Frag} {H H':Hp} {a:Addr} {xs:List V} (e:z0f H H') (h:SqL K H a xs):SqL K H' a xs:=by
 rcases h with (h | ⟨o,h⟩) | h
 ·exact .inl (.inl (e _ _ h))
 ·exact .inl (.inr ⟨o,e _ _ h⟩)
 ·exact .inr h
section
variable {κ:Type} [DecidableEq κ]
theorem zaz:∀ {l:List κ} {k:κ},l.Nodup→¬ k∈l→(l++[k]).Nodup
 | [],k,_,_=>by simp
 | a::r,k,h,hk=>by
  obtain ⟨h1,h2⟩:=List.nodup_cons.mp h
  show (a::(r++[k])).Nodup
  refine List.nodup_cons.mpr ⟨fun m=>?_,zaz h2 fun m=>hk (List.mem_cons.mpr (Or.inr m))⟩
  rcases List.mem_append.mp m with q | q
  ·exact h1 q
  ·exact hk (List.mem_cons.mpr (Or.inl (List.mem_singleton.mp q).symm))
end
end L2
namespace Gu
open PySem L2
def top (i:Nat):Stmt:=PySem.Challenge.pw_guisery_k25_whole_floors_joined.main.body.getD i (.Pass ⟨0,0,0,0⟩)
abbrev z54:Stmt:=top 6
abbrev z67:Stmt:=top 7
abbrev z4e:Stmt:=top 10
abbrev z5d:Stmt:=top 11
abbrev z8Q:Stmt:=top 12
abbrev z8B:Stmt:=top 13
abbrev z6i:Stmt:=top 14
abbrev z5x:Stmt:=top 15
abbrev zay:Stmt:=top 16
abbrev z2k:Stmt:=top 17
abbrev z4C:Stmt:=top 19
abbrev zcs:Stmt:=top 21
abbrev z3m:Stmt:=top 25
abbrev z6k:Stmt:=top 26
abbrev z4b:Stmt:=top 27
abbrev z7k:Stmt:=top 28
abbrev z2c:Stmt:=top 30
abbrev z2f:Stmt:=top 31
abbrev z5f:Stmt:=top 32
abbrev z3t:Stmt:=top 33
abbrev z61:Stmt:=top 34
abbrev z1h:Stmt:=top 35
abbrev z7n:Stmt:=top 36
abbrev zcz:Stmt:=top 38
abbrev z45:Stmt:=top 39
abbrev z51:Stmt:=top 40
abbrev z3J:Stmt:=top 41
abbrev z4f:Stmt:=top 42
abbrev zbt:Stmt:=top 43
abbrev z7J:Stmt:=top 44
abbrev z8J:Stmt:=top 45
abbrev z44:Stmt:=top 46
abbrev zbY:Stmt:=top 47
abbrev z8R:Stmt:=top 48
end Gu
namespace Gu
open PySem PySem.W PyProof.Rows
section
variable (tb:String→Option Builtin) (p:Program) (w:World) (m:Nat) (an:Option Value)
def zfe:Nat→SharedT→Thread→Option SharedT
 | 0,_,_=>none
 | n+1,x,y=>match through y,stepOk m an y with
  | true,_=>some x
  | false,false=>none
  | false,true=>match stepT (denote tb) p w x y with
   | some z=>zfe n z.1 z.2
   | none=>none
end
section
variable {tb:String→Option Builtin} {p:Program} {w:World} {m:Nat} {an:Option Value}
theorem zak:∀ (n:Nat) (x r:SharedT) (y:Thread),zfe tb p w m an n x y=some r→topRun tb p w m an n x.abs y=some r.abs
 | 0,_,_,_,h=>by cases h
 | n+1,x,r,y,h=>by
  unfold zfe at h
  unfold topRun
  cases ht:through y<;>cases hk:stepOk m an y<;>rw [ht,hk] at h<;>dsimp only at h ⊢
  ·cases h
  ·cases hs:stepT (denote tb) p w x y with
   | none=>rw [hs] at h;cases h
   | some z =>
    rw [hs] at h
    rw [stepT_spec (s':=z.1) (t':=z.2) hs]
    exact zak n _ _ _ h
  ·cases h;rfl
  ·cases h;rfl
end
noncomputable def zdZ (P:Params):BT:=(.node (boot_o_0 P) (.node (boot_o_1 P) (.node (boot_o_3 P) (.node (boot_o_7 P) .nil .nil) .nil) (.node (boot_o_5 P) (.node (boot_o_9 P) .nil .nil) .nil)) (.node (boot_o_2 P) (.node (boot_o_4 P) (.node (boot_o_8 P) .nil .nil) .nil) (.node (boot_o_6 P) (.node (boot_o_10 P) .nil .nil) .nil)))
noncomputable def z3z (w:World) (os:OsState):SharedT:=⟨zdZ w.params,11,(boot_heap w.params).life,Array.mk [],boot_drawn,boot_toks,os⟩
theorem zbT (P:Params):absHeap (zdZ P) 11 (boot_heap P).life=boot_heap P:=by kernel_rfl
theorem zdM {p q:Program} {Xt:Shared→Bool} {α:Type} {Yf:Shared→α} {Ya:World→α} {N:Nat} (e:opening p=plainProg p.main.scope.names) (hN:Nat.ble 600 N=true) (f:∀ s,fenceModules? p s=some s)
  (h:∀ w os,(zfe treeTable p w 11 (some (.ref 6)) N (z3z w os) (topStub p)).bind (fun r=>match staticsOk (importedModules p.main.body) (z3z w os).abs.heap r.abs.heap && namesBound p r.abs.heap && gensDone r.abs && laidKept (z3z w os).abs.heap r.abs.heap with
   | true=>some (openSeen q [] (importedModules p.main.body) Xt true r.abs,Yf r.abs)
   | false=>none)=some (openGood q [],Ya w)):LeftO p q [] Xt Yf Ya N:=fun w=>by
 obtain ⟨s,hs,hv⟩:=Option.map_eq_some_iff.mp (boot_open e hN f w)
 have es:s=(z3z w s.os).abs:=by
  obtain ⟨h1,g1,d1,t1,o1⟩:=s
  obtain ⟨a,b,c,d⟩:h1=boot_heap w.params∧g1=Array.mk []∧d1=boot_drawn∧t1=boot_toks:=by
   simpa [Prod.ext_iff] using hv
  subst a b c d
  show _=(⟨absHeap (zdZ w.params) 11 (boot_heap w.params).life,_,_,_,_⟩:Shared)
  rw [zbT]
  rfl
 have k:=h w s.os
 obtain ⟨r,hr,k⟩:=Option.bind_eq_some_iff.mp k
 unfold openEnds
 rw [hs]
 show (topFrom treeTable p w N s).map _=_
 unfold topFrom
 rw [es]
 have z1:((z3z w s.os).abs.heap.isNs mainGlobals && (z3z w s.os).abs.gens.size == 0)=true:=by kernel_rfl
 have z2:(z3z w s.os).abs.heap.objs.size=11:=by kernel_rfl
 have z3:(z3z w s.os).abs.heap.nsMap mainGlobals "__annotations__"=some (.ref 6):=by kernel_rfl
 rw [z1,z2,z3]
 dsimp only
 rw [zak _ _ _ _ hr]
 show Option.map _ (match _ with | true=>_ | false=>_)=_
 cases c:staticsOk (importedModules p.main.body) (z3z w s.os).abs.heap r.abs.heap && namesBound p r.abs.heap && gensDone r.abs && laidKept (z3z w s.os).abs.heap r.abs.heap with
 | false=>rw [c] at k;cases k
 | true =>
  rw [c] at k
  exact k
end Gu
namespace Gu
open PySem L2
def kE (P:Params) (x:Str) (t:Tok) (v:Value):DictEntry:={ hash:=PyData.keyHash P x,key:=Value.str x t,val:=v }
def kF (s:Stmt) (x:Str) (kV dc pm:Value) (an:Option Addr) (cd ct:Value):Obj:=⟨.type "function",none,.func (PySem.W.fnOf x x (z1n s) (z0F s) (z05 s) .none kV dc pm an cd ct),#[]⟩
abbrev vN:Value:=.none
abbrev vR (a:Addr):Value:=.ref a
def kR (P:Params) (x:Str) (t:Tok) (a:Addr):DictEntry:=kE P x t (.ref a)
def kG (s:Stmt) (x m:Str) (t:Tok) (c:Addr):Obj:=kF s x .none .none (.str m t) none (.ref c) .none
def kC (x:Str) (a b c d:Tok) (vs:Array Value):Obj:={ cls:=.type "code",data:=.fields (#[Value.str x a,Value.str x b,Value.str "/claim/cut.py" c]++vs++#[Value.str "/claim/cut.py" d]) }
def kD (x:Str) (a b c d:Tok) (ln ar:Int) (A:Addr) (fl:Int) (B:Addr) (X Y Z:Value) (u:Int):Obj:=kC x a b c d #[.int ln 0,.int ar 0,.int 0 0,.int 0 0,.int 3 0,.ref A,.bool true,.int fl 0,.ref B,.none,X,Y,Z,.int u 0,.int ln 0]
def KH (P:Params):PySem.W.Frag:=(nat_lit 2,{ cls:=Value.none,data:=Data.dict #[] }) ::
 (nat_lit 3,{ cls:=Value.type "dict",data:=Data.dict #[kE P "__name__" 165 (Value.str "law_guisery_k25_whole_floors_joined" 472),kE P "__doc__" 166 (Value.none),kE P "__package__" 167 (Value.none),kE P "__loader__" 168 (Value.builtin "__main__.__loader__#opaque"),kE P "__spec__" 169 (Value.none),kR P "__annotations__" 170 6,kR P "__builtins__" 171 4,kE P "__file__" 173 (Value.str "/claim/cut.py" 172),kE P "__cached__" 174 (Value.none),kR P "GuiseError" 206 24,kR P "BadWord" 222 37,kR P "BadCount" 238 49,kR P "TooMany" 254 61,kR P "turned" 262 68,kR P "undone" 272 75,kE P "MOST_FORM_ROWS" 276 (Value.int 60 275),kR P "breadth" 285 82,kR P "section_at" 294 89,kR P "read_from" 308 96,kR P "least_form" 322 103,kR P "rows_come_to" 328 108,kR P "kinds_of_rows" 334 113,kR P "kinds_gone_to" 340 118,kR P "numbered" 346 123,kR P "check_word" 354 128,kR P "worn" 366 135,kE P "MOST_WORDS" 370 (Value.int 1024 369),kE P "MOST_LETTERS_TOLD" 372 (Value.int 1000 371),kR P "number_of" 382 142,kR P "word_of" 395 149,kR P "words_on_floor" 405 156,kR P "floor" 411 161,kR P "joined" 423 168,kR P "joined_row" 429 173,kR P "back" 437 180,kR P "row_back" 443 185,kR P "behind" 453 192,kR P "branched" 465 199,kR P "rows_moved" 471 204,kR P "_law_cell" 481 211,kR P "_law_letters" 489 218,kR P "_law_in_line" 495 223,kR P "_law_shrunk" 501 228,kR P "_law_numbers" 512 235,kR P "_law_rearranged" 524 242,kR P "_law_rows" 530 247,kR P "_law_guise" 538 254,kR P "_law_stories" 545 261,kR P "_law_both" 554 268,kR P "law" 560 273] 50 }) ::
 (nat_lit 23,{ cls:=Value.type "dict",data:=Data.dict #[kE P "__module__" 196 (Value.str "guisery.errors" 187),kE P "__firstlineno__" 200 (Value.int 2 199),kR P "__static_attributes__" 201 22,kR P "__weakref__" 203 25,kE P "__doc__" 204 (Value.none)] 3 }) ::
 (nat_lit 24,{ cls:=Value.type "type",data:=Data.cls { name:="GuiseError",bases:=[Value.type "ValueError"],mro:=[Value.ref 24,Value.type "ValueError",Value.type "Exception",Value.type "BaseException",Value.type "object"],ns:=23,qualname:="GuiseError",subclasses:=[Value.ref 37,Value.ref 49,Value.ref 61] },slots:=#[some (Value.ref 15),none,some (Value.str "GuiseError" 189),some (Value.str "GuiseError" 197),some (Value.builtin "ValueError.__new__"),some (Value.bool true)] }) ::
 (nat_lit 25,{ cls:=Value.type "getset_descriptor",data:=Data.fields #[Value.str "__weakref__" 202,Value.ref 24,Value.builtin "ExceptionGroup.__weakref__",Value.none] }) ::
 (nat_lit 36,{ cls:=Value.type "dict",data:=Data.dict #[kE P "__module__" 214 (Value.str "guisery.errors" 187),kE P "__firstlineno__" 218 (Value.int 4 217),kR P "__static_attributes__" 219 35,kE P "__doc__" 220 (Value.none)] 2 }) ::
 (nat_lit 37,{ cls:=Value.type "type",data:=Data.cls { name:="BadWord",bases:=[Value.ref 24],mro:=[Value.ref 37,Value.ref 24,Value.type "ValueError",Value.type "Exception",Value.type "BaseException",Value.type "object"],ns:=36,qualname:="BadWord" },slots:=#[some (Value.ref 28),none,some (Value.str "BadWord" 207),some (Value.str "BadWord" 215),some (Value.builtin "ValueError.__new__"),some (Value.bool true)] }) ::
 (nat_lit 48,{ cls:=Value.type "dict",data:=Data.dict #[kE P "__module__" 230 (Value.str "guisery.errors" 187),kE P "__firstlineno__" 234 (Value.int 6 233),kR P "__static_attributes__" 235 47,kE P "__doc__" 236 (Value.none)] 2 }) ::
 (nat_lit 49,{ cls:=Value.type "type",data:=Data.cls { name:="BadCount",bases:=[Value.ref 24],mro:=[Value.ref 49,Value.ref 24,Value.type "ValueError",Value.type "Exception",Value.type "BaseException",Value.type "object"],ns:=48,qualname:="BadCount" },slots:=#[some (Value.ref 40),none,some (Value.str "BadCount" 223),some (Value.str "BadCount" 231),some (Value.builtin "ValueError.__new__"),some (Value.bool true)] }) ::
 (nat_lit 60,{ cls:=Value.type "dict",data:=Data.dict #[kE P "__module__" 246 (Value.str "guisery.errors" 187),kE P "__firstlineno__" 250 (Value.int 8 249),kR P "__static_attributes__" 251 59,kE P "__doc__" 252 (Value.none)] 2 }) ::
 (nat_lit 61,{ cls:=Value.type "type",data:=Data.cls { name:="TooMany",bases:=[Value.ref 24],mro:=[Value.ref 61,Value.ref 24,Value.type "ValueError",Value.type "Exception",Value.type "BaseException",Value.type "object"],ns:=60,qualname:="TooMany" },slots:=#[some (Value.ref 52),none,some (Value.str "TooMany" 239),some (Value.str "TooMany" 247),some (Value.builtin "ValueError.__new__"),some (Value.bool true)] }) ::
 (nat_lit 67,kD "turned" 257 258 259 261 11 2 64 181 65 vN vN (vR 66) 260) ::
 (nat_lit 68,kG z54 "turned" "guisery.letters" 255 67) ::
 (nat_lit 74,kD "undone" 263 264 265 271 13 1 69 181 70 (vR 71) (vR 72) (vR 73) 270) ::
 (nat_lit 75,kG z67 "undone" "guisery.letters" 255 74) ::
 (nat_lit 81,kD "breadth" 277 278 279 284 20 1 76 181 77 (vR 78) (vR 79) (vR 80) 283) ::
 (nat_lit 82,kG z4e "breadth" "guisery.machines" 273 81) ::
 (nat_lit 88,kD "section_at" 286 287 288 293 23 2 83 181 84 (vR 85) (vR 86) (vR 87) 292) ::
 (nat_lit 89,kG z5d "section_at" "guisery.machines" 273 88) ::
 (nat_lit 95,kD "read_from" 295 296 297 307 25 3 90 181 91 (vR 92) (vR 93) (vR 94) 306) ::
 (nat_lit 96,kG z8Q "read_from" "guisery.machines" 273 95) ::
 (nat_lit 102,kD "least_form" 309 310 311 321 33 2 97 181 98 (vR 99) (vR 100) (vR 101) 320) ::
 (nat_lit 103,kG z8B "least_form" "guisery.machines" 273 102) ::
 (nat_lit 107,kD "rows_come_to" 323 324 325 327 41 2 104 181 105 vN vN (vR 106) 326) ::
 (nat_lit 108,kG z6i "rows_come_to" "guisery.machines" 273 107) ::
 (nat_lit 112,kD "kinds_of_rows" 329 330 331 333 53 1 109 181 110 vN vN (vR 111) 332) ::
 (nat_lit 113,kG z5x "kinds_of_rows" "guisery.machines" 273 112) ::
 (nat_lit 117,kD "kinds_gone_to" 335 336 337 339 62 2 114 181 115 vN vN (vR 116) 338) ::
 (nat_lit 118,kG zay "kinds_gone_to" "guisery.machines" 273 117) ::
 (nat_lit 122,kD "numbered" 341 342 343 345 64 1 119 181 120 vN vN (vR 121) 344) ::
 (nat_lit 123,kG z2k "numbered" "guisery.machines" 273 122) ::
 (nat_lit 127,kD "check_word" 349 350 351 353 71 2 124 181 125 vN vN (vR 126) 352) ::
 (nat_lit 128,kG z4C "check_word" "guisery.words" 347 127) ::
 (nat_lit 134,kD "worn" 357 358 359 365 75 2 129 181 130 (vR 131) (vR 132) (vR 133) 364) ::
 (nat_lit 135,kG zcs "worn" "guisery.wearing" 355 134) ::
 (nat_lit 141,kD "number_of" 373 374 375 381 82 2 136 181 137 (vR 138) (vR 139) (vR 140) 380) ::
 (nat_lit 142,kG z3m "number_of" "guisery.floors" 367 141) ::
 (nat_lit 148,kD "word_of" 383 384 385 394 88 3 143 181 144 (vR 145) (vR 146) (vR 147) 393) ::
 (nat_lit 149,kG z6k "word_of" "guisery.floors" 367 148) ::
 (nat_lit 155,kD "words_on_floor" 396 397 398 404 99 2 150 181 151 (vR 152) (vR 153) (vR 154) 403) ::
 (nat_lit 156,kG z4b "words_on_floor" "guisery.floors" 367 155) ::
 (nat_lit 160,kD "floor" 406 407 408 410 108 2 157 181 158 vN vN (vR 159) 409) ::
 (nat_lit 161,kG z7k "floor" "guisery.floors" 367 160) ::
 (nat_lit 167,kD "joined" 414 415 416 422 113 2 162 181 163 (vR 164) (vR 165) (vR 166) 421) ::
 (nat_lit 168,kG z2c "joined" "guisery.joining" 412 167) ::
 (nat_lit 172,kD "joined_row" 424 425 426 428 115 3 169 181 170 vN vN (vR 171) 427) ::
 (nat_lit 173,kG z2f "joined_row" "guisery.joining" 412 172) ::
 (nat_lit 179,kD "back" 430 431 432 436 121 1 174 181 175 (vR 176) (vR 177) (vR 178) 435) ::
 (nat_lit 180,kG z5f "back" "guisery.joining" 412 179) ::
 (nat_lit 184,kD "row_back" 438 439 440 442 123 1 181 181 182 vN vN (vR 183) 441) ::
 (nat_lit 185,kG z3t "row_back" "guisery.joining" 412 184) ::
 (nat_lit 191,kD "behind" 444 445 446 452 127 2 186 181 187 (vR 188) (vR 189) (vR 190) 451) ::
 (nat_lit 192,kG z61 "behind" "guisery.joining" 412 191) ::
 (nat_lit 198,kD "branched" 454 455 456 464 131 2 193 181 194 (vR 195) (vR 196) (vR 197) 463) ::
 (nat_lit 199,kG z1h "branched" "guisery.joining" 412 198) ::
 (nat_lit 203,kD "rows_moved" 466 467 468 470 139 2 200 181 201 vN vN (vR 202) 469) ::
 (nat_lit 204,kG z7n "rows_moved" "guisery.joining" 412 203) ::
 (nat_lit 210,kD "_law_cell" 474 475 476 480 142 2 205 181 206 (vR 207) (vR 208) (vR 209) 479) ::
 (nat_lit 211,kG zcz "_law_cell" "law_guisery_k25_whole_floors_joined" 472 210) ::
 (nat_lit 217,kD "_law_letters" 482 483 484 488 148 2 212 181 213 (vR 214) (vR 215) (vR 216) 487) ::
 (nat_lit 218,kG z45 "_law_letters" "law_guisery_k25_whole_floors_joined" 472 217) ::
 (nat_lit 222,kD "_law_in_line" 490 491 492 494 150 3 219 181 220 vN vN (vR 221) 493) ::
 (nat_lit 223,kG z51 "_law_in_line" "law_guisery_k25_whole_floors_joined" 472 222) ::
 (nat_lit 227,kD "_law_shrunk" 496 497 498 500 158 2 224 181 225 vN vN (vR 226) 499) ::
 (nat_lit 228,kG z3J "_law_shrunk" "law_guisery_k25_whole_floors_joined" 472 227) ::
 (nat_lit 234,kD "_law_numbers" 502 503 504 511 181 2 229 181 230 (vR 231) (vR 232) (vR 233) 510) ::
 (nat_lit 235,kG z4f "_law_numbers" "law_guisery_k25_whole_floors_joined" 472 234) ::
 (nat_lit 241,kD "_law_rearranged" 513 514 515 523 192 2 236 181 237 (vR 238) (vR 239) (vR 240) 522) ::
 (nat_lit 242,kG zbt "_law_rearranged" "law_guisery_k25_whole_floors_joined" 472 241) ::
 (nat_lit 246,kD "_law_rows" 525 526 527 529 200 2 243 181 244 vN vN (vR 245) 528) ::
 (nat_lit 247,kG z7J "_law_rows" "law_guisery_k25_whole_floors_joined" 472 246) ::
 (nat_lit 253,kD "_law_guise" 531 532 533 537 219 2 248 181 249 (vR 250) (vR 251) (vR 252) 536) ::
 (nat_lit 254,kG z8J "_law_guise" "law_guisery_k25_whole_floors_joined" 472 253) ::
 (nat_lit 260,kD "_law_stories" 539 540 541 544 221 1 255 181 256 (vR 257) (vR 258) (vR 259) 543) ::
 (nat_lit 261,kG z44 "_law_stories" "law_guisery_k25_whole_floors_joined" 472 260) ::
 (nat_lit 267,kD "_law_both" 546 547 548 553 223 2 262 181 263 (vR 264) (vR 265) (vR 266) 552) ::
 (nat_lit 268,kG zbY "_law_both" "law_guisery_k25_whole_floors_joined" 472 267) ::
 (nat_lit 272,kD "law" 555 556 557 559 230 1 269 181 270 vN vN (vR 271) 558) ::
 (nat_lit 273,kG z8R "law" "law_guisery_k25_whole_floors_joined" 472 272)::[]
def KA:List Addr:=nat_lit 2::nat_lit 3::nat_lit 23::nat_lit 24::nat_lit 25::nat_lit 36::nat_lit 37::nat_lit 48::nat_lit 49::nat_lit 60::nat_lit 61::nat_lit 67::nat_lit 68::nat_lit 74::nat_lit 75::nat_lit 81::nat_lit 82::nat_lit 88::nat_lit 89::nat_lit 95::nat_lit 96::nat_lit 102::nat_lit 103::nat_lit 107::nat_lit 108::nat_lit 112::nat_lit 113::nat_lit 117::nat_lit 118::nat_lit 122::nat_lit 123::nat_lit 127::nat_lit 128::nat_lit 134::nat_lit 135::nat_lit 141::nat_lit 142::nat_lit 148::nat_lit 149::nat_lit 155::nat_lit 156::nat_lit 160::nat_lit 161::nat_lit 167::nat_lit 168::nat_lit 172::nat_lit 173::nat_lit 179::nat_lit 180::nat_lit 184::nat_lit 185::nat_lit 191::nat_lit 192::nat_lit 198::nat_lit 199::nat_lit 203::nat_lit 204::nat_lit 210::nat_lit 211::nat_lit 217::nat_lit 218::nat_lit 222::nat_lit 223::nat_lit 227::nat_lit 228::nat_lit 234::nat_lit 235::nat_lit 241::nat_lit 242::nat_lit 246::nat_lit 247::nat_lit 253::nat_lit 254::nat_lit 260::nat_lit 261::nat_lit 267::nat_lit 268::nat_lit 272::nat_lit 273::[]
end Gu
lay_quick PySem.Challenge.pw_guisery_k25_whole_floors_joined
namespace Gu
open PySem PySem.W PyProof.Rows PySem.W.Fast
noncomputable abbrev pY:Program:=PySem.Challenge.pw_guisery_k25_whole_floors_joined
noncomputable abbrev pQ:Program:=tw4069941351230684628
noncomputable abbrev rY:OpenRow:=PySem.Challenge.rw_guisery_k25_whole_floors_joined.row
noncomputable def viewOf (p:Program):Program:={ p with main:={ p.main with body:=[1,2,3,4,6,7,9,10,11,12,13,14,15,16,17,19,21,23,24,25,26,27,28,30,31,32,33,34,35,36,38,39,40,41,42,43,44,45,46,47,48].map fun i=>p.main.body.getD i (.Pass ⟨0,0,0,0⟩) } }
noncomputable abbrev HK:Hook:=PySem.W.kmHook Gu.KH Gu.KA (fun _=>by kernel_rfl) [84,175,163,194]
theorem pqe:pY=pQ:=te4069941351230684628
set_option maxHeartbeats 0 in
theorem zfK:∀ w os,(zfe tw14364793385576792824 pQ w 11 (some (.ref 6)) 3986 (z3z w os) (topStub pQ)).bind (fun r=>match staticsOk (tw5923862056798008813 pQ.main.body) (z3z w os).abs.heap r.abs.heap && namesBound pQ r.abs.heap && gensDone r.abs && laidKept (z3z w os).abs.heap r.abs.heap with
 | true=>some (tw4187177175401517315 (viewOf pQ) [] (tw5923862056798008813 pQ.main.body) (fun s=>xlAt (viewOf pQ) [] s && recOk [] s) true r.abs,HK.obs r.abs)
 | false=>none)=some (openGood (viewOf pQ) [],HK.val w):=fun w os=>by kernel_rfl
theorem left:LeftO rY.prog (viewOf pY) [] (fun s=>xlAt (viewOf pY) [] s && recOk (RowW.records rY.toRowW) s) HK.obs HK.val 3986:=by
 have h:=zfK
 rw [←te14364793385576792824,←te4187177175401517315,←te5923862056798008813,←pqe] at h
 exact zdM (by kernel_rfl) (by rfl) (fun _=>rfl) h
end Gu
namespace L2
open PySem PySem.Spec PyProof.Rows
def z0M (cells:List (Str × Addr)):List (Str × NameKind)→List (Str × Addr)→List (Str × Addr)
 | [],cs=>cs
 | (n,k)::r,cs=>z0M cells r (if k=.free then (n,(cells.lookup n).getD 0)::cs else cs)
theorem z1T {cells:List (Str × Addr)}:∀ (l:List (Str × NameKind)) (cs:List (Str × Addr)) (x:Str),(∀ y,(y,NameKind.free)∈l→∃ c,cells.lookup y=some c)→((x,NameKind.free)∈l∨cs.lookup x=cells.lookup x)→(z0M cells l cs).lookup x=cells.lookup x
 | [],cs,x,_,h=>by
  rcases h with h | h
  ·cases h
  ·exact h
 | (n,k)::r,cs,x,hc,h=>by
  refine z1T r _ x (fun y hy=>hc y (List.mem_cons_of_mem _ hy)) ?_
  by_cases hk:k=.free
  ·subst hk
   rw [if_pos rfl]
   by_cases e:x=n
   ·subst e
    obtain ⟨c,hcx⟩:=hc x List.mem_cons_self
    right
    rw [List.lookup_cons,hcx]
    simp
   ·rcases h with h | h
    ·rcases List.mem_cons.mp h with h | h
     ·exact absurd (congrArg Prod.fst h) e
     ·exact .inl h
    ·right
     have:(x == n)=false:=by simpa using e
     rw [List.lookup_cons,this]
     exact h
  ·rw [if_neg hk]
   rcases h with h | h
   ·rcases List.mem_cons.mp h with h | h
    ·exact absurd (congrArg Prod.snd h).symm hk
    ·exact .inl h
   ·exact .inr h
theorem z3y {cells:List (Str × Addr)}:∀ (l:List (Str × NameKind)) (cs:List (Str × Addr)) (x:Str),(x,NameKind.free)∉l→(z0M cells l cs).lookup x=cs.lookup x
 | [],cs,x,_=>rfl
 | (n,k)::r,cs,x,h=>by
  refine (z3y r _ x (fun hy=>h (List.mem_cons_of_mem _ hy))).trans ?_
  by_cases hk:k=.free
  ·subst hk
   rw [if_pos rfl]
   have e:x≠n:=fun e=>h (by subst e;exact List.mem_cons_self)
   have:(x == n)=false:=by simpa using e
   rw [List.lookup_cons,this]
  ·rw [if_neg hk]
theorem z29 {scope:Scope} {env:Env} (h:∀ y,(y,NameKind.free)∈scope.names→∃ c,env.cells.lookup y=some c):closureFor scope env=pure (z0M env.cells scope.names []):=by
 have key:∀ (l:List (Str × NameKind)) (cs:List (Str × Addr)),(∀ y,(y,NameKind.free)∈l→∃ c,env.cells.lookup y=some c) →
   (forIn l cs (fun (x:Str × NameKind) (r:List (Str × Addr))=>if (x.2 == NameKind.free)=true then (do let c ←cellOf env x.1;pure (ForInStep.yield ((x.1,c)::r)):Sem _) else pure (ForInStep.yield r)):Sem (List (Str × Addr)))=pure (z0M env.cells l cs):=by
  intro l
  induction l with
  | nil=>intro cs _;rfl
  | cons x r ih =>
   intro cs hc
   obtain ⟨n,k⟩:=x
   rw [List.forIn_cons]
   by_cases hk:k=.free
   ·subst hk
    obtain ⟨c,e⟩:=hc n List.mem_cons_self
    have e1:cellOf env n=pure c:=by unfold cellOf;rw [e]
    have e2:z0M env.cells ((n,NameKind.free)::r) cs=z0M env.cells r ((n,c)::cs):=by
     show z0M env.cells r (if NameKind.free=NameKind.free then (n,(env.cells.lookup n).getD 0)::cs else cs)=_
     rw [if_pos rfl,e]
     all_goals rfl
    rw [e2,←ih _ (fun y hy=>hc y (List.mem_cons_of_mem _ hy))]
    simp only [beq_self_eq_true,if_true,e1]
    rfl
   ·have hb:(k == NameKind.free)=false:=by simpa using hk
    have e2:z0M env.cells ((n,k)::r) cs=z0M env.cells r cs:=by
     show z0M env.cells r (if k=NameKind.free then _ else cs)=_
     rw [if_neg hk]
    rw [e2,←ih _ (fun y hy=>hc y (List.mem_cons_of_mem _ hy))]
    simp only [hb,Bool.false_eq_true,if_false]
    rfl
 have:=key scope.names [] h
 unfold closureFor
 simp only [] at this ⊢
 exact (congrArg (fun m=>m >>= pure) this).trans rfl
def noE:Value→Shared→Prop:=fun _ _=>False
section
variable {prog:Program} {w:World} {A:Around} {R:Result→Shared→Prop} {s:Shared}
theorem z9y {elt tg iter:Expr} {scope:Scope} {pos:Pos} {it acc:Value} {env:Env} (I:Nat→Shared→Prop)
  (z59:∀ n s,I n s→wpAny (model prog w) A (pyNext it) (fun r s1=>match r with
   | none=>R (.ok .next) s1
   | some v=>wpAny (model prog w) A (letOwnedTupleGo tg it v) (fun _ s2=>wpAny (model prog w) A (assign tg env v) (fun _ s3=>wpAny (model prog w) A (eval elt env) (fun x s4 =>
     wpAny (model prog w) A (call (.builtin "list.append") [acc,x]) (fun _ s5=>∃ m,m < n∧I m s5) noE s4) noE s3) noE s2) noE s1) noE s)
  (n:Nat) (h:I n s):codeAny (model prog w) A (.compLoop (.ListComp elt [⟨tg,iter,[],0⟩] scope pos) 0 it acc env) R s:=by
 have no:∀ (P:Value→Shared→Prop) (a:Value) (b:Shared),noE a b→P a b:=fun _ _ _ z=>False.elim z
 refine codeAny_loop rfl I (fun n s hI=>?_) n h
 show wpAny _ _ ((compTurn (.ListComp elt [⟨tg,iter,[],0⟩] scope pos) 0 it acc env).onRaise
  (fun x=>do noteFrame x env;theTreesLotGoes x)) _ _ s
 refine wpAny_noted ?_
 rw [compTurn_list1]
 refine wpAny_bind (wpAny_standAt (wpAny_bind (wpAny_mono (z59 n s hI) (fun r s1 h1=>?_) (no _))))
 cases r with
 | none=>exact wpAny_pure h1
 | some v =>
  refine wpAny_bind (wpAny_mono h1 (fun _ s2 h2=>?_) (no _))
  refine wpAny_bind (wpAny_mono h2 (fun _ s3 h3=>?_) (no _))
  refine wpAny_bind (wpAny_bind (wpAny_mono h3 (fun x s4 h4=>?_) (no _)))
  exact wpAny_bind (wpAny_mono h4 (fun _ s5 h5=>wpAny_pure (wpAny_pure ⟨rfl,h5⟩)) (no _))
end
def zef (env:Env) (p:Str × NameKind):Str × NameKind:=if (p.2 == NameKind.free && env.scope.kind == .function && env.kindOf p.1 == some .cell)=true then (p.1,NameKind.cell) else p
theorem z8O {env:Env} {p:Str × NameKind} (h:(p.2 == NameKind.free && env.scope.kind == .function && env.kindOf p.1 == some .cell)=true):zef env p=(p.1,NameKind.cell):=if_pos h
theorem z8e {env:Env} {p:Str × NameKind} (h:¬ (p.2 == NameKind.free && env.scope.kind == .function && env.kindOf p.1 == some .cell)=true):zef env p=p:=if_neg h
theorem z24 {env:Env} {x:Str}:∀ {l:List (Str × NameKind)},l.lookup x=some .free→(l.map (zef env)).lookup x=some .cell∨(l.map (zef env)).lookup x=some .free
 | [],h=>by simp at h
 | (n,k)::r,h=>by
  rw [List.map_cons]
  by_cases hc:(k == NameKind.free && env.scope.kind == .function && env.kindOf n == some .cell)=true
  ·rw [z8O (p:=(n,k)) hc]
   cases hx:x == n with
   | true=>left;rw [List.lookup_cons,hx]
   | false =>
    rw [List.lookup_cons,hx] at h
    rw [List.lookup_cons,hx]
    exact z24 h
  ·rw [z8e (p:=(n,k)) hc]
   cases hx:x == n with
   | true=>right;rw [List.lookup_cons,hx] at h;rw [List.lookup_cons,hx];exact h
   | false =>
    rw [List.lookup_cons,hx] at h
    rw [List.lookup_cons,hx]
    exact z24 h
theorem z2K {env:Env} {x:Str} {kd:NameKind} (hkd:kd=.cell∨kd=.free):∀ {l:List (Str × NameKind)},(∀ y∈l,y.2≠.cell)→(l.map (zef env)).lookup x=some kd→(x,NameKind.free)∈l
 | [],_,h=>by simp at h
 | (n,k)::r,hn,h=>by
  rw [List.map_cons] at h
  have hk:k≠.cell:=hn (n,k) List.mem_cons_self
  have up:(r.map (zef env)).lookup x=some kd→(x,NameKind.free)∈(n,k)::r:=fun h2=>List.mem_cons_of_mem _ (z2K hkd (fun y hy=>hn y (List.mem_cons_of_mem _ hy)) h2)
  by_cases hc:(k == NameKind.free && env.scope.kind == .function && env.kindOf n == some .cell)=true
  ·rw [z8O (p:=(n,k)) hc] at h
   cases hx:x == n with
   | true =>
    have hxn:x=n:=by simpa using hx
    subst hxn
    have z:=hc
    simp only [Bool.and_eq_true,beq_iff_eq] at z
    rw [z.1.1]
    exact List.mem_cons_self
   | false=>rw [List.lookup_cons,hx] at h;exact up h
  ·rw [z8e (p:=(n,k)) hc] at h
   cases hx:x == n with
   | true =>
    have hxn:x=n:=by simpa using hx
    subst hxn
    rw [List.lookup_cons,hx] at h
    have e:k=kd:=Option.some.inj h
    rcases hkd with z | z
    ·exact absurd (e.trans z) hk
    ·rw [e,z];exact List.mem_cons_self
   | false=>rw [List.lookup_cons,hx] at h;exact up h
def z1Z (X:Cx) (N:List Str) (scope:Scope) (cl:List (Str × Addr)) (C:Addr) (ex:List Addr) (s:Shared) (H:Hp):Cx where
 prog:=X.prog
 w:=X.w
 K:=X.K
 mg:=X.mg
 base:=X.base
 A:=X.A
 N:=N
 s₀:=s
 H₀:=H
 env:=compEnvC scope cl C X.env
 outer:=X.stack
 stack:=X.stack
 ex:=ex
 fn:=fun _=>false
 calm:=X.calm
 pn:=[]
 xe:=noE
structure z0Z (XN:List Str) (xsc:Scope) (N:List Str) (ix:List (Option Nat)) (scope:Scope):Prop where
 kind:scope.kind=.function:=by rfl
 nocell:∀ y∈scope.names,y.2≠.cell:=by decide +kernel
 names:∀ y∈scope.names,y.2=.local→scope.names.lookup y.1=some .local:=by decide +kernel
 frees:∀ y∈scope.names,y.2=.free→xsc.names.lookup y.1=some .cell∨xsc.names.lookup y.1=some .free:=by decide +kernel
 len:ix.length=N.length:=by rfl
 has:((ix.zip N).all fun p=>match p.1 with | none=>true | some j=>XN[j]? == some p.2 && scope.names.lookup p.2 == some .free)=true:=by decide +kernel
 nd:N.Nodup:=by decide +kernel
def z1l (ix:List (Option Nat)) (σ:St):St:=ix.map fun o=>o.bind fun j=>(σ[j]?).join
theorem z0Z.at_ {XN:List Str} {xsc:Scope} {N:List Str} {ix:List (Option Nat)} {scope:Scope} (S:z0Z XN xsc N ix scope) {i:Nat} {x:Str} {v:V} {σ:St} (hi:N[i]?=some x) (hv:(z1l ix σ)[i]?=some (some v)) :
  ∃ j:Nat,XN[j]?=some x∧scope.names.lookup x=some .free∧σ[j]?=some (some v):=by
 unfold z1l at hv
 rw [zGm] at hv
 cases e:ix[i]? with
 | none=>rw [e] at hv;cases hv
 | some o =>
  rw [e] at hv
  cases o with
  | none=>cases hv
  | some j =>
   have hv':(σ[j]?).join=some v:=Option.some.inj hv
   have hm:((some j:Option Nat),x)∈ix.zip N:=by
    have:(ix.zip N)[i]?=some (some j,x):=by rw [List.getElem?_zip_eq_some];exact ⟨e,hi⟩
    exact List.mem_of_getElem? this
   have q:=List.all_eq_true.mp S.has _ hm
   simp only [Bool.and_eq_true,beq_iff_eq] at q
   refine ⟨j,q.1,q.2,?_⟩
   cases z:σ[j]? with
   | none=>rw [z] at hv';cases hv'
   | some u=>rw [z] at hv';exact congrArg some hv'
section
variable {X:Cx} {pins:List (Addr × Obj)} {σ:St} {H:Hp} {s s1:Shared} {N:List Str} {ix:List (Option Nat)} {scope:Scope} {fp:List Addr} {C:Addr}
theorem z0U (I:Inv X pins σ H s) (S:z0Z X.N X.env.scope N ix scope):∀ y,(y,NameKind.free)∈scope.names→∃ c,X.env.cells.lookup y=some c:=fun y hy=>I.ok.has y (S.frees _ hy rfl)
theorem z1U (I:Inv X pins σ H s) (S:z0Z X.N X.env.scope N ix scope) {x:Str} {c:Addr} (h:(z0M X.env.cells scope.names []).lookup x=some c):X.env.cells.lookup x=some c:=by
 by_cases hm:(x,NameKind.free)∈scope.names
 ·rw [←z1T scope.names [] x (z0U I S) (.inl hm)];exact h
 ·rw [z3y scope.names [] x hm] at h;cases h
theorem zbO (I:Inv X pins σ H s) (S:z0Z X.N X.env.scope N ix scope) (hC:C=s.heap.objs.size) (hf:∀ b∈fp,z9F X pins H b) (hfl:∀ b∈fp,b < s.heap.objs.size) {h1:Heap} {m:Str→Option Value} {tk:Nat} (hn:h1.Ns C m)
  (hk:∀ b o,s.heap.get? b=some o→h1.get? b=some o) :
  Inv (z1Z X N scope (z0M X.env.cells scope.names []) C fp s H) [] (z1l ix σ) H { s with heap:=h1,toks:=tk }:=by
 have hne:∀ {b:Addr} {o:Obj},X.base.get? b=some o→b∉fp:=fun {b o} e hb=>by
  obtain ⟨_,_,_,hx,_⟩:=hf b hb
  rcases hx with hx | hx
  ·exact I.ok.noex b o e hx
  ·exact absurd (Nat.lt_of_lt_of_le (Heap.lt_size (I.ok.bs b o e).1) hx) (Nat.lt_irrefl _)
 refine ⟨⟨I.ok.mod,S.kind,I.ok.glob,I.ok.blt,Nat.le_of_eq hC.symm,?_,?_,?_,I.ok.hd,I.ok.frames,.inl rfl,?_,I.bs,Nat.le_trans I.ok.bsz I.sz,fun b o e=>hne e,?_,I.stack,I.stkFree⟩,
  rfl,I.bare,Un.kept hk,⟨m,hn,?_⟩,?_,I.hok.fresh (Nat.le_of_eq hC.symm),?_,fun p hp=>absurd (show p∈([]:List (Addr × Obj)) from hp) (by simp),I.hok.kept hk,?_⟩
 ·intro x y c h1 h2
  exact I.ok.inj x y c (z1U I S h1) (z1U I S h2)
 ·intro x hx
  have hm:(x,NameKind.free)∈scope.names:=by
   rcases hx with hx | hx
   ·exact z2K (.inl rfl) S.nocell hx
   ·exact z2K (.inr rfl) S.nocell hx
  obtain ⟨c,e⟩:=z0U I S x hm
  exact ⟨c,(z1T scope.names [] x (z0U I S) (.inl hm)).trans e⟩
 ·intro x c hx;cases hx
 ·intro b hb
  obtain ⟨_,_,_,_,f4,_⟩:=hf b hb
  refine ⟨fun e=>?_,fun x c e=>f4 x c (z1U I S e)⟩
  have z:=hfl b hb
  have e':b=C:=e
  rw [e',hC] at z
  exact Nat.lt_irrefl _ z
 ·intro b hb hb2
  obtain ⟨_,f1,f2,_⟩:=hf b hb
  exact (List.mem_cons.mp (I.stkSub b hb2)).elim f1 f2
 ·intro i x v e1 e2 e3
  obtain ⟨j,g1,g2,g3⟩:=S.at_ e1 e2
  have hm:(x,NameKind.free)∈scope.names:=PySem.mem_of_lookup g2
  have hk2:=S.frees _ hm rfl
  obtain ⟨m0,hn0,hl0⟩:=id I.loc
  obtain ⟨u,r,l⟩:=hl0 j x v g1 g3 (hk2.elim (fun z=>.inr (.inl z)) (fun z=>.inr (.inr z)))
  refine ⟨u,r,.inr ⟨z24 g2,?_⟩⟩
  rcases l with ⟨k,_⟩ | ⟨k,c,e,z⟩
  ·have k':X.env.scope.names.lookup x=some .local:=k
   rcases hk2 with z | z<;>(rw [k'] at z;cases z)
  ·refine ⟨c,(z1T scope.names [] x (z0U I S) (.inl hm)).trans e,?_⟩
   obtain ⟨o,ho,hd⟩:=z
   exact ⟨o,hk _ _ ho,hd⟩
 ·intro x c e
  obtain ⟨v,o,ho,hd⟩:=I.cell x c (z1U I S e)
  exact ⟨v,o,hk _ _ ho,hd⟩
 ·intro x c e
  exact I.freeC x c (z1U I S e)
 ·unfold z1l
  rw [zLm]
  exact S.len
end
end L2
namespace L2
open PySem PySem.Spec PyProof.Rows
def z6y (ix:List (Option Nat)) (J:It) (g:TG) (te:TE) (σ:St) (l:Addr) (H0:Hp) (Qe:Hp→Prop):Prop :=
 ∃ W:Nat→Nat→List V→Hp→Prop,(∃ m,W 0 m [] H0)∧∀ i m ys H,W i m ys H→H l=some (.lst ys) →
  (J.stop i H∧Qe H)∨(J.go i H∧ys.length < sizeLine∧∃ N:List V→Hp→Prop,(∀ zs H',N zs H'→∃ m',m' < m∧W (i+1) m' zs H')∧∀ x H',J.yld i H x H'→g x (z1l ix σ) H' fun σ2 H2=>te σ2 H2 fun v H3 =>
   H3 l=some (.lst ys)∧N (ys++[v]) (upd H3 l (.lst (ys++[v]))))
def zeL (ix:List (Option Nat)) (wi:TI) (g:TG) (te:TE):TE:=fun σ H Q=>wi σ H fun J H1=>∀ l,H1 l=none→z6y ix J g te σ l (upd H1 l (.lst [])) fun H'=>Q (.ref l) H'
section
variable {X:Cx} {pins:List (Addr × Obj)} {σ:St} {H:Hp} {s:Shared} {N:List Str} {ix:List (Option Nat)} {scope:Scope} {elt iter tg:Expr} {pos:Pos} {g:TG} {te:TE} {E:Value→Shared→Prop}
theorem z9A {C:Addr} {fp:List Addr} {pins':List (Addr × Obj)} {σ':St} {Hc:Hp} {s':Shared} (I:Inv X pins σ H s) (S:z0Z X.N X.env.scope N ix scope)
  (J:Inv (z1Z X N scope (z0M X.env.cells scope.names []) C fp s H) pins' σ' Hc s'):Inv (z1Z X N scope (z0M X.env.cells scope.names []) C fp s H) [] (z1l ix σ) Hc s':=by
 obtain ⟨m,hn,_⟩:=J.loc
 refine ⟨J.ok,J.os,J.bare,J.base,⟨m,hn,?_⟩,J.cell,J.free,J.freeC,fun p hp=>absurd (show p∈([]:List (Addr × Obj)) from hp) (by simp),J.hok,?_⟩
 ·intro i x v e1 e2 e3
  obtain ⟨j,g1,g2,g3⟩:=S.at_ e1 e2
  have hm:(x,NameKind.free)∈scope.names:=PySem.mem_of_lookup g2
  have hk2:=S.frees _ hm rfl
  obtain ⟨m0,hn0,hl0⟩:=id I.loc
  obtain ⟨u,r,l⟩:=hl0 j x v g1 g3 (hk2.elim (fun z=>.inr (.inl z)) (fun z=>.inr (.inr z)))
  refine ⟨u,r,.inr ⟨z24 g2,?_⟩⟩
  rcases l with ⟨k,_⟩ | ⟨k,c,e,z⟩
  ·have k':X.env.scope.names.lookup x=some .local:=k
   rcases hk2 with z | z<;>(rw [k'] at z;cases z)
  ·have ec:(z0M X.env.cells scope.names []).lookup x=some c:=(z1T scope.names [] x (z0U I S) (.inl hm)).trans e
   refine ⟨c,ec,?_⟩
   obtain ⟨o,ho,hd⟩:=z
   obtain ⟨sl,q⟩:=J.base.any ho (I.freeC x c e) (fun hx=>(J.ok.exf c hx).2 x c ec rfl)
   exact ⟨_,q,hd⟩
 ·unfold z1l
  rw [zLm]
  exact S.len
theorem z5F {it:Addr} {fp:List Addr} {tn:Nat→Heap→Prop} {J:It} {Qe:Addr→Hp→Prop} {RR:Value→Addr→Result→Shared→Prop} (hc:X.calm=true) (S:z0Z X.N X.env.scope N ix scope)
  (hg:∀ cl C ex s H,PG (z1Z X N scope cl C ex s H) tg g) (he:∀ cl C ex s H,PE (z1Z X N scope cl C ex s H) elt te)
  (I:Inv X pins σ H s) (T:zcP X.prog X.w X.K tg J fp it tn) (st:tn 0 s.heap) (hf:∀ b∈fp,z9F X pins H b)
  (hw:∀ l,H l=none→z6y ix J g te σ l (upd H l (.lst [])) (Qe l))
  (hRR:∀ l C s' H' m,s'.heap.Ns C m→Inv X pins σ H' s'→z9F X pins H' C→Qe l H'→RR (.ref l) C (.ok .next) s') :
  wpAny (model X.prog X.w) X.A (newList []) (fun acc s3=>wpAny (model X.prog X.w) X.A (newFunctionEnv scope X.env.globals (z0M X.env.cells scope.names []) [] X.env.qual none .none (some X.env)) (fun cenv s4 =>
   codeAny (model X.prog X.w) X.A (.compStart (.ListComp elt [⟨tg,iter,[],0⟩] scope pos) 0 (.ref it) acc { cenv with scope:=relabel scope X.env }) (RR acc cenv.locals) s4) E s3) E s:=by
 have hlt:∀ b∈fp,b < s.heap.objs.size:=fun b hb=>by
  obtain ⟨o,e,_⟩:=T.obj 0 s.heap st b hb
  exact Heap.lt_size e
 have hl0:H s.heap.objs.size=none:=I.fresh
 obtain ⟨W,⟨m0,w0⟩,z59⟩:=hw s.heap.objs.size hl0
 refine wpAny_newObj_type ?_
 generalize hs3:({ s with heap:=s.heap.push { cls:=.type "list",dict:=none,data:=.seq ([]:List Value).toArray } }:Shared)=s3
 have I3:Inv X pins σ (upd H s.heap.objs.size (.lst [])) s3:=by
  rw [←hs3]
  exact I.lnew (its:=[]) (t':=s.toks) .nil (Nat.zero_le _)
 have k3:∀ b o,s.heap.get? b=some o→s3.heap.get? b=some o:=fun b o e=>by
  rw [←hs3];exact Heap.get?_push_of_some _ e
 have sz3:s3.heap.objs.size=s.heap.objs.size+1:=by rw [←hs3];exact Heap.size_push ..
 have lnfp:s.heap.objs.size∉fp:=fun hb=>Nat.lt_irrefl _ (hlt _ hb)
 have st3:tn 0 s3.heap:=T.keep 0 _ _ st fun b _ o e=>k3 b o e
 have hf3:∀ b∈fp,z9F X pins (upd H s.heap.objs.size (.lst [])) b:=fun b hb=>by
  obtain ⟨f0,f⟩:=hf b hb
  have nb:b≠s.heap.objs.size:=fun e=>lnfp (by rw [←e];exact hb)
  exact ⟨by rw [z07 nb];exact f0,f⟩
 have hlt3:∀ b∈fp,b < s3.heap.objs.size:=fun b hb=>by rw [sz3];exact Nat.lt_succ_of_lt (hlt b hb)
 clear hs3
 refine wpAny_newFunctionEnv S.nocell (by intro y hy;simp at hy) (fun h1 hn1 hb1=>?_) S.kind
 have hk1:∀ b o,s3.heap.get? b=some o→h1.get? b=some o:=fun b o e =>
  (hb1.2 b (Nat.ne_of_lt (Heap.lt_size e))).trans (Heap.get?_push_of_some _ e)
 have J0:Inv (z1Z X N scope (z0M X.env.cells scope.names []) s3.heap.objs.size fp s3 (upd H s.heap.objs.size (.lst []))) [] (z1l ix σ) (upd H s.heap.objs.size (.lst [])) { s3 with heap:=h1,toks:=s3.toks+([]:List (Str × Value)).length } :=
  zbO I3 S rfl hf3 hlt3 hn1 hk1
 have st1:tn 0 h1:=T.keep 0 _ _ st3 fun b _ o e=>hk1 b o e
 have fpY:∀ {Hc:Hp},(∀ b∈fp,Hc b=none)→∀ b∈fp,z9F (z1Z X N scope (z0M X.env.cells scope.names []) s3.heap.objs.size fp s3 (upd H s.heap.objs.size (.lst []))) [] Hc b:=fun {Hc} hn b hb=>by
  obtain ⟨_,f1,f2,_,f4,_⟩:=hf3 b hb
  refine ⟨hn b hb,Nat.ne_of_lt (hlt3 b hb),fun hb2=>(List.mem_cons.mp (I3.stkSub b hb2)).elim f1 f2,.inl hb,fun x c e=>f4 x c (z1U I3 S e),fun p hp=>absurd (show p∈([]:List (Addr × Obj)) from hp) (by simp)⟩
 have loop:∀ s4:Shared,s4=({ s3 with heap:=h1,toks:=s3.toks+([]:List (Str × Value)).length }:Shared)→codeAny (model X.prog X.w) X.A (.compLoop (.ListComp elt [⟨tg,iter,[],0⟩] scope pos) 0 (.ref it) (.ref s.heap.objs.size)
   (compEnvC scope (z0M X.env.cells scope.names []) s3.heap.objs.size X.env)) (RR (.ref s.heap.objs.size) s3.heap.objs.size) s4:=by
  intro s4 hs4
  subst hs4
  refine z9y (fun n s'=>∃ i ys Hc,Inv (z1Z X N scope (z0M X.env.cells scope.names []) s3.heap.objs.size fp s3 (upd H s.heap.objs.size (.lst []))) [] (z1l ix σ) Hc s'∧tn i s'.heap∧(∀ b∈fp,Hc b=none)∧Hc s.heap.objs.size=some (.lst ys)∧W i n ys Hc) ?_ m0 ⟨0,[],_,J0,st1,fun b hb=>(hf3 b hb).1,z01,w0⟩
  rintro n s5 ⟨i,ys,Hc,J5,st5,fr5,hl5,w5⟩
  rcases z59 i n ys Hc w5 hl5 with ⟨stop,qe⟩ | ⟨go,hz,NN,hNN,step⟩
  ·refine thn (T.done (z1Z X N scope (z0M X.env.cells scope.names []) s3.heap.objs.size fp s3 (upd H s.heap.objs.size (.lst []))) rfl rfl rfl hc i [] s5 _ Hc noE J5 (fpY fr5) st5 stop) fun r s6 hz8=>?_
   obtain ⟨hr,J6⟩:=hz8
   subst hr
   have I6:Inv X pins σ Hc s6:=I3.call' (ch:=fp) J6.os J6.base J6.hok J6.bare fun b hb=>by
    obtain ⟨_,f1,f2,f3,f4,f5⟩:=hf3 b hb
    exact ⟨f3,f1,f4,f5⟩
   obtain ⟨m6,hn6,_⟩:=J6.loc
   exact hRR _ _ s6 Hc m6 hn6 I6 (I3.fpOk (Nat.le_refl _) J6.free) qe
  ·refine thn (T.item (z1Z X N scope (z0M X.env.cells scope.names []) s3.heap.objs.size fp s3 (upd H s.heap.objs.size (.lst []))) rfl rfl rfl hc i [] s5 _ Hc noE J5 (fpY fr5) st5 go) fun r s6 hz8=>?_
   obtain ⟨u,hr,h6⟩:=hz8
   subst hr
   refine thn h6 fun _ s7 hz8=>?_
   obtain ⟨x,H7,J7,r7,y7,st7,fr7⟩:=hz8
   have J7':=J7.pinned (fpY fr7) (T.obj _ _ st7)
   refine thn (hg _ _ _ _ _ _ s7 _ H7 x u _ J7' r7 (step x H7 y7)) fun _ s8 hz8=>?_
   obtain ⟨σ8,H8,J8,q8⟩:=hz8
   refine z1B (he _ _ _ _ _ _ s8 σ8 H8 _ J8 q8) fun y s9 v H9 J9 r9 hz9=>?_
   obtain ⟨hl9,n9⟩:=hz9
   obtain ⟨m',hm',w9⟩:=hNN _ _ n9
   refine thn (z0J (X:=z1Z X N scope (z0M X.env.cells scope.names []) s3.heap.objs.size fp s3 (upd H s.heap.objs.size (.lst []))) _ s9 σ8 H9 (.ref s.heap.objs.size) [v] (.ref s.heap.objs.size) [y]
    (fun z Hz=>z=.non∧Hz=upd H9 s.heap.objs.size (.lst (ys++[v]))) J9 rfl (.cons r9 .nil) ⟨_,ys,v,rfl,rfl,hl9,hz,rfl,rfl⟩) fun _ s10 ⟨_,H10,J10,_,_,e10⟩=>?_
   subst e10
   have len8:(z1l ix σ).length=σ8.length:=by
    rw [J10.len]
    unfold z1l
    rw [zLm]
    exact S.len
   refine ⟨m',hm',i+1,ys++[v],_,?_,T.keep _ _ _ st7 fun b hb o e=>(J10.pin (b,o) (List.mem_append_right _ (List.mem_append_right _ (z2N hb e)))).1,fun b hb=>?_,z01,w9⟩
   ·exact z9A I3 S J10
   ·obtain ⟨o,e,d⟩:=T.obj _ _ st7 b hb
    exact (J10.pin (b,o) (List.mem_append_right _ (List.mem_append_right _ (z2N hb e)))).2.1
 exact codeAny_compStart_list (loop _ rfl) (T.self _ 0 _ _ _ st1 (loop _ rfl))
theorem z0N {wi:TI} (hc:X.calm=true) (S:z0Z X.N X.env.scope N ix scope) (hi:PI X tg iter wi)
  (hg:∀ cl C ex s H,PG (z1Z X N scope cl C ex s H) tg g) (he:∀ cl C ex s H,PE (z1Z X N scope cl C ex s H) elt te)
  (hs:∀ x,foldedSetIterable iter X.env x=pure x:=by intro _;rfl):PE X (.ListComp elt [⟨tg,iter,[],0⟩] scope pos) (zeL ix wi g te):=by
 intro pins s σ H Q I h
 rw [eval_ListComp]
 refine wpAny_comprehension_free (use:=none) rfl hs (z29 (z0U I S)) S.kind S.names (thn (hi pins s σ H _ I h) fun v s1 h1=>thn h1 fun itv s2 h2=>?_)
 obtain ⟨it,fp,tn,J,H2,e,I2,T,st2,f2,hw⟩:=h2
 subst e
 refine z5F (RR:=fun acc C=>compPost (model X.prog X.w) X.A X.xe none (EP X pins σ Q) acc C) hc S hg he I2 T st2 f2 hw fun l C s' H' m hn I' fC q=>⟨m,hn,fun h' hs'=>?_⟩
 obtain ⟨c0,c1,_,c3,c4,c5⟩:=fC
 exact ⟨.ref l,H',I'.turned (t':=s'.toks) (fun b o hb e=>(hs'.2 b hb).trans e) c0 c1 c3 c4 c5,rfl,q⟩
theorem zdJ {wi:TI} {i:Nat} {x:Str} {spos pos':Pos} (hc:X.calm=true) (S:z0Z X.N X.env.scope N ix scope) (hi:PI X tg iter wi)
  (hg:∀ cl C ex s H,PG (z1Z X N scope cl C ex s H) tg g) (he:∀ cl C ex s H,PE (z1Z X N scope cl C ex s H) elt te)
  (hN:X.N.Nodup) (hx:X.N[i]?=some x) (hl:X.env.scope.names.lookup x=some .local)
  (hsw:swapsWith (.ListComp elt [⟨tg,iter,[],0⟩] scope pos) (some (.Name x pos')) spos.line X.env=pure true:=by rfl)
  (hs:∀ x,foldedSetIterable iter X.env x=pure x:=by intro _;rfl):PS X (.Assign [.Name x pos'] (.ListComp elt [⟨tg,iter,[],0⟩] scope pos) spos) (zgc (zeL ix wi g te) (zcA i)):=by
 intro pins s σ H D I h
 rw [exec_Assign_Name_used _ _ _ _ hsw]
 refine wpAny_bind (wpAny_standAt (wpAny_bind ?_))
 show wpAny _ _ (comprehension (.ListComp elt [⟨tg,iter,[],0⟩] scope pos) scope X.env _ (newList []) false (eval iter X.env) (some (assign (.Name x pos') X.env)) >>= fun _=>pure ()) _ _ s
 refine wpAny_bind (wpAny_mono (wpAny_comprehension_free (use:=some (assign (.Name x pos') X.env)) (Q:=fun _ s'=>SP X pins D .next s') rfl hs (z29 (z0U I S)) S.kind S.names
  (thn (hi pins s σ H _ I h) fun v s1 h1=>thn h1 fun itv s2 h2=>?_)) (fun _ s' q=>wpAny_pure (wpAny_pure q)) fun _ _ e=>e)
 obtain ⟨it,fp,tn,J,H2,e,I2,T,st2,f2,hw⟩:=h2
 subst e
 refine z5F (RR:=fun acc C=>compPost (model X.prog X.w) X.A X.xe (some (assign (.Name x pos') X.env)) (fun _ s'=>SP X pins D .next s') acc C) hc S hg he I2 T st2 f2 hw fun l C s' H' m hn I' fC q=>?_
 obtain ⟨c0,c1,c2,c3,c4,c5⟩:=fC
 show wpAny _ _ (assign (.Name x pos') X.env (.ref l)) _ _ _
 refine wpAny_assign_Name (z6K I' hN hx (.inl hl) (v:=.ref l) rfl (fun s'' I'' hz8=>?_) (.inr hl))
 obtain ⟨a,sb,ha⟩:=hz8
 have haC:C≠a:=by
  rcases ha with ha | ha
  ·rw [ha];exact c1
  ·exact fun z=>c4 x a ha z.symm
 refine ⟨m,hn.sameBut sb haC,fun h' hs'=>?_⟩
 exact ⟨_,H',I''.turned (t':=s''.toks) (fun b o hb e=>(hs'.2 b hb).trans e) c0 c1 c3 c4 c5,q⟩
end
theorem z4V {J:It} {n:Nat} {l:Addr} {ix:List (Option Nat)} {g:TG} {te:TE} {σ:St} {H0:Hp} {Qe:Hp→Prop} (Pv:Nat→List V→Hp→Prop) (h0:Pv 0 [] H0)
  (hs:∀ i ys H,i < n→Pv i ys H→H l=some (.lst ys)→J.go i H∧ys.length < sizeLine∧∀ x H',J.yld i H x H'→g x (z1l ix σ) H' fun σ2 H2=>te σ2 H2 fun v H3=>H3 l=some (.lst ys)∧Pv (i+1) (ys++[v]) (upd H3 l (.lst (ys++[v]))))
  (hd:∀ ys H,Pv n ys H→H l=some (.lst ys)→J.stop n H∧Qe H):z6y ix J g te σ l H0 Qe:=by
 refine ⟨fun i m ys H=>m=n - i∧i≤n∧Pv i ys H,⟨n,by simp,Nat.zero_le _,h0⟩,?_⟩
 rintro i m ys H ⟨rfl,hi,p⟩ hl
 by_cases hlt:i < n
 ·obtain ⟨h1,h2,h3⟩:=hs i ys H hlt p hl
  exact .inr ⟨h1,h2,Pv (i+1),fun zs H' q=>⟨n - (i+1),by lia,rfl,hlt,q⟩,h3⟩
 ·have e:i=n:=by lia
  subst e
  exact .inl (hd ys H p hl)
theorem z2L {K:PySem.W.Frag} {a l:Addr} {xs:List V} {ix:List (Option Nat)} {g:TG} {te:TE} {σ:St} {H0:Hp} {Qe:Hp→Prop} (Pv:Nat→List V→Hp→Prop) (h0:Pv 0 [] H0) (hl:∀ i ys H,i≤xs.length→Pv i ys H→SqL K H a xs) (hz:xs.length≤sizeLine)
  (hn:∀ i ys H,Pv i ys H→ys.length=i)
  (hs:∀ i x ys H,xs[i]?=some x→Pv i ys H→H l=some (.lst ys)→g x (z1l ix σ) H fun σ2 H2=>te σ2 H2 fun v H3=>H3 l=some (.lst ys)∧Pv (i+1) (ys++[v]) (upd H3 l (.lst (ys++[v]))))
  (hd:∀ ys H,Pv xs.length ys H→H l=some (.lst ys)→Qe H):z6y ix (Itl K a) g te σ l H0 Qe:=by
 refine z4V (n:=xs.length) Pv h0 (fun i ys H hi p hy=>?_) fun ys H p hy=>⟨⟨xs,hl _ ys H (Nat.le_refl _) p,Nat.le_refl _⟩,hd ys H p hy⟩
 have q:=hl i ys H (Nat.le_of_lt hi) p
 refine ⟨⟨xs,xs[i],q,by simp [hi]⟩,by rw [hn i ys H p];exact Nat.lt_of_lt_of_le hi hz,fun x H' y=>?_⟩
 obtain ⟨e,y⟩:=y
 subst e
 exact hs i x ys _ (y xs q) p hy
theorem z1u {K:PySem.W.Frag} {a l:Addr} {xs:List V} {ix:List (Option Nat)} {g:TG} {te:TE} {σ:St} {H0:Hp} {Qe:Hp→Prop} (Pv:Nat→List V→Hp→Prop) (h0:Pv 0 [] H0) (hl:∀ i ys H,i≤xs.length→Pv i ys H→SqT K H a xs) (hz:xs.length≤sizeLine)
  (hn:∀ i ys H,Pv i ys H→ys.length=i)
  (hs:∀ i x ys H,xs[i]?=some x→Pv i ys H→H l=some (.lst ys)→g x (z1l ix σ) H fun σ2 H2=>te σ2 H2 fun v H3=>H3 l=some (.lst ys)∧Pv (i+1) (ys++[v]) (upd H3 l (.lst (ys++[v]))))
  (hd:∀ ys H,Pv xs.length ys H→H l=some (.lst ys)→Qe H):z6y ix (Itt K a) g te σ l H0 Qe:=by
 refine z4V (n:=xs.length) Pv h0 (fun i ys H hi p hy=>?_) fun ys H p hy=>⟨⟨xs,hl _ ys H (Nat.le_refl _) p,Nat.le_refl _⟩,hd ys H p hy⟩
 have q:=hl i ys H (Nat.le_of_lt hi) p
 refine ⟨⟨xs,xs[i],q,by simp [hi]⟩,by rw [hn i ys H p];exact Nat.lt_of_lt_of_le hi hz,fun x H' y=>?_⟩
 obtain ⟨e,y⟩:=y
 subst e
 exact hs i x ys _ (y xs q) p hy
theorem z2P {lo:Int} {n:Nat} {l:Addr} {ix:List (Option Nat)} {g:TG} {te:TE} {σ:St} {H0:Hp} {Qe:Hp→Prop} (Pv:Nat→List V→Hp→Prop) (h0:Pv 0 [] H0) (hz:n≤sizeLine)
  (hn:∀ i ys H,Pv i ys H→ys.length=i)
  (hs:∀ i ys H,i < n→Pv i ys H→H l=some (.lst ys)→g (.int (lo+i)) (z1l ix σ) H fun σ2 H2=>te σ2 H2 fun v H3=>H3 l=some (.lst ys)∧Pv (i+1) (ys++[v]) (upd H3 l (.lst (ys++[v]))))
  (hd:∀ ys H,Pv n ys H→H l=some (.lst ys)→Qe H):z6y ix (Itr lo n) g te σ l H0 Qe:=by
 refine z4V (n:=n) Pv h0 (fun i ys H hi p hy=>⟨hi,by rw [hn i ys H p];exact Nat.lt_of_lt_of_le hi hz,fun x H' y=>?_⟩) fun ys H p hy=>⟨Nat.le_refl _,hd ys H p hy⟩
 obtain ⟨e,y⟩:=y
 subst e y
 exact hs i ys _ hi p hy
end L2
namespace L2
open PySem PySem.Spec PyProof.Rows
open PySem.AutoSeq1 (wpAny_loadPart')
def zbp (lo:Int) (n:Nat):List V:=(List.range n).map fun i=>V.int (lo+(i:Nat))
theorem z4A (lo:Int) (n:Nat):(zbp lo n).length=n:=by unfold zbp;simp
theorem z3n {lo c:Int} {acc:Array Value} {n:Nat} (hc:c=1) (h:ItemsOf (fun i v=>∃ t,v=.int (lo+i*c) t) acc n):z0V (zbp lo n) acc.toList:=by
 subst hc
 obtain ⟨hs,hi⟩:=h
 have key:∀ (k:Nat) (i:Nat),i+k=n→z0V (((List.range n).drop i).map fun j=>V.int (lo+(j:Nat))) (acc.toList.drop i):=by
  intro k
  induction k with
  | zero =>
   intro i hk
   rw [List.drop_of_length_le (by simp;lia),List.drop_of_length_le (by simp;lia)]
   exact .nil
  | succ k ih =>
   intro i hk
   have h1:i < acc.size:=by lia
   have e1:(List.range n).drop i=i::(List.range n).drop (i+1):=by
    rw [List.drop_eq_getElem_cons (by simp;lia)];simp
   have e2:acc.toList.drop i=acc[i]::acc.toList.drop (i+1):=by
    rw [List.drop_eq_getElem_cons (by simpa using h1)];simp
   rw [e1,e2,List.map_cons]
   refine .cons ?_ (ih (i+1) (by lia))
   obtain ⟨t,e⟩:=hi i acc[i] (by simp [h1])
   exact ⟨t,by rw [e,Int.mul_one]⟩
 have:=key n 0 (by lia)
 simpa [zbp] using this
section
variable {X:Cx}
theorem z4d:z3e X (.type "range") (fun xs H Q=>∃ j:Int,xs=[.int j]∧-(2 ^ 62)≤j∧j < 2 ^ 62∧∀ p,H p=none→Q (.ref p) (upd H p (.rng 0 j))):=by
 intro pins s σ H xs us Q I r h
 obtain ⟨j,rfl,h1,h2,q⟩:=h
 obtain ⟨u,rfl,ru⟩:=z5l r
 obtain ⟨t,rfl⟩:=ru
 refine call_range_1 ?_
 exact ⟨.ref s.heap.objs.size,upd H s.heap.objs.size (.rng 0 j),I.laid (o:=.rng 0 j) (fun b u e=>Heap.get?_push_of_some _ e) (Nat.le_refl _) ⟨_,_,_,Heap.get?_push_size _ rfl⟩,rfl,q _ I.fresh⟩
theorem Inv.rng {pins:List (Addr × Obj)} {σ:St} {H:Hp} {s:Shared} {p:Addr} {lo hi:Int} (I:Inv X pins σ H s) (h:H p=some (.rng lo hi)):∃ t u v,IsRange s.heap p lo hi 1 t u v:=by
 obtain ⟨t,u,v,e⟩:=I.hok p _ h
 exact ⟨t,u,v,e⟩
theorem z8q {lo hi:Int}:Builtin.Range.rangeSize lo hi 1=(((hi - lo).toNat:Nat):Int):=by
 rw [rangeSize_one];split<;>lia
theorem z2v (hc:X.calm=true):z3e X (.type "list") (fun xs H Q=>∃ p lo hi,xs=[.ref p]∧H p=some (.rng lo hi)∧(-(2 ^ 62)≤lo∧lo < 2 ^ 62∧-(2 ^ 62)≤hi∧hi < 2 ^ 62)∧(hi - lo).toNat≤2 ^ 24 ∧
  ∀ l,H l=none→Q (.ref l) (upd H l (.lst (zbp lo (hi - lo).toNat)))):=by
 intro pins s σ H xs us Q I r h
 obtain ⟨p,lo,hi,rfl,hp,⟨b1,b2,b3,b4⟩,hn,q⟩:=h
 obtain ⟨u,rfl,ru⟩:=z5l r
 cases ru
 obtain ⟨t,u,v,hr⟩:=I.rng hp
 refine call_list_range (I.ok.hd hc) hr (small_one b1 b2 b3 b4) z8q hn fun h' tk acc c' hk hl hacc=>?_
 have hv:=z3n rfl hacc
 exact ⟨.ref _,_,I.laid (o:=.lst (zbp lo (hi - lo).toNat)) (fun b u e=>hk b u e) (Nat.le_refl _) ⟨by rw [z4A,sizeLine_eq];lia,acc.toList,c',hv,by simpa using hl⟩,rfl,q _ I.fresh⟩
end
section
variable {prog:Program} {w:World} {A:Around} {E:Value→Shared→Prop} {s:Shared}
theorem z7W {Q:List Value→Shared→Prop} {r:Addr} {a b c:Int} {t u v:Tok} {n:Nat} (hh:A.handled=none) (hr:IsRange s.heap r a b c t u v) (hsmall:Builtin.Range.small a b c=true)
  (hn:Builtin.Range.rangeSize a b c=n) (hlen:n≤2 ^ 24)
  (hQ:∀ h' tk acc,(∀ b o,s.heap.get? b=some o→h'.get? b=some o)→s.heap.objs.size≤h'.objs.size→ItemsOf (fun i v=>∃ t,v=.int (a+i*c) t) acc n→Q acc.toList { s with heap:=h',toks:=tk }) :
  wpAny (model prog w) A (collect (.ref r)) Q E s:=by
 unfold collect
 refine wpAny_bind (wpAny_runValue (codeAny_builtin F.entry_proto_collect ?_))
 rw [Around.under_plainId F.plain_proto_collect _]
 show wpAny _ A.in1 (newList [] >>= fun l =>
  again (.builtin "list.__iadd__" ⟨[l,.ref r],[]⟩)) _ _ s
 refine wpAny_bind (wpAny_newObj_type ?_)
 refine wpAny_pure ⟨plainId_quiet F.plain_list_iadd _,codeAny_builtin F.entry_list_iadd ?_⟩
 rw [Around.under_plainId F.plain_list_iadd _]
 show wpAny _ A.in1 (Builtin.List.listExtendWith (.ref s.heap.objs.size) (.ref r)
  (.ref s.heap.objs.size)) _ _ _
 have hS:(s.heap.push { cls:=.type "list",data:=.seq ([]:List Value).toArray }).get? s.heap.objs.size=some
  { cls:=.type "list",data:=.seq #[] 0 }:=Heap.get?_push_size _ rfl
 have fin':∀ (h':Heap) (tk:Nat) (acc:Array Value) (c':Nat),(∀ b o,b≠s.heap.objs.size→(s.heap.push { cls:=.type "list",data:=.seq ([]:List Value).toArray }).get? b=some o→h'.get? b=some o) →
   h'.get? s.heap.objs.size=some { cls:=.type "list",dict:=none,data:=.seq acc c',slots:=#[] }→ItemsOf (fun i v=>∃ t,v=.int (a+i*c) t) acc n →
   wpAny (model prog w) A (match Value.ref s.heap.objs.size with
    | Value.ref a=>do
     match (←load a).data with
      | Data.seq xs _=>pure xs.toList
      | _=>unsupported "internal:collect"
    | _=>unsupported "internal:collect") Q E { s with heap:=h',toks:=tk }:=fun h' tk acc c' hk hS' hacc=>by
  show wpAny _ A (load s.heap.objs.size >>= _) _ _ _
  refine wpAny_bind (wpAny_load hS' (wpAny_pure ?_))
  exact hQ h' tk acc (fun b o e=>hk b o (Nat.ne_of_lt (Heap.lt_size e)) (Heap.get?_push_of_some _ e)) (Nat.le_of_lt (Heap.lt_size hS')) hacc
 refine wpAny_mono (wpAny_extend_range (A:=A) (R:=fun r s'=>r=.ok (.ret (.ref s.heap.objs.size))∧wpAny (model prog w) A (match Value.ref s.heap.objs.size with
    | Value.ref a=>do
     match (←load a).data with
      | Data.seq xs _=>pure xs.toList
      | _=>unsupported "internal:collect"
    | _=>unsupported "internal:collect") Q E s') (s:={ s with heap:=s.heap.push { cls:=.type "list",data:=.seq ([]:List Value).toArray } }) hh (Heap.get?_push_of_some _ hr) hsmall hn hlen _ (.ref s.heap.objs.size) 0 hS
  fun h' tk acc c' hk hS' hacc=>⟨rfl,fin' h' tk acc c' hk hS' hacc⟩) (fun fin s' h=>?_) (fun e s' h=>?_)
 ·cases fin with
  | done f =>
   obtain ⟨e,h⟩:=h
   cases e
   exact h
  | again c'=>exact ⟨h.1,codeAny_mono h.2 fun r s'' hr=>by obtain ⟨rfl,h2⟩:=hr;exact h2⟩
 ·exact absurd h.1 (by simp)
end
theorem z4m (r:Addr) {a b c:Int} {t u v:Tok} {n:Nat} (hsmall:Builtin.Range.small a b c=true) (hn:Builtin.Range.rangeSize a b c=n) (hlen:n≤2 ^ 24) :
  Meets (Builtin.«tuple.__new__» ⟨[.type "tuple",.ref r],[]⟩)
   (fun A R s=>A.handled=none∧IsRange s.heap r a b c t u v∧∀ (h':Heap) (tk:Nat) (acc:Array Value),(∀ b o,s.heap.get? b=some o→h'.get? b=some o)→s.heap.objs.size≤h'.objs.size→ItemsOf (fun i v=>∃ t,v=.int (a+i*c) t) acc n →
    R (.ok (.ret (.ref h'.objs.size))) { s with heap:=h'.push { cls:=.type "tuple",data:=.seq acc },toks:=tk }) :=
 .of_wp fun prog w A R s h=>by
  obtain ⟨hh,hr,h⟩:=h
  have hsub:=sub_tuple_self
  have hinit:=init_tuple_lookup
  have hmh:=madeHere_tuple
  have hT:s.TypeIs (.ref r) "range":=⟨_,hr,rfl⟩
  have hh1:A.in1.handled=none:=hh
  wp_walk using wpAny_typeOf hT,z7W hh1 hr hsmall hn hlen
  intro h' tk acc hk hz hacc
  show wpAny _ _ (Builtin.Tuple.tupleExact acc.toList.toArray >>=
   fun v=>ret v) _ _ _
  unfold Builtin.Tuple.tupleExact
  refine wpAny_bind (wpAny_newObj_type ?_ (show acc.toList.toArray.size≤sizeLine by simp only [Array.toArray_toList];rw [hacc.1,sizeLine_eq];lia))
  refine wpAny_pure ⟨_,rfl,?_⟩
  have e:acc.toList.toArray=acc:=by simp
  rw [e]
  exact h h' tk acc hk hz hacc
section
variable {X:Cx}
theorem z5b (hc:X.calm=true):z3e X (.type "tuple") (fun xs H Q=>∃ p lo hi,xs=[.ref p]∧H p=some (.rng lo hi)∧(-(2 ^ 62)≤lo∧lo < 2 ^ 62∧-(2 ^ 62)≤hi∧hi < 2 ^ 62)∧(hi - lo).toNat≤2 ^ 24 ∧
  ∀ l,H l=none→Q (.ref l) (upd H l (.tup (zbp lo (hi - lo).toNat)))):=by
 intro pins s σ H xs us Q I r h
 obtain ⟨p,lo,hi,rfl,hp,⟨b1,b2,b3,b4⟩,hn,q⟩:=h
 obtain ⟨u,rfl,ru⟩:=z5l r
 cases ru
 obtain ⟨t,u,v,hr⟩:=I.rng hp
 refine callType_new F.called_tuple (by decide) (F.typeCall_tuple_1 _) (F.newCall_tuple_1 _) (fun obj=>F.args_object_init_2 obj _) F.entry_tuple_new
  (z4m p (t:=t) (u:=u) (v:=v) (small_one b1 b2 b3 b4) z8q hn) ⟨I.ok.hd hc,hr,fun h' tk acc hk hz hacc=>⟨⟨_,Heap.get?_push_size _ rfl,rfl⟩,?_⟩⟩
 have hv:=z3n rfl hacc
 have hf:H h'.objs.size=none:=I.hok.fresh hz
 refine ⟨.ref _,_,I.laid (o:=.tup (zbp lo (hi - lo).toNat)) (fun b u e=>Heap.get?_push_of_some _ (hk b u e)) hz ⟨by rw [z4A,sizeLine_eq];lia,acc.toList,0,hv,by rw [show acc.toList.toArray=acc by simp];exact Heap.get?_push_size _ rfl⟩,rfl,q _ hf⟩
end
section
variable {X:Cx}
theorem z7z {prog:Program} {w:World} {A:Around} {its:Array Value} {bs:List Bool} (r:z0V (bs.map V.bl) its.toList):TruthOf prog w A (fun i v=>its[i]?=some v) (fun i=>bs.getD i false):=by
 intro i v s Q E hi hq
 have hl:=r.length
 rw [zLm] at hl
 have hlt:i < bs.length:=by
  have:i < its.size:=by
   rcases Nat.lt_or_ge i its.size with z | z
   ·exact z
   ·rw [Array.getElem?_eq_none z] at hi;cases hi
  simp at hl;lia
 have h1:(bs.map V.bl)[i]?=some (.bl bs[i]):=by simp [hlt]
 obtain ⟨u,hu,ru⟩:=r.get h1
 have:u=v:=by
  have e:its.toList[i]?=some v:=by simpa using hi
  rw [e] at hu
  exact (Option.some.inj hu).symm
 subst this
 cases ru
 refine wpAny_truthy_bool ?_
 have e:bs.getD i false=bs[i]:=by simp [hlt]
 have hq':Q (bs.getD i false) s:=hq
 rw [e] at hq'
 exact hq'
theorem zaE {n:Nat} {bs:List Bool} (h:bs.length=n):(List.range n).any (fun i=>bs.getD i false)=bs.any id:=by
 subst h
 rw [Bool.eq_iff_iff,List.any_eq_true,List.any_eq_true]
 constructor
 ·rintro ⟨i,hi,e⟩
  have hi:i < bs.length:=by simpa using hi
  refine ⟨bs[i],List.getElem_mem hi,?_⟩
  simp [hi] at e
  exact e
 ·rintro ⟨b,hb,e⟩
  obtain ⟨i,hi,e'⟩:=List.getElem_of_mem hb
  refine ⟨i,by simpa using hi,?_⟩
  simp [hi,e']
  exact e
theorem zbU (hc:X.calm=true):z3e X (.builtin "any") (fun xs H Q=>∃ (p:Addr) (bs:List Bool),xs=[.ref p]∧SqL X.K H p (bs.map V.bl)∧Q (.bl (bs.any id)) H):=by
 intro pins s σ H xs us Q I r h
 obtain ⟨p,bs,rfl,hp,q⟩:=h
 obtain ⟨u,rfl,ru⟩:=z5l r
 cases ru
 obtain ⟨its,rv,pl,hz⟩:=I.list hp
 have hlt:p < s.heap.objs.size:=by obtain ⟨o,n,e,_⟩:=pl;exact Heap.lt_size e
 have hl:=rv.length
 rw [zLm] at hl
 refine call_any_walk (wpAny_pyIter_list pl.isList ?_)
 refine ⟨s.heap.objs.size,_,_,_,_,_,fun i=>bs.getD i false,rfl,Walks.list (A:=X.A.in1) (show X.A.in1.handled=none from I.ok.hd hc) s.heap.objs.size p (Nat.ne_of_lt hlt) its.toArray,⟨⟨_,Heap.get?_push_size _ rfl,rfl,rfl⟩,Heap.IsList.push pl.isList _⟩,z7z (by simpa using rv),fun h' tk hk=>?_⟩
 rw [zaE (by simpa using hl)]
 exact ⟨.bl _,H,I.kept (t':=tk) (fun b o e=>hk b o (by simpa using (Nat.ne_of_lt (Heap.lt_size e))) (Heap.get?_push_of_some _ e)),rfl,q⟩
end
end L2
namespace L2
open PySem PySem.Spec PyProof.Rows
open PySem.AutoSeq1 (wpAny_loadPart')
section
variable {prog:Program} {w:World} {A:Around} {E:Value→Shared→Prop} {s:Shared}
theorem z5X {it t:Addr} {i:Nat} {its:Array Value} {x:Value} {Q:Value→Shared→Prop} (hit:s.heap.IsTupleIter it t i) (ht:s.heap.IsTuple t its) (hx:its[i]?=some x)
  (hQ:∀ h',h'.IsTupleIter it t (i+1)→Heap.SameBut it s.heap h'→Q x { s with heap:=h' }):wpAny (model prog w) A (Builtin.SmallTypes.nextOf (.ref it)) Q E s:=by
 obtain ⟨o,ho,hc,hd⟩:=id hit
 obtain ⟨ol,hol,_,nl,hdl⟩:=ht
 unfold Builtin.SmallTypes.nextOf
 refine wpAny_bind (wpAny_callSpecial?_slot (name:=Str.ofString "__next__") hit.typeIs F.slot_tuple_iterator_next
  (wpAny_call_entry F.slot_tuple_iterator_next hit.typeIs F.entry_tuple_iterator_next ?_
   (F.args_tuple_iterator_next_1 _)))
 show wpAny _ _ (field (.ref it) 0 >>= _) _ _ s
 refine wpAny_bind (wpAny_field ho hd (x:=.ref t) rfl ?_)
 show wpAny _ _ (if (Value.ref t == Value.none)=true
  then _ else _) _ _ s
 rw [if_neg (show ¬ ((Value.ref t == Value.none)=true)
  from Bool.false_ne_true)]
 show wpAny _ _ (field (.ref it) 1 >>= _) _ _ s
 refine wpAny_bind (wpAny_field ho hd (x:=.int i 0) rfl ?_)
 show wpAny _ _ (seqItems? (.ref t) >>= _) _ _ s
 refine wpAny_bind (wpAny_seqItems hol hdl ?_)
 simp only [Int.toNat_natCast,hx]
 refine wpAny_bind (wpAny_setField ho hd (by simp) (wpAny_pure
  ⟨x,rfl,wpAny_pure (hQ _ ?_ (Heap.SameBut.update ..))⟩))
 exact ⟨_,Heap.get?_update_self _ ho (Obj.isFreed_of_fields (Obj.data_mapFields hd _)),
  (Obj.cls_mapFields ..).trans hc,by rw [Obj.data_mapFields hd];simp [rawInt]⟩
theorem z40 {it t:Addr} {i:Nat} {its:Array Value} {Q:Value→Shared→Prop} (hh:A.handled=none) (hit:s.heap.IsTupleIter it t i) (ht:s.heap.IsTuple t its) (hx:its[i]?=none)
  (hE:∀ h' e,Heap.ExtBut it s.heap h'→(∃ o,h'.get? e=some o∧o.cls=.type "StopIteration")→E (.ref e) { s with heap:=h' }):wpAny (model prog w) A (Builtin.SmallTypes.nextOf (.ref it)) Q E s:=by
 obtain ⟨o,ho,hc,hd⟩:=id hit
 obtain ⟨ol,hol,_,nl,hdl⟩:=ht
 unfold Builtin.SmallTypes.nextOf
 refine wpAny_bind (wpAny_callSpecial?_slot (name:=Str.ofString "__next__") hit.typeIs F.slot_tuple_iterator_next
  (wpAny_call_entry F.slot_tuple_iterator_next hit.typeIs F.entry_tuple_iterator_next ?_
   (F.args_tuple_iterator_next_1 _)))
 show wpAny _ _ (field (.ref it) 0 >>= _) _ _ s
 refine wpAny_bind (wpAny_field ho hd (x:=.ref t) rfl ?_)
 show wpAny _ _ (if (Value.ref t == Value.none)=true
  then _ else _) _ _ s
 rw [if_neg (show ¬ ((Value.ref t == Value.none)=true)
  from Bool.false_ne_true)]
 show wpAny _ _ (field (.ref it) 1 >>= _) _ _ s
 refine wpAny_bind (wpAny_field ho hd (x:=.int i 0) rfl ?_)
 show wpAny _ _ (seqItems? (.ref t) >>= _) _ _ s
 refine wpAny_bind (wpAny_seqItems hol hdl ?_)
 simp only [Int.toNat_natCast,hx]
 refine wpAny_bind (wpAny_rule (wpAny_bind (wpAny_setField ho hd (by simp) ?_)))
 show wpAny _ _ (newExc (.type "StopIteration") [] >>= _) _ _ _
 refine wpAny_bind ?_
 simp only [newExc,newTuple]
 refine wpAny_bind (wpAny_newObj_type ?_ (by size_fits))
 refine wpAny_bind (m:=firstArgMember _ _) (wpAny_of_eq (a:=Value.none)
  (by first | rfl | (simp only [firstArgMember];rfl)) ?_)
 refine wpAny_newObj_type ?_ (by size_fits)
 simp only [raiseNew]
 refine wpAny_bind (wpAny_handled ?_)
 first | rw [show A.in1.handled=none from hh] | rw [hh]
 refine wpAny_bind (wpAny_pure (wpAny_throw ?_))
 exact hE _ _ (((Heap.SameBut.update ..).extBut.push _).push _)
  ⟨_,Heap.get?_push_size _ rfl,rfl⟩
theorem z3h (hh:A.handled=none) (it t:Addr) (hne:t≠it) (its:Array Value):Draws prog w A it [it,t] its.size (fun i v=>its[i]?=some v) (fun i h=>h.IsTupleIter it t i∧h.IsTuple t its) where
 live:=fun i h st=>by obtain ⟨⟨o,e,_⟩,_⟩:=st;exact ⟨o,e⟩
 frame:=fun i h h' st hk=>by
  obtain ⟨⟨o,e,c⟩,⟨o2,e2,c2⟩⟩:=st
  exact ⟨⟨o,hk it (by simp) _ e,c⟩,⟨o2,hk t (by simp) _ e2,c2⟩⟩
 item:=fun i s Q E hi st hQ=>by
  refine z5X st.1 st.2 (x:=its[i]) (by simp [hi]) fun h' hit' hs'=>?_
  obtain ⟨o2,e2,c2⟩:=st.2
  exact hQ _ h' s.toks (by simp [hi]) ⟨hit',⟨o2,(hs'.2 t hne).trans e2,c2⟩⟩ hs'
 done:=fun s Q E st hE=>z40 hh st.1 st.2 (by simp) hE
theorem z5j (t:Addr) (its:Array Value) :
  Meets (Builtin.«enumerate.__new__» ⟨[.type "enumerate",.ref t],[]⟩) (fun _ R s=>s.heap.IsTuple t its ∧
   R (.ok (.ret (.ref (s.heap.push { cls:=.type "tuple_iterator",data:=.fields #[.ref t,.int 0 0] }).objs.size)))
    { s with heap:=(s.heap.push { cls:=.type "tuple_iterator",data:=.fields #[.ref t,.int 0 0] }).push { cls:=.type "enumerate",data:=.fields #[.none,.bool false,.ref s.heap.objs.size,rawInt 0,.none,.none] } }) :=
 .of_wp fun prog w A R s h=>by
  obtain ⟨hp,g,d,tk,os⟩:=s
  obtain ⟨hl,h⟩:=h
  have hsub:=sub_enumerate
  have hL:Heap.IsTuple (Shared.heap ⟨hp,g,d,tk,os⟩) t its:=hl
  wp_walk
  refine wpAny_stack_any fun st=>wpAny_pure ?_
  split
  ·rename_i c _ _ _ _ _
   cases (c == Value.type "enumerate")
   all_goals
    wp_walk using wpAny_pyIter_tuple hL
    exact ⟨_,rfl,h⟩
  ·wp_walk using wpAny_pyIter_tuple hL
   exact ⟨_,rfl,h⟩
theorem z5O {t:Addr} {its:Array Value} {Q:Value→Shared→Prop} (hL:s.heap.IsTuple t its)
  (h:∀ h',IsEnum h' (s.heap.objs.size+1) s.heap.objs.size 0 .none→h'.IsTupleIter s.heap.objs.size t 0→h'.objs.size=s.heap.objs.size+2→(∀ b o,s.heap.get? b=some o→h'.get? b=some o)→Q (.ref (s.heap.objs.size+1)) { s with heap:=h' }) :
  wpAny (model prog w) A (call (.type "enumerate") [.ref t]) Q E s:=by
 refine callType_new F.called_enumerate (by decide) (F.typeCall_enumerate_1 _) (F.newCall_enumerate_1 _) (fun obj=>F.args_object_init_2 obj _) F.entry_enumerate_new (z5j t its) ⟨hL,?_⟩
 have hz:(s.heap.push { cls:=.type "tuple_iterator",data:=.fields #[.ref t,.int 0 0] }).objs.size=s.heap.objs.size+1:=Heap.size_push ..
 show _∧_
 rw [hz]
 have he:IsEnum ((s.heap.push { cls:=.type "tuple_iterator",data:=.fields #[.ref t,.int 0 0] }).push
   { cls:=.type "enumerate",data:=.fields #[.none,.bool false,.ref s.heap.objs.size,rawInt 0,.none,.none] }) (s.heap.objs.size+1) s.heap.objs.size 0 .none:=by
  have q:=Heap.get?_push_size (s.heap.push { cls:=.type "tuple_iterator",data:=.fields #[.ref t,.int 0 0] })
   (o:={ cls:=.type "enumerate",data:=.fields #[.none,.bool false,.ref s.heap.objs.size,rawInt 0,.none,.none] }) rfl
  rw [hz] at q
  exact q
 exact ⟨⟨_,he,rfl⟩,h _ he ⟨_,Heap.get?_push_of_some _ (Heap.get?_push_size _ rfl),rfl,by rfl⟩ (by rw [Heap.size_push,hz]) fun b o x=>Heap.get?_push_of_some _ (Heap.get?_push_of_some _ x)⟩
end
theorem Inv.turnedNew {X:Cx} {pins:List (Addr × Obj)} {σ:St} {H:Hp} {s:Shared} {ch:List Addr} {p:Addr} {o:HO} {h':Heap} {t':Nat} (I:Inv X pins σ H s) (k:∀ b u,b∉ch→s.heap.get? b=some u→h'.get? b=some u)
  (hp:s.heap.objs.size≤p) (new:z1J X.prog X.w (upd H p o) h' p o) (hf:∀ b∈ch,z9F X pins H b):Inv X pins σ (upd H p o) { s with heap:=h',toks:=t' }:=by
 have hn:H p=none:=I.hok.fresh hp
 have nc:∀ b u,H b=some u→b∉ch:=fun b u e z=>by rw [(hf b z).1] at e;cases e
 refine I.step (g':=s.gens) (d':=s.drawn) (ch:=ch) (fun b hb=>?_) (fun b u _ _ hc e _=>k b u hc e) (fun b u _ _ hc e _=>⟨u.slots,k b u hc e⟩) (fun b u _ e n=>?_) (fun b u hc e=>⟨u,k b u hc e⟩)
  (fun b xs e=>?_) (fun b u xs e=>?_) (fun b ps e=>⟨#[],?_⟩) (fun m hm=>?_) (fun b u e=>?_) I.bare
 ·obtain ⟨_,f1,_,f3,f4,f5⟩:=hf b hb
  exact ⟨f3,f1,f4,f5⟩
 ·rw [z07 (Nat.ne_of_lt (Nat.lt_of_lt_of_le (Heap.lt_size e) hp))];exact n
 ·rw [z07 (z0c e hn)];exact e
 ·rw [z07 (z0c e hn)];exact e
 ·rw [z07 (z0c e hn),e];simp
 ·obtain ⟨ob,es,ep,ho,r⟩:=hm
  exact ⟨ob,es,ep,k _ ob (fun z=>(hf _ z).2.1 rfl) ho,r⟩
 ·by_cases hb:b=p
  ·subst hb;rw [z01] at e;cases e;exact new
  ·rw [z07 hb] at e
   refine (I.hok b u e).stay (fun c v hc q=>k c v ?_ q) (fun c q=>by rw [z07 (z0c q hn)];exact q) fun c xs q=>by rw [z07 (z0c q hn)];exact q
   rcases hc with z | z
   ·rw [z];exact nc b u e
   ·exact nc c _ z
theorem Inv.turnedL {X:Cx} {pins:List (Addr × Obj)} {σ:St} {H:Hp} {s:Shared} {ch:List Addr} {h':Heap} {t':Nat} (I:Inv X pins σ H s) (k:∀ b u,b∉ch→s.heap.get? b=some u→h'.get? b=some u)
  (hf:∀ b∈ch,z9F X pins H b):Inv X pins σ H { s with heap:=h',toks:=t' }:=by
 have nc:∀ b u,H b=some u→b∉ch:=fun b u e z=>by rw [(hf b z).1] at e;cases e
 refine I.step (g':=s.gens) (d':=s.drawn) (ch:=ch) (fun b hb=>?_) (fun b u _ _ hc e _=>k b u hc e) (fun b u _ _ hc e _=>⟨u.slots,k b u hc e⟩) (fun b u _ e n=>n) (fun b u hc e=>⟨u,k b u hc e⟩)
  (fun b xs e=>e) (fun b u xs e=>e) (fun b ps e=>⟨#[],by rw [e];simp⟩) (fun m hm=>?_) (fun b u e=>?_) I.bare
 ·obtain ⟨_,f1,_,f3,f4,f5⟩:=hf b hb
  exact ⟨f3,f1,f4,f5⟩
 ·obtain ⟨ob,es,ep,ho,r⟩:=hm
  exact ⟨ob,es,ep,k _ ob (fun z=>(hf _ z).2.1 rfl) ho,r⟩
 ·refine (I.hok b u e).stay (fun c v hc q=>k c v ?_ q) (fun c q=>q) fun c xs q=>q
  rcases hc with z | z
  ·rw [z];exact nc b u e
  ·exact nc c _ z
def Ite (K:PySem.W.Frag) (a:Addr):It :=
 ⟨fun i H=>∃ xs x,SqT K H a xs∧xs[i]?=some x,fun i H x H'=>∃ p y,x=.ref p∧H p=none∧(∀ xs,SqT K H a xs→xs[i]?=some y)∧H'=upd H p (.tup [.int i,y]),fun i H=>∃ xs,SqT K H a xs∧xs.length≤i⟩
theorem zaJ {P:Program} {w:World} {K:PySem.W.Frag} {elts:List Expr} {k:Nat} {tp:Pos} (a it e:Addr) (hne:e≠it) :
  zcP P w K (.Tuple elts k tp) (Ite K a) [e,it] e (fun i h=>(∃ old,IsEnum h e it i old)∧h.IsTupleIter it a i) where
 mem:=by simp
 obj:=fun i h st b hb=>by
  obtain ⟨⟨old,he⟩,⟨o,ho,hc,hd⟩⟩:=st
  rcases List.mem_cons.mp hb with z | z
  ·subst z;exact ⟨_,he,fun v z=>by cases z⟩
  ·have z:=List.mem_singleton.mp z
   subst z;exact ⟨o,ho,fun v z=>by rw [hd] at z;cases z⟩
 keep:=fun i h h' st k=>by
  obtain ⟨⟨old,he⟩,⟨o,ho,c⟩⟩:=st
  exact ⟨⟨old,k e (by simp) _ he⟩,⟨o,k it (by simp) _ ho,c⟩⟩
 item:=by
  intro X hP hw hK hc i pins s σ H E I hf st hg
  subst hP hw hK
  obtain ⟨xs,x,hq,hx⟩:=hg
  obtain ⟨its,rv,p,hz⟩:=I.tuple hq
  obtain ⟨u,hu,ru⟩:=rv.get hx
  obtain ⟨⟨old,he⟩,hit⟩:=st
  have hai:a≠it:=fun z=>by
   obtain ⟨o,e1,c1,_⟩:=id p
   obtain ⟨o2,e2,c2,_⟩:=id hit
   rw [z,e2] at e1;cases e1;rw [c2] at c1;exact absurd c1 (by intro h;injection h with h;exact absurd h (by decide))
  have hae:a≠e:=fun z=>by
   obtain ⟨o,e1,c1,_⟩:=id p
   rw [z,he] at e1;cases e1;exact absurd c1 (by intro h;injection h with h;exact absurd h (by decide))
  have lt:i < its.toArray.size:=by
   have:=(zGs.mp hu).1
   simpa using this
  have D:=z3h (prog:=X.prog) (w:=X.w) (A:=X.A.in1) (I.ok.hd hc) it a hai its.toArray
  refine wpAny_pyNext_enum_itemD D he ⟨hit,p⟩ lt hne (by simp [hne,Ne.symm hae]) fun y h' tk hy ho hst hT hsz hk=>?_
  have hyu:y=u:=by
   have e1:its.toArray[i]?=some u:=by simpa using hu
   rw [e1] at hy;exact (Option.some.inj hy).symm
  subst hyu
  refine ⟨_,rfl,?_⟩
  refine wpAny_letOwnedTupleGo_enum ho fun h2 he2 hs2=>?_
  have hp0:H s.heap.objs.size=none:=I.fresh
  have elt:e < s.heap.objs.size:=Heap.lt_size he
  have ilt:it < s.heap.objs.size:=by obtain ⟨o,e2,_⟩:=hit;exact Heap.lt_size e2
  have kk:∀ b o,b≠e→b≠it→s.heap.get? b=some o→h2.get? b=some o:=fun b o h1 h3 q=>(hs2.2 b h1).trans (hk b o h1 h3 q)
  obtain ⟨e0,e1,e2,e3,e4,e5⟩:=hf e (by simp)
  obtain ⟨i0,i1,i2,i3,i4,i5⟩:=hf it (by simp)
  have I1:Inv X pins σ (upd H s.heap.objs.size (.tup [.int i,x])) { s with heap:=h2,toks:=tk+1 }:=by
   refine I.turnedNew (ch:=[e,it]) (fun b u hb q=>kk b u (fun z=>hb (by simp [z])) (fun z=>hb (by simp [z])) q) (Nat.le_refl _) ?_ (fun b hb=>hf b hb)
   have nT:s.heap.objs.size≠e:=Nat.ne_of_gt elt
   exact ⟨by show 2≤sizeLine;decide,[.int i tk,y],0,.cons ⟨tk,rfl⟩ (.cons ru .nil),(hs2.2 _ nT).trans hT⟩
  refine ⟨.ref s.heap.objs.size,_,I1,rfl,⟨s.heap.objs.size,x,rfl,hp0,fun ys hy=>by rw [I.tuple_inj hy hq];exact hx,rfl⟩,⟨⟨y,by simpa using he2⟩,?_⟩,fun b hb=>?_⟩
  ·obtain ⟨⟨o,e9,c9⟩,_⟩:=hst
   exact ⟨o,(hs2.2 it (Ne.symm hne)).trans e9,c9⟩
  ·have hb0:=(hf b hb).1
   have:b≠s.heap.objs.size:=by
    rcases List.mem_cons.mp hb with z | z
    ·rw [z];exact Nat.ne_of_lt elt
    ·rw [List.mem_singleton.mp z];exact Nat.ne_of_lt ilt
   rw [z07 this];exact hb0
 done:=by
  intro X hP hw hK hc i pins s σ H E I hf st hg
  subst hP hw hK
  obtain ⟨xs,hq,hx⟩:=hg
  obtain ⟨its,rv,p,hz⟩:=I.tuple hq
  obtain ⟨⟨old,he⟩,hit⟩:=st
  have hai:a≠it:=fun z=>by
   obtain ⟨o,e1,c1,_⟩:=id p
   obtain ⟨o2,e2,c2,_⟩:=id hit
   rw [z,e2] at e1;cases e1;rw [c2] at c1;exact absurd c1 (by intro h;injection h with h;exact absurd h (by decide))
  have hlen:=rv.length
  have hT:s.TypeIs (.ref e) "enumerate":=⟨_,he,rfl⟩
  unfold pyNext
  refine wpAny_bind (wpAny_attempt (wpAny_callSpecial?_slot (name:=Str.ofString "__next__") hT F.slot_enumerate_next
   (wpAny_call_entry F.slot_enumerate_next hT F.entry_enumerate_next ?_ (F.args_enumerate_next_1 _))))
  show wpAny _ _ (field (.ref e) 2 >>= _) _ _ _
  refine wpAny_bind (wpAny_field he rfl (x:=.ref it) rfl ?_)
  refine wpAny_bind (z40 (show X.A.in1.handled=none from I.ok.hd hc) hit p (by simp;lia) fun h' x he' hx'=>?_)
  obtain ⟨o,ho,hcl⟩:=hx'
  refine wpAny_bind (wpAny_isInstance (T:="StopIteration") (b:=true) ⟨o,ho,hcl⟩ isSubtype_stop ?_)
  refine wpAny_pure ⟨rfl,?_⟩
  exact I.turnedL (ch:=[it]) (t':=s.toks) (fun b u hb q=>he' b u (fun z=>hb (by simp [z])) q) (fun b hb=>hf b (by rw [List.mem_singleton.mp hb];simp))
 self:=fun A i s Q E st h=>by
  obtain ⟨⟨old,he⟩,_⟩:=st
  exact wpAny_pyIter_enum he h
theorem zcj {K:PySem.W.Frag} {a:Addr} {xs:List V} {g:TG} {tb:TS} {D:z3Y} {σ:St} {H:Hp} (Pv:Nat→St→Hp→Prop) (h0:Pv 0 σ H) (hl:∀ i σ H,i≤xs.length→Pv i σ H→SqT K H a xs)
  (hs:∀ i x p σ H,xs[i]?=some x→Pv i σ H→H p=none→g (.ref p) σ (upd H p (.tup [.int (i:Nat),x])) fun σ2 H2=>tb { D with nx:=Pv (i+1),ct:=Pv (i+1),bk:=D.nx } σ2 H2) (hd:∀ σ H,Pv xs.length σ H→D.nx σ H) :
  ∃ W:Nat→Nat→St→Hp→Prop,(∃ m,W 0 m σ H)∧∀ i m σ H,W i m σ H →
   ((Ite K a).stop i H∧D.nx σ H)∨((Ite K a).go i H∧∃ N:St→Hp→Prop,(∀ σ' H',N σ' H'→∃ m',m' < m∧W (i+1) m' σ' H')∧∀ x H',(Ite K a).yld i H x H'→g x σ H' fun σ2 H2=>tb { D with nx:=N,ct:=N,bk:=D.nx } σ2 H2):=by
 refine ⟨fun i m σ H=>m=xs.length - i∧i≤xs.length∧Pv i σ H,⟨xs.length,by simp,Nat.zero_le _,h0⟩,?_⟩
 rintro i m σ H ⟨rfl,hi,p⟩
 have q:=hl i σ H hi p
 by_cases hlt:i < xs.length
 ·refine .inr ⟨⟨xs,xs[i],q,by simp [hlt]⟩,Pv (i+1),fun σ' H' p'=>⟨xs.length - (i+1),by lia,rfl,hlt,p'⟩,fun x H' y=>?_⟩
  obtain ⟨b,z,rfl,hb,hz,rfl⟩:=y
  exact hs i z b σ H (hz xs q) p hb
 ·have e:i=xs.length:=by lia
  subst e
  exact .inl ⟨⟨xs,q,Nat.le_refl _⟩,hd σ H p⟩
end L2
namespace L2
open PySem PySem.Spec PyProof.Rows
section
variable {X:Cx} {elts:List Expr} {tk:Nat} {tp:Pos}
def zfF (K:PySem.W.Frag) (ta:TA):TI:=fun σ H R=>ta σ H fun vs H1=>∃ a:Addr,vs=[.ref a]∧(∃ xs,SqT K H1 a xs)∧R (Ite K a) H1
theorem ze4 {a:Expr} {ta:TA} {p pos:Pos} (hg:Gl X "enumerate") (hm:X.mg "enumerate"=none) (ha:PA X [a] ta) (hs:starEach [a] X.env=[(false,eval a X.env)]:=by rfl) :
  PI X (.Tuple elts tk tp) (.Call (.Name "enumerate" p) [a] [] pos) (zfF X.K ta):=by
 intro pins s σ H R I h
 refine Call_ (z5v I hg hm boot_enumerate (PyProof.Rows.callWith_type1 (thn (ha pos pins s σ H _ I h) fun us s1 hz8=>?_) hs rfl))
 obtain ⟨vs,H1,I1,r1,q1⟩:=hz8
 obtain ⟨a,e,⟨xs,hq⟩,q⟩:=q1
 subst e
 obtain ⟨u,rfl,ru⟩:=z5l r1
 cases ru
 obtain ⟨its,rv,pl,hz⟩:=I1.tuple hq
 refine z5O pl fun h' he hit hsz hk=>wpAny_pyIter_enum he ?_
 have I2:Inv X pins σ H1 { s1 with heap:=h' }:=I1.kept (t':=s1.toks) hk
 refine ⟨s1.heap.objs.size+1,[s1.heap.objs.size+1,s1.heap.objs.size],_,_,H1,rfl,I2,zaJ a s1.heap.objs.size (s1.heap.objs.size+1) (show @Ne Nat _ _ by lia),⟨⟨_,he⟩,hit⟩,fun b hb=>?_,q⟩
 have hb':s1.heap.objs.size≤b:=by
  rcases List.mem_cons.mp hb with z | z
  ·have z:@Eq Nat b (s1.heap.objs.size+1):=z
   lia
  ·rw [List.mem_singleton.mp z];exact Nat.le_refl _
 exact I1.fpOk hb' (I1.hok.fresh hb')
def Itz (K:PySem.W.Frag) (a b:Addr):It :=
 ⟨fun i H=>∃ xs ys x y,SqL K H a xs∧SqL K H b ys∧xs[i]?=some x∧ys[i]?=some y,
  fun i H v H'=>∃ p x y,v=.ref p∧H p=none∧(∀ xs,SqL K H a xs→xs[i]?=some x)∧(∀ ys,SqL K H b ys→ys[i]?=some y)∧H'=upd H p (.tup [x,y]),
  fun i H=>∃ xs ys,SqL K H a xs∧SqL K H b ys∧(xs.length≤i∨ys.length≤i)⟩
theorem z22 {h:Heap} {a b:Addr} {o u:Obj} {x y:String} (ha:h.get? a=some o) (hb:h.get? b=some u) (hx:o.cls=.type x) (hy:u.cls=.type y) (hxy:x≠y):a≠b:=by
 intro e
 subst e
 rw [ha] at hb
 cases hb
 rw [hx] at hy
 injection hy with hy
 exact hxy hy
theorem zbw {P:Program} {w:World} {K:PySem.W.Frag} (a b z TI TO i1 i2:Addr) (D:TI≠z∧TO≠z∧i1≠z∧i2≠z∧TI≠TO∧TI≠i1∧TI≠i2∧TO≠i1∧TO≠i2∧i1≠i2) :
  zcP P w K (.Tuple elts tk tp) (Itz K a b) [z,TI,TO,i1,i2] z (fun i h=>IsZip h z TI TO .none∧IsPair h TI (.ref i1) (.ref i2)∧(∃ u v,IsPair h TO u v)∧h.IsListIter i1 a i∧h.IsListIter i2 b i) where
 mem:=by simp
 obj:=fun i h st c hc=>by
  obtain ⟨hz,hTI,⟨u,v,hTO⟩,⟨o1,e1,c1,d1⟩,⟨o2,e2,c2,d2⟩⟩:=st
  simp at hc
  rcases hc with q | q | q | q | q
  ·rw [q];exact ⟨_,hz,fun v z=>by cases z⟩
  ·rw [q];exact ⟨_,hTI,fun v z=>by cases z⟩
  ·rw [q];exact ⟨_,hTO,fun v z=>by cases z⟩
  ·rw [q];exact ⟨_,e1,fun v z=>by rw [d1] at z;cases z⟩
  ·rw [q];exact ⟨_,e2,fun v z=>by rw [d2] at z;cases z⟩
 keep:=fun i h h' st k=>by
  obtain ⟨hz,hTI,⟨u,v,hTO⟩,⟨o1,e1,c1⟩,⟨o2,e2,c2⟩⟩:=st
  exact ⟨k z (by simp) _ hz,k TI (by simp) _ hTI,⟨u,v,k TO (by simp) _ hTO⟩,⟨o1,k i1 (by simp) _ e1,c1⟩,⟨o2,k i2 (by simp) _ e2,c2⟩⟩
 item:=by
  intro X hP hw hK hc i pins s σ H E I hf st hg
  subst hP hw hK
  obtain ⟨hz,hTI,⟨u,v,hTO⟩,h1,h2⟩:=st
  obtain ⟨xs,ys,x,y,hxs,hys,hx,hy⟩:=hg
  obtain ⟨its,rv,p,_⟩:=I.list hxs
  obtain ⟨itt,rw',p',_⟩:=I.list hys
  obtain ⟨ux,hux,rux⟩:=rv.get hx
  obtain ⟨uy,huy,ruy⟩:=rw'.get hy
  obtain ⟨d1,d2,d3,d4,d5,d6,d7,d8,d9,d10⟩:=D
  have Da:∀ {l:Addr} {its:Array Value},s.heap.IsList l its→l≠z∧l≠TO∧l≠i1∧l≠i2:=fun {l its} hl=>by
   obtain ⟨o,e,c,_⟩:=hl
   obtain ⟨o1,e1,c1,_⟩:=id h1
   obtain ⟨o2,e2,c2,_⟩:=id h2
   exact ⟨z22 e hz c rfl (by decide),z22 e hTO c rfl (by decide),z22 e e1 c c1 (by decide),z22 e e2 c c2 (by decide)⟩
  obtain ⟨a1,a2,a3,a4⟩:=Da p.isList
  obtain ⟨b1,b2,b3,b4⟩:=Da p'.isList
  refine wpAny_pyNext_zip_item ⟨d1,d2,d3,d4,d5,d6,d7,d8,d9,d10,a1,a2,a3,a4,b1,b2,b3,b4⟩ hz hTI hTO h1 h2 p.isList p'.isList (x:=ux) (y:=uy) (by simpa using hux) (by simpa using huy) fun h' q1 q2 q3 q4 q5 q6 hk=>?_
  refine ⟨_,rfl,wpAny_letOwnedTupleGo_zip q1 fun h2' hz2 hs2=>?_⟩
  have zlt:z < s.heap.objs.size:=Heap.lt_size hz
  have kk:∀ c o,c∉[z,TO,i1,i2]→s.heap.get? c=some o→h2'.get? c=some o:=fun c o hc q=>by
   simp at hc
   exact (hs2.2 c hc.1).trans (hk c o hc.1 hc.2.1 hc.2.2.1 hc.2.2.2 q)
  have sub:∀ c∈[z,TO,i1,i2],c∈[z,TI,TO,i1,i2]:=fun c hc=>by simp at hc ⊢;rcases hc with q | q | q | q<;>simp [q]
  have I1:Inv X pins σ (upd H s.heap.objs.size (.tup [x,y])) { s with heap:=h2',toks:=s.toks }:=by
   refine I.turnedNew (ch:=[z,TO,i1,i2]) kk (Nat.le_refl _) ?_ (fun c hc=>hf c (sub c hc))
   exact ⟨by show 2≤sizeLine;decide,[ux,uy],0,.cons rux (.cons ruy .nil),(hs2.2 _ (Nat.ne_of_gt zlt)).trans q5⟩
  have up:∀ {c:Addr} {o:Obj},c≠z→h'.get? c=some o→h2'.get? c=some o:=fun {c o} hc q=>(hs2.2 c hc).trans q
  obtain ⟨o3,e3,c3⟩:=q3
  obtain ⟨o4,e4,c4⟩:=q4
  refine ⟨.ref s.heap.objs.size,_,I1,rfl,⟨s.heap.objs.size,x,y,rfl,I.fresh,fun zs hz'=>by rw [I.list_inj hz' hxs];exact hx,fun zs hz'=>by rw [I.list_inj hz' hys];exact hy,rfl⟩,⟨hz2,?_,⟨_,_,up d2 q2⟩,⟨o3,up d3 e3,c3⟩,⟨o4,up d4 e4,c4⟩⟩,fun c hc=>?_⟩
  ·exact up d1 (hk TI _ d1 d5 d6 d7 hTI)
  ·have c0:=(hf c hc).1
   have lt:c < s.heap.objs.size:=by
    obtain ⟨o1,e1,_⟩:=id h1
    obtain ⟨o2,e2,_⟩:=id h2
    simp at hc
    rcases hc with q | q | q | q | q
    ·rw [q];exact zlt
    ·rw [q];exact Heap.lt_size hTI
    ·rw [q];exact Heap.lt_size hTO
    ·rw [q];exact Heap.lt_size e1
    ·rw [q];exact Heap.lt_size e2
   rw [z07 (Nat.ne_of_lt lt)];exact c0
 done:=by
  intro X hP hw hK hc i pins s σ H E I hf st hg
  subst hP hw hK
  obtain ⟨hz,hTI,⟨u,v,hTO⟩,h1,h2⟩:=st
  obtain ⟨xs,ys,hxs,hys,hx⟩:=hg
  obtain ⟨its,rv,p,_⟩:=I.list hxs
  obtain ⟨itt,rw',p',_⟩:=I.list hys
  obtain ⟨d1,d2,d3,d4,d5,d6,d7,d8,d9,d10⟩:=D
  have Da:∀ {l:Addr} {its:Array Value},s.heap.IsList l its→l≠z∧l≠TO∧l≠i1∧l≠i2:=fun {l its} hl=>by
   obtain ⟨o,e,c,_⟩:=hl
   obtain ⟨o1,e1,c1,_⟩:=id h1
   obtain ⟨o2,e2,c2,_⟩:=id h2
   exact ⟨z22 e hz c rfl (by decide),z22 e hTO c rfl (by decide),z22 e e1 c c1 (by decide),z22 e e2 c c2 (by decide)⟩
  obtain ⟨a1,a2,a3,a4⟩:=Da p.isList
  obtain ⟨b1,b2,b3,b4⟩:=Da p'.isList
  have l1:=rv.length
  have l2:=rw'.length
  refine wpAny_pyNext_zip_end (I.ok.hd hc) ⟨d1,d2,d3,d4,d5,d6,d7,d8,d9,d10,a1,a2,a3,a4,b1,b2,b3,b4⟩ hz hTI hTO h1 h2 p.isList p'.isList ?_ fun h' hk=>⟨rfl,?_⟩
  ·rcases hx with q | q
   ·left;simp;lia
   ·right;simp;lia
  ·refine I.turnedL (ch:=[z,TO,i1,i2]) (t':=s.toks) (fun c o hcc q=>?_) (fun c hcc=>hf c ?_)
   ·simp at hcc
    exact hk c o hcc.1 hcc.2.1 hcc.2.2.1 hcc.2.2.2 q
   ·simp at hcc ⊢;rcases hcc with q | q | q | q<;>simp [q]
 self:=fun A i s Q E st h=>wpAny_pyIter_zip st.1 h
def zgv (K:PySem.W.Frag) (ta:TA):TI:=fun σ H R=>ta σ H fun vs H1=>∃ a b:Addr,vs=[.ref a,.ref b]∧(∃ xs,SqL K H1 a xs)∧(∃ ys,SqL K H1 b ys)∧R (Itz K a b) H1
theorem zcJ {a b:Expr} {ta:TA} {p pos:Pos} (hg:Gl X "zip") (hm:X.mg "zip"=none) (ha:PA X [a,b] ta) (hs:starEach [a,b] X.env=[(false,eval a X.env),(false,eval b X.env)]:=by rfl) (hs2:starEach [b] X.env=[(false,eval b X.env)]:=by rfl) :
  PI X (.Tuple elts tk tp) (.Call (.Name "zip" p) [a,b] [] pos) (zgv X.K ta):=by
 intro pins s σ H R I h
 refine Call_ (z5v I hg hm boot_zip (PyProof.Rows.callWith_type1 (thn (ha pos pins s σ H _ I h) fun us s1 hz8=>?_) (by rw [hs,hs2]) (by rw [hs2];rfl)))
 obtain ⟨vs,H1,I1,r1,q1⟩:=hz8
 obtain ⟨a,b,e,⟨xs,hq⟩,⟨ys,hq'⟩,q⟩:=q1
 subst e
 obtain ⟨u,v,rfl,ru,rv'⟩:=zbI r1
 cases ru
 cases rv'
 obtain ⟨its,rv,pl,hz⟩:=I1.list hq
 obtain ⟨its2,rv2,pl2,hz2⟩:=I1.list hq'
 refine call_zip_2 pl.isList pl2.isList fun h' z1 z2 z3 z4 z5 z6 hk=>wpAny_pyIter_zip z1 ?_
 have I2:Inv X pins σ H1 { s1 with heap:=h' }:=I1.kept (t':=s1.toks) hk
 refine ⟨s1.heap.objs.size+4,[s1.heap.objs.size+4,s1.heap.objs.size+2,s1.heap.objs.size+3,s1.heap.objs.size,s1.heap.objs.size+1],_,_,H1,rfl,I2,
  zbw a b (s1.heap.objs.size+4) (s1.heap.objs.size+2) (s1.heap.objs.size+3) s1.heap.objs.size (s1.heap.objs.size+1) (by refine ⟨?_,?_,?_,?_,?_,?_,?_,?_,?_,?_⟩<;>(show @Ne Nat _ _;lia)),⟨z1,z2,⟨_,_,z3⟩,z4,z5⟩,fun c hb=>?_,q⟩
 have hb':s1.heap.objs.size≤c:=by
  simp only [List.mem_cons,List.not_mem_nil,or_false] at hb
  rcases hb with q | q | q | q | q<;>(have q:@Eq Nat c _:=q;lia)
 exact I1.fpOk hb' (I1.hok.fresh hb')
end
theorem zdy {K:PySem.W.Frag} {a b:Addr} {xs ys:List V} {g:TG} {tb:TS} {D:z3Y} {σ:St} {H:Hp} (hlen:xs.length=ys.length) (Pv:Nat→St→Hp→Prop) (h0:Pv 0 σ H) (hl:∀ i σ H,i≤xs.length→Pv i σ H→SqL K H a xs∧SqL K H b ys)
  (hs:∀ i x y p σ H,xs[i]?=some x→ys[i]?=some y→Pv i σ H→H p=none→g (.ref p) σ (upd H p (.tup [x,y])) fun σ2 H2=>tb { D with nx:=Pv (i+1),ct:=Pv (i+1),bk:=D.nx } σ2 H2) (hd:∀ σ H,Pv xs.length σ H→D.nx σ H) :
  ∃ W:Nat→Nat→St→Hp→Prop,(∃ m,W 0 m σ H)∧∀ i m σ H,W i m σ H →
   ((Itz K a b).stop i H∧D.nx σ H)∨((Itz K a b).go i H∧∃ N:St→Hp→Prop,(∀ σ' H',N σ' H'→∃ m',m' < m∧W (i+1) m' σ' H')∧∀ x H',(Itz K a b).yld i H x H'→g x σ H' fun σ2 H2=>tb { D with nx:=N,ct:=N,bk:=D.nx } σ2 H2):=by
 refine ⟨fun i m σ H=>m=xs.length - i∧i≤xs.length∧Pv i σ H,⟨xs.length,by simp,Nat.zero_le _,h0⟩,?_⟩
 rintro i m σ H ⟨rfl,hi,p⟩
 obtain ⟨q,q'⟩:=hl i σ H hi p
 by_cases hlt:i < xs.length
 ·refine .inr ⟨⟨xs,ys,xs[i],ys[i]'(by lia),q,q',by simp [hlt],by simp [show i < ys.length by lia]⟩,Pv (i+1),fun σ' H' p'=>⟨xs.length - (i+1),by lia,rfl,hlt,p'⟩,fun x H' y=>?_⟩
  obtain ⟨c,z,z',rfl,hb,hz,hz',rfl⟩:=y
  exact hs i z z' c σ H (hz xs q) (hz' ys q') p hb
 ·have e:i=xs.length:=by lia
  subst e
  exact .inl ⟨⟨xs,ys,q,q',.inl (Nat.le_refl _)⟩,hd σ H p⟩
theorem zc5 {K:PySem.W.Frag} {a b l:Addr} {xs zs:List V} {ix:List (Option Nat)} {g:TG} {te:TE} {σ:St} {H0:Hp} {Qe:Hp→Prop} (hlen:xs.length=zs.length) (Pv:Nat→List V→Hp→Prop) (h0:Pv 0 [] H0) (hl:∀ i ys H,i≤xs.length→Pv i ys H→SqL K H a xs∧SqL K H b zs) (hz:xs.length≤sizeLine)
  (hn:∀ i ys H,Pv i ys H→ys.length=i)
  (hs:∀ i x y p ys H,xs[i]?=some x→zs[i]?=some y→Pv i ys H→H l=some (.lst ys)→H p=none→g (.ref p) (z1l ix σ) (upd H p (.tup [x,y])) fun σ2 H2=>te σ2 H2 fun v H3=>H3 l=some (.lst ys)∧Pv (i+1) (ys++[v]) (upd H3 l (.lst (ys++[v]))))
  (hd:∀ ys H,Pv xs.length ys H→H l=some (.lst ys)→Qe H):z6y ix (Itz K a b) g te σ l H0 Qe:=by
 refine z4V (n:=xs.length) Pv h0 (fun i ys H hi p hy=>?_) fun ys H p hy=>⟨⟨xs,zs,(hl _ ys H (Nat.le_refl _) p).1,(hl _ ys H (Nat.le_refl _) p).2,.inl (Nat.le_refl _)⟩,hd ys H p hy⟩
 obtain ⟨q,q'⟩:=hl i ys H (Nat.le_of_lt hi) p
 refine ⟨⟨xs,zs,xs[i],zs[i]'(by lia),q,q',by simp [hi],by simp [show i < zs.length by lia]⟩,by rw [hn i ys H p];exact Nat.lt_of_lt_of_le hi hz,fun x H' y=>?_⟩
 obtain ⟨c,z,z',rfl,hb,hz,hz',rfl⟩:=y
 exact hs i z z' c ys H (hz xs q) (hz' zs q') p hy hb
end L2
namespace L2
open PySem PySem.Spec PyProof.Rows
open PySem.AutoSeq1 (wpAny_loadPart')
inductive D where
 | non | bl (b:Bool) | int (i:Int) | str (x:Str) | tup (ds:List D) | lst (ds:List D)
mutual
def Dr (K:PySem.W.Frag) (H:Hp):D→V→Prop
 | .non,v=>v=.non
 | .bl b,v=>v=.bl b
 | .int i,v=>v=.int i
 | .str x,v=>v=.str x
 | .tup ds,v=>∃ (a:Addr) (vs:List V),v=.ref a∧H a=some (.tup vs)∧DrL K H ds vs
 | .lst ds,v=>∃ (a:Addr) (vs:List V),v=.ref a∧SqL K H a vs∧DrL K H ds vs
def DrL (K:PySem.W.Frag) (H:Hp):List D→List V→Prop
 | [],vs=>vs=[]
 | d::ds,vs=>∃ v r,vs=v::r∧Dr K H d v∧DrL K H ds r
end
theorem z0f.tupl {K:PySem.W.Frag} {H H':Hp} {a:Addr} {xs:List V} (s:z0f H H') (h:SqT K H a xs):SqT K H' a xs:=by
 rcases h with (h | ⟨o,h⟩) | h
 ·exact .inl (.inl (s _ _ h))
 ·exact .inl (.inr ⟨o,s _ _ h⟩)
 ·exact .inr h
mutual
theorem Dr.mono {K:PySem.W.Frag} {H H':Hp} (s:z0f H H'):∀ {d:D} {v:V},Dr K H d v→Dr K H' d v
 | .non,_,h=>by simp only [Dr] at h ⊢;exact h
 | .bl _,_,h=>by simp only [Dr] at h ⊢;exact h
 | .int _,_,h=>by simp only [Dr] at h ⊢;exact h
 | .str _,_,h=>by simp only [Dr] at h ⊢;exact h
 | .tup ds,_,h=>by
  simp only [Dr] at h ⊢
  obtain ⟨a,vs,e,q,r⟩:=h
  exact ⟨a,vs,e,s _ _ q,DrL.mono s r⟩
 | .lst ds,_,h=>by
  simp only [Dr] at h ⊢
  obtain ⟨a,vs,e,q,r⟩:=h
  exact ⟨a,vs,e,s.seq q,DrL.mono s r⟩
theorem DrL.mono {K:PySem.W.Frag} {H H':Hp} (s:z0f H H'):∀ {ds:List D} {vs:List V},DrL K H ds vs→DrL K H' ds vs
 | [],_,h=>by simp only [DrL] at h ⊢;exact h
 | d::ds,_,h=>by
  simp only [DrL] at h ⊢
  obtain ⟨v,r,e,q,q'⟩:=h
  exact ⟨v,r,e,Dr.mono s q,DrL.mono s q'⟩
end
theorem DrL.length {K:PySem.W.Frag} {H:Hp}:∀ {ds:List D} {vs:List V},DrL K H ds vs→ds.length=vs.length
 | [],_,h=>by simp only [DrL] at h;subst h;rfl
 | d::ds,_,h=>by
  simp only [DrL] at h
  obtain ⟨v,r,rfl,_,q⟩:=h
  rw [List.length_cons,List.length_cons,DrL.length q]
theorem DrL.get {K:PySem.W.Frag} {H:Hp}:∀ {ds:List D} {vs:List V} {i:Nat} {d:D},DrL K H ds vs→ds[i]?=some d→∃ v,vs[i]?=some v∧Dr K H d v
 | [],_,_,_,_,e=>by simp at e
 | d::ds,_,0,_,h,e=>by
  simp only [DrL] at h
  obtain ⟨v,r,rfl,q,_⟩:=h
  simp at e;subst e
  exact ⟨v,rfl,q⟩
 | d::ds,_,i+1,d',h,e=>by
  simp only [DrL] at h
  obtain ⟨v,r,rfl,_,q⟩:=h
  obtain ⟨v',h1,h2⟩:=DrL.get (i:=i) q (by simpa using e)
  exact ⟨v',by simpa using h1,h2⟩
theorem DrL.append {K:PySem.W.Frag} {H:Hp}:∀ {ds es:List D} {vs us:List V},DrL K H ds vs→DrL K H es us→DrL K H (ds++es) (vs++us)
 | [],_,_,_,h,h'=>by simp only [DrL] at h;subst h;exact h'
 | d::ds,es,_,us,h,h'=>by
  simp only [DrL] at h
  obtain ⟨v,r,rfl,q,q'⟩:=h
  show DrL K H (d::(ds++es)) (v::(r++us))
  simp only [DrL]
  exact ⟨v,_,rfl,q,DrL.append q' h'⟩
theorem DrL.one {K:PySem.W.Frag} {H:Hp} {d:D} {v:V} (h:Dr K H d v):DrL K H [d] [v]:=by
 simp only [DrL];exact ⟨v,[],rfl,h,rfl⟩
theorem DrL.nil {K:PySem.W.Frag} {H:Hp}:DrL K H [] []:=by simp only [DrL]
theorem DrL.cons {K:PySem.W.Frag} {H:Hp} {d:D} {v:V} {ds:List D} {vs:List V} (h:Dr K H d v) (h':DrL K H ds vs):DrL K H (d::ds) (v::vs):=by
 simp only [DrL];exact ⟨v,vs,rfl,h,h'⟩
theorem DrL.ints {K:PySem.W.Frag} {H:Hp}:∀ (ns:List Int),DrL K H (ns.map D.int) (ns.map V.int)
 | []=>DrL.nil
 | n::r=>DrL.cons (by simp only [Dr]) (DrL.ints r)
theorem DrL.ints_inv {K:PySem.W.Frag} {H:Hp}:∀ {ns:List Int} {vs:List V},DrL K H (ns.map D.int) vs→vs=ns.map V.int
 | [],_,h=>by simp only [List.map_nil,DrL] at h;rw [h];rfl
 | n::r,_,h=>by
  simp only [List.map_cons,DrL] at h
  obtain ⟨v,w,rfl,q,q'⟩:=h
  simp only [Dr] at q
  subst q
  rw [DrL.ints_inv q',List.map_cons]
theorem Dr.tup {K:PySem.W.Frag} {H:Hp} {a:Addr} {ds:List D} {vs:List V} (h:H a=some (.tup vs)) (r:DrL K H ds vs):Dr K H (.tup ds) (.ref a):=by
 simp only [Dr];exact ⟨a,vs,rfl,h,r⟩
theorem Dr.lst {K:PySem.W.Frag} {H:Hp} {a:Addr} {ds:List D} {vs:List V} (h:H a=some (.lst vs)) (r:DrL K H ds vs):Dr K H (.lst ds) (.ref a):=by
 simp only [Dr];exact ⟨a,vs,rfl,SqL.of h,r⟩
theorem Dr.int {K:PySem.W.Frag} {H:Hp} (i:Int):Dr K H (.int i) (.int i):=by simp only [Dr]
abbrev D.its (ns:List Int):D:=.tup (ns.map D.int)
end L2
namespace L2
open PySem PySem.Spec PyProof.Rows
open PySem.SeqAt
mutual
def D.eq:D→D→Bool
 | .non,.non=>true
 | .bl a,.bl b=>a == b
 | .int i,.int j=>i == j
 | .str x,.str y=>decide (x=y)
 | .tup a,.tup b=>D.eqL a b
 | .lst a,.lst b=>D.eqL a b
 | _,_=>false
def D.eqL:List D→List D→Bool
 | [],[]=>true
 | d::ds,e::es=>D.eq d e && D.eqL ds es
 | _,_=>false
end
mutual
def D.ok:D→D→Prop
 | .non,.non=>True
 | .bl _,.bl _=>True
 | .int _,.int _=>True
 | .str _,.str _=>True
 | .tup a,.tup b=>D.okL a b
 | .lst a,.lst b=>D.okL a b
 | _,_=>False
def D.okL:List D→List D→Prop
 | d::ds,e::es=>D.ok d e∧D.okL ds es
 | _,_=>True
end
mutual
def D.dep:D→Nat
 | .tup a=>D.depL a+1
 | .lst a=>D.depL a+1
 | _=>0
def D.depL:List D→Nat
 | []=>0
 | d::ds=>max (D.dep d) (D.depL ds)
end
mutual
theorem D.eq_refl:∀ d:D,D.eq d d=true
 | .non=>by simp only [D.eq]
 | .bl b=>by simp only [D.eq,beq_self_eq_true]
 | .int i=>by simp only [D.eq,beq_self_eq_true]
 | .str x=>by simp only [D.eq,decide_true]
 | .tup a=>by simp only [D.eq];exact D.eqL_refl a
 | .lst a=>by simp only [D.eq];exact D.eqL_refl a
theorem D.eqL_refl:∀ ds:List D,D.eqL ds ds=true
 | []=>by simp only [D.eqL]
 | d::ds=>by simp only [D.eqL,D.eq_refl d,D.eqL_refl ds,Bool.and_self]
end
mutual
theorem D.eq_of:∀ {d e:D},D.eq d e=true→d=e
 | .non,e,h=>by cases e<;>simp only [D.eq,Bool.false_eq_true] at h<;>rfl
 | .bl b,e,h=>by cases e<;>simp only [D.eq,Bool.false_eq_true,beq_iff_eq] at h;rw [h]
 | .int b,e,h=>by cases e<;>simp only [D.eq,Bool.false_eq_true,beq_iff_eq] at h;rw [h]
 | .str b,e,h=>by cases e<;>simp only [D.eq,Bool.false_eq_true,decide_eq_true_eq] at h;rw [h]
 | .tup b,e,h=>by
  cases e<;>simp only [D.eq,Bool.false_eq_true] at h
  rw [D.eqL_of h]
 | .lst b,e,h=>by
  cases e<;>simp only [D.eq,Bool.false_eq_true] at h
  rw [D.eqL_of h]
theorem D.eqL_of:∀ {d e:List D},D.eqL d e=true→d=e
 | [],e,h=>by cases e<;>simp only [D.eqL,Bool.false_eq_true] at h;rfl
 | d::ds,e,h=>by
  cases e<;>simp only [D.eqL,Bool.false_eq_true,Bool.and_eq_true] at h
  rw [D.eq_of h.1,D.eqL_of h.2]
end
theorem D.okL_get:∀ {ds es:List D} {j:Nat} {d e:D},D.okL ds es→ds[j]?=some d→es[j]?=some e→D.ok d e
 | [],_,_,_,_,_,h,_=>by simp at h
 | _::_,[],_,_,_,_,_,h=>by simp at h
 | _::_,_::_,0,_,_,h,h1,h2=>by
  simp only [D.okL] at h
  simp at h1 h2;subst h1 h2;exact h.1
 | _::_,_::_,j+1,_,_,h,h1,h2=>by
  simp only [D.okL] at h
  exact D.okL_get h.2 (by simpa using h1) (by simpa using h2)
theorem D.depL_get:∀ {ds:List D} {j:Nat} {d:D},ds[j]?=some d→D.dep d≤D.depL ds
 | [],_,_,h=>by simp at h
 | _::_,0,_,h=>by
  simp at h;subst h;simp only [D.depL];exact Nat.le_max_left _ _
 | _::ds,j+1,_,h=>by
  simp only [D.depL]
  exact Nat.le_trans (D.depL_get (ds:=ds) (j:=j) (by simpa using h)) (Nat.le_max_right _ _)
def D.at_ (ds es:List D) (j:Nat):Bool:=match ds[j]?,es[j]? with | some d,some e=>D.eq d e | _,_=>true
theorem D.all_eqL:∀ (ds es:List D),(((List.range (min ds.length es.length)).all (D.at_ ds es)) && ds.length == es.length)=D.eqL ds es
 | [],[]=>by simp [D.eqL]
 | [],e::es=>by simp [D.eqL]
 | d::ds,[]=>by simp [D.eqL]
 | d::ds,e::es=>by
  have ih:=D.all_eqL ds es
  simp only [D.eqL]
  rw [←ih]
  have e1:min (d::ds).length (e::es).length=min ds.length es.length+1:=by simp only [List.length_cons];lia
  rw [e1,List.range_succ_eq_map,List.all_cons,List.all_map,Bool.and_assoc]
  have e2:D.at_ (d::ds) (e::es) 0=D.eq d e:=by simp [D.at_]
  have e3:(D.at_ (d::ds) (e::es) ∘ Nat.succ)=D.at_ ds es:=by funext j;simp [D.at_]
  have e4:((d::ds).length == (e::es).length)=(ds.length == es.length):=by simp
  rw [e2,e3,e4]
theorem D.all_eqL' {ds es:List D} (h:ds.length=es.length):(List.range ds.length).all (D.at_ ds es)=D.eqL ds es:=by
 rw [←D.all_eqL ds es]
 have:min ds.length es.length=ds.length:=by lia
 rw [this]
 simp [h]
theorem D.eqL_len {ds es:List D} (h:ds.length≠es.length):D.eqL ds es=false:=by
 rw [←D.all_eqL ds es]
 have:(ds.length == es.length)=false:=by simpa using h
 rw [this,Bool.and_false]
section
variable {X:Cx} {pins:List (Addr × Obj)} {σ:St} {H:Hp} {s:Shared}
mutual
theorem Dr.inj (I:Inv X pins σ H s):∀ {d e:D} {v:V},Dr X.K H d v→Dr X.K H e v→D.ok d e→d=e
 | .non,e,v,h,h',o=>by cases e<;>simp only [D.ok] at o<;>rfl
 | .bl b,e,v,h,h',o=>by
  cases e<;>simp only [D.ok] at o
  simp only [Dr] at h h';rw [h] at h';cases h';rfl
 | .int b,e,v,h,h',o=>by
  cases e<;>simp only [D.ok] at o
  simp only [Dr] at h h';rw [h] at h';cases h';rfl
 | .str b,e,v,h,h',o=>by
  cases e<;>simp only [D.ok] at o
  simp only [Dr] at h h';rw [h] at h';cases h';rfl
 | .tup ds,e,v,h,h',o=>by
  cases e<;>simp only [D.ok] at o
  simp only [Dr] at h h'
  obtain ⟨a,vs,rfl,q,r⟩:=h
  obtain ⟨b,us,eq,q',r'⟩:=h'
  cases eq
  have:=I.tuple_inj (SqT.of q) (SqT.of q')
  subst this
  rw [DrL.inj I r r' o]
 | .lst ds,e,v,h,h',o=>by
  cases e<;>simp only [D.ok] at o
  simp only [Dr] at h h'
  obtain ⟨a,vs,rfl,q,r⟩:=h
  obtain ⟨b,us,eq,q',r'⟩:=h'
  cases eq
  have:=I.list_inj q q'
  subst this
  rw [DrL.inj I r r' o]
theorem DrL.inj (I:Inv X pins σ H s):∀ {ds es:List D} {vs:List V},DrL X.K H ds vs→DrL X.K H es vs→D.okL ds es→ds=es
 | [],[],_,_,_,_=>rfl
 | [],_::_,_,h,h',_=>by
  simp only [DrL] at h h'
  obtain ⟨_,_,e,_⟩:=h'
  rw [h] at e;cases e
 | _::_,[],_,h,h',_=>by
  simp only [DrL] at h h'
  obtain ⟨_,_,e,_⟩:=h
  rw [h'] at e;cases e
 | d::ds,e::es,_,h,h',o=>by
  simp only [DrL] at h h'
  simp only [D.okL] at o
  obtain ⟨v,r,rfl,q,q'⟩:=h
  obtain ⟨u,w,eq,p,p'⟩:=h'
  cases eq
  rw [Dr.inj I q p o.1,DrL.inj I q' p' o.2]
end
theorem zes (I:Inv X pins σ H s):∀ (n:Nat) (A:Around) {d e:D} {x y:V} {v u:Value},D.dep d≤n→A.units+n < cLine→Dr X.K H d x→Dr X.K H e y→D.ok d e→z1c x v→z1c y u→EqAt A s v u (D.eq d e)∧(∀ l b,x=.ref l→y=.ref b→RcAt A s v u (D.eq d e)):=by
 intro n
 induction n with
 | zero =>
  intro A d e x y v u hd hu hx hy o rx ry
  cases d<;>cases e<;>simp only [D.ok] at o<;>simp only [D.dep,Nat.le_zero,Nat.add_eq_zero_iff,Nat.one_ne_zero,and_false] at hd
  ·simp only [Dr] at hx hy;subst hx hy;cases rx;cases ry
   exact ⟨EqAt.same _,fun _ _ h=>nomatch h⟩
  ·rename_i a b
   simp only [Dr] at hx hy;subst hx hy;cases rx;cases ry
   simp only [D.eq]
   exact ⟨EqAt.bool_bool _ _,fun _ _ h=>nomatch h⟩
  ·rename_i a b
   simp only [Dr] at hx hy;subst hx hy;obtain ⟨t,rfl⟩:=rx;obtain ⟨t',rfl⟩:=ry
   simp only [D.eq]
   exact ⟨fun prog w E Q h=>wpAny_eqBool_int h,fun _ _ h=>nomatch h⟩
  ·rename_i a b
   simp only [Dr] at hx hy;subst hx hy;obtain ⟨t,rfl⟩:=rx;obtain ⟨t',rfl⟩:=ry
   simp only [D.eq]
   exact ⟨fun prog w E Q h=>wpAny_eqBool_str h,fun _ _ h=>nomatch h⟩
 | succ n ih =>
  intro A d e x y v u hd hu hx hy o rx ry
  have flat:D.dep d≤0→EqAt A s v u (D.eq d e)∧(∀ l b,x=.ref l→y=.ref b→RcAt A s v u (D.eq d e)):=fun z=>ih A (Nat.le_trans z (Nat.zero_le _)) (by lia) hx hy o rx ry
  have hin:A.in1.units+n < cLine:=by show A.units+1+n < cLine;lia
  have both:∀ {l b:Addr} {k:Bool},RcAt A s (.ref l) (.ref b) k→(l=b→k=true)→EqAt A s (.ref l) (.ref b) k:=fun {l b k} h hk=>by
   by_cases e:l=b
   ·have z:=hk e
    subst e
    rw [z]
    exact EqAt.same _
   ·exact EqAt.of_refs e h
  have items:∀ {ds es:List D} {vs us:List V} {its itt:List Value},D.depL ds≤n→D.okL ds es→DrL X.K H ds vs→DrL X.K H es us→z0V vs its→z0V us itt→∀ j (h1:j < its.toArray.size) (h2:j < itt.toArray.size),EqAt A.in1 s its.toArray[j] itt.toArray[j] (D.at_ ds es j):=by
   intro ds es vs us its itt hdp hok r r' rv rv' j h1 h2
   have l1:=rv.length
   have l2:=rv'.length
   have l3:=r.length
   have l4:=r'.length
   have h1':j < its.length:=by simpa using h1
   have h2':j < itt.length:=by simpa using h2
   have e1:ds[j]?=some ds[j]:=zGe (by lia)
   have e2:es[j]?=some es[j]:=zGe (by lia)
   obtain ⟨x1,g1,d1⟩:=r.get e1
   obtain ⟨x2,g2,d2⟩:=r'.get e2
   obtain ⟨u1,k1,q1⟩:=rv.get g1
   obtain ⟨u2,k2,q2⟩:=rv'.get g2
   have z1:u1=its.toArray[j]:=by
    rw [zGe h1'] at k1
    have:=Option.some.inj k1
    simpa using this.symm
   have z2:u2=itt.toArray[j]:=by
    rw [zGe h2'] at k2
    have:=Option.some.inj k2
    simpa using this.symm
   have z3:D.at_ ds es j=D.eq ds[j] es[j]:=by unfold D.at_;rw [e1,e2]
   rw [z3,←z1,←z2]
   exact (ih A.in1 (Nat.le_trans (D.depL_get e1) hdp) hin d1 d2 (D.okL_get hok e1 e2) q1 q2).1
  cases d with
  | non=>exact flat (Nat.le_refl _)
  | bl _=>exact flat (Nat.le_refl _)
  | int _=>exact flat (Nat.le_refl _)
  | str _=>exact flat (Nat.le_refl _)
  | tup ds =>
   cases e<;>simp only [D.ok] at o
   rename_i es
   have inj:=fun (q:x=y)=>Dr.inj I hx (q ▸ hy) (by simp only [D.ok];exact o)
   have hdp:D.depL ds≤n:=by simp only [D.dep] at hd;lia
   simp only [Dr] at hx hy
   obtain ⟨l,vs,rfl,q,r⟩:=hx
   obtain ⟨b,us,rfl,q',r'⟩:=hy
   cases rx
   cases ry
   obtain ⟨its,rv,pl,_⟩:=I.tuple (SqT.of q)
   obtain ⟨itt,rv',pl',_⟩:=I.tuple (SqT.of q')
   have R:RcAt A s (.ref l) (.ref b) (D.eq (.tup ds) (.tup es)):=by
    have z:=RcAt.tuples (A:=A) (e:=D.at_ ds es) pl pl' (by lia) (items hdp o r r' rv rv')
    have e1:its.toArray.size=ds.length:=by rw [r.length,rv.length];simp
    have e2:itt.toArray.size=es.length:=by rw [r'.length,rv'.length];simp
    rw [e1,e2,D.all_eqL] at z
    simp only [D.eq]
    exact z
   exact ⟨both R fun h=>by subst h;have:=inj rfl;rw [this];exact D.eq_refl _,fun _ _ _ _=>R⟩
  | lst ds =>
   cases e<;>simp only [D.ok] at o
   rename_i es
   have inj:=fun (q:x=y)=>Dr.inj I hx (q ▸ hy) (by simp only [D.ok];exact o)
   have hdp:D.depL ds≤n:=by simp only [D.dep] at hd;lia
   simp only [Dr] at hx hy
   obtain ⟨l,vs,rfl,q,r⟩:=hx
   obtain ⟨b,us,rfl,q',r'⟩:=hy
   cases rx
   cases ry
   obtain ⟨its,rv,pl,_⟩:=I.list q
   obtain ⟨itt,rv',pl',_⟩:=I.list q'
   have e1:its.toArray.size=ds.length:=by rw [r.length,rv.length];simp
   have e2:itt.toArray.size=es.length:=by rw [r'.length,rv'.length];simp
   have R:RcAt A s (.ref l) (.ref b) (D.eq (.lst ds) (.lst es)):=by
    by_cases hl:ds.length=es.length
    ·have z:=RcAt.lists (A:=A) (e:=D.at_ ds es) pl.isList pl'.isList (by lia) (by lia) (items hdp o r r' rv rv')
     rw [e1,D.all_eqL' hl] at z
     simp only [D.eq]
     exact z
    ·have z:=RcAt.lists_lengths (A:=A) pl.isList pl'.isList (by rw [e1,e2];simpa using hl) (by lia)
     simp only [D.eq]
     rw [D.eqL_len hl]
     exact z
   exact ⟨both R fun h=>by subst h;have:=inj rfl;rw [this];exact D.eq_refl _,fun _ _ _ _=>R⟩
theorem zeR (hu:X.A.units+64 < cLine):OpR X (compareOp .Eq) (fun x y H Q=>∃ (a b:Addr) (d e:D),x=.ref a∧y=.ref b∧Dr X.K H d x∧Dr X.K H e y∧D.ok d e∧D.dep d≤50∧Q (.bl (D.eq d e)) H):=by
 intro pins s σ H x y v u Q I rx ry h
 obtain ⟨a,b,d,e,hx,hy,dx,dy,o,hd,q⟩:=h
 have R:=(zes I 50 X.A hd (by lia) dx dy o rx ry).2 a b hx hy
 exact R _ _ _ _ ⟨.bl _,H,I,rfl,q⟩
end
end L2
namespace L2
open PySem PySem.Spec PyProof.Rows PySem.SeqAt
open PySem.AutoSeq1 (wpAny_loadPart')
section
variable {X:Cx}
end
end L2
namespace L2
open PySem PySem.Spec PyProof.Rows
section
variable {X:Cx} (K:PySem.W.Frag)
theorem ixL (h:X.K=K):IxR X (zgG K):=h ▸ z1C
theorem ixT (h:X.K=K):IxR X (zgD K):=h ▸ z1w
theorem zg9 (h:X.K=K):z3e X (.type "tuple") (fun xs H Q=>∃ p ys,xs=[.ref p]∧((SqL K H p ys∧∀ l,H l=none→Q (.ref l) (upd H l (.tup ys)))∨(SqT K H p ys∧Q (.ref p) H))):=h ▸ z0n
theorem piT {tg l:Expr} {tl:TE} (h:X.K=K) (hl:PE X l tl):PI X tg l (zgO K tl):=h ▸ z23 hl
variable {o e:Expr} {es:List Expr} {to:TE} {t:TA} {name:Str} {apos cpos:Pos} {T id:String} {r:V→List V→Hp→VK→Prop}
theorem zhr (h:X.K=K) (hc:X.calm=true):z3e X (.builtin "any") (fun xs H Q=>∃ (p:Addr) (bs:List Bool),xs=[.ref p]∧SqL K H p (bs.map V.bl)∧Q (.bl (bs.any _root_.id)) H):=h ▸ zbU hc
theorem pgT {es:List Expr} {k:Nat} {t:TGs} {n:Nat} {pos:Pos} (h:X.K=K) (hc:X.calm=true) (hp:PGs X es t)
  (hn:(assignEach es X.env).length=n:=by rfl) (hst:(assignEach es X.env).findIdx? (·.1)=none:=by rfl):PG X (.Tuple es k pos) (zgH K n t):=h ▸ z1S hc hp hn hst
theorem zfD {elts:List Expr} {tk:Nat} {tp:Pos} {a b:Expr} {ta:TA} {p pos:Pos} (h:X.K=K) (hg:Gl X "zip") (hm:X.mg "zip"=none) (ha:PA X [a,b] ta) (hs:starEach [a,b] X.env=[(false,eval a X.env),(false,eval b X.env)]:=by rfl) (hs2:starEach [b] X.env=[(false,eval b X.env)]:=by rfl) :
  PI X (.Tuple elts tk tp) (.Call (.Name "zip" p) [a,b] [] pos) (zgv K ta):=h ▸ zcJ hg hm ha hs hs2
end
mutual
def D.few:D→Prop
 | .tup a=>a.length≤5000∧D.fewL a
 | .lst a=>a.length≤5000∧D.fewL a
 | _=>True
def D.fewL:List D→Prop
 | []=>True
 | d::ds=>D.few d∧D.fewL ds
end
theorem D.depL_ints:∀ ns:List Int,D.depL (ns.map D.int)=0
 | []=>by simp only [List.map_nil,D.depL]
 | n::r=>by simp only [List.map_cons,D.depL,D.dep,D.depL_ints r];rfl
end L2
namespace Gu
open PySem L2
def cell (ns:List Int) (i:Nat):Int:=if i < ns.length then ns.getD i 0 else if ns.length=0 then 29*i+5 else ns.getD (i % ns.length) 0 % 1000003+103*i
def z3E (ns:List Int) (i:Nat):Int:=2+cell ns i % 4
theorem z5y (ns:List Int) (i:Nat):2≤z3E ns i:=by unfold z3E;have:=Int.emod_nonneg (cell ns i) (show (4:Int)≠0 by decide);lia
theorem z9i (ns:List Int) (i:Nat):z3E ns i≤5:=by unfold z3E;have:=Int.emod_lt_of_pos (cell ns i) (show (0:Int) < 4 by decide);lia
def zcF (ns:List Int) (i:Nat):Nat:=(z3E ns i).toNat
theorem zdC (ns:List Int) (i:Nat):2≤zcF ns i:=by unfold zcF;have:=z5y ns i;lia
theorem zdc (ns:List Int) (i:Nat):zcF ns i≤5:=by unfold zcF;have:=z9i ns i;lia
theorem zcg (ns:List Int) (i:Nat):((zcF ns i:Nat):Int)=2+cell ns i % 4:=by unfold zcF;have:=z5y ns i;unfold z3E at *;lia
def z0r (n:Nat):List Int:=(List.range n).map fun (i:Nat)=>(i:Int)
theorem z0z (n:Nat):(z0r n).length=n:=by simp [z0r]
theorem z1v {n i:Nat} (h:i < n):(z0r n)[i]?=some (i:Int):=by simp [z0r,h]
theorem z0H {n:Nat} {x:Int}:x∈z0r n↔0≤x∧x < n:=by
 constructor
 ·intro h
  obtain ⟨i,hi,rfl⟩:=List.mem_map.mp h
  have:=List.mem_range.mp hi
  lia
 ·intro ⟨h0,h1⟩
  exact List.mem_map.mpr ⟨x.toNat,List.mem_range.mpr (by lia),by lia⟩
theorem z2T (n:Nat):(z0r n).Nodup:=by
 unfold z0r
 rw [List.nodup_iff_pairwise_ne,List.pairwise_map]
 exact List.Pairwise.imp (fun h=>by lia) List.nodup_range
theorem z3w (n:Nat):zbp 0 n=(z0r n).map V.int:=by
 unfold zbp z0r
 rw [List.map_map]
 refine List.map_congr_left fun i _=>?_
 simp
theorem z2B:∀ (l:List Int) (i:Nat) (h:i < l.length),(l[i]::l.eraseIdx i).Perm l
 | [],_,h=>by simp at h
 | a::r,0,_=>List.Perm.refl _
 | a::r,i+1,h=>by
  have ih:=z2B r i (by simpa using h)
  show (r[i]'(by simpa using h)::a::r.eraseIdx i).Perm (a::r)
  exact (List.Perm.swap _ _ _).trans (ih.cons a)
def zcQ:Nat→Int→List Int→List Int
 | 0,_,_=>[]
 | k+1,p,left=>left.getD (p % (left.length:Int)).toNat 0::zcQ k (p / (left.length:Int)) (left.eraseIdx (p % (left.length:Int)).toNat)
def zbD (pick:Int) (n:Nat):List Int:=zcQ n pick (z0r n)
theorem z6W:∀ (k:Nat) (p:Int) (left:List Int),left.length=k→(zcQ k p left).Perm left
 | 0,_,left,h=>by
  have:left=[]:=List.length_eq_zero_iff.mp h
  subst this
  exact List.Perm.refl _
 | k+1,p,left,h=>by
  have hpos:(0:Int) < left.length:=by lia
  have h0:=Int.emod_nonneg p (show (left.length:Int)≠0 by lia)
  have h1:=Int.emod_lt_of_pos p hpos
  have hi:(p % (left.length:Int)).toNat < left.length:=by lia
  unfold zcQ
  have e:left.getD (p % (left.length:Int)).toNat 0=left[(p % (left.length:Int)).toNat]:=by simp [hi]
  rw [e]
  have ih:=z6W k (p / (left.length:Int)) (left.eraseIdx (p % (left.length:Int)).toNat) (by rw [List.length_eraseIdx_of_lt hi];lia)
  exact (ih.cons _).trans (z2B _ _ hi)
theorem z9x (pick:Int) (n:Nat):(zbD pick n).Perm (z0r n):=z6W n pick (z0r n) (z0z n)
def IsP (n:Nat) (p:List Int):Prop:=p.Perm (z0r n)
theorem IsP.len {n:Nat} {p:List Int} (h:IsP n p):p.length=n:=by rw [List.Perm.length_eq h,z0z]
theorem IsP.nodup {n:Nat} {p:List Int} (h:IsP n p):p.Nodup:=(List.Perm.nodup_iff h).mpr (z2T n)
theorem IsP.mem {n:Nat} {p:List Int} (h:IsP n p) {x:Int}:x∈p↔0≤x∧x < n:=(List.Perm.mem_iff h).trans z0H
theorem IsP.get {n:Nat} {p:List Int} (h:IsP n p) {i:Nat} (hi:i < n):∃ x:Int,p[i]?=some x∧0≤x∧x < n:=by
 have hl:=h.len
 refine ⟨p[i],zGe (by lia),?_⟩
 exact h.mem.mp (List.getElem_mem (by lia))
theorem IsP.find {n:Nat} {p:List Int} (h:IsP n p) {x:Int} (h0:0≤x) (h1:x < n):∃ j:Nat,j < n∧p[j]?=some x∧∀ m,m < j→p[m]?≠some x:=by
 obtain ⟨j,hj,e⟩:=List.getElem_of_mem (h.mem.mpr ⟨h0,h1⟩)
 have hl:=h.len
 have ej:p[j]?=some x:=by rw [zGe hj,e]
 refine ⟨j,by lia,ej,fun m hm q=>?_⟩
 have hml:m < p.length:=by lia
 rw [zGe hml] at q
 have q':p[m]=p[j]:=by rw [e];exact Option.some.inj q
 have:=(List.getElem_inj h.nodup).mp q'
 lia
def z59 (one other:List Int):List Int:=one.map fun x=>other.getD x.toNat 0
def z2A (p:List Int):List Int:=(z0r p.length).map fun k=>((p.idxOf k:Nat):Int)
theorem zdV {n:Nat} {p ys:List Int} (h:IsP n p) (hl:ys.length=n) (hy:∀ (m:Nat) (x:Int),p[m]?=some x→ys[x.toNat]?=some (m:Int)):ys=z2A p:=by
 unfold z2A
 rw [h.len]
 refine List.ext_getElem? fun k=>?_
 by_cases hk:k < n
 ·obtain ⟨j,hj,ej,hm⟩:=h.find (x:=(k:Int)) (by lia) (by lia)
  have:=hy j k ej
  simp only [Int.toNat_natCast] at this
  rw [this,zGm,z1v hk]
  have hjl:j < p.length:=by rw [h.len];exact hj
  have e1:p[j]=(k:Int):=by rw [zGe hjl] at ej;exact Option.some.inj ej
  have e2:p.idxOf (k:Int)=j:=by
   rw [←e1]
   exact List.Nodup.idxOf_getElem h.nodup j hjl
  simp [e2]
 ·rw [List.getElem?_eq_none (by lia),List.getElem?_eq_none (by rw [zLm,z0z];lia)]
theorem z92 {n:Nat} {p:List Int} (h:IsP n p) {m:Nat} {x:Int} (e:p[m]?=some x):(z2A p)[x.toNat]?=some (m:Int):=by
 have hm:m < p.length:=(zGs.mp e).1
 have e1:p[m]=x:=by rw [zGe hm] at e;exact Option.some.inj e
 have hx:=h.mem.mp (e1 ▸ List.getElem_mem hm)
 unfold z2A
 rw [zGm,z1v (n:=p.length) (i:=x.toNat) (by rw [h.len];lia)]
 have e2:((x.toNat:Nat):Int)=x:=by lia
 have e3:p.idxOf x=m:=by rw [←e1];exact List.Nodup.idxOf_getElem h.nodup m hm
 simp [e2,e3]
theorem z8b {p:List Int}:(z2A p).length=p.length:=by simp [z2A,z0z]
theorem za9 {n:Nat} {p:List Int} (h:IsP n p):z59 p (z2A p)=z0r n:=by
 refine List.ext_getElem? fun m=>?_
 unfold z59
 rw [zGm]
 by_cases hm:m < n
 ·have hml:m < p.length:=by rw [h.len];exact hm
  have e:p[m]?=some p[m]:=zGe hml
  rw [e,z1v hm]
  have:=z92 h e
  simp [this]
 ·rw [List.getElem?_eq_none (by rw [h.len];lia),List.getElem?_eq_none (by rw [z0z];lia)]
  rfl
end Gu
namespace L2
open PySem PySem.Spec PyProof.Rows PySem.SeqAt
instance:DecidableEq D:=fun a b=>if h:D.eq a b=true then isTrue (D.eq_of h) else isFalse fun e=>h (by rw [e];exact D.eq_refl b)
theorem D.dec (a b:D):decide (a=b)=D.eq a b:=by
 by_cases h:D.eq a b=true
 ·rw [decide_eq_true (D.eq_of h),h]
 ·rw [decide_eq_false (fun e=>h (by rw [e];exact D.eq_refl b)),Bool.eq_false_iff.mpr h]
mutual
def Hd (h:Heap):D→Value→Prop
 | .int i,v=>∃ t,v=.int i t
 | .tup ds,v=>∃ (a:Addr) (o:Obj) (its:Array Value) (n:Nat),v=.ref a∧h.get? a=some o∧o.cls=.type "tuple"∧o.data=.seq its n∧HdL h ds its.toList
 | _,_=>False
def HdL (h:Heap):List D→List Value→Prop
 | [],vs=>vs=[]
 | d::ds,vs=>∃ v r,vs=v::r∧Hd h d v∧HdL h ds r
end
mutual
def D.hash:D→Int
 | .int i=>hashInt i
 | .tup ds=>reduceHash (Builtin.Tuple.tupleHashOf (D.hashL ds))
 | _=>0
def D.hashL:List D→List Int
 | []=>[]
 | d::ds=>D.hash d::D.hashL ds
end
mutual
def D.draws:D→Nat
 | .tup ds=>D.drawsL ds+1
 | _=>1
def D.drawsL:List D→Nat
 | []=>0
 | d::ds=>D.draws d+D.drawsL ds
end
theorem D.hashL_app:∀ a b:List D,D.hashL (a++b)=D.hashL a++D.hashL b
 | [],b=>by simp only [List.nil_append,D.hashL]
 | d::a,b=>by simp only [List.cons_append,D.hashL,D.hashL_app a b]
theorem D.drawsL_app:∀ a b:List D,D.drawsL (a++b)=D.drawsL a+D.drawsL b
 | [],b=>by simp only [List.nil_append,D.drawsL,Nat.zero_add]
 | d::a,b=>by simp only [List.cons_append,D.drawsL,D.drawsL_app a b,Nat.add_assoc]
theorem HdL.length {h:Heap}:∀ {ds:List D} {vs:List Value},HdL h ds vs→ds.length=vs.length
 | [],_,h=>by simp only [HdL] at h;subst h;rfl
 | d::ds,_,h=>by
  simp only [HdL] at h
  obtain ⟨v,r,rfl,_,q⟩:=h
  rw [List.length_cons,List.length_cons,HdL.length q]
theorem HdL.get {h:Heap}:∀ {ds:List D} {vs:List Value} {i:Nat} {d:D},HdL h ds vs→ds[i]?=some d→∃ v,vs[i]?=some v∧Hd h d v
 | [],_,_,_,_,e=>by simp at e
 | d::ds,_,0,_,h,e=>by
  simp only [HdL] at h
  obtain ⟨v,r,rfl,q,_⟩:=h
  simp at e;subst e
  exact ⟨v,rfl,q⟩
 | d::ds,_,i+1,d',h,e=>by
  simp only [HdL] at h
  obtain ⟨v,r,rfl,_,q⟩:=h
  obtain ⟨v',h1,h2⟩:=HdL.get (i:=i) q (by simpa using e)
  exact ⟨v',by simpa using h1,h2⟩
mutual
theorem Hd.keep {h h':Heap} (k:∀ a o its n,h.get? a=some o→o.cls=.type "tuple"→o.data=.seq its n→h'.get? a=some o):∀ {d:D} {v:Value},Hd h d v→Hd h' d v
 | .int _,_,q=>by simp only [Hd] at q ⊢;exact q
 | .tup ds,_,q=>by
  simp only [Hd] at q ⊢
  obtain ⟨a,o,its,n,e,h1,h2,h3,h4⟩:=q
  exact ⟨a,o,its,n,e,k a o its n h1 h2 h3,h2,h3,HdL.keep k h4⟩
 | .non,_,q=>by simp only [Hd] at q
 | .bl _,_,q=>by simp only [Hd] at q
 | .str _,_,q=>by simp only [Hd] at q
 | .lst _,_,q=>by simp only [Hd] at q
theorem HdL.keep {h h':Heap} (k:∀ a o its n,h.get? a=some o→o.cls=.type "tuple"→o.data=.seq its n→h'.get? a=some o):∀ {ds:List D} {vs:List Value},HdL h ds vs→HdL h' ds vs
 | [],_,q=>by simp only [HdL] at q ⊢;exact q
 | d::ds,_,q=>by
  simp only [HdL] at q ⊢
  obtain ⟨v,r,e,q1,q2⟩:=q
  exact ⟨v,r,e,Hd.keep k q1,HdL.keep k q2⟩
end
mutual
theorem Hd.inj {h:Heap}:∀ {d e:D} {v:Value},Hd h d v→Hd h e v→d=e
 | .int _,e,v,p,q=>by
  simp only [Hd] at p
  obtain ⟨t,rfl⟩:=p
  cases e<;>simp only [Hd] at q
  ·obtain ⟨t',e⟩:=q;injection e with e;rw [e]
  ·obtain ⟨a,_,_,_,e,_⟩:=q;cases e
 | .tup ds,e,v,p,q=>by
  simp only [Hd] at p
  obtain ⟨a,o,its,n,rfl,h1,h2,h3,h4⟩:=p
  cases e<;>simp only [Hd] at q
  ·obtain ⟨t',e⟩:=q;cases e
  ·obtain ⟨b,o',its',n',e,g1,g2,g3,g4⟩:=q
   cases e
   rw [h1] at g1;cases g1
   rw [h3] at g3;injection g3 with e1 _;subst e1
   rw [HdL.inj h4 g4]
 | .non,_,_,q,_=>by simp only [Hd] at q
 | .bl _,_,_,q,_=>by simp only [Hd] at q
 | .str _,_,_,q,_=>by simp only [Hd] at q
 | .lst _,_,_,q,_=>by simp only [Hd] at q
theorem HdL.inj {h:Heap}:∀ {ds es:List D} {vs:List Value},HdL h ds vs→HdL h es vs→ds=es
 | [],[],_,_,_=>rfl
 | [],_::_,_,p,q=>by
  simp only [HdL] at p q
  obtain ⟨_,_,e,_⟩:=q;rw [p] at e;cases e
 | _::_,[],_,p,q=>by
  simp only [HdL] at p q
  obtain ⟨_,_,e,_⟩:=p;rw [q] at e;cases e
 | d::ds,e::es,_,p,q=>by
  simp only [HdL] at p q
  obtain ⟨v,r,rfl,p1,p2⟩:=p
  obtain ⟨u,w,eq,q1,q2⟩:=q
  cases eq
  rw [Hd.inj p1 q1,HdL.inj p2 q2]
end
section
variable {prog:Program} {w:World}
theorem z9T:∀ (n:Nat) {A:Around} {E:Value→Shared→Prop} {s:Shared} {d:D} {v:Value} {Q:Int→Shared→Prop},D.dep d≤n→A.units+n < cLine→Hd s.heap d v→Q (D.hash d) { s with toks:=s.toks+D.draws d }→wpAny (model prog w) A (pyHash v) Q E s:=by
 intro n
 induction n with
 | zero =>
  intro A E s d v Q hd hu hv h
  cases d<;>simp only [Hd] at hv<;>simp only [D.dep,Nat.le_zero,Nat.add_eq_zero_iff,Nat.one_ne_zero,and_false] at hd
  obtain ⟨t,rfl⟩:=hv
  exact wpAny_pyHash_int h
 | succ n ih =>
  intro A E s d v Q hd hu hv h
  cases d with
  | int i =>
   simp only [Hd] at hv
   obtain ⟨t,rfl⟩:=hv
   exact wpAny_pyHash_int h
  | tup ds =>
   simp only [Hd] at hv
   simp only [D.dep] at hd
   obtain ⟨a,o,its,m,rfl,ho,hc,hdd,hi⟩:=hv
   have hT:s.TypeIs (.ref a) "tuple":=⟨o,ho,hc⟩
   have hin:A.in1.units+n < cLine:=by show A.units+1+n < cLine;lia
   unfold pyHash
   first | unfold pyHashByItsType | skip
   first | refine wpAny_bind (wpAny_cRoomFor_or (.inr (show A.units < cLine by lia)) ?_) | skip
   refine wpAny_bind (wpAny_specialOf hT F.slot_tuple_hash.lookup ?_)
   show wpAny _ _ (if (some (Value.builtin "tuple.__hash__") == some Value.none)=true
    then _ else _) Q E s
   rw [if_neg (by rw [beq_builtin_none];exact Bool.false_ne_true)]
   refine wpAny_bind (wpAny_specialOf hT F.slot_tuple_hash.lookup ?_)
   show wpAny _ _ (callSpecialIfBoundUnlessNone? (.ref a) "__hash__" _
    >>= _) Q E s
   refine wpAny_bind (wpAny_callSpecialIfBoundUnlessNone?_slot hT F.slot_tuple_hash (wpAny_call_entry F.slot_tuple_hash
    hT F.entry_tuple_hash ?_ (F.args_tuple_hash_1 _)))
   show wpAny _ _ (Builtin.Tuple.tupleItemsOf (.ref a) >>= _) _ _ s
   refine wpAny_bind (wpAny_tupleItemsOf ho hdd (wpAny_bind ?_))
   rw [←Array.forIn_toList]
   refine wpAny_forIn_list _ (fun z1A (b:Array Int) s'=>∃ done left,ds=done++left∧HdL s.heap left z1A∧b.toList=D.hashL done∧s'={ s with toks:=s.toks+D.drawsL done }) _ ?_ ?_ _ _ ⟨[],ds,rfl,hi,by simp only [D.hashL],by simp only [D.drawsL,Nat.add_zero]⟩
   ·rintro x z1A b s' ⟨done,left,e,hl,hb,rfl⟩
    cases left with
    | nil=>simp only [HdL] at hl;cases hl
    | cons k ks =>
     simp only [HdL] at hl
     obtain ⟨v',r,ev,q1,q2⟩:=hl
     cases ev
     have hk:D.dep k≤n:=by
      have z:ds[done.length]?=some k:=by rw [e];simp
      have:=D.depL_get z
      lia
     refine wpAny_bind (ih hk hin q1 ?_)
     have fin:∃ done' left',ds=done'++left'∧HdL s.heap left' z1A∧(b.push (D.hash k)).toList=D.hashL done'∧({ s with toks:=s.toks+D.drawsL done+D.draws k }:Shared)={ s with toks:=s.toks+D.drawsL done' } :=
      ⟨done++[k],ks,by rw [e];simp,q2,by rw [D.hashL_app,←hb];simp [D.hashL],by rw [D.drawsL_app];simp only [D.drawsL,Nat.add_zero,Nat.add_assoc]⟩
     first
      | exact wpAny_pure fin
      | exact wpAny_bind (wpAny_pure (wpAny_pure fin))
   ·rintro b s' ⟨done,left,e,hl,hb,rfl⟩
    cases left with
    | cons k ks=>simp only [HdL] at hl;obtain ⟨_,_,e,_⟩:=hl;cases e
    | nil =>
     rw [List.append_nil] at e
     subst e
     show wpAny _ _ (retInt (Builtin.Tuple.tupleHashOf b.toList))
      _ _ _
     rw [hb]
     refine wpAny_ret_mkInt ?_
     show wpAny _ _ (if (decide (-(2:Int) ^ 63≤Builtin.Tuple.tupleHashOf (D.hashL ds)) && decide (Builtin.Tuple.tupleHashOf (D.hashL ds) < 2 ^ 63))=true then _ else _) Q E _
     simp only [D.hash] at h
     unfold reduceHash at h
     simp only [D.draws] at h
     by_cases hr:(decide (-(2:Int) ^ 63≤Builtin.Tuple.tupleHashOf (D.hashL ds)) && decide (Builtin.Tuple.tupleHashOf (D.hashL ds) < 2 ^ 63))=true
     ·rw [if_pos hr]
      rw [if_pos hr] at h
      exact wpAny_pure (by simpa [Nat.add_assoc] using h)
     ·rw [if_neg hr]
      rw [if_neg hr] at h
      exact wpAny_bind (wpAny_rule (wpAny_pure (by simpa [Nat.add_assoc] using h)))
  | non=>simp only [Hd] at hv
  | bl _=>simp only [Hd] at hv
  | str _=>simp only [Hd] at hv
  | lst _=>simp only [Hd] at hv
end
end L2
namespace L2
open PySem PySem.Spec PyProof.Rows PySem.SeqAt
section
variable {prog:Program} {w:World}
theorem zdS {s:Shared}:∀ (n:Nat) (A:Around) {d e:D} {v u:Value},D.dep d≤n→A.units+n < cLine→Hd s.heap d v→Hd s.heap e u→EqAt A s v u (D.eq d e):=by
 intro n
 induction n with
 | zero =>
  intro A d e v u hd hu hv hx
  cases d<;>simp only [Hd] at hv<;>simp only [D.dep,Nat.le_zero,Nat.add_eq_zero_iff,Nat.one_ne_zero,and_false] at hd
  obtain ⟨t,rfl⟩:=hv
  cases e<;>simp only [Hd] at hx
  ·obtain ⟨t',rfl⟩:=hx
   simp only [D.eq]
   exact EqAt.int_int _ _ _ _
  ·obtain ⟨a,o,its,m,rfl,ho,hc,hdd,hi⟩:=hx
   simp only [D.eq]
   exact EqAt.int_tuple _ _ (items:=its) ⟨o,ho,hc,m,hdd⟩ (by lia)
 | succ n ih =>
  intro A d e v u hd hu hv hx
  have hin:A.in1.units+n < cLine:=by show A.units+1+n < cLine;lia
  cases d with
  | int i=>exact ih A (Nat.zero_le _) (by lia) hv hx
  | tup ds =>
   simp only [Hd] at hv
   simp only [D.dep] at hd
   obtain ⟨a,o,its,m,rfl,ho,hc,hdd,hi⟩:=hv
   have ta:s.heap.IsTuple a its:=⟨o,ho,hc,m,hdd⟩
   cases e with
   | int j =>
    simp only [Hd] at hx
    obtain ⟨t',rfl⟩:=hx
    simp only [D.eq]
    exact EqAt.tuple_int _ _ ta (by lia)
   | tup es =>
    have inj:Value.ref a=u→D.tup ds=D.tup es:=fun z=>Hd.inj (h:=s.heap) (v:=u) (by rw [←z];simp only [Hd];exact ⟨a,o,its,m,rfl,ho,hc,hdd,hi⟩) hx
    simp only [Hd] at hx
    obtain ⟨b,o',its',m',rfl,ho',hc',hdd',hi'⟩:=hx
    have tb:s.heap.IsTuple b its':=⟨o',ho',hc',m',hdd'⟩
    have e1:its.size=ds.length:=by have:=hi.length;simp at this;lia
    have e2:its'.size=es.length:=by have:=hi'.length;simp at this;lia
    have z:=RcAt.tuples (A:=A) (e:=D.at_ ds es) ta tb (by lia) (fun j h1 h2=>by
     have g1:ds[j]?=some ds[j]:=zGe (by lia)
     have g2:es[j]?=some es[j]:=zGe (by lia)
     obtain ⟨x1,k1,q1⟩:=hi.get g1
     obtain ⟨x2,k2,q2⟩:=hi'.get g2
     have z1:x1=its[j]:=by simp [h1] at k1;exact k1.symm
     have z2:x2=its'[j]:=by simp [h2] at k2;exact k2.symm
     have z3:D.at_ ds es j=D.eq ds[j] es[j]:=by unfold D.at_;rw [g1,g2]
     rw [z3,←z1,←z2]
     exact ih A.in1 (Nat.le_trans (D.depL_get g1) (by lia)) hin q1 q2)
    rw [e1,e2,D.all_eqL] at z
    simp only [D.eq]
    by_cases hab:a=b
    ·have:=inj (by rw [hab])
     injection this with this
     subst this hab
     rw [D.eqL_refl]
     exact EqAt.same _
    ·exact EqAt.of_refs hab z
   | non=>simp only [Hd] at hx
   | bl _=>simp only [Hd] at hx
   | str _=>simp only [Hd] at hx
   | lst _=>simp only [Hd] at hx
  | non=>simp only [Hd] at hv
  | bl _=>simp only [Hd] at hv
  | str _=>simp only [Hd] at hv
  | lst _=>simp only [Hd] at hv
theorem z9r {A:Around} {E:Value→Shared→Prop} {s:Shared}:∀ (n:Nat) {d:D} {v:Value} {Q:Bool→Shared→Prop},D.dep d≤n→Hd s.heap d v→Q true s→wpAny (model prog w) A (eqIsQuiet n v) Q E s:=by
 have flat:∀ (n:Nat) {i:Int} {t:Tok} {Q:Bool→Shared→Prop},Q true s→wpAny (model prog w) A (eqIsQuiet n (.int i t)) Q E s:=fun n i t Q h=>by
  rw [eqIsQuiet_byValue n (v:=.int i t) rfl]
  exact wpAny_pure h
 intro n
 induction n with
 | zero =>
  intro d v Q hd hv h
  cases d<;>simp only [Hd] at hv<;>simp only [D.dep,Nat.le_zero,Nat.add_eq_zero_iff,Nat.one_ne_zero,and_false] at hd
  obtain ⟨t,rfl⟩:=hv
  exact flat 0 h
 | succ n ih =>
  intro d v Q hd hv h
  cases d with
  | int i =>
   simp only [Hd] at hv
   obtain ⟨t,rfl⟩:=hv
   exact flat _ h
  | tup ds =>
   simp only [Hd] at hv
   simp only [D.dep] at hd
   obtain ⟨a,o,its,m,rfl,ho,hc,hdd,hi⟩:=hv
   have hT:s.TypeIs (.ref a) "tuple":=⟨o,ho,hc⟩
   unfold eqIsQuiet
   refine wpAny_bind (wpAny_specialOf hT F.slot_tuple_eq.lookup ?_)
   show wpAny _ _ (isInstance (.ref a) (.type "tuple")
    >>= _) _ _ s
   refine wpAny_bind (wpAny_isInstance hT isSubtype_tuple_tuple ?_)
   simp only [Bool.not_true,Bool.false_eq_true,if_false]
   refine wpAny_bind (wpAny_seqItems ho hdd (wpAny_bind ?_))
   show wpAny _ _ (forIn its _ _) _ _ s
   rw [←Array.forIn_toList]
   refine wpAny_forIn_list _ (fun z1A r s'=>r.1=none∧s'=s∧∃ left,HdL s.heap left z1A∧D.depL left≤n) _ ?_ ?_ _ _ ⟨rfl,rfl,ds,hi,by lia⟩
   ·rintro x z1A r s' ⟨hr,rfl,left,hl,hdl⟩
    cases left with
    | nil=>simp only [HdL] at hl;cases hl
    | cons k ks =>
     simp only [HdL] at hl
     simp only [D.depL] at hdl
     obtain ⟨v',q,ev,q1,q2⟩:=hl
     cases ev
     refine wpAny_bind (ih (by lia) q1 ?_)
     simp only [Bool.not_true,Bool.false_eq_true,if_false]
     exact wpAny_pure ⟨rfl,rfl,ks,q2,by lia⟩
   ·rintro ⟨r1,r2⟩ s' ⟨hr,rfl,_⟩
    simp only at hr
    subst hr
    exact wpAny_pure h
  | non=>simp only [Hd] at hv
  | bl _=>simp only [Hd] at hv
  | str _=>simp only [Hd] at hv
  | lst _=>simp only [Hd] at hv
def z2o (prog:Program) (w:World):HeapKind prog w D where
 is:=fun h d a=>Hd h d (.ref a)∧D.dep d≤8
 hash:=D.hash
 draws:=D.draws
 room:=fun A=>A.units+8 < cLine
 inj:=fun hx hy=>Hd.inj hx.1 hy.1
 keeps:=fun {h h' k a d o es ep} hx ho hd hs=>⟨Hd.keep (fun b o' its n e c q=>(hs.2 b (by
  rintro rfl
  rw [ho] at e;cases e;rw [hd] at q;cases q)).trans e) hx.1,hx.2⟩
 pyHash:=fun hu hk h=>z9T 8 hk.2 hu hk.1 h
 eqBool:=fun hu hx hy h=>by
  rw [D.dec] at h
  exact zdS 8 _ hx.2 hu hx.1 hy.1 _ _ _ _ h
 quiet:=fun hk h=>z9r 8 hk.2 hk.1 h
end
mutual
def D.key:D→Prop
 | .int _=>True
 | .tup ds=>D.keyL ds
 | _=>False
def D.keyL:List D→Prop
 | []=>True
 | d::ds=>D.key d∧D.keyL ds
end
section
variable {P:Program} {w:World} {K:PySem.W.Frag} {H:Hp} {h:Heap}
mutual
theorem Dr.hd (ok:HOk P w H h):∀ {d:D} {v:V} {u:Value},D.key d→Dr K H d v→z1c v u→Hd h d u
 | .int i,v,u,_,q,r=>by
  simp only [Dr] at q
  subst q
  simp only [Hd]
  exact r
 | .tup ds,v,u,k,q,r=>by
  simp only [Dr] at q
  simp only [D.key] at k
  obtain ⟨a,vs,rfl,e,q⟩:=q
  cases r
  obtain ⟨_,its,n,rv,h1⟩:=ok a _ e
  simp only [Hd]
  exact ⟨a,_,its.toArray,n,rfl,h1,rfl,rfl,by simpa using DrL.hd ok k q rv⟩
 | .non,_,_,k,_,_=>by simp only [D.key] at k
 | .bl _,_,_,k,_,_=>by simp only [D.key] at k
 | .str _,_,_,k,_,_=>by simp only [D.key] at k
 | .lst _,_,_,k,_,_=>by simp only [D.key] at k
theorem DrL.hd (ok:HOk P w H h):∀ {ds:List D} {vs:List V} {us:List Value},D.keyL ds→DrL K H ds vs→z0V vs us→HdL h ds us
 | [],vs,us,_,q,r=>by
  simp only [DrL] at q
  subst q
  cases r
  simp only [HdL]
 | d::ds,vs,us,k,q,r=>by
  simp only [DrL] at q
  simp only [D.keyL] at k
  obtain ⟨v,z,rfl,q1,q2⟩:=q
  cases r with
  | cons r1 r2 =>
   simp only [HdL]
   exact ⟨_,_,rfl,Dr.hd ok k.1 q1 r1,DrL.hd ok k.2 q2 r2⟩
end
end
end L2
namespace L2
open PySem PySem.Spec PyProof.Rows PySem.SeqAt
def zaW (P:Program) (w:World) (a:Addr) (xs:List (D × Addr × Value)):HO :=
 .ext fun h=>(a == sysModules)=false∧∃ o es ep,h.get? a=some o∧o.ExactDict∧o.data=.dict es ep∧es.toList=xs.map (entryOfKey (z2o P w))
abbrev KDr (K:PySem.W.Frag) (H:Hp):List (D × V)→List (D × Addr × Value)→Prop:=Paired fun p q=>p.1=q.1∧(D.key p.1∧D.dep p.1≤8∧Dr K H p.1 (.ref q.2.1))∧z1c p.2 q.2.2
def DD (P:Program) (w:World) (K:PySem.W.Frag) (H:Hp) (a:Addr) (kvs:List (D × V)):Prop :=
 ∃ xs,H a=some (zaW P w a xs)∧KDr K H kvs xs∧(kvs.map (·.1)).Nodup∧kvs.length≤sizeLine
theorem KDr.val {K:PySem.W.Frag} {H:Hp} {kvs:List (D × V)} {xs:List (D × Addr × Value)} (r:KDr K H kvs xs) (k:D):z97 (z3d kvs k) ((atKey xs k).map (·.2)):=by
 induction r with
 | nil=>exact True.intro
 | @cons p q ps qs h t ih =>
  obtain ⟨h1,_,h2⟩:=h
  by_cases e:p.1=k
  ·have e':q.1=k:=h1.symm.trans e
   have b:atKey (q::qs) k=some q.2:=by simp [atKey,List.find?_cons,e']
   rw [z2V e,b]
   exact h2
  ·have e':¬ q.1=k:=fun z=>e (h1.trans z)
   have b:atKey (q::qs) k=atKey qs k:=by simp [atKey,List.find?_cons,e']
   rw [z2q e,b]
   exact ih
theorem KDr.repl {K:PySem.W.Frag} {H:Hp} {kvs:List (D × V)} {xs:List (D × Addr × Value)} (r:KDr K H kvs xs) (k:D) {y:V} {u:Value} (ry:z1c y u) :
  KDr K H (kvs.map fun kv=>if kv.1=k then (kv.1,y) else kv) (xs.map (putAt k u)):=by
 induction r with
 | nil=>exact .nil
 | @cons p q ps qs h t ih =>
  rw [List.map_cons,List.map_cons]
  refine .cons ?_ ih
  obtain ⟨h1,h2,h3⟩:=h
  unfold putAt
  by_cases e:p.1=k
  ·rw [if_pos e,if_pos (h1.symm.trans e)]
   exact ⟨h1,h2,ry⟩
  ·rw [if_neg e,if_neg (fun z=>e (h1.trans z))]
   exact ⟨h1,h2,h3⟩
theorem KDr.put {K:PySem.W.Frag} {H:Hp} {kvs:List (D × V)} {xs:List (D × Addr × Value)} (r:KDr K H kvs xs) (k:D) {b:Addr} {y:V} {u:Value} (hb:D.key k∧D.dep k≤8∧Dr K H k (.ref b)) (ry:z1c y u) :
  KDr K H (z2Z kvs k y) (storedH xs k b u):=by
 have e:(kvs.any fun kv=>decide (kv.1=k))=(atKey xs k).isSome:=by
  rw [z3q,(r.val k).isSome_eq,Option.isSome_map]
 unfold z2Z storedH
 rw [e]
 by_cases q:(atKey xs k).isSome=true
 ·rw [if_pos q,if_pos q]
  exact r.repl k ry
 ·rw [if_neg q,if_neg q]
  exact Paired.snoc r ⟨rfl,hb,ry⟩
theorem KDr.keys {K:PySem.W.Frag} {H:Hp} {kvs:List (D × V)} {xs:List (D × Addr × Value)} (r:KDr K H kvs xs):kvs.map (·.1)=xs.map (·.1):=by
 induction r with
 | nil=>rfl
 | @cons p q ps qs h t ih=>rw [List.map_cons,List.map_cons,ih,h.1]
theorem KDr.mono {K:PySem.W.Frag} {H H':Hp} {kvs:List (D × V)} {xs:List (D × Addr × Value)} (r:KDr K H kvs xs) (f:∀ d v,D.key d→Dr K H d v→Dr K H' d v):KDr K H' kvs xs :=
 Paired.mapP r fun _ _ z=>⟨z.1,⟨z.2.1.1,z.2.1.2.1,f _ _ z.2.1.1 z.2.1.2.2⟩,z.2.2⟩
theorem DD.mono {P:Program} {w:World} {K:PySem.W.Frag} {H H':Hp} {a:Addr} {kvs:List (D × V)} (h:DD P w K H a kvs) (s:z0f H H'):DD P w K H' a kvs:=by
 obtain ⟨xs,e,r,n,z⟩:=h
 exact ⟨xs,s _ _ e,r.mono fun _ _ _ q=>q.mono s,n,z⟩
mutual
theorem Dr.keyed {K:PySem.W.Frag} {H H':Hp} (k:∀ b xs,H b=some (.tup xs)→H' b=some (.tup xs)):∀ {d:D} {v:V},D.key d→Dr K H d v→Dr K H' d v
 | .int _,_,_,h=>by simp only [Dr] at h ⊢;exact h
 | .tup ds,_,q,h=>by
  simp only [Dr] at h ⊢
  simp only [D.key] at q
  obtain ⟨a,vs,e,z,r⟩:=h
  exact ⟨a,vs,e,k _ _ z,DrL.keyed k q r⟩
 | .non,_,q,_=>by simp only [D.key] at q
 | .bl _,_,q,_=>by simp only [D.key] at q
 | .str _,_,q,_=>by simp only [D.key] at q
 | .lst _,_,q,_=>by simp only [D.key] at q
theorem DrL.keyed {K:PySem.W.Frag} {H H':Hp} (k:∀ b xs,H b=some (.tup xs)→H' b=some (.tup xs)):∀ {ds:List D} {vs:List V},D.keyL ds→DrL K H ds vs→DrL K H' ds vs
 | [],_,_,h=>by simp only [DrL] at h ⊢;exact h
 | d::ds,_,q,h=>by
  simp only [DrL] at h ⊢
  simp only [D.keyL] at q
  obtain ⟨v,r,e,q1,q2⟩:=h
  exact ⟨v,r,e,Dr.keyed k q.1 q1,DrL.keyed k q.2 q2⟩
end
section
variable {X:Cx} {pins:List (Addr × Obj)} {σ:St} {H:Hp} {s:Shared} {a:Addr} {kvs:List (D × V)} {K:PySem.W.Frag}
theorem DD.at (I:Inv X pins σ H s) (h:DD X.prog X.w K H a kvs):(a == sysModules)=false∧∃ xs,H a=some (zaW X.prog X.w a xs)∧KDr K H kvs xs∧s.heap.DictOfH (z2o X.prog X.w) a xs:=by
 obtain ⟨xs,e,r,n,z⟩:=h
 obtain ⟨⟨hs,o,es,ep,h1,h2,h3,h4⟩,_,_⟩:=I.hok a _ e
 refine ⟨hs,xs,e,r,o,es,ep,h1,h2,h3,h4,?_,by rw [←r.keys];exact n⟩
 have all:∀ {l:List (D × V)} {m:List (D × Addr × Value)},KDr K H l m→∀ x∈m,(z2o X.prog X.w).is s.heap x.1 x.2.1:=by
  intro l m q
  induction q with
  | nil=>intro x hx;exact nomatch hx
  | @cons p q ps qs hq t ih =>
   intro x hx
   rcases List.mem_cons.mp hx with e | hx
   ·subst e
    rw [←hq.1]
    exact ⟨Dr.hd I.hok hq.2.1.1 hq.2.1.2.2 rfl,hq.2.1.2.1⟩
   ·exact ih x hx
 exact all r
theorem z7m (I:Inv X pins σ H s) {d:D} {b:Addr} (k:D.key d) (hd:D.dep d≤8) (h:Dr K H d (.ref b)):(z2o X.prog X.w).is s.heap d b:=⟨Dr.hd I.hok k h rfl,hd⟩
def zdL (K:PySem.W.Frag) (H:Hp) (d:D) (y:V):Prop:=(∃ b,y=.ref b)∧D.key d∧D.dep d≤8∧Dr K H d y
variable {o i e f value:Expr} {pos pos' apos cpos:Pos} {td ty tv tx:TE}
def zf9 (P:Program) (w:World) (K:PySem.W.Frag) (td ty:TE):TE:=fun σ H Q=>td σ H fun x H1=>ty σ H1 fun y H2=>∃ a kvs d v,x=.ref a∧DD P w K H2 a kvs∧zdL K H2 d y∧z3d kvs d=some v∧Q v H2
theorem zbf (hu:X.A.units+9 < cLine) (ho:PE X o td) (hi:PE X i ty) (hs:zfw i):PE X (.Subscript o i pos) (zf9 X.prog X.w K td ty):=by
 intro pins s σ H Q I h
 refine zb5 PySem.F.slot_dict_getitem.lookup hs (z1B (ho pins s σ H _ I h) fun u s1 x H1 I1 rx q1=>z1B (hi pins s1 σ H1 _ I1 q1) fun iv s2 y H2 I2 ry hz9=>?_)
 obtain ⟨a,kvs,d,v,ex,g,⟨⟨b,eb⟩,k1,k2,k3⟩,hv,q2⟩:=hz9
 subst ex eb
 obtain rfl:u=Value.ref a:=rx
 obtain rfl:iv=Value.ref b:=ry
 obtain ⟨hsm,xs,e,r,dd⟩:=g.at I2
 obtain ⟨w',hw,rw'⟩:=z97.some_of (v:=v) (o:=(atKey xs d).map (·.2)) (by rw [←hv];exact r.val d)
 obtain ⟨p,hp,hp2⟩:=Option.map_eq_some_iff.mp hw
 refine ⟨dd.typeIs,wpAny_getItem_heap (show X.A.units+1+8 < cLine by lia) (z7m I2 k1 k2 k3) dd hp ?_⟩
 rw [hp2]
 exact ⟨v,H2,I2.tok _,rw',q2⟩
def zdd (P:Program) (w:World) (K:PySem.W.Frag) (ty td:TE):TE:=fun σ H Q=>ty σ H fun y H1=>td σ H1 fun x H2=>∃ a kvs d,x=.ref a∧DD P w K H2 a kvs∧zdL K H2 d y∧Q (.bl (!(z3d kvs d).isSome)) H2
theorem z7h (hu:X.A.units+9 < cLine) (hi:PE X i ty) (ho:PE X o td):PC X .NotIn i o (zdd X.prog X.w K ty td):=by
 intro pins s σ H Q I h
 refine z1B (hi pins s σ H _ I h) fun iv s1 y H1 I1 ry q1=>z1B (ho pins s1 σ H1 _ I1 q1) fun u s2 x H2 I2 rx hz9=>?_
 obtain ⟨a,kvs,d,ex,g,⟨⟨b,eb⟩,k1,k2,k3⟩,q2⟩:=hz9
 subst ex eb
 obtain rfl:u=Value.ref a:=rx
 obtain rfl:iv=Value.ref b:=ry
 obtain ⟨hsm,xs,e,r,dd⟩:=g.at I2
 refine wpAny_notIn_heap (show X.A.units+1+8 < cLine by lia) (z7m I2 k1 k2 k3) hsm dd ?_
 have q:=(r.val d).isSome_eq
 rw [Option.isSome_map] at q
 rw [←q]
 exact ⟨.bl _,H2,I2.tok _,rfl,q2⟩
def zg4 (P:Program) (w:World) (K:PySem.W.Frag) (td ty tv:TE):TS:=fun Dd σ H=>tv σ H fun v H1=>td σ H1 fun x H2=>ty σ H2 fun y H3=>∃ a kvs d,x=.ref a∧DD P w K H3 a kvs∧zdL K H3 d y∧kvs.length < sizeLine ∧
 ∀ ob,DD P w K (upd H3 a ob) a (z2Z kvs d v)→Dd.nx σ (upd H3 a ob)
theorem z8C {P:Program} {w:World} (h:DD P w K H a kvs):∀ b xs,H b=some (.tup xs)→b≠a:=fun b xs e z=>by
 obtain ⟨ys,q,_⟩:=h
 rw [z,q] at e
 cases e
theorem z7r (hu:X.A.units+9 < cLine) (ho:PE X o td) (hi:PE X i ty) (hv:PE X value tv) (hs:swapsWith value (some (.Subscript o i pos')) pos.line X.env=pure false:=by rfl) :
  PS X (.Assign [.Subscript o i pos'] value pos) (zg4 X.prog X.w K td ty tv):=by
 intro pins s σ H D I h
 refine wpAny_Assign_Subscript (z1B (hv pins s σ H _ I h) fun r s1 v H1 I1 rv q1=>z1B (ho pins s1 σ H1 _ I1 q1) fun u s2 x H2 I2 rx q2=>z1B (hi pins s2 σ H2 _ I2 q2) fun iv s3 y H3 I3 ry hz9=>?_) hs
 obtain ⟨a,kvs,d,ex,g,⟨⟨b,eb⟩,k1,k2,k3⟩,hz,q3⟩:=hz9
 subst ex eb
 obtain rfl:u=Value.ref a:=rx
 obtain rfl:iv=Value.ref b:=ry
 obtain ⟨hsm,xs,e,rr,dd⟩:=g.at I3
 have hlen:xs.length≤sizeLine:=by rw [←Paired.length rr];exact Nat.le_of_lt hz
 have hl:(z2Z kvs d v).length≤sizeLine:=by have:=z1O kvs d v;lia
 refine wpAny_setItem_heap (hsz:=hlen) (show X.A.units+1+8 < cLine by lia) (z7m I3 k1 k2 k3) dd fun h' dd' hsb=>?_
 obtain ⟨q,es,ep,hq,h2,h3,h4,_,h5⟩:=dd'
 have Iw:Inv X pins σ (upd H3 a (zaW X.prog X.w a (storedH xs d b r))) { s3 with heap:=h',toks:=s3.toks+(z2o X.prog X.w).draws d }:=by
  refine z4o I3 (by rw [e];exact True.intro) hsb ⟨q,hq⟩ ⟨⟨hsm,q,es,ep,hq,h2,h3,h4⟩,⟨q,hq⟩,fun h1 h2' p k=>?_⟩
  obtain ⟨p0,o1,es1,ep1,p1,p2,p3,p4⟩:=p
  exact ⟨p0,o1,es1,ep1,k _ p1,p2,p3,p4⟩
 have kt:∀ c ys,H3 c=some (.tup ys)→upd H3 a (zaW X.prog X.w a (storedH xs d b r)) c=some (.tup ys):=fun c ys ec=>by
  rw [z07 (z8C g c ys ec)];exact ec
 refine ⟨σ,_,Iw,q3 _ ⟨_,z01,(rr.put d ⟨k1,k2,k3⟩ rv).mono fun d' v' kd q=>q.keyed kt kd,?_,hl⟩⟩
 have nd:=h5
 have ek:=(rr.put d ⟨k1,k2,k3⟩ rv).keys
 rw [ek]
 exact nd
def zfP (P:Program) (w:World) (K:PySem.W.Frag):TE:=fun _ H Q=>∀ p,H p=none→∀ ob,DD P w K (upd H p ob) p []→Q (.ref p) (upd H p ob)
theorem zaS:PE X (.Dict [] [] pos) (zfP X.prog X.w K):=fun pins s σ H Q I h=>by
 have hb:(s.heap.objs.size == sysModules)=false:=beq_eq_false_iff_ne.mpr (Ne.symm (Nat.ne_of_lt I.big))
 refine wpAny_Dict_empty ⟨.ref s.heap.objs.size,_,I.laid (a:=s.heap.objs.size) (o:=zaW X.prog X.w s.heap.objs.size []) (t':=s.toks) (fun _ _ q=>Heap.get?_push_of_some _ q) (Nat.le_refl _) ⟨⟨hb,_,#[],0,Heap.get?_push_size _ rfl,⟨rfl,rfl,rfl⟩,rfl,rfl⟩,⟨_,Heap.get?_push_size _ rfl⟩,fun h1 h2 p k=>?_⟩,rfl,h _ I.fresh _ ⟨[],z01,.nil,List.nodup_nil,Nat.zero_le _⟩⟩
 obtain ⟨p0,o1,es1,ep1,p1,p2,p3,p4⟩:=p
 exact ⟨p0,o1,es1,ep1,k _ p1,p2,p3,p4⟩
def zfj (P:Program) (w:World) (K:PySem.W.Frag) (td ty tx:TE):TE:=fun σ H Q=>td σ H fun x H1=>∃ a kvs0,x=.ref a∧DD P w K H1 a kvs0∧ty σ H1 fun y H2=>tx σ H2 fun z H3=>∃ kvs d,DD P w K H3 a kvs∧zdL K H3 d y∧Q ((z3d kvs d).getD z) H3
theorem zby (hu:X.A.units+9 < cLine) (ho:PE X o td) (he:PE X e ty) (hf:PE X f tx) (m:M2 X o "get" apos e f cpos):PE X (.Call (.Attribute o "get" apos) [e,f] [] cpos) (zfj X.prog X.w K td ty tx):=by
 intro pins s σ H Q I h
 refine wpAny_Call_method m.base m.few m.line PySem.F.plainAttrs_dict PySem.F.slot_dict_get PySem.F.type_dict_get (z1B (ho pins s σ H _ I h) fun u s1 x H1 I1 rx hz9=>?_)
 obtain ⟨a,kvs0,ex,g0,q1⟩:=hz9
 subst ex
 obtain rfl:u=Value.ref a:=rx
 obtain ⟨hsm,xs0,_,_,dd0⟩:=g0.at I1
 refine ⟨dd0.typeIs,fun b q=>?_,?_⟩
 ·cases q
  obtain ⟨ob,_,_,h1,h2,_⟩:=dd0
  exact ⟨ob,h1,h2.2.1⟩
 rw [m.trees]
 refine Calls.callWith_builtin rfl (Calls.evalArgs_plain (Calls.spliced_cons (z1B (he pins s1 σ H1 _ I1 q1) fun iv s2 y H2 I2 ry q2 =>
  Calls.spliced_cons (thn (hf pins s2 σ H2 _ I2 q2) fun fv s3 ⟨z,H3,I3,rz,kvs,d,g,⟨⟨b,eb⟩,k1,k2,k3⟩,q3⟩=>Calls.spliced_nil ?_))))
 subst eb
 obtain rfl:iv=Value.ref b:=ry
 obtain ⟨_,xs,_,r,dd⟩:=g.at I3
 refine call_meetsIn PySem.F.slot_dict_get dd.typeIs PySem.F.entry_dict_get (PySem.F.args_dict_get_3 _ _ _) (meetsH_dict_get_default (z2o X.prog X.w) a b hsm fv) ⟨show X.A.units+1+8 < cLine by lia,d,xs,z7m I3 k1 k2 k3,dd,?_⟩
 exact ⟨_,H3,I3.tok _,(r.val d).getD rz,q3⟩
end
end L2
namespace L2
open PySem PySem.Spec PyProof.Rows PySem.SeqAt
open PySem.AutoSeq1 (wpAny_loadPart')
section
variable {X:Cx} (K:PySem.W.Frag)
theorem zce:z3e X (.builtin "len") (fun xs H Q=>∃ a kvs,xs=[V.ref a]∧DD X.prog X.w K H a kvs∧Q (.int kvs.length) H):=by
 intro pins s σ H xs us Q I r h
 obtain ⟨a,kvs,rfl,g,q⟩:=h
 obtain ⟨u,rfl,ru⟩:=z5l r
 cases ru
 obtain ⟨hsm,xs,_,rr,dd⟩:=g.at I
 obtain ⟨o,es,ep,ho,hc,hdat,hes,_⟩:=id dd
 have hlen:es.size=kvs.length:=by
  have:es.toList.length=xs.length:=by rw [hes,zLm]
  rw [Paired.length rr,←this];simp
 have hz:kvs.length≤sizeLine:=by obtain ⟨_,_,_,_,z⟩:=g;exact z
 have hz2:(kvs.length:Int) < 2 ^ 63:=by have:=z7c;lia
 refine Calls.call_function_entry kind_len plain_len entry_len (args_len1 _) ?_
 unfold Builtin.«len»
 refine wpAny_bind (m:=oneArg "len" _) (wpAny_pure ?_)
 refine wpAny_bind (m:=callSpecial? (.ref a) (Str.ofString "__len__")) (wpAny_callSpecial?_slot (name:=Str.ofString "__len__") dd.typeIs F.slot_dict_len
  (wpAny_call_entry F.slot_dict_len dd.typeIs F.entry_dict_len ?_ (F.args_dict_len_1 _)))
 show wpAny _ _ (dictSize a >>= _) _ _ s
 unfold dictSize
 refine wpAny_bind (wpAny_bind (wpAny_dictEntries ho hdat (wpAny_pure ?_)))
 show wpAny _ _ (Builtin.Dict.pendingCount a >>= _) _ _ s
 refine wpAny_bind (wpAny_pendingCount_other hsm ?_)
 refine wpAny_ret_mkInt ?_
 rw [Nat.add_zero,hlen]
 refine wpAny_bind (wpAny_holding (wpAny_pure ?_))
 refine wpAny_bind (wpAny_letGo ?_)
 show wpAny _ _ (if ((kvs.length:Nat):Int) < 0
  then _ else _) _ _ _
 rw [if_neg (by lia)]
 show wpAny _ _ (if ((kvs.length:Nat):Int) ≥ 2 ^ 63
  then _ else _) _ _ _
 rw [if_neg (by lia)]
 exact wpAny_bind (wpAny_mkInt (wpAny_pure ⟨_,rfl,.int kvs.length,H,I.tok _,⟨_,rfl⟩,q⟩))
end
end L2
namespace L2
open PySem PySem.Spec PyProof.Rows PySem.SeqAt
open PySem.AutoSeq1 (wpAny_loadPart')
theorem z6U:∀ {ns:List Int} {its:List Value},z0V (ns.map V.int) its→∃ xs:List (Int × Tok),its=xs.map (fun p=>Value.int p.1 p.2)∧xs.map (·.1)=ns
 | [],_,r=>by rw [List.map_nil] at r;cases r;exact ⟨[],rfl,rfl⟩
 | n::ns,_,r=>by
  rw [List.map_cons] at r
  cases r with
  | cons r rr =>
   obtain ⟨t,rfl⟩:=r
   obtain ⟨xs,rfl,e⟩:=z6U rr
   exact ⟨(n,t)::xs,rfl,by rw [List.map_cons,e]⟩
theorem z94:∀ {ns:List Int} {its:List Value},z0V (ns.map V.int) its→IntsAre its ns
 | [],_,r=>by rw [List.map_nil] at r;cases r;exact .nil
 | n::ns,_,r=>by
  rw [List.map_cons] at r
  cases r with
  | cons r rr =>
   obtain ⟨t,rfl⟩:=r
   exact .cons n t (z94 rr)
theorem zab:∀ {ns:List Int} {its:List Value},IntsAre its ns→z0V (ns.map V.int) its
 | _,_,.nil=>.nil
 | _,_,.cons n t r=>.cons ⟨t,rfl⟩ (zab r)
section
variable {X:Cx} (K:PySem.W.Frag)
theorem zgw (hK:X.K=K) (hc:X.calm=true):z3e X (.builtin "max") (fun xs H Q=>∃ (p:Addr) (ns:List Int) (M:Int),xs=[.ref p]∧SqL K H p (ns.map V.int)∧M∈ns∧(∀ a∈ns,a≤M)∧Q (.int M) H):=by
 subst hK
 intro pins s σ H xs us Q I r h
 obtain ⟨p,ns,M,rfl,hp,hM,hle,q⟩:=h
 obtain ⟨u,rfl,ru⟩:=z5l r
 cases ru
 obtain ⟨its,rv,pl,hz⟩:=I.list hp
 obtain ⟨ys,rfl,ey⟩:=z6U rv
 have hne:0 < ys.length:=by
  have:0 < ns.length:=List.length_pos_of_mem hM
  rw [←ey,zLm] at this
  exact this
 have e1:(ys.map fun p=>Value.int p.1 p.2).toArray=intItems ys.toArray:=by unfold intItems;simp
 have pl':=pl.isList
 rw [e1] at pl'
 refine max_intList (xs:=ys.toArray) (I.ok.hd hc) pl' (by simpa using hne) fun v h' tk hv hk=>?_
 obtain ⟨t,rfl⟩:=intItems_at hv
 obtain ⟨h1,h2⟩:=argBest_gt (numAt ys.toArray) (ys.toArray.size - 1)
 have emem:∀ j,j < ys.length→numAt ys.toArray j∈ns:=fun j hj=>by
  rw [numAt_eq]
  have:(ys.toArray.toList.map (·.1))=ns:=by simpa using ey
  rw [this]
  have hjn:j < ns.length:=by rw [←ey,zLm];exact hj
  simp [hjn]
 have hb:argBest (fun i j=>decide (numAt ys.toArray i > numAt ys.toArray j)) (ys.toArray.size - 1) < ys.length:=by
  have:ys.toArray.size=ys.length:=by simp
  lia
 have eM:numAt ys.toArray (argBest (fun i j=>decide (numAt ys.toArray i > numAt ys.toArray j)) (ys.toArray.size - 1))=M:=by
  refine Int.le_antisymm (hle _ (emem _ hb)) ?_
  obtain ⟨j,hj,e⟩:=List.getElem_of_mem hM
  have hjy:j < ys.length:=by rw [←ey,zLm] at hj;exact hj
  have z:=h2 j (by simp;lia)
  have e2:numAt ys.toArray j=M:=by
   rw [numAt_eq]
   have:(ys.toArray.toList.map (·.1))=ns:=by simpa using ey
   rw [this]
   simp [hj,e]
  rw [e2] at z
  exact z
 rw [eM]
 exact ⟨.int M,H,I.kept (t':=tk) hk,⟨_,rfl⟩,q⟩
end
section
variable {X:Cx} (P:Program) (w:World) (K:PySem.W.Frag) {o i e f value:Expr} {pos pos' apos cpos:Pos} {td ty tv tx:TE}
theorem zcM (hP:X.prog=P) (hw:X.w=w) (hu:X.A.units+9 < cLine) (ho:PE X o td) (hi:PE X i ty) (hs:zfw i):PE X (.Subscript o i pos) (zf9 P w K td ty):=by
 subst hP hw
 exact zbf hu ho hi hs
end
end L2
namespace L2
open PySem PySem.Spec PyProof.Rows
class NoE (CX:CXT):Prop where
 no:∀ {outer:List Env} {H:Hp} {s:Shared} {e:Value} {s':Shared},¬ CX outer H s E0 e s'
theorem z0Q {CX:CXT} [N:NoE CX] {X:Cx}:z4G CX X E0:=fun _ _ _ _ _ _ _ h=>absurd h N.no
theorem Fun.okc {CX:CXT} {P:Program} {w:World} {K:PySem.W.Frag} {mg:Str→Option Value} {base:Heap} {x qual:Str} {st:Stmt} {f:Addr} {fd:FuncData} {N ps:List Str} {k:Nat} {sp:Sp} (F:Fun K x qual st f fd) (S:z0p N ps (z05 st)) (len:∀ vs H Q E,sp vs H Q E→vs.length=ps.length)
  (hbody:∀ (cdv:Value) (A:Around) (outer:List Env) (s:Shared) (H:Hp) (vs:List V) (Q:VK) (E:XK),z3Q k (A.deeper (envOfC qual (z05 st) s.heap.objs.size f cdv))→sp vs H Q E →
   ∃ t,PSs (z6E CX P w K mg base N qual (z05 st) f cdv A outer s H E).nox (z0F st) t∧t { nx:=fun _ H'=>Q .non H',rt:=Q } (z5e N vs) H):z0v P w K mg base CX (k+1) f fd ps sp:=by
 obtain ⟨oc,od,kV,doc,pm,an,cdv,ct,osl,rfl,lk,hcd⟩:=F.ex
 refine ze7 lk hcd S len fun A outer s H vs Q E hr hsp=>?_
 obtain ⟨t,h,q⟩:=hbody cdv A outer s H vs Q E hr hsp
 exact ⟨t,h.nox,q⟩
theorem PS.weak {X:Cx} {st:Stmt} {t:TS} (t':TS) (h:PS X st t) (k:∀ D σ H,t' D σ H→t D σ H):PS X st t':=fun pins s σ H D I hw=>h pins s σ H D I (k D σ H hw)
theorem PT.weak {X:Cx} {e:Expr} {t:TT} (t':TT) (h:PT X e t) (k:∀ σ H Q,t' σ H Q→t σ H Q):PT X e t':=fun pins s σ H Q I hw=>h pins s σ H Q I (k σ H Q hw)
def zgq (Pre:St→Hp→Prop):TT:=fun σ H Q=>Pre σ H∧∀ c:Bool,Q c H
end L2
namespace Gu
open PySem L2
section
variable {α:Type} [DecidableEq α]
def z2d (o:List α) (g:α):List α:=if g∈o then o else o++[g]
def z0b (o:List α) (gs:List α):List α:=gs.foldl z2d o
def z0D (ks:List α):List α:=z0b [] ks
def z2a (ks:List α):List Int:=ks.map fun k=>(((z0D ks).idxOf k:Nat):Int)
theorem z0t {o:List α} {g:α} (h:g∈o):z2d o g=o:=if_pos h
theorem z0u {o:List α} {g:α} (h:g∉o):z2d o g=o++[g]:=if_neg h
theorem zcr (o:List α) (g:α):g∈z2d o g:=by
 by_cases h:g∈o
 ·rw [z0t h];exact h
 ·rw [z0u h];simp
theorem zbH (o:List α) (g:α):∃ m,z2d o g=o++m:=by
 by_cases h:g∈o
 ·exact ⟨[],by rw [z0t h];simp⟩
 ·exact ⟨[g],z0u h⟩
theorem z0I:∀ (gs o:List α),∃ m,z0b o gs=o++m
 | [],o=>⟨[],by simp [z0b]⟩
 | g::gs,o=>by
  obtain ⟨m1,e1⟩:=zbH o g
  obtain ⟨m2,e2⟩:=z0I gs (z2d o g)
  refine ⟨m1++m2,?_⟩
  show z0b (z2d o g) gs=_
  rw [e2,e1,List.append_assoc]
theorem z1r (o gs:List α) (g:α):z0b o (gs++[g])=z2d (z0b o gs) g:=by
 unfold z0b
 rw [List.foldl_append]
 rfl
theorem z9e {o:List α} {g:α} (h:o.Nodup):(z2d o g).Nodup:=by
 by_cases hg:g∈o
 ·rw [z0t hg];exact h
 ·rw [z0u hg]
  exact zaz h hg
theorem z27:∀ (gs o:List α),o.Nodup→(z0b o gs).Nodup
 | [],o,h=>h
 | g::gs,o,h=>z27 gs (z2d o g) (z9e h)
theorem z2F {o:List α} {g x:α}:x∈z2d o g↔x∈o∨x=g:=by
 by_cases hg:g∈o
 ·rw [z0t hg]
  constructor
  ·exact .inl
  ·rintro (h | rfl)
   ·exact h
   ·exact hg
 ·rw [z0u hg];simp
theorem z0E:∀ {gs o:List α} {x:α},x∈z0b o gs↔x∈o∨x∈gs
 | [],o,x=>by simp [z0b]
 | g::gs,o,x=>by
  have ih:=z0E (gs:=gs) (o:=z2d o g) (x:=x)
  show x∈z0b (z2d o g) gs↔_
  rw [ih,z2F,List.mem_cons]
  constructor
  ·rintro ((h | h) | h)
   ·exact .inl h
   ·exact .inr (.inl h)
   ·exact .inr (.inr h)
  ·rintro (h | h | h)
   ·exact .inl (.inl h)
   ·exact .inl (.inr h)
   ·exact .inr h
theorem z1M:∀ (gs o:List α),(z0b o gs).length≤o.length+gs.length
 | [],o=>by simp [z0b]
 | g::gs,o=>by
  have ih:=z1M gs (z2d o g)
  have h1:(z2d o g).length≤o.length+1:=by
   by_cases hg:g∈o
   ·rw [z0t hg];lia
   ·rw [z0u hg];simp
  show (z0b (z2d o g) gs).length≤_
  rw [List.length_cons];lia
theorem z4j {o m:List α} {g:α} (h:g∈o):(o++m).idxOf g=o.idxOf g:=by
 rw [List.idxOf_append,if_pos h]
theorem z4y:∀ (n:Nat) (o:List Nat),o.Nodup→(∀ x∈o,x < n)→o.length≤n
 | 0,o,_,h=>by
  cases o with
  | nil=>simp
  | cons a r=>exact absurd (h a (by simp)) (Nat.not_lt_zero _)
 | n+1,o,hn,h=>by
  by_cases hm:n∈o
  ·have ih:=z4y n (o.erase n) (hn.erase n) fun x hx=>by
    have h1:=(hn.mem_erase_iff).mp hx
    have:=h x h1.2
    have:=h1.1
    lia
   rw [List.length_erase_of_mem hm] at ih
   lia
  ·have ih:=z4y n o hn fun x hx=>by
    have:=h x hx
    have:x≠n:=fun e=>hm (e ▸ hx)
    lia
   lia
theorem z6L {n:Nat} {o:List Int} (h:o.Nodup) (hr:∀ x∈o,0≤x∧x < (n:Int)):o.length≤n:=by
 have h1:(o.map Int.toNat).Nodup:=by
  rw [List.nodup_iff_pairwise_ne,List.pairwise_map]
  refine List.Pairwise.imp_of_mem (fun {a b} ha hb hab e=>?_) (List.nodup_iff_pairwise_ne.mp h)
  have:=hr a ha
  have:=hr b hb
  exact hab (by lia)
 have h3:=z4y n _ h1 fun x hx=>by
  obtain ⟨y,hy,rfl⟩:=List.mem_map.mp hx
  have:=hr y hy
  lia
 simpa using h3
end
abbrev Row:=List Int × List Int
def row (rows:List Row) (r:Int):Row:=rows.getD r.toNat ([],[])
structure z0j (n:Nat) (rows:List Row):Prop where
 few:rows.length≤4000
 some:1≤rows.length
 perm:∀ r∈rows,IsP n r.1
 len:∀ r∈rows,r.2.length=n
 go:∀ r∈rows,∀ g∈r.2,0≤g∧g < (rows.length:Int)
def z5i (r:Row):D:=.tup [D.its r.1,D.its r.2]
def bfs (rows:List Row):Nat→Nat→List Int→List Int
 | 0,_,o=>o
 | f+1,i,o=>match o[i]? with
  | none=>o
  | some r=>bfs rows f (i+1) (z0b o (row rows r).2)
def z0d (rows:List Row):List Int:=bfs rows (rows.length+1) 0 [0]
theorem z2U {rows:List Row} {f i:Nat} {o:List Int} {r:Int} (e:o[i]?=some r):bfs rows (f+1) i o=bfs rows f (i+1) (z0b o (row rows r).2):=by
 show (match o[i]? with | none=>o | some r=>bfs rows f (i+1) (z0b o (row rows r).2))=_
 rw [e]
theorem z2Q {rows:List Row} {f i:Nat} {o:List Int} (e:o.length≤i):bfs rows f i o=o:=by
 cases f with
 | zero=>rfl
 | succ f =>
  show (match o[i]? with | none=>o | some r=>bfs rows f (i+1) (z0b o (row rows r).2))=_
  rw [List.getElem?_eq_none e]
theorem z3K (rows:List Row):∀ (f i:Nat) (o:List Int),∃ m,bfs rows f i o=o++m
 | 0,i,o=>⟨[],by simp [bfs]⟩
 | f+1,i,o=>by
  unfold bfs
  cases e:o[i]? with
  | none=>exact ⟨[],by simp⟩
  | some r =>
   obtain ⟨m1,e1⟩:=z0I (row rows r).2 o
   obtain ⟨m2,e2⟩:=z3K rows f (i+1) (z0b o (row rows r).2)
   exact ⟨m1++m2,by show bfs rows f (i+1) (z0b o (row rows r).2)=_;rw [e2,e1,List.append_assoc]⟩
structure z6D (rows:List Row) (o:List Int):Prop where
 nd:o.Nodup
 rg:∀ x∈o,0≤x∧x < (rows.length:Int)
 hd:∃ t,o=0::t
theorem z0k {rows:List Row} {r:Int} (h0:0≤r) (h1:r < (rows.length:Int)):row rows r∈rows:=by
 unfold row
 have:r.toNat < rows.length:=by lia
 have e:rows.getD r.toNat ([],[])=rows[r.toNat]:=by simp [this]
 rw [e]
 exact List.getElem_mem this
theorem z2p {rows:List Row} {r:Int} (h0:0≤r) (h1:r < (rows.length:Int)):rows[r.toNat]?=some (row rows r):=by
 unfold row
 have:r.toNat < rows.length:=by lia
 simp [this]
theorem z6D.add {n:Nat} {rows:List Row} {o:List Int} (G:z0j n rows) (L:z6D rows o) {r:Int} (h:r∈o):z6D rows (z0b o (row rows r).2):=by
 refine ⟨z27 _ _ L.nd,fun x hx=>?_,?_⟩
 ·rcases z0E.mp hx with hx | hx
  ·exact L.rg x hx
  ·exact G.go _ (z0k (L.rg r h).1 (L.rg r h).2) x hx
 ·obtain ⟨t,e⟩:=L.hd
  obtain ⟨m,e2⟩:=z0I (row rows r).2 o
  exact ⟨t++m,by rw [e2,e];rfl⟩
theorem z6D.len {rows:List Row} {o:List Int} (L:z6D rows o):o.length≤rows.length:=z6L L.nd L.rg
theorem za1 {n:Nat} {rows:List Row} (G:z0j n rows):z6D rows [0]:=by
 refine ⟨by simp,fun x hx=>?_,⟨[],rfl⟩⟩
 have:x=0:=by simpa using hx
 have:=G.some
 lia
theorem zah {n:Nat} {rows:List Row} (G:z0j n rows):∀ (f i:Nat) (o:List Int),z6D rows o→i≤o.length→rows.length+1≤f+i→(∀ j r,j < i→o[j]?=some r→∀ g∈(row rows r).2,g∈o) →
  z6D rows (bfs rows f i o)∧∀ r∈bfs rows f i o,∀ g∈(row rows r).2,g∈bfs rows f i o
 | 0,i,o,L,hi,hf,hc=>by
  have:=L.len
  lia
 | f+1,i,o,L,hi,hf,hc=>by
  cases e:o[i]? with
  | none =>
   rw [z2Q (List.getElem?_eq_none_iff.mp e)]
   refine ⟨L,fun r hr g hg=>?_⟩
   obtain ⟨j,hj,e2⟩:=List.getElem_of_mem hr
   have:o.length≤i:=List.getElem?_eq_none_iff.mp e
   exact hc j r (by lia) (by rw [zGe hj,e2]) g hg
  | some r =>
   rw [z2U e]
   have hr:r∈o:=List.mem_of_getElem? e
   have hil:i < o.length:=(zGs.mp e).1
   obtain ⟨m,em⟩:=z0I (row rows r).2 o
   refine zah G f (i+1) _ (L.add G hr) (by rw [em,List.length_append];lia) (by lia) fun j r' hj er g hg=>?_
   have hjo:j < o.length:=by lia
   have er':o[j]?=some r':=by rw [em,List.getElem?_append_left hjo] at er;exact er
   by_cases hji:j=i
   ·subst hji
    rw [e] at er'
    cases er'
    exact z0E.mpr (.inr hg)
   ·exact z0E.mpr (.inl (hc j r' (by lia) er' g hg))
theorem z0s {n:Nat} {rows:List Row} (G:z0j n rows):z6D rows (z0d rows)∧∀ r∈z0d rows,∀ g∈(row rows r).2,g∈z0d rows :=
 zah G (rows.length+1) 0 [0] (za1 G) (by simp) (by lia) fun j r hj=>absurd hj (Nat.not_lt_zero _)
def z1s (rows:List Row) (o:List Int):List Row:=o.map fun r=>((row rows r).1,(row rows r).2.map fun g=>((o.idxOf g:Nat):Int))
def z0C (rows:List Row):List Row:=z1s rows (z0d rows)
def z30 (ks:List Int) (rows:List Row):List (Int × List Int):=(ks.zip rows).map fun p=>(p.1,p.2.2.map fun g=>ks.getD g.toNat 0)
def cnt (ks:List Int):Int:=ks.foldl max 0+1
def z4S (rows:List Row):Nat→Int→List Int→List Int
 | 0,_,ks=>ks
 | f+1,c,ks=>if c < cnt ks then z4S rows f (cnt ks) (z2a (z30 ks rows)) else ks
def z2y (rows:List Row):List Int:=z4S rows (rows.length+1) 0 (z2a (rows.map (·.1)))
def z4W (rows:List Row) (ks:List Int):List Row:=(rows.zip ks).foldl (fun l p=>if p.2=(l.length:Int) then l++[(p.1.1,p.1.2.map fun g=>ks.getD g.toNat 0)] else l) []
def z9t (rows:List Row):List Row:=z4W (z0C rows) (z2y (z0C rows))
end Gu
namespace Gu
open PySem L2
def csc (ns:List (Str × NameKind)):Scope:={ kind:=.function,names:=ns,isGenerator:=false,isCoroutine:=false,more:=[] }
def z3p (K:PySem.W.Frag) (H:Hp) (Q:VK) (d:D):Prop:=∀ v H',z0f H H'→Dr K H' d v→Q v H'
theorem z04 {H H1:Hp} {p:Addr} {o:HO} (s:z0f H H1) (h:H1 p=none):z0f H (upd H1 p o):=fun b u e=>by
 have q:=s b u e
 rw [z07 (z0c q h)];exact q
theorem z09 {H H1:Hp} {p:Addr} {o:HO} (s:z0f H H1) (h:H p=none):z0f H (upd H1 p o):=fun b u e=>by
 rw [z07 (z0c e h)];exact s b u e
theorem z0K {α β:Type} {l:List α} {i:Nat} {x:α} (f:α→β) (h:l[i]?=some x):(l.take (i+1)).map f=(l.take i).map f++[f x]:=by
 rw [List.take_add_one,h,List.map_append];rfl
theorem z1G {n:Nat} (h:n≤4900):n < sizeLine:=Nat.lt_of_le_of_lt h (by decide)
theorem z0G {n:Nat} (h:n≤5000):n≤sizeLine:=Nat.le_trans h (by decide)
theorem z1F {α:Type} {xs:List α} {k:Int} {v:α} (h0:0≤k) (h:xs[k.toNat]?=some v):atI xs k=some v:=by
 have q:=z0y h
 rwa [show ((k.toNat:Nat):Int)=k by lia] at q
theorem z6M {α β:Type} (f:α→β):∀ (l:List α) (i:Nat),(l.map f).eraseIdx i=(l.eraseIdx i).map f
 | [],_=>rfl
 | _::_,0=>rfl
 | a::r,i+1=>by
  show f a::(r.map f).eraseIdx i=f a::(r.eraseIdx i).map f
  rw [z6M f r i]
structure Blt (mg:Str→Option Value):Prop where
 len:mg "len"=none
 tup:mg "tuple"=none
 lst:mg "list"=none
 rng:mg "range"=none
 isi:mg "isinstance"=none
 int:mg "int"=none
 bl:mg "bool"=none
 str:mg "str"=none
 all:mg "all"=none
theorem zaN (ns:List Int):D.dep (D.its ns)=1:=by simp only [D.dep,D.depL_ints]
theorem z25:∀ (ns ms:List Int),D.okL (ns.map D.int) (ms.map D.int)
 | [],ms=>by cases ms<;>simp only [List.map_nil,List.map_cons,D.okL]
 | n::r,[]=>by simp only [List.map_nil,List.map_cons,D.okL]
 | n::r,m::q=>by simp only [List.map_cons,D.okL,D.ok];exact ⟨trivial,z25 r q⟩
theorem Dr.its_inv {K:PySem.W.Frag} {H:Hp} {ns:List Int} {v:V} (h:Dr K H (D.its ns) v):∃ a,v=.ref a∧H a=some (.tup (ns.map V.int)):=by
 simp only [Dr] at h
 obtain ⟨a,vs,rfl,s,r⟩:=h
 exact ⟨a,rfl,DrL.ints_inv r ▸ s⟩
def z96 (K:PySem.W.Frag):Sp:=fun vs H Q _=>∃ (a:Addr) (ns:List Int) (i:Nat),vs=[.ref a,.int i]∧SqL K H a (ns.map V.int)∧ns.length≤63∧i≤1000∧Q (.int (cell ns i)) H
def z4U (K:PySem.W.Frag):Sp:=fun vs H Q _=>∃ (a:Addr) (ns:List Int) (i:Nat),vs=[.ref a,.int i]∧SqL K H a (ns.map V.int)∧ns.length≤63∧i≤1000∧Q (.int (zcF ns i)) H
def zaP (K:PySem.W.Frag):Sp:=fun vs H Q _=>∃ (pick:Int) (n:Nat),vs=[.int pick,.int n]∧n≤1000∧z3p K H Q (D.its (zbD pick n))
end Gu
namespace Gu
open PySem L2
section
variable {α κ:Type} [DecidableEq α] [DecidableEq κ]
def z5k (f:α→κ):Nat→List α→List (κ × V)
 | _,[]=>[]
 | n,a::r=>(f a,V.int (n:Int))::z5k f (n+1) r
abbrev prs (f:α→κ) (u:List α):List (κ × V):=z5k f 0 u
theorem z1K (f:α→κ):∀ (n:Nat) (u:List α),(z5k f n u).length=u.length
 | _,[]=>rfl
 | n,a::r=>by simp [z5k,z1K f (n+1) r]
theorem z8f (f:α→κ):∀ (n:Nat) (u:List α) (a:α),z5k f n (u++[a])=z5k f n u++[(f a,V.int ((n+u.length:Nat):Int))]
 | n,[],a=>by simp [z5k]
 | n,b::r,a=>by
  have ih:=z8f f (n+1) r a
  show (f b,V.int (n:Int))::z5k f (n+1) (r++[a])=(f b,V.int (n:Int))::(z5k f (n+1) r++_)
  have e:n+1+r.length=n+(b::r).length:=by rw [List.length_cons];lia
  rw [ih,e]
theorem z63 (f:α→κ) (hf:∀ x y,f x=f y→x=y):∀ (n:Nat) (u:List α) (a:α),z3d (z5k f n u) (f a)=if a∈u then some (V.int ((n+u.idxOf a:Nat):Int)) else none
 | n,[],a=>by simp [z5k,z3d]
 | n,b::r,a=>by
  have ih:=z63 f hf (n+1) r a
  show z3d ((f b,V.int (n:Int))::z5k f (n+1) r) (f a)=_
  by_cases e:b=a
  ·subst e
   rw [z2V rfl,if_pos (by simp)]
   simp
  ·rw [z2q (p:=(f b,V.int (n:Int))) (fun z=>e (hf _ _ z)),ih]
   have e1:(b::r).idxOf a=r.idxOf a+1:=by
    rw [List.idxOf_cons]
    have hb:(b == a)=false:=by simpa using e
    rw [hb]
    rfl
   by_cases hm:a∈r
   ·have e2:n+1+r.idxOf a=n+(r.idxOf a+1):=by lia
    rw [if_pos hm,if_pos (by simp [hm]),e1,e2]
   ·rw [if_neg hm,if_neg (by simp [hm,Ne.symm e])]
theorem z1W (f:α→κ) (hf:∀ x y,f x=f y→x=y) (u:List α) (a:α):z3d (prs f u) (f a)=if a∈u then some (V.int ((u.idxOf a:Nat):Int)) else none:=by
 have:=z63 f hf 0 u a
 simpa using this
theorem z4J (f:α→κ) (hf:∀ x y,f x=f y→x=y) {u:List α} {a:α} (h:a∉u):z2Z (prs f u) (f a) (V.int (u.length:Nat))=prs f (u++[a]):=by
 have e:=z8f f 0 u a
 rw [Nat.zero_add] at e
 rw [z8G _ (by rw [z1W f hf,if_neg h])]
 exact e.symm
end
def z0l (rows:List Row):List D:=rows.map z5i
theorem z35 (ns:List Int):D.key (D.its ns):=by
 have:∀ l:List Int,D.keyL (l.map D.int):=by
  intro l
  induction l with
  | nil=>simp only [List.map_nil,D.keyL]
  | cons a r ih=>simp only [List.map_cons,D.keyL,D.key];exact ⟨trivial,ih⟩
 simp only [D.key]
 exact this ns
def zfp (ds:List D):Prop:=∀ d∈ds,D.key d∧D.dep d≤8∧∃ es,d=.tup es
def z3H (K:PySem.W.Frag):Sp:=fun vs H Q _=>∃ (a:Addr) (us:List V) (ds:List D),vs=[.ref a]∧H a=some (.lst us)∧DrL K H ds us∧zfp ds∧ds.length≤4900 ∧
 ∀ (r:Addr) (H':Hp),z0f H H'→H' r=some (.lst ((z2a ds).map V.int))→Q (.ref r) H'
theorem zbs {K:PySem.W.Frag} {H:Hp} {d:D} {v:V} (h:D.key d∧D.dep d≤8∧∃ es,d=.tup es) (q:Dr K H d v):zdL K H d v:=by
 obtain ⟨h1,h2,es,rfl⟩:=h
 refine ⟨?_,h1,h2,q⟩
 simp only [Dr] at q
 obtain ⟨a,vs,e,_⟩:=q
 exact ⟨a,e⟩
end Gu
namespace Gu
open PySem L2
def z0P (H H':Hp):Prop:=∀ b xs,H b=some (.tup xs)→H' b=some (.tup xs)
theorem z0P.of {H H':Hp} (s:z0f H H'):z0P H H':=fun b xs e=>s _ _ e
theorem z0P.refl (H:Hp):z0P H H:=fun _ _ e=>e
theorem z0P.trans {H H1 H2:Hp} (a:z0P H H1) (b:z0P H1 H2):z0P H H2:=fun c xs e=>b c xs (a c xs e)
theorem z0P.up {H H1:Hp} {a:Addr} {o u:HO} (t:z0P H H1) (h:H1 a=some o) (n:∀ xs,o≠.tup xs):z0P H (upd H1 a u):=fun b xs e=>by
 have q:=t b xs e
 have:b≠a:=fun z=>by rw [z,h] at q;exact n xs (Option.some.inj q)
 rw [z07 this];exact q
theorem zdD (r:Row):D.key (z5i r):=by
 unfold z5i
 simp only [D.key,D.keyL]
 have h1:=z35 r.1
 have h2:=z35 r.2
 simp only [D.key] at h1 h2
 exact ⟨h1,h2,trivial⟩
theorem z1m:∀ rs:List Row,D.keyL (z0l rs)
 | []=>by unfold z0l;simp only [List.map_nil,D.keyL]
 | r::rs=>by
  have:=z1m rs
  unfold z0l at this ⊢
  simp only [List.map_cons,D.keyL]
  exact ⟨zdD r,this⟩
theorem z0T {K:PySem.W.Frag} {H:Hp} {r:Row} {v:V} (h:Dr K H (z5i r) v):∃ a b c,v=.ref a∧H a=some (.tup [.ref b,.ref c])∧H b=some (.tup (r.1.map V.int))∧H c=some (.tup (r.2.map V.int)):=by
 unfold z5i at h
 simp only [Dr,DrL] at h
 obtain ⟨a,vs,rfl,e,x,l,rfl,hx,y,l',rfl,hy,rfl⟩:=h
 obtain ⟨b,us,rfl,eb,rb⟩:=hx
 obtain ⟨c,ws,rfl,ec,rc⟩:=hy
 have e1:=DrL.ints_inv rb
 have e2:=DrL.ints_inv rc
 subst e1 e2
 exact ⟨a,b,c,rfl,e,eb,ec⟩
theorem z2J {K:PySem.W.Frag} {H:Hp} {r:Row} {a b c:Addr} (h:H a=some (.tup [.ref b,.ref c])) (hb:H b=some (.tup (r.1.map V.int))) (hc:H c=some (.tup (r.2.map V.int))):Dr K H (z5i r) (.ref a):=by
 unfold z5i
 exact Dr.tup h (DrL.cons (Dr.tup hb (DrL.ints _)) (DrL.cons (Dr.tup hc (DrL.ints _)) DrL.nil))
theorem z1X {K:PySem.W.Frag} {H:Hp} {rows:List Row} {us:List V} (h:DrL K H (z0l rows) us) {i:Nat} {r:Row} (e:rows[i]?=some r):∃ v,us[i]?=some v∧Dr K H (z5i r) v :=
 h.get (by unfold z0l;rw [zGm,e];rfl)
theorem z7F {n:Nat} {p q:List Int} (h:IsP n p) (hp:q.Perm p) (hs:q.Pairwise (·≤·)):q=z0r n:=by
 have h1:q.Perm (z0r n):=hp.trans h
 have h2:(z0r n).Pairwise (·≤·):=by
  unfold z0r
  rw [List.pairwise_map]
  exact List.Pairwise.imp (fun h=>by lia) List.pairwise_lt_range
 exact h1.eq_of_pairwise (fun a b _ _ h1 h2=>Int.le_antisymm h1 h2) hs h2
def z8X (K:PySem.W.Frag):Sp:=fun vs H Q _=>∃ (a:Addr) (b:V) (ks gs:List Int),vs=[.ref a,b]∧H a=some (.lst (ks.map V.int))∧Dr K H (D.its gs) b∧(∀ g∈gs,0≤g∧g < (ks.length:Int))∧gs.length≤1000∧z3p K H Q (D.its (gs.map fun g=>ks.getD g.toNat 0))
def z2I (K:PySem.W.Frag):Sp:=fun vs H Q _=>∃ (a:V) (r:Row) (z1A:List D),vs=[a]∧Dr K H (D.tup (z5i r::z1A)) a∧r.1.length≤1000∧∀ H',z0f H H'→Q (.int r.1.length) H'
def z32 (K:PySem.W.Frag) (H:Hp) (a:Addr) (rows:List Row):Prop:=∃ us,H a=some (.lst us)∧DrL K H (z0l rows) us
theorem z32.mono {K:PySem.W.Frag} {H H':Hp} {a:Addr} {rows:List Row} (h:z32 K H a rows) (s:z0f H H'):z32 K H' a rows:=by
 obtain ⟨us,e,d⟩:=h
 exact ⟨us,s _ _ e,d.mono s⟩
end Gu
namespace Gu
open PySem L2
section
variable {α β:Type} [DecidableEq α] [DecidableEq β]
theorem z5p (f:α→β) (hf:∀ x y,f x=f y→x=y):∀ (gs o:List α),z0b (o.map f) (gs.map f)=(z0b o gs).map f
 | [],o=>rfl
 | g::gs,o=>by
  have h1:z2d (o.map f) (f g)=(z2d o g).map f:=by
   by_cases h:g∈o
   ·rw [z0t h,z0t (List.mem_map.mpr ⟨g,h,rfl⟩)]
   ·have:f g∉o.map f:=fun z=>by
     obtain ⟨x,hx,e⟩:=List.mem_map.mp z
     exact h (hf _ _ e ▸ hx)
    rw [z0u h,z0u this,List.map_append];rfl
  show z0b (z2d (o.map f) (f g)) (gs.map f)=(z0b (z2d o g) gs).map f
  rw [h1]
  exact z5p f hf gs (z2d o g)
theorem z7e (f:α→β) (hf:∀ x y,f x=f y→x=y):∀ (l:List α) (a:α),(l.map f).idxOf (f a)=l.idxOf a
 | [],a=>rfl
 | b::r,a=>by
  rw [List.map_cons,List.idxOf_cons,List.idxOf_cons,z7e f hf r a]
  have:(f b == f a)=(b == a):=by
   by_cases e:b=a
   ·subst e;simp
   ·have h1:(b == a)=false:=by simpa using e
    have h2:(f b == f a)=false:=by simpa using fun z=>e (hf _ _ z)
    rw [h1,h2]
  rw [this]
theorem z8F (f:α→β) (hf:∀ x y,f x=f y→x=y) (xs:List α):z2a (xs.map f)=z2a xs:=by
 unfold z2a z0D
 have:=z5p f hf xs []
 rw [List.map_nil] at this
 rw [this,List.map_map]
 refine List.map_congr_left fun x _=>?_
 show (((((z0b [] xs).map f).idxOf (f x):Nat)):Int)=_
 rw [z7e f hf]
theorem z3i (xs:List α):(z2a xs).length=xs.length:=by unfold z2a;rw [zLm]
theorem z4L (xs:List α):(z0D xs).length≤xs.length:=by have:=z1M xs [];unfold z0D;simpa using this
theorem z6h {xs:List α} {k:Int} (h:k∈z2a xs):0≤k∧k < ((z0D xs).length:Int):=by
 unfold z2a at h
 obtain ⟨x,hx,rfl⟩:=List.mem_map.mp h
 have:x∈z0D xs:=z0E.mpr (.inr hx)
 have:=List.idxOf_lt_length_of_mem this
 lia
end
theorem zai:∀ (ks:List Int) (m:Int),m≤ks.foldl max m∧∀ k∈ks,k≤ks.foldl max m
 | [],m=>⟨Int.le_refl _,fun k h=>by simp at h⟩
 | a::r,m=>by
  obtain ⟨h1,h2⟩:=zai r (max m a)
  refine ⟨Int.le_trans (Int.le_max_left m a) h1,fun k hk=>?_⟩
  rcases List.mem_cons.mp hk with rfl | hk
  ·exact Int.le_trans (Int.le_max_right m k) h1
  ·exact h2 k hk
theorem z9S:∀ (ks:List Int) (m:Int),ks.foldl max m=m∨ks.foldl max m∈ks
 | [],m=>.inl rfl
 | a::r,m=>by
  rcases z9S r (max m a) with h | h
  ·rcases Int.le_total m a with z | z
   ·right
    show r.foldl max (max m a)∈a::r
    rw [h,Int.max_eq_right z];simp
   ·left
    show r.foldl max (max m a)=m
    rw [h,Int.max_eq_left z]
  ·right;exact List.mem_cons_of_mem _ h
theorem z7R {ks:List Int} (hne:ks≠[]) (h0:∀ k∈ks,0≤k):cnt ks - 1∈ks∧∀ k∈ks,k≤cnt ks - 1:=by
 unfold cnt
 have e:ks.foldl max 0+1 - 1=ks.foldl max 0:=by lia
 rw [e]
 refine ⟨?_,(zai ks 0).2⟩
 rcases z9S ks 0 with h | h
 ·rw [h]
  cases ks with
  | nil=>exact absurd rfl hne
  | cons a r =>
   have h1:=(zai (a::r) 0).2 a (by simp)
   rw [h] at h1
   have h2:=h0 a (by simp)
   have:a=0:=by lia
   simp [this]
 ·exact h
theorem zff {ks:List Int} {n:Nat} (hne:ks≠[]) (h0:∀ k∈ks,0≤k∧k < (n:Int)):cnt ks≤n∧1≤cnt ks:=by
 obtain ⟨h1,h2⟩:=z7R hne fun k hk=>(h0 k hk).1
 have:=h0 _ h1
 lia
structure z3C (n:Nat) (rows:List Row):Prop where
 some:1≤rows.length
 few:rows.length≤4000
 perm:∀ r∈rows,IsP n r.1
 len:∀ r∈rows,r.2.length=n
 go:∀ r∈rows,∀ g∈r.2,0≤g∧g < (rows.length:Int)
theorem z2m {n:Nat} {rows:List Row} (G:z0j n rows):z3C n (z0C rows):=by
 obtain ⟨L,cl⟩:=z0s G
 have hl:=L.len
 have hm:∀ r∈z0C rows,∃ x∈z0d rows,r=((row rows x).1,(row rows x).2.map fun g=>(((z0d rows).idxOf g:Nat):Int)):=fun r hr=>by
  unfold z0C z1s at hr
  obtain ⟨x,hx,e⟩:=List.mem_map.mp hr
  exact ⟨x,hx,e.symm⟩
 have fl:(z0C rows).length=(z0d rows).length:=by unfold z0C z1s;rw [zLm]
 refine ⟨?_,by have:=G.few;lia,fun r hr=>?_,fun r hr=>?_,fun r hr g hg=>?_⟩
 ·obtain ⟨t,e⟩:=L.hd
  rw [fl,e];simp
 ·obtain ⟨x,hx,rfl⟩:=hm r hr
  exact G.perm (row rows x) (z0k (L.rg x hx).1 (L.rg x hx).2)
 ·obtain ⟨x,hx,rfl⟩:=hm r hr
  show (List.map _ _).length=n
  rw [zLm]
  exact G.len _ (z0k (L.rg x hx).1 (L.rg x hx).2)
 ·obtain ⟨x,hx,rfl⟩:=hm r hr
  obtain ⟨y,hy,rfl⟩:=List.mem_map.mp hg
  have:=List.idxOf_lt_length_of_mem (cl x hx y hy)
  lia
structure z5c (rows:List Row) (ks:List Int):Prop where
 len:ks.length=rows.length
 rg:∀ k∈ks,0≤k∧k < (rows.length:Int)
theorem zcN {n:Nat} {rows:List Row} (G:z3C n rows):z5c rows (z2a (rows.map (·.1))):=by
 refine ⟨by rw [z3i,zLm],fun k hk=>?_⟩
 have:=z6h hk
 have:=z4L (rows.map (·.1))
 rw [zLm] at this
 lia
theorem z78 {rows:List Row} {ks:List Int} (h:z5c rows ks):(z30 ks rows).length=rows.length:=by
 unfold z30
 rw [zLm,List.length_zip,h.len];lia
theorem zaB {rows:List Row} {ks:List Int} (h:z5c rows ks):z5c rows (z2a (z30 ks rows)):=by
 have hl:=z78 h
 refine ⟨by rw [z3i,hl],fun k hk=>?_⟩
 have:=z6h hk
 have:=z4L (z30 ks rows)
 lia
theorem zfl {n:Nat} {rows:List Row} {ks:List Int} (G:z3C n rows) (h:z5c rows ks):ks≠[]:=fun e=>by
 have:=h.len
 have:=G.some
 subst e
 simp at *
 lia
def z5g (p:Int × List Int):D:=.tup [.int p.1,D.its p.2]
theorem z7H {a b:List Int} (e:D.its a=D.its b):a=b:=by
 injection e with e
 induction a generalizing b with
 | nil=>cases b with
  | nil=>rfl
  | cons _ _=>cases e
 | cons x r ih=>cases b with
  | nil=>cases e
  | cons y q =>
   rw [List.map_cons,List.map_cons] at e
   injection e with e1 e2
   injection e1 with e1
   rw [e1,ih e2]
theorem z9N (p q:Int × List Int) (e:z5g p=z5g q):p=q:=by
 unfold z5g at e
 injection e with e
 injection e with e1 e2
 injection e2 with e2 _
 injection e1 with e1
 have:=z7H e2
 exact Prod.ext e1 this
theorem z8k (p:Int × List Int):D.key (z5g p):=by
 unfold z5g
 simp only [D.key,D.keyL]
 have h:=z35 p.2
 simp only [D.key] at h
 exact ⟨trivial,h,trivial⟩
theorem zbW (p:Int × List Int):D.dep (z5g p)≤8:=by
 unfold z5g
 simp only [D.dep,D.depL,D.depL_ints]
 decide
theorem z77:∀ ps:List (Int × List Int),D.keyL (ps.map z5g)
 | []=>by simp only [List.map_nil,D.keyL]
 | p::ps=>by simp only [List.map_cons,D.keyL];exact ⟨z8k p,z77 ps⟩
theorem z8I:∀ ps:List (List Int),D.keyL (ps.map D.its)
 | []=>by simp only [List.map_nil,D.keyL]
 | p::ps=>by
  have:=z35 p
  simp only [List.map_cons,D.keyL];exact ⟨this,z8I ps⟩
end Gu
namespace Gu
open PySem L2
theorem z5w {rows:List Row}:∀ (m:Nat) (c:Int) (ks:List Int),z5c rows ks→z5c rows (z4S rows m c ks)
 | 0,_,ks,h=>h
 | m+1,c,ks,h=>by
  unfold z4S
  by_cases hc:c < cnt ks
  ·rw [if_pos hc];exact z5w m _ _ (zaB h)
  ·rw [if_neg hc];exact h
theorem z3A {n:Nat} {rows:List Row} (G:z3C n rows):z5c rows (z2y rows):=z5w _ _ _ (zcN G)
def z5S (ks:List Int) (l:List Row) (p:Row × Int):List Row:=if p.2=(l.length:Int) then l++[(p.1.1,p.1.2.map fun g=>ks.getD g.toNat 0)] else l
def z2j (rows:List Row) (ks:List Int) (i:Nat):List Row:=((rows.zip ks).take i).foldl (z5S ks) []
theorem z5H {rows:List Row} {ks:List Int} (h:ks.length=rows.length):z2j rows ks rows.length=z4W rows ks:=by
 unfold z2j z4W
 rw [List.take_of_length_le (by rw [List.length_zip];lia)]
 rfl
theorem z4q {rows:List Row} {ks:List Int} {i:Nat} {r:Row} {k:Int} (e:rows[i]?=some r) (e':ks[i]?=some k):z2j rows ks (i+1)=z5S ks (z2j rows ks i) (r,k):=by
 unfold z2j
 rw [List.take_add_one,List.getElem?_zip_eq_some (z:=(r,k)) |>.mpr ⟨e,e'⟩,List.foldl_append]
 rfl
theorem zaG (ks:List Int) (l:List Row) (p:Row × Int):(z5S ks l p).length≤l.length+1:=by
 unfold z5S
 split
 ·rw [List.length_append];simp
 ·lia
theorem z9c (rows:List Row) (ks:List Int) (i:Nat):(z2j rows ks i).length≤i:=by
 unfold z2j
 have:∀ (l:List (Row × Int)) (a:List Row),(l.foldl (z5S ks) a).length≤a.length+l.length:=by
  intro l
  induction l with
  | nil=>intro a;simp
  | cons p l ih =>
   intro a
   have h1:=ih (z5S ks a p)
   have h2:=zaG ks a p
   rw [List.foldl_cons,List.length_cons]
   lia
 have h:=this ((rows.zip ks).take i) []
 rw [List.length_take] at h
 simp only [List.length_nil] at h
 lia
theorem zcq {n:Nat} {rows:List Row} (G:z0j n rows):(z0C rows).length≤rows.length:=by
 have:=(z0s G).1.len
 unfold z0C z1s
 rw [zLm];exact this
def zgC (m:Nat) (ns:List Int):Prop:=ns.length=m∧∀ x∈ns,0≤x∧x < 1009
def z4r (K:PySem.W.Frag):Sp:=fun vs H Q _=>∃ (c:Int) (m:Nat),vs=[.int c,.int m]∧m≤900∧∀ (r:Addr) (H':Hp) (ns:List Int),z0f H H'→H' r=some (.lst (ns.map V.int))→zgC m ns→Q (.ref r) H'
theorem z76 {ns:List Int} {x:Int} (h:∀ x∈ns,0≤x∧x < 1009) (hx:0≤x∧x < 1009):∀ y∈ns++[x],0≤y∧y < 1009:=by
 intro y hy
 rcases List.mem_append.mp hy with hy | hy
 ·exact h y hy
 ·rw [List.mem_singleton.mp hy];exact hx
theorem zbr {j:Int} (h:(0:Int) < j:=by decide):0 < j:=h
theorem za7 (x:Int):0≤x % 1009∧x % 1009 < 1009:=by lia
def za2 (K:PySem.W.Frag):Sp:=fun vs H Q _=>∃ (n:Nat) (c:Int),vs=[.int n,.int c]∧2≤n∧n≤5∧∀ (r:Addr) (H':Hp) (rows:List Row),z0f H H'→z32 K H' r rows→z0j n rows→rows.length≤8→Q (.ref r) H'
def GI (m:Nat) (H:Hp) (i:Nat) (ys:List V) (H2:Hp):Prop:=∃ gs:List Int,ys=gs.map V.int∧gs.length=i∧(∀ g∈gs,0≤g∧g < (m:Int))∧z0f H H2
theorem GI.nil {m:Nat} {H:Hp} {l:Addr} (h:H l=none):GI m H 0 [] (upd H l (.lst [])):=⟨[],rfl,rfl,fun g hg=>by simp at hg,z04 (z0f.refl H) h⟩
theorem GI.len {m:Nat} {H H2:Hp} {i:Nat} {ys:List V} (h:GI m H i ys H2):ys.length=i:=by
 obtain ⟨gs,rfl,e,_⟩:=h
 rw [zLm];exact e
theorem GI.snoc {m:Nat} {H H2:Hp} {i:Nat} {ys:List V} {l:Addr} {o:HO} (h:GI m H i ys H2) (hl:H l=none) {g:Int} (hg:0≤g∧g < (m:Int)):GI m H (i+1) (ys++[.int g]) (upd H2 l o):=by
 obtain ⟨gs,rfl,e,r,s⟩:=h
 refine ⟨gs++[g],by rw [List.map_append];rfl,by rw [List.length_append,e];rfl,fun x hx=>?_,z09 s hl⟩
 rcases List.mem_append.mp hx with hx | hx
 ·exact r x hx
 ·rw [List.mem_singleton.mp hx];exact hg
structure RIx (K:PySem.W.Frag) (n m:Nat) (c kd:Int) (j:Nat) (ln lr lp:Addr) (H0:Hp) (σ:St) (H:Hp):Prop where
 ex:∃ (b:V) (lg:Addr) (p gs:List Int),σ=[some (.int n),some (.int c),some (.ref ln),some (.int m),some (.int kd),some (.ref lr),some (.int j),some (.ref lp),some b,some (.ref lg)]∧z0f H0 H∧Dr K H (D.its p) b∧IsP n p ∧
  H lg=some (.lst (gs.map V.int))∧gs.length=n∧∀ g∈gs,0≤g∧g < (m:Int)
structure RF (n m j:Nat) (ps:List Int) (lp:Addr) (H0:Hp):Prop where
 n2:2≤n
 n5:n≤5
 jm:j < m
 m8:m≤8
 lp:H0 lp=some (.lst (ps.map V.int))
 len:ps.length=6
 nn:∀ p∈ps,0≤p∧p < 1009
def tRI (K:PySem.W.Frag):TS:=fun D σ H=>∃ (n m:Nat) (c kd:Int) (j:Nat) (ln lr lp:Addr) (ps:List Int) (H0:Hp),RF n m j ps lp H0∧RIx K n m c kd j ln lr lp H0 σ H∧∀ σ' H',RIx K n m c kd j ln lr lp H0 σ' H'→D.nx σ' H'
def zeF (K:PySem.W.Frag) (σ:St) (H:Hp):Prop:=∃ (n m:Nat) (c kd:Int) (j:Nat) (ln lr lp:Addr) (ps:List Int) (H0:Hp),RF n m j ps lp H0∧RIx K n m c kd j ln lr lp H0 σ H
def GR (n m:Nat) (rs:List Row):Prop:=∀ r∈rs,IsP n r.1∧r.2.length=n∧∀ g∈r.2,0≤g∧g < (m:Int)
theorem GR.snoc {n m:Nat} {rs:List Row} {r:Row} (h:GR n m rs) (hr:IsP n r.1∧r.2.length=n∧∀ g∈r.2,0≤g∧g < (m:Int)):GR n m (rs++[r]):=fun x hx=>by
 rcases List.mem_append.mp hx with hx | hx
 ·exact h x hx
 ·rw [List.mem_singleton.mp hx];exact hr
theorem GR.good {n m:Nat} {rs:List Row} (h:GR n m rs) (hl:rs.length=m) (h1:1≤m) (h4:m≤4000):z0j n rs:=by
 subst hl
 exact ⟨h4,h1,fun r hr=>(h r hr).1,fun r hr=>(h r hr).2.1,fun r hr=>(h r hr).2.2⟩
theorem zh2 {ns:List Int} {i:Nat} (h:zgC 64 ns) (hi:i < 8):∃ ps:List Int,zed (ns.map V.int) (some (2+6*(i:Int))) (some (8+6*(i:Int)))=ps.map V.int∧ps.length=6∧∀ p∈ps,0≤p∧p < 1009:=by
 have hl:=h.1
 refine ⟨(ns.drop (2+6*i)).take 6,?_,by rw [List.length_take,List.length_drop];lia,fun p hp=>h.2 p (List.mem_of_mem_drop (List.mem_of_mem_take hp))⟩
 have e1:(2+6*(i:Int))=((2+6*i:Nat):Int):=by lia
 have e2:(8+6*(i:Int))=((8+6*i:Nat):Int):=by lia
 unfold zed
 rw [e1,e2,HT.sIx_nat,HT.sIx_nat,zLm,hl,Nat.min_eq_left (by lia),Nat.min_eq_left (by lia),show 8+6*i - (2+6*i)=6 by lia,List.map_take,List.map_drop]
theorem z3l {x:Int} (h:0≤x):∃ m:Nat,x=(m:Int):=⟨x.toNat,by lia⟩
theorem zfU (n:Nat) (j:Int):(List.replicate n [V.int j]).flatten=(List.replicate n j).map V.int:=by
 induction n with
 | zero=>rfl
 | succ n ih=>rw [List.replicate_succ,List.flatten_cons,ih,List.replicate_succ];rfl
theorem z8h (n:Nat):IsP n (z0r n):=List.Perm.refl _
theorem z7A (x y:Int) (e:(Sum.inl x:Key)=Sum.inl y):x=y:=Sum.inl.inj e
theorem zdv {o:List Int} (h:o.Nodup) {i:Nat} {r:Int} (e:o[i]?=some r):r∉o.take i:=fun z=>by
 have h':(o.take i++o.drop i).Nodup:=by rw [List.take_append_drop];exact h
 have hr:r∈o.drop i:=List.mem_of_getElem? (i:=0) (by rw [List.getElem?_drop];exact e)
 exact (List.nodup_append.mp h').2.2 r z r hr rfl
def mk (o:List Int) (vs:List V):List (Key × V):=(o.zip vs).map fun p=>(Sum.inl p.1,p.2)
def FK (f:Int→D):Prop:=∀ r,D.key (f r)∧D.dep (f r)≤3
theorem FK.keyL {f:Int→D} (h:FK f):∀ o:List Int,D.keyL (o.map f)
 | []=>by simp only [List.map_nil,D.keyL]
 | r::o=>by simp only [List.map_cons,D.keyL];exact ⟨(h r).1,FK.keyL h o⟩
theorem FK.depL {f:Int→D} (h:FK f):∀ o:List Int,D.depL (o.map f)≤3
 | []=>by simp only [List.map_nil,D.depL];lia
 | r::o=>by
  simp only [List.map_cons,D.depL]
  have:=(h r).2
  have:=FK.depL h o
  lia
theorem FK.its (rows:List Row):FK fun r=>D.its (row rows r).1:=fun r=>⟨z35 _,by rw [zaN];decide⟩
theorem FK.int (k:Int→Int):FK fun r=>D.int (k r):=fun r=>⟨by simp only [D.key],by simp only [D.dep];decide⟩
def z1D (rows:List Row) (f:Int→D) (r:Int):D:=.tup [f r,.tup ((row rows r).2.map f)]
theorem FK.key {rows:List Row} {f:Int→D} (h:FK f) (r:Int):D.key (z1D rows f r)∧D.dep (z1D rows f r)≤8∧∃ es,z1D rows f r=.tup es:=by
 refine ⟨?_,?_,_,rfl⟩
 ·unfold z1D
  simp only [D.key,D.keyL]
  exact ⟨(h r).1,h.keyL _,trivial⟩
 ·unfold z1D
  simp only [D.dep,D.depL]
  have:=(h r).2
  have:=h.depL (row rows r).2
  lia
def z2b (rows:List Row) (o:List Int) (f:Int→D):List D:=o.map (z1D rows f)
def z2D (rows:List Row) (o:List Int) (f:Int→D) (r:Int):Int:=(((z0D (z2b rows o f)).idxOf (z1D rows f r):Nat):Int)
def z33 (rows:List Row) (o:List Int) (f:Int→D):Int→D:=fun r=>.int (z2D rows o f r)
def z2w (rows:List Row) (o:List Int) (f:Int→D):Nat:=(z0D (z2b rows o f)).length
theorem z6X (rows:List Row) (o:List Int) (f:Int→D):z2w rows o f≤o.length:=by
 have:=z4L (z2b rows o f)
 unfold z2w z2b at *
 rw [zLm] at this
 exact this
def z55 (rows:List Row) (o:List Int):Nat→Nat→(Int→D)→(Int→D)
 | 0,_,f=>f
 | m+1,many,f=>if many < z2w rows o f then z55 rows o m (z2w rows o f) (z33 rows o f) else z33 rows o f
def z5C (rows:List Row):Int→D:=z55 rows (z0d rows) (rows.length+2) 0 fun r=>D.its (row rows r).1
def z0O (k:Int→Int) (hs:List Int) (r:Int):List Int:=if k r∈hs.map k then hs else hs++[r]
def z0w (k:Int→Int) (o:List Int):List Int:=o.foldl (z0O k) []
def z1P (rows:List Row) (k:Int→Int) (o:List Int):List Row:=(z0w k o).map fun r=>((row rows r).1,(row rows r).2.map fun g=>((((z0w k o).map k).idxOf (k g):Nat):Int))
theorem z1t (k:Int→Int) (o:List Int) (r:Int):z0w k (o++[r])=z0O k (z0w k o) r:=by
 unfold z0w
 rw [List.foldl_append];rfl
theorem z1g (k:Int→Int) (o:List Int):(∀ r∈o,k r∈(z0w k o).map k)∧(∀ r∈z0w k o,r∈o)∧(z0w k o).length≤o.length:=by
 have:∀ (o hs:List Int),(∀ x∈hs.map k,x∈(o.foldl (z0O k) hs).map k)∧(∀ r∈o,k r∈(o.foldl (z0O k) hs).map k)∧(∀ r∈o.foldl (z0O k) hs,r∈hs∨r∈o)∧(o.foldl (z0O k) hs).length≤hs.length+o.length:=by
  intro o
  induction o with
  | nil=>intro hs;exact ⟨fun x h=>h,fun r h=>by simp at h,fun r h=>.inl h,by simp⟩
  | cons a o ih =>
   intro hs
   obtain ⟨i1,i2,i3,i4⟩:=ih (z0O k hs a)
   rw [List.foldl_cons]
   have hsub:∀ x∈hs.map k,x∈(z0O k hs a).map k:=fun x hx=>by
    unfold z0O
    split
    ·exact hx
    ·rw [List.map_append];exact List.mem_append_left _ hx
   have ha:k a∈(z0O k hs a).map k:=by
    unfold z0O
    split
    ·assumption
    ·simp
   have hlen:(z0O k hs a).length≤hs.length+1:=by
    unfold z0O
    split
    ·lia
    ·simp
   refine ⟨fun x hx=>i1 x (hsub x hx),fun r hr=>?_,fun r hr=>?_,by rw [List.length_cons];lia⟩
   ·rcases List.mem_cons.mp hr with rfl | hr
    ·exact i1 _ ha
    ·exact i2 r hr
   ·rcases i3 r hr with h | h
    ·unfold z0O at h
     split at h
     ·exact .inl h
     ·rcases List.mem_append.mp h with h | h
      ·exact .inl h
      ·exact .inr (by rw [List.mem_singleton.mp h];simp)
    ·exact .inr (List.mem_cons_of_mem _ h)
 obtain ⟨_,h2,h3,h4⟩:=this o []
 refine ⟨h2,fun r hr=>?_,by unfold z0w;simpa using h4⟩
 rcases h3 r hr with h | h
 ·simp at h
 ·exact h
theorem z6B (k:Int→Int) (a:Int) (o:List Int):∃ t,z0w k (a::o)=a::t:=by
 have:∀ (o hs:List Int),∃ t,o.foldl (z0O k) hs=hs++t:=by
  intro o
  induction o with
  | nil=>intro hs;exact ⟨[],by simp⟩
  | cons a o ih =>
   intro hs
   obtain ⟨t,e⟩:=ih (z0O k hs a)
   rw [List.foldl_cons,e]
   unfold z0O
   split
   ·exact ⟨t,rfl⟩
   ·exact ⟨[a]++t,by rw [List.append_assoc]⟩
 unfold z0w
 rw [List.foldl_cons]
 have e:z0O k [] a=[a]:=by unfold z0O;simp
 rw [e]
 obtain ⟨t,e⟩:=this o [a]
 exact ⟨t,e⟩
def zh6:D→Int
 | .int i=>i
 | _=>0
def kOf (rows:List Row) (r:Int):Int:=zh6 (z5C rows r)
theorem z79 (rows:List Row) (o:List Int):∀ (m many:Nat) (f:Int→D),∃ k:Int→Int,z55 rows o (m+1) many f=fun r=>D.int (k r)
 | 0,many,f=>by
  unfold z55
  split
  ·unfold z55;exact ⟨z2D rows o f,rfl⟩
  ·exact ⟨z2D rows o f,rfl⟩
 | m+1,many,f=>by
  unfold z55
  split
  ·exact z79 rows o m _ _
  ·exact ⟨z2D rows o f,rfl⟩
theorem z5m (rows:List Row):z5C rows=fun r=>D.int (kOf rows r):=by
 obtain ⟨k,e⟩:=z79 rows (z0d rows) (rows.length+1) 0 fun r=>D.its (row rows r).1
 have e':z5C rows=fun r=>D.int (k r):=e
 funext r
 unfold kOf
 rw [e']
 rfl
def shr (rows:List Row):List Row:=z1P rows (kOf rows) (z0d rows)
theorem zeG {n:Nat} {rows:List Row} (G:z0j n rows):∃ r t,shr rows=r::t∧IsP n r.1:=by
 obtain ⟨L,_⟩:=z0s G
 obtain ⟨t,e⟩:=L.hd
 obtain ⟨t',e'⟩:=z6B (kOf rows) 0 t
 unfold shr z1P
 rw [e,e',List.map_cons]
 have:=G.some
 exact (exB rfl (G.perm (row rows 0) (z0k (Int.le_refl 0) (show (0:Int) < (rows.length:Int) by lia))))
theorem DD.keyed {P:Program} {w:World} {K:PySem.W.Frag} {H H':Hp} {a:Addr} {kvs:List (D × V)} (h:DD P w K H a kvs) (k:z0P H H') (e:H' a=H a):DD P w K H' a kvs:=by
 obtain ⟨xs,e0,r,n,z⟩:=h
 exact ⟨xs,by rw [e];exact e0,r.mono fun _ _ q d=>d.keyed k q,n,z⟩
theorem z6O {κ:Type} [DecidableEq κ]:∀ (n:Nat) (u:List κ) (a:κ),a∈u→u.Nodup→z2Z (z5k id n u) a (V.int ((n+u.idxOf a:Nat):Int))=z5k id n u:=by
 intro n u a ha hn
 have hv:z3d (z5k id n u) a=some (V.int ((n+u.idxOf a:Nat):Int)):=by
  have:=z63 (κ:=κ) id (fun _ _ e=>e) n u a
  rw [if_pos ha] at this
  exact this
 unfold z2Z
 rw [z3q,hv]
 rw [if_pos (show (some (V.int ((n+u.idxOf a:Nat):Int))).isSome=true from rfl)]
 clear hv
 induction u generalizing n with
 | nil=>rfl
 | cons b u ih =>
  show (if b=a then (b,_) else (b,V.int (n:Int)))::List.map _ (z5k id (n+1) u)=(b,V.int (n:Int))::z5k id (n+1) u
  have hnb:=(List.nodup_cons.mp hn).1
  have hnu:=(List.nodup_cons.mp hn).2
  by_cases e:b=a
  ·subst e
   rw [if_pos rfl]
   have e1:(b::u).idxOf b=0:=by simp
   rw [e1]
   congr 1
   have:∀ (m:Nat) (l:List κ),b∉l→List.map (fun kv:κ × V=>if kv.1=b then (kv.1,V.int ((n+0:Nat):Int)) else kv) (z5k id m l)=z5k id m l:=by
    intro m l
    induction l generalizing m with
    | nil=>intro _;rfl
    | cons c l ih2 =>
     intro hb
     show (if c=b then _ else (c,V.int (m:Int)))::List.map _ (z5k id (m+1) l)=(c,V.int (m:Int))::z5k id (m+1) l
     rw [if_neg (fun z=>hb (by rw [z];simp)),ih2 (m+1) (fun z=>hb (List.mem_cons_of_mem _ z))]
   exact this _ _ hnb
  ·rw [if_neg e]
   have ha':a∈u:=by rcases List.mem_cons.mp ha with z | z;exact absurd z.symm e;exact z
   have e1:(b::u).idxOf a=u.idxOf a+1:=by
    rw [List.idxOf_cons]
    have hb:(b == a)=false:=by simpa using e
    rw [hb];rfl
   rw [e1,show n+(u.idxOf a+1)=(n+1)+u.idxOf a by lia,ih (n+1) ha' hnu]
def z8t (K:PySem.W.Frag):Sp:=fun vs H Q _=>∃ (a:Addr) (n:Nat) (rows:List Row),vs=[.ref a,.int 0]∧z32 K H a rows∧z0j n rows∧n≤60∧z3p K H Q (D.tup (z0l (shr rows)))
theorem z3V {α:Type} [DecidableEq α] (x:α):∀ (xs:List α),(∀ y∈xs,y=x)→z0b [x] xs=[x]
 | [],_=>rfl
 | y::ys,h=>by
  have e:y=x:=h y (by simp)
  subst e
  show z0b (z2d [y] y) ys=[y]
  rw [z0t (by simp)]
  exact z3V y ys fun z hz=>h z (List.mem_cons_of_mem _ hz)
theorem z5N {α:Type} [DecidableEq α] (x:α) (xs:List α) (h:∀ y∈xs,y=x):z2a xs=List.replicate xs.length 0:=by
 cases xs with
 | nil=>rfl
 | cons y ys =>
  have e:y=x:=h y (by simp)
  subst e
  have hu:z0D (y::ys)=[y]:=by
   show z0b (z2d [] y) ys=[y]
   rw [z0u (by simp)]
   exact z3V y ys fun z hz=>h z (List.mem_cons_of_mem _ hz)
  unfold z2a
  rw [hu,List.eq_replicate_iff]
  refine ⟨by rw [zLm],fun b hb=>?_⟩
  obtain ⟨k,hk,rfl⟩:=List.mem_map.mp hb
  rw [h k hk]
  simp
theorem z7a (m:Nat):cnt (List.replicate m 0)=1:=by
 unfold cnt
 have:∀ m:Nat,(List.replicate m (0:Int)).foldl max 0=0:=by
  intro m
  induction m with
  | zero=>rfl
  | succ m ih=>rw [List.replicate_succ,List.foldl_cons];exact ih
 rw [this];rfl
theorem z5s (m k:Nat):(List.replicate m (0:Int)).getD k 0=0:=by
 rw [zGd,List.getElem?_replicate]
 split<;>rfl
theorem z9C {n:Nat} {rows:List Row} (G:z3C n rows) (h:∀ r∈rows,r.1=z0r n):z2y rows=List.replicate rows.length 0:=by
 have h0:z2a (rows.map (·.1))=List.replicate rows.length 0:=by
  rw [z5N (z0r n) _ fun y hy=>by obtain ⟨r,hr,rfl⟩:=List.mem_map.mp hy;exact h r hr,zLm]
 have h1:z2a (z30 (List.replicate rows.length 0) rows)=List.replicate rows.length 0:=by
  rw [z5N ((0:Int),List.replicate n (0:Int)) _ fun y hy=>?_]
  ·congr 1
   unfold z30
   rw [zLm,List.length_zip,List.length_replicate];lia
  ·unfold z30 at hy
   obtain ⟨p,hp,rfl⟩:=List.mem_map.mp hy
   obtain ⟨hp1,hp2⟩:=List.of_mem_zip hp
   have e1:p.1=0:=(List.mem_replicate.mp hp1).2
   refine Prod.ext e1 ?_
   show p.2.2.map _=_
   rw [List.eq_replicate_iff]
   refine ⟨by rw [zLm];exact G.len _ hp2,fun b hb=>?_⟩
   obtain ⟨g,_,rfl⟩:=List.mem_map.mp hb
   exact z5s _ _
 unfold z2y
 rw [h0]
 have hs:=G.some
 obtain ⟨m,hm⟩:∃ m,rows.length=m+1:=⟨rows.length - 1,by lia⟩
 rw [show rows.length+1=(m+1)+1 by lia]
 show (if (0:Int) < cnt (List.replicate rows.length 0) then z4S rows (m+1) (cnt (List.replicate rows.length 0)) (z2a (z30 (List.replicate rows.length 0) rows)) else List.replicate rows.length 0)=_
 rw [z7a,if_pos (by decide),h1]
 show (if (1:Int) < cnt (List.replicate rows.length 0) then _ else List.replicate rows.length 0)=_
 rw [z7a,if_neg (by decide)]
theorem z9D {n:Nat} {rows:List Row} (G:z0j n rows) (h:∀ r∈rows,r.1=z0r n):z9t rows=[(z0r n,List.replicate n 0)]:=by
 have GF:=z2m G
 have hf:∀ r∈z0C rows,r.1=z0r n:=fun r hr=>by
  unfold z0C z1s at hr
  obtain ⟨x,hx,rfl⟩:=List.mem_map.mp hr
  obtain ⟨x0,x1⟩:=(z0s G).1.rg x hx
  exact h (row rows x) (z0k x0 x1)
 unfold z9t
 rw [z9C GF hf]
 generalize z0C rows=fs at GF hf
 have hs:=GF.some
 cases fs with
 | nil=>simp at hs
 | cons r t =>
  unfold z4W
  rw [List.length_cons,List.replicate_succ,List.zip_cons_cons,List.foldl_cons]
  have e0:(if (r,(0:Int)).2=(([]:List Row).length:Int) then []++[((r,(0:Int)).1.1,(r,(0:Int)).1.2.map fun g=>((0:Int)::List.replicate t.length 0).getD g.toNat 0)] else ([]:List Row))=[(z0r n,List.replicate n 0)]:=by
   rw [if_pos (show (r,(0:Int)).2=(([]:List Row).length:Int) from rfl),List.nil_append]
   congr 1
   refine Prod.ext (hf r (by simp)) ?_
   show r.2.map _=_
   rw [List.eq_replicate_iff]
   refine ⟨by rw [zLm];exact GF.len _ (by simp),fun b hb=>?_⟩
   obtain ⟨g,_,rfl⟩:=List.mem_map.mp hb
   have:=z5s (t.length+1) g.toNat
   rwa [List.replicate_succ] at this
  rw [e0]
  have:∀ (l:List (Row × Int)) (acc:List Row),acc.length=1→(∀ p∈l,p.2=0)→l.foldl (fun l p=>if p.2=(l.length:Int) then l++[(p.1.1,p.1.2.map fun g=>((0:Int)::List.replicate t.length 0).getD g.toNat 0)] else l) acc=acc:=by
   intro l
   induction l with
   | nil=>intro acc _ _;rfl
   | cons p l ih =>
    intro acc h1 hz
    rw [List.foldl_cons,if_neg (by rw [hz p (by simp),h1];decide)]
    exact ih acc h1 fun p hp=>hz p (List.mem_cons_of_mem _ hp)
  exact this _ _ rfl fun p hp=>(List.mem_replicate.mp (List.of_mem_zip hp).2).2
def z87 (K:PySem.W.Frag):Sp:=fun vs H Q _=>∃ (n:Nat) (c:Int),vs=[.int n,.int c]∧2≤n∧n≤5∧∀ (v:V) (H':Hp) (rows:List Row),z0f H H'→z0j n rows→rows.length≤8→Dr K H' (D.tup (z0l (shr rows))) v→Q v H'
end Gu
namespace Gu
open PySem L2
section
variable {α β:Type} [DecidableEq α] [DecidableEq β]
theorem z1y (xs:List α) (x:α):z0D (xs++[x])=z2d (z0D xs) x:=z1r [] xs x
theorem z0S {xs:List α} {x:α}:x∈z0D xs↔x∈xs:=by
 unfold z0D
 rw [z0E]
 simp
theorem za5 (xs:List α):(z0D xs).Nodup:=z27 xs [] List.nodup_nil
theorem z98 (xs ys:List α):z0D (xs++ys)=z0b (z0D xs) ys:=by
 unfold z0D z0b
 rw [List.foldl_append]
theorem z5n:∀ {gs o:List α},(∀ g∈gs,g∈o)→z0b o gs=o
 | [],o,_=>rfl
 | g::gs,o,h=>by
  show z0b (z2d o g) gs=o
  rw [z0t (h g (by simp))]
  exact z5n fun x hx=>h x (List.mem_cons_of_mem _ hx)
theorem z3T:∀ {gs o:List α},(o++gs).Nodup→z0b o gs=o++gs
 | [],o,_=>by simp [z0b]
 | g::gs,o,h=>by
  show z0b (z2d o g) gs=_
  have hg:g∉o:=fun z=>(List.nodup_append.mp h).2.2 g z g (by simp) rfl
  rw [z0u hg,z3T (by rw [List.append_assoc];exact h),List.append_assoc]
  rfl
theorem zaK {l:List α} (h:l.Nodup):z0D l=l:=by
 have:=z3T (o:=[]) (gs:=l) (by simpa using h)
 rw [List.nil_append] at this
 exact this
theorem z6S (f:Int→α) (f':Int→β):∀ l:List Int,(∀ x∈l.reverse,∀ y∈l.reverse,f' x=f' y→f x=f y) →
  (z0D (l.reverse.map f)).length≤(z0D (l.reverse.map f')).length∧((z0D (l.reverse.map f')).length≤(z0D (l.reverse.map f)).length→∀ x∈l.reverse,∀ y∈l.reverse,f x=f y→f' x=f' y)
 | [],_=>⟨Nat.le_refl _,fun _ x hx=>by simp at hx⟩
 | z::l,h=>by
  rw [List.reverse_cons] at h ⊢
  obtain ⟨ih1,ih2⟩:=z6S f f' l fun x hx y hy=>h x (List.mem_append_left _ hx) y (List.mem_append_left _ hy)
  have hz:z∈l.reverse++[z]:=by simp
  have hL:∀ x,x∈l.reverse→x∈l.reverse++[z]:=fun x hx=>List.mem_append_left _ hx
  rw [List.map_append,List.map_append,show List.map f [z]=[f z] from rfl,show List.map f' [z]=[f' z] from rfl,z1y,z1y]
  generalize l.reverse=o at *
  by_cases h1:f' z∈z0D (o.map f')
  ·obtain ⟨z',hz',ez⟩:=List.mem_map.mp (z0S.mp h1)
   have ez2:f z'=f z:=h z' (hL _ hz') z hz ez
   have h2:f z∈z0D (o.map f):=z0S.mpr (List.mem_map.mpr ⟨z',hz',ez2⟩)
   rw [z0t h1,z0t h2]
   refine ⟨ih1,fun hc x hx y hy e=>?_⟩
   have red:∀ x∈o++[z],∃ x'∈o,f x'=f x∧f' x'=f' x:=fun x hx=>by
    rcases List.mem_append.mp hx with hx | hx
    ·exact ⟨x,hx,rfl,rfl⟩
    ·rw [List.mem_singleton.mp hx];exact ⟨z',hz',ez2,ez⟩
   obtain ⟨x',hx',e1,e2⟩:=red x hx
   obtain ⟨y',hy',e3,e4⟩:=red y hy
   rw [←e2,←e4]
   exact ih2 hc x' hx' y' hy' (by rw [e1,e3,e])
  ·rw [z0u h1]
   by_cases h2:f z∈z0D (o.map f)
   ·rw [z0t h2,List.length_append]
    refine ⟨by simp;lia,fun hc=>?_⟩
    simp at hc
    lia
   ·rw [z0u h2,List.length_append,List.length_append]
    refine ⟨by simp;lia,fun hc x hx y hy e=>?_⟩
    have hc':(z0D (o.map f')).length≤(z0D (o.map f)).length:=by simp at hc;lia
    have no:∀ x∈o,f x≠f z:=fun x hx e=>h2 (z0S.mpr (List.mem_map.mpr ⟨x,hx,e⟩))
    rcases List.mem_append.mp hx with hx | hx
    ·rcases List.mem_append.mp hy with hy | hy
     ·exact ih2 hc' x hx y hy e
     ·rw [List.mem_singleton.mp hy] at e
      exact absurd e (no x hx)
    ·rcases List.mem_append.mp hy with hy | hy
     ·rw [List.mem_singleton.mp hx] at e
      exact absurd e.symm (no y hy)
     ·rw [List.mem_singleton.mp hx,List.mem_singleton.mp hy]
theorem z2n (f:Int→α) (f':Int→β) (o:List Int) (h:∀ x∈o,∀ y∈o,f' x=f' y→f x=f y) :
  (z0D (o.map f)).length≤(z0D (o.map f')).length∧((z0D (o.map f')).length≤(z0D (o.map f)).length→∀ x∈o,∀ y∈o,f x=f y→f' x=f' y):=by
 have:=z6S f f' o.reverse (by rw [List.reverse_reverse];exact h)
 rwa [List.reverse_reverse] at this
def nk (o:List Int) (key:Int→α) (x:Int):Int:=(((z0D (o.map key)).idxOf (key x):Nat):Int)
theorem z9M {l:List α} {a b:α} (ha:a∈l) (hb:b∈l) (e:l.idxOf a=l.idxOf b):a=b:=by
 have h1:=List.getElem_idxOf (List.idxOf_lt_length_of_mem ha)
 have h2:=List.getElem_idxOf (List.idxOf_lt_length_of_mem hb)
 rw [←h1,←h2]
 congr 1
theorem z5Q {o:List Int} {key:Int→α} {x y:Int} (hx:x∈o) (hy:y∈o):nk o key x=nk o key y↔key x=key y:=by
 unfold nk
 constructor
 ·intro e
  exact z9M (z0S.mpr (List.mem_map.mpr ⟨x,hx,rfl⟩)) (z0S.mpr (List.mem_map.mpr ⟨y,hy,rfl⟩)) (by lia)
 ·intro e;rw [e]
theorem zbZ (o:List Int) (key:Int→α):(z0D (o.map (nk o key))).length=(z0D (o.map key)).length:=by
 have h1:=(z2n (nk o key) key o fun x hx y hy e=>(z5Q hx hy).mpr e).1
 have h2:=(z2n key (nk o key) o fun x hx y hy e=>(z5Q hx hy).mp e).1
 lia
theorem z3U (f:α→β):∀ (gs o:List α),(∀ x∈o++gs,∀ y∈o++gs,f x=f y→x=y)→z0b (o.map f) (gs.map f)=(z0b o gs).map f
 | [],o,_=>rfl
 | g::gs,o,hf=>by
  have h1:z2d (o.map f) (f g)=(z2d o g).map f:=by
   by_cases h:g∈o
   ·rw [z0t h,z0t (List.mem_map.mpr ⟨g,h,rfl⟩)]
   ·have:f g∉o.map f:=fun z=>by
     obtain ⟨x,hx,e⟩:=List.mem_map.mp z
     exact h (hf x (List.mem_append_left _ hx) g (by simp) e ▸ hx)
    rw [z0u h,z0u this,List.map_append];rfl
  show z0b (z2d (o.map f) (f g)) (gs.map f)=(z0b (z2d o g) gs).map f
  rw [h1]
  refine z3U f gs (z2d o g) fun x hx y hy=>hf x ?_ y ?_
  ·rcases List.mem_append.mp hx with hx | hx
   ·rcases z2F.mp hx with hx | hx
    ·exact List.mem_append_left _ hx
    ·rw [hx];simp
   ·exact List.mem_append_right _ (List.mem_cons_of_mem _ hx)
  ·rcases List.mem_append.mp hy with hy | hy
   ·rcases z2F.mp hy with hy | hy
    ·exact List.mem_append_left _ hy
    ·rw [hy];simp
   ·exact List.mem_append_right _ (List.mem_cons_of_mem _ hy)
theorem z5W {l:List α} (h:l.Nodup):l.map (fun x=>((l.idxOf x:Nat):Int))=z0r l.length:=by
 refine List.ext_getElem (by rw [zLm,z0z]) fun i h1 h2=>?_
 rw [zLm] at h1
 rw [List.getElem_map,h.idxOf_getElem i h1]
 have:=z1v h1
 rw [zGe h2] at this
 exact (Option.some.inj this).symm
theorem zdQ (o:List Int) (key:Int→α):z0D (o.map (nk o key))=z0r (z0D (o.map key)).length:=by
 have e:o.map (nk o key)=(o.map key).map (fun v=>(((z0D (o.map key)).idxOf v:Nat):Int)):=by
  rw [List.map_map];rfl
 rw [e]
 have:=z3U (fun v=>(((z0D (o.map key)).idxOf v:Nat):Int)) (o.map key) [] fun x hx y hy q=>by
  rw [List.nil_append] at hx hy
  exact z9M (z0S.mpr hx) (z0S.mpr hy) (Int.ofNat.inj q)
 rw [List.map_nil] at this
 show z0b [] _=_
 rw [this]
 exact z5W (za5 (o.map key))
end
def run (M:List Row):Int→List Nat→Int
 | x,[]=>x
 | x,i::w=>run M ((row M x).2.getD i 0) w
def beh (M:List Row) (x:Int) (w:List Nat):List Int:=(row M (run M x w)).1
structure Cl (n:Nat) (M:List Row) (o:List Int):Prop where
 zero:0∈o
 cl:∀ r∈o,∀ g∈(row M r).2,g∈o
 len:∀ r∈o,(row M r).2.length=n
theorem Cl.go {n:Nat} {M:List Row} {o:List Int} (C:Cl n M o) {x:Int} (hx:x∈o) (i:Nat):(row M x).2.getD i 0∈o:=by
 by_cases h:i < (row M x).2.length
 ·rw [zGd,zGe h]
  exact C.cl x hx _ (List.getElem_mem h)
 ·rw [zGd,List.getElem?_eq_none (by lia)]
  exact C.zero
theorem z2u {n:Nat} {rows:List Row} (G:z0j n rows):Cl n rows (z0d rows):=by
 obtain ⟨L,cl⟩:=z0s G
 obtain ⟨t,e⟩:=L.hd
 exact ⟨by rw [e];simp,cl,fun r hr=>G.len _ (z0k (L.rg r hr).1 (L.rg r hr).2)⟩
def z7i {α:Type} (M:List Row) (o:List Int) (f:Int→α):Prop:=∀ x∈o,∀ y∈o,f x=f y↔beh M x=beh M y
structure zbE {α:Type} (M:List Row) (o:List Int) (f:Int→α):Prop where
 all:∀ x∈o,∀ y∈o,beh M x=beh M y→f x=f y
 fst:∀ x∈o,∀ y∈o,f x=f y→(row M x).1=(row M y).1
def zaY {α β:Type} (M:List Row) (o:List Int) (f:Int→α) (f':Int→β):Prop:=∀ x∈o,∀ y∈o,f' x=f' y↔(f x=f y∧(row M x).2.map f=(row M y).2.map f)
theorem zbE.next {α β:Type} {n:Nat} {M:List Row} {o:List Int} {f:Int→α} {f':Int→β} (C:Cl n M o) (F:zbE M o f) (S:zaY M o f f'):zbE M o f':=by
 refine ⟨fun x hx y hy e=>(S x hx y hy).mpr ⟨F.all x hx y hy e,?_⟩,fun x hx y hy e=>F.fst x hx y hy ((S x hx y hy).mp e).1⟩
 refine List.ext_getElem (by rw [zLm,zLm,C.len x hx,C.len y hy]) fun i h1 h2=>?_
 rw [zLm] at h1 h2
 rw [List.getElem_map,List.getElem_map]
 have a1:=C.go hx i
 have a2:=C.go hy i
 have b1:(row M x).2.getD i 0=(row M x).2[i]:=by rw [zGd,zGe h1];rfl
 have b2:(row M y).2.getD i 0=(row M y).2[i]:=by rw [zGd,zGe h2];rfl
 rw [←b1,←b2]
 exact F.all _ a1 _ a2 (funext fun w=>congrFun e (i::w))
theorem zbE.right {α β:Type} {n:Nat} {M:List Row} {o:List Int} {f:Int→α} {f':Int→β} (C:Cl n M o) (F:zbE M o f) (S:zaY M o f f') (hk:∀ x∈o,∀ y∈o,f x=f y→f' x=f' y):z7i M o f':=by
 have key:∀ (w:List Nat) (x y:Int),x∈o→y∈o→f x=f y→beh M x w=beh M y w:=by
  intro w
  induction w with
  | nil=>intro x y hx hy e;exact F.fst x hx y hy e
  | cons i w ih =>
   intro x y hx hy e
   refine ih _ _ (C.go hx i) (C.go hy i) ?_
   have h:=((S x hx y hy).mp (hk x hx y hy e)).2
   have h':=congrArg (fun l=>l[i]?) h
   simp only [zGm] at h'
   rw [zGd,zGd]
   cases e1:(row M x).2[i]? with
   | none =>
    rw [e1] at h'
    cases e2:(row M y).2[i]? with
    | none=>rfl
    | some b=>rw [e2] at h';cases h'
   | some a =>
    rw [e1] at h'
    cases e2:(row M y).2[i]? with
    | none=>rw [e2] at h';cases h'
    | some b=>rw [e2] at h';exact Option.some.inj h'
 intro x hx y hy
 refine ⟨fun e=>funext fun w=>key w x y hx hy ((S x hx y hy).mp e).1,fun e=>(F.next C S).all x hx y hy e⟩
end Gu
namespace Gu
open PySem L2
theorem z2h (rows:List Row) (o:List Int) (f:Int→D) (r:Int):z33 rows o f r=D.int (nk o (z1D rows f) r):=rfl
theorem z8S {rows:List Row} {f:Int→D} {x y:Int}:z1D rows f x=z1D rows f y↔(f x=f y∧(row rows x).2.map f=(row rows y).2.map f):=by
 unfold z1D
 constructor
 ·intro e
  injection e with e
  injection e with e1 e2
  injection e2 with e2 _
  injection e2 with e2
  exact ⟨e1,e2⟩
 ·rintro ⟨e1,e2⟩
  rw [e1,e2]
theorem z7o (rows:List Row) (o:List Int) (f:Int→D):zaY rows o f (z33 rows o f):=fun x hx y hy=>by
 rw [z2h,z2h]
 constructor
 ·intro e
  injection e with e
  exact z8S.mp ((z5Q hx hy).mp e)
 ·intro e
  rw [(z5Q hx hy).mpr (z8S.mpr e)]
theorem z6V (rows:List Row) (o:List Int) (f:Int→D):z2w rows o f=(z0D (o.map (z33 rows o f))).length:=by
 have h1:z2w rows o f=(z0D (o.map (z1D rows f))).length:=rfl
 have h2:=(z2n (z33 rows o f) (z1D rows f) o fun x hx y hy e=>by rw [z2h,z2h,(z5Q hx hy).mpr e]).1
 have h3:=(z2n (z1D rows f) (z33 rows o f) o fun x hx y hy e=>by
  rw [z2h,z2h] at e
  injection e with e
  exact (z5Q hx hy).mp e).1
 lia
theorem z4z {n:Nat} {rows:List Row} {o:List Int} (C:Cl n rows o):∀ (m many:Nat) (f:Int→D),zbE rows o f→(many=0∨many=(z0D (o.map f)).length)→many≤o.length→o.length+1≤m+many→z7i rows o (z55 rows o m many f)
 | 0,many,f,F,hm,hl,hf=>by lia
 | m+1,many,f,F,hm,hl,hf=>by
  unfold z55
  have S:=z7o rows o f
  by_cases hc:many < z2w rows o f
  ·rw [if_pos hc]
   refine z4z C m _ _ (F.next C S) (.inr (z6V rows o f)) (z6X rows o f) (by lia)
  ·rw [if_neg hc]
   have h1:1≤z2w rows o f:=by
    have:z1D rows f 0∈z0D (z2b rows o f):=z0S.mpr (List.mem_map.mpr ⟨0,C.zero,rfl⟩)
    exact List.length_pos_of_mem this
   have h2:many=(z0D (o.map f)).length:=by rcases hm with h | h;lia;exact h
   have h3:=z6V rows o f
   refine F.right C S ((z2n f (z33 rows o f) o fun x hx y hy e=>((S x hx y hy).mp e).1).2 (by lia))
theorem zfJ (rows:List Row) (o:List Int):zbE rows o fun r=>D.its (row rows r).1 :=
 ⟨fun x hx y hy e=>by
  have:=congrFun e []
  show D.its _=D.its _
  rw [show (row rows x).1=(row rows y).1 from this],fun x hx y hy e=>z7H e⟩
theorem z2H {n:Nat} {rows:List Row} (G:z0j n rows):z7i rows (z0d rows) (kOf rows):=by
 have hl:=(z0s G).1.len
 have h:=z4z (z2u G) (rows.length+2) 0 _ (zfJ rows (z0d rows)) (.inl rfl) (by lia) (by lia)
 intro x hx y hy
 have:=h x hx y hy
 have e:z55 rows (z0d rows) (rows.length+2) 0 (fun r=>D.its (row rows r).1)=fun r=>D.int (kOf rows r):=z5m rows
 rw [e] at this
 rw [←this]
 exact ⟨fun q=>by show D.int _=D.int _;rw [q],fun q=>D.int.inj q⟩
def kf (ks:List Int) (x:Int):Int:=ks.getD x.toNat 0
theorem z2G {α:Type} [DecidableEq α] {L:Nat} {key:Int→α} {x:Int} (hx:x∈z0r L):kf (z2a ((z0r L).map key)) x=nk (z0r L) key x:=by
 have hx':=z0H.mp hx
 unfold kf z2a nk
 have hl:x.toNat < L:=by lia
 rw [zGd,zGm,zGm,z1v hl]
 have:((x.toNat:Nat):Int)=x:=by lia
 simp only [Option.map_some,Option.getD_some,this]
theorem z4K (fs:List Row) (g:Row→α):fs.map g=(z0r fs.length).map fun x=>g (row fs x):=by
 refine List.ext_getElem? fun i=>?_
 rw [zGm,zGm]
 by_cases h:i < fs.length
 ·rw [z1v h,zGe h]
  show some (g fs[i])=some (g (row fs (i:Int)))
  congr 2
  unfold row
  have:((i:Nat):Int).toNat=i:=by lia
  rw [this,zGd,zGe h];rfl
 ·rw [List.getElem?_eq_none (by lia),List.getElem?_eq_none (by rw [z0z];lia)]
  rfl
def zdb (fs:List Row) (ks:List Int) (x:Int):Int × List Int:=(kf ks x,(row fs x).2.map (kf ks))
theorem z3B {fs:List Row} {ks:List Int} (h:ks.length=fs.length):z30 ks fs=(z0r fs.length).map (zdb fs ks):=by
 unfold z30
 refine List.ext_getElem? fun i=>?_
 rw [zGm,zGm]
 by_cases hi:i < fs.length
 ·have e1:(ks.zip fs)[i]?=some (ks[i]'(by lia),fs[i]):=List.getElem?_zip_eq_some.mpr ⟨zGe (by lia),zGe hi⟩
  rw [z1v hi,e1]
  simp only [Option.map_some]
  congr 1
  unfold zdb kf row
  have:((i:Nat):Int).toNat=i:=by lia
  rw [this,zGd,zGe (by lia:i < ks.length),zGd,zGe hi]
  rfl
 ·rw [List.getElem?_eq_none (by rw [List.length_zip];lia),List.getElem?_eq_none (by rw [z0z];lia)]
  rfl
theorem z49 {α:Type} [DecidableEq α] {xs:List α} (h:xs≠[]):cnt (z2a xs)=((z0D xs).length:Int):=by
 have hne:z2a xs≠[]:=fun z=>h (by
  have:=z3i xs
  rw [z] at this
  exact List.eq_nil_of_length_eq_zero this.symm)
 obtain ⟨h1,h2⟩:=z7R hne fun k hk=>(z6h hk).1
 have h3:=(z6h h1).2
 have hpos:0 < (z0D xs).length:=by
  cases xs with
  | nil=>exact absurd rfl h
  | cons a r=>exact List.length_pos_of_mem (z0S.mpr (show a∈a::r by simp))
 have hm:(z0D xs)[(z0D xs).length - 1]'(by lia)∈xs:=z0S.mp (List.getElem_mem _)
 have h4:(((z0D xs).length - 1:Nat):Int)∈z2a xs:=by
  unfold z2a
  refine List.mem_map.mpr ⟨_,hm,?_⟩
  rw [(za5 xs).idxOf_getElem]
 have:=h2 _ h4
 lia
theorem z6s {L:Nat} {α:Type} {g:Int→α} (h:1≤L):(z0r L).map g≠[]:=fun z=>by
 have:=congrArg List.length z
 rw [zLm,z0z] at this
 simp at this
 lia
theorem z6b {α:Type} [DecidableEq α] {L:Nat} {key:Int→α}:(z0D ((z0r L).map (kf (z2a ((z0r L).map key))))).length=(z0D ((z0r L).map key)).length:=by
 rw [←zbZ (z0r L) key]
 congr 2
 exact List.map_congr_left fun x hx=>z2G hx
theorem z5A {fs:List Row} (hgo:∀ x∈z0r fs.length,∀ g∈(row fs x).2,g∈z0r fs.length) {ks:List Int}:zaY fs (z0r fs.length) (kf ks) (kf (z2a ((z0r fs.length).map (zdb fs ks)))):=fun x hx y hy=>by
 rw [z2G hx,z2G hy,z5Q hx hy]
 unfold zdb
 rw [Prod.mk.injEq]
theorem zf1 {n:Nat} {fs:List Row} (G:z3C n fs):Cl n fs (z0r fs.length):=by
 refine ⟨z0H.mpr ⟨by lia,by have:=G.some;lia⟩,fun r hr g hg=>?_,fun r hr=>?_⟩
 ·have h:=z0H.mp hr
  exact z0H.mpr (G.go _ (z0k h.1 h.2) g hg)
 ·have h:=z0H.mp hr
  exact G.len _ (z0k h.1 h.2)
theorem z4F {n:Nat} {fs:List Row} (G:z3C n fs):∀ (m:Nat) (c:Int) (ks:List Int),(∃ (α:Type) (_:DecidableEq α) (key:Int→α),ks=z2a ((z0r fs.length).map key))→zbE fs (z0r fs.length) (kf ks) →
  (c=0∨∃ ks0:List Int,zbE fs (z0r fs.length) (kf ks0)∧zaY fs (z0r fs.length) (kf ks0) (kf ks)∧c=((z0D ((z0r fs.length).map (kf ks0))).length:Int))→0≤c→c≤(fs.length:Int)→(fs.length:Int)+1≤m+c →
  z7i fs (z0r fs.length) (kf (z4S fs m c ks))∧∃ (α:Type) (_:DecidableEq α) (key:Int→α),z4S fs m c ks=z2a ((z0r fs.length).map key)
 | 0,c,ks,hk,F,hp,h0,h1,h2=>by lia
 | m+1,c,ks,hk,F,hp,h0,h1,h2=>by
  unfold z4S
  have C:=zf1 G
  obtain ⟨α,ia,key,rfl⟩:=hk
  have hcn:=z49 (z6s (g:=key) G.some)
  have hU:(z0D ((z0r fs.length).map key)).length≤fs.length:=by
   have:=z4L ((z0r fs.length).map key)
   rw [zLm,z0z] at this
   exact this
  have hUp:1≤(z0D ((z0r fs.length).map key)).length:=List.length_pos_of_mem (z0S.mpr (List.mem_map.mpr ⟨0,C.zero,rfl⟩))
  by_cases hc:c < cnt (z2a ((z0r fs.length).map key))
  ·rw [if_pos hc,hcn,z3B (by rw [z3i,zLm,z0z])]
   refine z4F G m _ _ ⟨_,_,_,rfl⟩ (F.next C (z5A C.cl)) (.inr ⟨_,F,z5A C.cl,?_⟩) (by lia) (by lia) (by rw [hcn] at hc;lia)
   rw [z6b]
  ·rw [if_neg hc]
   refine ⟨?_,_,_,_,rfl⟩
   rcases hp with hp | ⟨ks0,F0,S0,hc0⟩
   ·rw [hcn] at hc;lia
   ·refine F0.right C S0 ((z2n _ _ _ fun x hx y hy e=>((S0 x hx y hy).mp e).1).2 ?_)
    rw [z6b]
    rw [hcn] at hc
    lia
theorem z4Z {n:Nat} {fs:List Row} (G:z3C n fs):z7i fs (z0r fs.length) (kf (z2y fs))∧∃ (α:Type) (_:DecidableEq α) (key:Int→α),z2y fs=z2a ((z0r fs.length).map key):=by
 have C:=zf1 G
 unfold z2y
 refine z4F G (fs.length+1) 0 _ ⟨List Int,inferInstance,fun x=>(row fs x).1,by rw [z4K fs (·.1)]⟩ ?_ (.inl rfl) (by lia) (by lia) (by lia)
 rw [z4K fs (·.1)]
 refine ⟨fun x hx y hy e=>?_,fun x hx y hy e=>?_⟩
 ·rw [z2G hx,z2G hy,z5Q hx hy]
  exact congrFun e []
 ·rw [z2G hx,z2G hy,z5Q hx hy] at e
  exact e
inductive BF (M:List Row):Nat→List Int→List Int→Prop
 | stop {i:Nat} {o:List Int}:o.length≤i→BF M i o o
 | step {i:Nat} {o res:List Int} {r:Int}:o[i]?=some r→BF M (i+1) (z0b o (row M r).2) res→BF M i o res
theorem BF.det {M:List Row} {i:Nat} {o a b:List Int} (h:BF M i o a) (h':BF M i o b):a=b:=by
 induction h generalizing b with
 | stop hl =>
  cases h' with
  | stop _=>rfl
  | step e _=>rw [List.getElem?_eq_none hl] at e;cases e
 | step e _ ih =>
  cases h' with
  | stop hl=>rw [List.getElem?_eq_none hl] at e;cases e
  | step e' q =>
   rw [e] at e'
   cases e'
   exact ih q
theorem BF.sub {M:List Row} {i:Nat} {o a:List Int} (h:BF M i o a):∃ m,a=o++m:=by
 induction h with
 | stop _=>exact ⟨[],by simp⟩
 | @step i o res r e _ ih =>
  obtain ⟨m,em⟩:=ih
  obtain ⟨m',em'⟩:=z0I (row M r).2 o
  exact ⟨m'++m,by rw [em,em',List.append_assoc]⟩
theorem zem {n:Nat} {rows:List Row} (G:z0j n rows):∀ (f i:Nat) (o:List Int),z6D rows o→i≤o.length→rows.length+1≤f+i→BF rows i o (bfs rows f i o)
 | 0,i,o,L,hi,hf=>by
  have:=L.len
  lia
 | f+1,i,o,L,hi,hf=>by
  cases e:o[i]? with
  | none =>
   rw [z2Q (List.getElem?_eq_none_iff.mp e)]
   exact .stop (List.getElem?_eq_none_iff.mp e)
  | some r =>
   rw [z2U e]
   have hr:r∈o:=List.mem_of_getElem? e
   have hil:i < o.length:=(zGs.mp e).1
   obtain ⟨m,em⟩:=z0I (row rows r).2 o
   exact .step e (zem G f (i+1) _ (L.add G hr) (by rw [em,List.length_append];lia) (by lia))
theorem z4a {n:Nat} {rows:List Row} (G:z0j n rows):BF rows 0 [0] (z0d rows):=zem G (rows.length+1) 0 [0] (za1 G) (by simp) (by lia)
theorem z4k {α β:Type} [DecidableEq α] [DecidableEq β] (h:α→β):∀ (gs o:List α),z0D ((z0b o gs).map h)=z0b (z0D (o.map h)) (gs.map h)
 | [],o=>rfl
 | g::gs,o=>by
  show z0D ((z0b (z2d o g) gs).map h)=z0b (z2d (z0D (o.map h)) (h g)) (gs.map h)
  rw [z4k h gs (z2d o g)]
  congr 1
  by_cases hg:g∈o
  ·rw [z0t hg,z0t (z0S.mpr (List.mem_map.mpr ⟨g,hg,rfl⟩))]
  ·rw [z0u hg,List.map_append]
   exact z1y _ _
def Mor (M' M:List Row) (o':List Int) (h:Int→Int):Prop:=∀ x∈o',row M (h x)=((row M' x).1,(row M' x).2.map h)
theorem BF.map {M' M:List Row} {h:Int→Int} {i:Nat} {o res:List Int} (b:BF M' i o res):Mor M' M res h→(∀ j r,j < i→o[j]?=some r→∀ g∈(row M' r).2,g∈o)→i≤o.length →
  BF M (z0D ((o.take i).map h)).length (z0D (o.map h)) (z0D (res.map h)):=by
 induction b with
 | @stop i o hl =>
  intro _ _ _
  rw [List.take_of_length_le hl]
  exact .stop (Nat.le_refl _)
 | @step i o res r e b ih =>
  intro mo pc hi
  obtain ⟨m0,em0⟩:=b.sub
  obtain ⟨m,em⟩:=z0I (row M' r).2 o
  have hil:i < o.length:=(zGs.mp e).1
  have hro:r∈o:=List.mem_of_getElem? e
  have hr:=mo r (by rw [em0,em];exact List.mem_append_left _ (List.mem_append_left _ hro))
  have ih':=ih mo (fun j r' hj er g hg=>?_) (by rw [em,List.length_append];lia)
  ·have et:(z0b o (row M' r).2).take (i+1)=o.take i++[r]:=by
    rw [em,List.take_append_of_le_length (by lia),List.take_add_one,e];rfl
   rw [et,List.map_append,show List.map h [r]=[h r] from rfl,z1y,z4k] at ih'
   by_cases hm:h r∈z0D ((o.take i).map h)
   ·rw [z0t hm,z5n] at ih'
    ·exact ih'
    ·intro g hg
     obtain ⟨r',hr',er'⟩:=List.mem_map.mp (z0S.mp hm)
     obtain ⟨j,hj,ej⟩:=List.getElem_of_mem hr'
     rw [List.length_take] at hj
     rw [List.getElem_take] at ej
     have hmo:=mo r' (by rw [em0,em];exact List.mem_append_left _ (List.mem_append_left _ (List.mem_of_mem_take hr')))
     rw [er',hr] at hmo
     have e2:(row M' r).2.map h=(row M' r').2.map h:=congrArg Prod.snd hmo
     rw [e2] at hg
     obtain ⟨g',hg',eg⟩:=List.mem_map.mp hg
     have:=pc j r' (by lia) (by rw [zGe (by lia),ej]) g' hg'
     exact z0S.mpr (List.mem_map.mpr ⟨g',this,eg⟩)
   ·rw [z0u hm,List.length_append] at ih'
    refine .step (r:=h r) ?_ ?_
    ·have eo:o=(o.take i++[r])++o.drop (i+1):=by
      have:o.take (i+1)=o.take i++[r]:=by rw [List.take_add_one,e];rfl
      rw [←this,List.take_append_drop]
     have e3:z0D (o.map h)=z0b (z0D ((o.take i).map h)++[h r]) ((o.drop (i+1)).map h):=by
      conv=>lhs;rw [eo]
      rw [List.map_append,z98,List.map_append,show List.map h [r]=[h r] from rfl,z1y,z0u hm]
     obtain ⟨m2,em2⟩:=z0I ((o.drop (i+1)).map h) (z0D ((o.take i).map h)++[h r])
     rw [e3,em2,List.append_assoc,List.getElem?_append_right (Nat.le_refl _),Nat.sub_self]
     rfl
    ·rw [hr]
     exact ih'
  ·have hjo:j < o.length:=by lia
   have er':o[j]?=some r':=by rw [em,List.getElem?_append_left hjo] at er;exact er
   by_cases hji:j=i
   ·subst hji
    rw [e] at er'
    cases er'
    exact z0E.mpr (.inr hg)
   ·exact z0E.mpr (.inl (pc j r' (by lia) er' g hg))
theorem z6F {n n':Nat} {M' M:List Row} {h:Int→Int} (G':z0j n' M') (G:z0j n M) (h0:h 0=0) (mo:Mor M' M (z0d M') h):z0D ((z0d M').map h)=z0d M:=by
 have b:=(z4a G').map mo (fun j r hj=>absurd hj (Nat.not_lt_zero _)) (by simp)
 have e:z0D ([(0:Int)].map h)=[0]:=by
  rw [show [(0:Int)].map h=[h 0] from rfl,h0];rfl
 rw [e] at b
 exact b.det (z4a G)
theorem z5E (k:Int→Int):∀ l:List Int,(z0w k l.reverse).map k=z0D (l.reverse.map k)
 | []=>rfl
 | a::l=>by
  rw [List.reverse_cons,z1t,List.map_append,show List.map k [a]=[k a] from rfl,z1y,←z5E k l]
  unfold z0O
  by_cases h:k a∈(z0w k l.reverse).map k
  ·rw [if_pos h,z0t h]
  ·rw [if_neg h,z0u h,List.map_append];rfl
theorem z28 (k:Int→Int) (o:List Int):(z0w k o).map k=z0D (o.map k):=by
 have:=z5E k o.reverse
 rwa [List.reverse_reverse] at this
theorem z73 {k k':Int→Int}:∀ l:List Int,(∀ x∈l.reverse,∀ y∈l.reverse,k x=k y↔k' x=k' y)→z0w k l.reverse=z0w k' l.reverse
 | [],_=>rfl
 | a::l,h=>by
  rw [List.reverse_cons] at h ⊢
  rw [z1t,z1t,z73 l fun x hx y hy=>h x (List.mem_append_left _ hx) y (List.mem_append_left _ hy)]
  unfold z0O
  have hin:=(z1g k' l.reverse).2.1
  have:k a∈(z0w k' l.reverse).map k↔k' a∈(z0w k' l.reverse).map k':=by
   constructor
   ·intro hm
    obtain ⟨x,hx,e⟩:=List.mem_map.mp hm
    exact List.mem_map.mpr ⟨x,hx,(h x (List.mem_append_left _ (hin x hx)) a (by simp)).mp e⟩
   ·intro hm
    obtain ⟨x,hx,e⟩:=List.mem_map.mp hm
    exact List.mem_map.mpr ⟨x,hx,(h x (List.mem_append_left _ (hin x hx)) a (by simp)).mpr e⟩
  by_cases hm:k a∈(z0w k' l.reverse).map k
  ·rw [if_pos hm,if_pos (this.mp hm)]
  ·rw [if_neg hm,if_neg (fun z=>hm (this.mpr z))]
theorem z9h {k k':Int→Int} {o:List Int} (h:∀ x∈o,∀ y∈o,k x=k y↔k' x=k' y):z0w k o=z0w k' o:=by
 have:=z73 (k:=k) (k':=k') o.reverse (by rw [List.reverse_reverse];exact h)
 rwa [List.reverse_reverse] at this
theorem z5B (k h:Int→Int):∀ l:List Int,(z0w (fun x=>k (h x)) l.reverse).map h=z0w k (z0D (l.reverse.map h))
 | []=>rfl
 | a::l=>by
  rw [List.reverse_cons,z1t,List.map_append,show List.map h [a]=[h a] from rfl,z1y]
  have ih:=z5B k h l
  have e:(z0w (fun x=>k (h x)) l.reverse).map (fun x=>k (h x))=(z0w k (z0D (l.reverse.map h))).map k:=by
   rw [←ih,List.map_map];rfl
  unfold z0O
  by_cases hm:h a∈z0D (l.reverse.map h)
  ·have hk:k (h a)∈(z0w (fun x=>k (h x)) l.reverse).map (fun x=>k (h x)):=by
    rw [e]
    exact (z1g k _).1 _ hm
   rw [if_pos hk,z0t hm];exact ih
  ·rw [z0u hm,z1t]
   unfold z0O
   by_cases hk:k (h a)∈(z0w (fun x=>k (h x)) l.reverse).map (fun x=>k (h x))
   ·rw [if_pos hk,if_pos (by rw [←e];exact hk)];exact ih
   ·rw [if_neg hk,if_neg (by rw [←e];exact hk),List.map_append,ih];rfl
theorem z7X (k h:Int→Int) (o:List Int):(z0w (fun x=>k (h x)) o).map h=z0w k (z0D (o.map h)):=by
 have:=z5B k h o.reverse
 rwa [List.reverse_reverse] at this
theorem zbd {k k':Int→Int} {x:Int}:∀ {l:List Int},(∀ y∈l,k y=k x↔k' y=k' x)→(l.map k).idxOf (k x)=(l.map k').idxOf (k' x)
 | [],_=>rfl
 | b::l,h=>by
  rw [List.map_cons,List.map_cons,List.idxOf_cons,List.idxOf_cons,zbd fun y hy=>h y (List.mem_cons_of_mem _ hy)]
  have:=h b (by simp)
  have e:(k b == k x)=(k' b == k' x):=by
   rw [Bool.eq_iff_iff,beq_iff_eq,beq_iff_eq];exact this
  rw [e]
theorem zap {n:Nat} {M' M:List Row} {o':List Int} {h:Int→Int} (C:Cl n M' o') (h0:h 0=0) (mo:Mor M' M o' h):∀ (w:List Nat) (x:Int),x∈o'→h (run M' x w)=run M (h x) w∧run M' x w∈o'
 | [],x,hx=>⟨rfl,hx⟩
 | i::w,x,hx=>by
  have e:(row M (h x)).2.getD i 0=h ((row M' x).2.getD i 0):=by
   rw [mo x hx,zGd,zGd,zGm]
   cases (row M' x).2[i]? with
   | none=>exact h0.symm
   | some a=>rfl
  obtain ⟨h1,h2⟩:=zap C h0 mo w _ (C.go hx i)
  refine ⟨?_,h2⟩
  show h (run M' ((row M' x).2.getD i 0) w)=run M ((row M (h x)).2.getD i 0) w
  rw [e];exact h1
theorem z5K {n n':Nat} {M' M:List Row} {h k k':Int→Int} (G':z0j n' M') (G:z0j n M) (h0:h 0=0) (mo:Mor M' M (z0d M') h) (R:z7i M (z0d M) k) (R':z7i M' (z0d M') k') :
  z1P M' k' (z0d M')=z1P M k (z0d M):=by
 have C':=z2u G'
 have eo:=z6F G' G h0 mo
 have hin:∀ x∈z0d M',h x∈z0d M:=fun x hx=>by rw [←eo];exact z0S.mpr (List.mem_map.mpr ⟨x,hx,rfl⟩)
 have hb:∀ x∈z0d M',beh M' x=beh M (h x):=fun x hx=>funext fun w=>by
  obtain ⟨h1,h2⟩:=zap C' h0 mo w x hx
  show (row M' (run M' x w)).1=(row M (run M (h x) w)).1
  rw [←h1,mo _ h2]
 have ker:∀ x∈z0d M',∀ y∈z0d M',k' x=k' y↔k (h x)=k (h y):=fun x hx y hy=>by
  rw [R' x hx y hy,R _ (hin x hx) _ (hin y hy),hb x hx,hb y hy]
 have hh:z0w k' (z0d M')=z0w (fun x=>k (h x)) (z0d M'):=z9h ker
 have hm:(z0w (fun x=>k (h x)) (z0d M')).map h=z0w k (z0d M):=by rw [z7X,eo]
 have hsub:∀ r∈z0w (fun x=>k (h x)) (z0d M'),r∈z0d M':=(z1g _ _).2.1
 unfold z1P
 rw [hh,←hm,List.map_map]
 refine List.map_congr_left fun r hr=>?_
 have hro:=hsub r hr
 show _=((row M (h r)).1,(row M (h r)).2.map _)
 rw [mo r hro]
 refine Prod.ext rfl ?_
 show List.map _ _=List.map _ (List.map h (row M' r).2)
 rw [List.map_map]
 refine List.map_congr_left fun g hg=>?_
 have hgo:=C'.cl r hro g hg
 show (((List.map k' (z0w (fun x=>k (h x)) (z0d M'))).idxOf (k' g):Nat):Int)=((((z0w (fun x=>k (h x)) (z0d M')).map h).map k).idxOf (k (h g)):Nat)
 rw [List.map_map]
 have:=zbd (k:=k') (k':=fun x=>k (h x)) (x:=g) (l:=z0w (fun x=>k (h x)) (z0d M')) fun y hy=>ker y (hsub y hy) g hgo
 rw [this]
 rfl
theorem z58 {n n':Nat} {M' M:List Row} {h:Int→Int} (G':z0j n' M') (G:z0j n M) (h0:h 0=0) (mo:Mor M' M (z0d M') h):shr M'=shr M :=
 z5K G' G h0 mo (z2H G) (z2H G')
theorem z3C.m {n:Nat} {fs:List Row} (G:z3C n fs):z0j n fs:=⟨G.few,G.some,G.perm,G.len,G.go⟩
theorem z7j {n:Nat} {rows:List Row} (G:z0j n rows) {x:Int} (hx:x∈z0d rows):row (z0C rows) ((((z0d rows).idxOf x:Nat):Int))=((row rows x).1,(row rows x).2.map fun g=>(((z0d rows).idxOf g:Nat):Int)):=by
 have hl:=List.idxOf_lt_length_of_mem hx
 unfold row z0C z1s
 have:((((z0d rows).idxOf x:Nat):Int)).toNat=(z0d rows).idxOf x:=by lia
 rw [this,zGd,zGm,zGe hl,List.getElem_idxOf hl]
 rfl
theorem z75 (rows:List Row):(z0C rows).length=(z0d rows).length:=by unfold z0C z1s;rw [zLm]
theorem z3a {n:Nat} {rows:List Row} (G:z0j n rows):z0d (z0C rows)=z0r (z0C rows).length:=by
 obtain ⟨L,cl⟩:=z0s G
 obtain ⟨t,e⟩:=L.hd
 have h0:(((z0d rows).idxOf 0:Nat):Int)=0:=by rw [e];simp
 have h:=z6F (h:=fun x=>(((z0d rows).idxOf x:Nat):Int)) G (z2m G).m h0 fun x hx=>z7j G hx
 rw [←h,z5W L.nd,z75]
 exact zaK (z2T _)
theorem zba {n:Nat} {rows:List Row} (G:z0j n rows):Mor (z0C rows) rows (z0d (z0C rows)) fun i=>(z0d rows).getD i.toNat 0:=by
 obtain ⟨L,cl⟩:=z0s G
 intro i hi
 rw [z3a G,z75] at hi
 obtain ⟨i0,i1⟩:=z0H.mp hi
 have hl:i.toNat < (z0d rows).length:=by lia
 have e1:(z0d rows).getD i.toNat 0=(z0d rows)[i.toNat]:=by rw [zGd,zGe hl];rfl
 have hx:(z0d rows)[i.toNat]∈z0d rows:=List.getElem_mem hl
 have e2:(((z0d rows).idxOf (z0d rows)[i.toNat]:Nat):Int)=i:=by rw [L.nd.idxOf_getElem];lia
 have e3:=z7j G hx
 rw [e2] at e3
 show row rows ((z0d rows).getD i.toNat 0)=_
 rw [e1,e3]
 refine Prod.ext rfl ?_
 show (row rows (z0d rows)[i.toNat]).2=List.map _ (List.map _ _)
 rw [List.map_map]
 conv=>lhs;rw [←List.map_id (row rows (z0d rows)[i.toNat]).2]
 refine List.map_congr_left fun g hg=>?_
 have hg':=cl _ hx g hg
 have hl':=List.idxOf_lt_length_of_mem hg'
 show g=(z0d rows).getD ((((z0d rows).idxOf g:Nat):Int)).toNat 0
 have:((((z0d rows).idxOf g:Nat):Int)).toNat=(z0d rows).idxOf g:=by lia
 rw [this,zGd,zGe hl',List.getElem_idxOf hl']
 rfl
theorem z6Q {L i:Nat} (h:i≤L):(z0r L).take i=z0r i:=by
 refine List.ext_getElem? fun j=>?_
 by_cases hj:j < i
 ·rw [List.getElem?_take_of_lt hj,z1v (by lia),z1v hj]
 ·rw [List.getElem?_eq_none (by rw [List.length_take,z0z];lia),List.getElem?_eq_none (by rw [z0z];lia)]
theorem zbS {c:Nat} {u m:List Int} (e:u++m=z0r c):u=z0r u.length:=by
 have hl:u.length≤c:=by have:=congrArg List.length e;rw [List.length_append,z0z] at this;lia
 have:=congrArg (List.take u.length) e
 rw [List.take_append_of_le_length (Nat.le_refl _),List.take_length,z6Q hl] at this
 exact this
theorem z52 (j:Nat):z0r (j+1)=z0r j++[(j:Int)]:=by
 unfold z0r
 rw [List.range_succ,List.map_append];rfl
theorem z3P {fs:List Row} {ks:List Int} (hl:ks.length=fs.length) (hn:∃ (α:Type) (_:DecidableEq α) (key:Int→α),ks=z2a ((z0r fs.length).map key)) (hgo:∀ r∈fs,∀ g∈r.2,0≤g∧g < (fs.length:Int)) :
  z4W fs ks=z1P fs (kf ks) (z0r fs.length):=by
 obtain ⟨α,ia,key,ek⟩:=hn
 have hU:z0D ((z0r fs.length).map (kf ks))=z0r (z0D ((z0r fs.length).map key)).length:=by
  have e:(z0r fs.length).map (kf ks)=(z0r fs.length).map (nk (z0r fs.length) key):=List.map_congr_left fun x hx=>by rw [ek];exact z2G hx
  rw [e]
  exact zdQ (z0r fs.length) key
 generalize hc:(z0D ((z0r fs.length).map key)).length=c at hU
 have hpre:∀ i,i≤fs.length→z0D ((z0r i).map (kf ks))=z0r (z0D ((z0r i).map (kf ks))).length:=fun i hi=>by
  have e1:z0r fs.length=z0r i++(z0r fs.length).drop i:=by
   conv=>lhs;rw [←List.take_append_drop i (z0r fs.length)]
   rw [z6Q hi]
  rw [e1,List.map_append,z98] at hU
  obtain ⟨m,em⟩:=z0I (((z0r fs.length).drop i).map (kf ks)) (z0D ((z0r i).map (kf ks)))
  rw [em] at hU
  exact zbS hU
 have main:∀ i,i≤fs.length→z2j fs ks i=(z0w (kf ks) (z0r i)).map fun r=>((row fs r).1,(row fs r).2.map (kf ks)):=by
  intro i
  induction i with
  | zero=>intro _;rfl
  | succ i ih =>
   intro hi
   have ih:=ih (by lia)
   have hif:i < fs.length:=by lia
   have hik:i < ks.length:=by lia
   rw [z4q (r:=fs[i]) (k:=ks[i]) (zGe hif) (zGe hik),ih,z52,z1t]
   have p1:=hpre i (by lia)
   have p2:=hpre (i+1) hi
   rw [z52,List.map_append,show List.map (kf ks) [(i:Int)]=[kf ks i] from rfl,z1y] at p2
   have hm:=z28 (kf ks) (z0r i)
   have hlen:(z0w (kf ks) (z0r i)).length=(z0D ((z0r i).map (kf ks))).length:=by rw [←hm,zLm]
   have ek:ks[i]=kf ks (i:Int):=by
    unfold kf
    have:((i:Nat):Int).toNat=i:=by lia
    rw [this,zGd,zGe hik];rfl
   have er:fs[i]=row fs (i:Int):=by
    unfold row
    have:((i:Nat):Int).toNat=i:=by lia
    rw [this,zGd,zGe hif];rfl
   unfold z5S z0O
   rw [hm,zLm,hlen]
   by_cases hin:kf ks i∈z0D ((z0r i).map (kf ks))
   ·rw [if_pos hin,if_neg]
    show ¬ ks[i]=_
    rw [ek]
    rw [p1] at hin
    have:=z0H.mp hin
    lia
   ·rw [if_neg hin,if_pos]
    ·rw [List.map_append,er]
     rfl
    ·show ks[i]=_
     rw [ek]
     rw [z0u hin,List.length_append] at p2
     have e3:z0r ((z0D ((z0r i).map (kf ks))).length+[kf ks (i:Int)].length)=z0r (z0D ((z0r i).map (kf ks))).length++[((z0D ((z0r i).map (kf ks))).length:Int)]:=z52 _
     rw [e3,←p1] at p2
     have:=List.append_cancel_left p2
     simpa using this
 rw [←z5H hl,main fs.length (Nat.le_refl _)]
 unfold z1P
 refine List.map_congr_left fun r hr=>?_
 refine Prod.ext rfl ?_
 refine List.map_congr_left fun g hg=>?_
 have hr':=z0H.mp ((z1g (kf ks) (z0r fs.length)).2.1 r hr)
 have hg':=hgo _ (z0k hr'.1 hr'.2) g hg
 have hin:kf ks g∈z0D ((z0r fs.length).map (kf ks)):=z0S.mpr (List.mem_map.mpr ⟨g,z0H.mpr hg',rfl⟩)
 rw [z28]
 have hl':=List.idxOf_lt_length_of_mem hin
 have e:=List.getElem_idxOf hl'
 rw [hU] at hin hl' ⊢
 have h1:=z0H.mp hin
 have e2:(z0r c)[(z0r c).idxOf (kf ks g)]'hl'=kf ks g:=List.getElem_idxOf hl'
 have e3:=z1v (n:=c) (i:=(z0r c).idxOf (kf ks g)) (by rw [z0z] at hl';exact hl')
 rw [zGe hl',e2] at e3
 exact Option.some.inj e3
theorem z4R {n:Nat} {rows:List Row} (G:z0j n rows):z9t rows=shr rows:=by
 have GF:=z2m G
 obtain ⟨R,N⟩:=z4Z GF
 obtain ⟨L,cl⟩:=z0s G
 obtain ⟨t,e⟩:=L.hd
 unfold z9t
 rw [z3P (z3A GF).len N GF.go]
 have h0:(fun i:Int=>(z0d rows).getD i.toNat 0) 0=0:=by
  show (z0d rows).getD (0:Int).toNat 0=0
  rw [e];rfl
 have R':z7i (z0C rows) (z0d (z0C rows)) (kf (z2y (z0C rows))):=by rw [z3a G];exact R
 have:=z5K (h:=fun i=>(z0d rows).getD i.toNat 0) GF.m G h0 (zba G) (z2H G) R'
 rw [z3a G] at this
 exact this
end Gu
namespace L2
open PySem PySem.Spec PyProof.Rows
section
variable {X:Cx} {pins:List (Addr × Obj)} {σ:St} {H:Hp} {s:Shared} {a:Addr} {kvs:List (Key × V)} {k:Key} {u:Value} {A:Around} {E:Value→Shared→Prop}
end
section
variable {X:Cx} {o e f:Expr} {apos cpos:Pos} {td ty tx:TE}
end
end L2
namespace HT
open PySem PySem.Spec PyProof.Rows
section
variable {prog:Program} {w:World} {A:Around} {E:Value→Shared→Prop} {s:Shared}
theorem fm_rev {α:Type} (xs:List α):∀ k,k≤xs.length→(List.range k).filterMap (fun (m:Nat)=>xs[xs.length - 1 - m]?)=xs.reverse.take k
 | 0,_=>by simp
 | k+1,h=>by
  rw [List.range_succ,List.filterMap_append,fm_rev xs k (by lia),List.take_add_one]
  congr 1
  have hk:k < xs.length:=by lia
  rw [List.getElem?_reverse hk]
  have:xs.length - 1 - k < xs.length:=by lia
  rw [List.filterMap_cons,zGe this]
  rfl
theorem fm_congr {α β:Type} {f g:α→Option β}:∀ {l:List α},(∀ a∈l,f a=g a)→l.filterMap f=l.filterMap g
 | [],_=>rfl
 | a::l,h=>by
  rw [List.filterMap_cons,List.filterMap_cons,h a (by simp),fm_congr fun b hb=>h b (List.mem_cons_of_mem _ hb)]
end
end HT
namespace L2
open PySem PySem.Spec PyProof.Rows
section
variable {X:Cx} {e st:Expr} {te ts:TE} {pos p2:Pos}
end
end L2
namespace L2
open PySem PySem.Spec PyProof.Rows
section
variable {X:Cx} {elts:List Expr} {tk:Nat} {tp:Pos}
end
end L2
namespace L2
open PySem PySem.Spec PyProof.Rows
section
variable {X:Cx}
end
end L2
namespace Gu
open PySem L2
def tw (T S:List Int) (i:Nat):Int:=T.getD (S.getD i 0).toNat 0
theorem BF.all {M:List Row} {i:Nat} {o res:List Int} {C:Int→Prop} (b:BF M i o res) (hc:∀ x,C x→∀ g∈(row M x).2,C g):(∀ x∈o,C x)→∀ x∈res,C x:=by
 induction b with
 | stop _=>exact fun h=>h
 | @step i o res r e b ih =>
  intro h
  refine ih fun x hx=>?_
  rcases z0E.mp hx with hx | hx
  ·exact h x hx
  ·exact hc r (h r (List.mem_of_getElem? e)) x hx
def GB (T S gs0:List Int) (H:Hp) (j:Nat) (ys:List V) (H2:Hp):Prop:=∃ gs:List Int,ys=gs.map V.int∧gs.length=j∧(∀ g∈gs,0≤g∧g < (T.length:Int))∧gs.map (fun g=>tw T S g.toNat)=gs0.take j∧z0f H H2
theorem z8w:∀ l:List Row,D.depL (z0l l)≤2
 | []=>by unfold z0l;simp only [List.map_nil,D.depL];lia
 | r::l=>by
  have h:=z8w l
  unfold z0l at h ⊢
  have h2:D.dep (z5i r)=2:=by
   unfold z5i
   simp only [D.dep,D.depL,D.depL_ints]
   decide
  simp only [List.map_cons,D.depL]
  lia
end Gu
namespace L2
open PySem PySem.Spec PyProof.Rows
def Fly (h0:Heap) (H:Hp) (h:Heap) (ea C:Addr):Prop:=h0.get? ea=none∧H ea=none∧∃ a0 oe vs T oT ts,h.get? ea=some oe∧(oe.cls=.ref C∧vs[0]?=some a0)∧oe.data=.fields vs∧vs[1]?=some (.ref T)∧T≠ea∧h0.get? T=none∧H T=none∧h.get? T=some oT∧oT.data=.fields ts∧ts[3]?=some .none
def zeD (h0:Heap) (H:Hp) (h:Heap) (ea C:Addr):Prop:=h0.get? ea=none∧H ea=none∧∃ a0 oe vs,h.get? ea=some oe∧(oe.cls=.ref C∧vs[0]?=some a0)∧oe.data=.fields vs∧vs[1]?=some .none
theorem z2M {h base:Heap}:∀ {l:List Env},h.FunFrames base l→∀ b∈frs l,∃ o,h.get? b=some o∧∀ vs,o.data≠.fields vs
 | [],_,b,hb=>by simp [frs] at hb
 | env::r,hl,b,hb=>by
  obtain ⟨hk,⟨L,o,hf,hn,ho,hd⟩,hr⟩:=hl
  unfold frs at hb
  rw [List.filterMap_cons,hf] at hb
  rcases List.mem_cons.mp hb with z | z
  ·rw [z];exact ⟨o,ho,hd⟩
  ·exact z2M hr b z
theorem z1f {h base base':Heap}:∀ {l:List Env},h.FunFrames base l→(∀ b∈frs l,base'.get? b=none)→h.FunFrames base' l
 | [],_,_=>trivial
 | env::r,hl,hb=>by
  obtain ⟨hk,⟨L,o,hf,hn,ho,hd⟩,hr⟩:=hl
  have e:frs (env::r)=L::frs r:=by unfold frs;rw [List.filterMap_cons,hf]
  exact ⟨hk,⟨L,o,hf,hb L (by rw [e];simp),ho,hd⟩,z1f hr fun b hb'=>hb b (by rw [e];exact List.mem_cons_of_mem _ hb')⟩
section
variable {P:Program} {w:World}
theorem z8n {H:Hp} {h:Heap} {a:Addr} {o:HO} (x:z1J P w H h a o):∃ ob,h.get? a=some ob:=by
 cases o with
 | lst xs=>obtain ⟨_,_,_,_,e⟩:=x;exact ⟨_,e⟩
 | tup xs=>obtain ⟨_,_,_,_,e⟩:=x;exact ⟨_,e⟩
 | dK kvs=>obtain ⟨_,_,_,_,o,_,_,e,_⟩:=x;exact ⟨_,e⟩
 | dT kvs=>obtain ⟨_,_,_,_,o,_,_,e,_⟩:=x;exact ⟨_,e⟩
 | set S n=>obtain ⟨o,_,_,_,e,_⟩:=x;exact ⟨_,e⟩
 | ins C dx fs=>obtain ⟨_,_,_,e,_⟩:=x;exact ⟨_,e⟩
 | own y=>obtain ⟨_,e⟩:=x;exact ⟨_,e⟩
 | xd fs=>obtain ⟨_,⟨_,_,_,e,_⟩,_⟩:=x;exact ⟨_,e⟩
 | rng lo hi=>obtain ⟨_,_,_,e⟩:=x;exact ⟨_,e⟩
 | frz ob u=>obtain ⟨e,_⟩:=x;exact ⟨_,e⟩
 | tbl ps=>exact ⟨_,show h.get? a=some _ from x⟩
 | met f y=>exact ⟨_,show h.get? a=some _ from x⟩
 | ext φ=>obtain ⟨_,⟨_,e⟩,_⟩:=x;exact ⟨_,e⟩
theorem z6q {fr:List Addr} {H1 H':Hp} {h1 h h':Heap} {env:Env} {outer:List Env} {ea C:Addr} {a0:Value} {base:Heap} {hid:List Addr} (FF:h.FunFrames base (env::outer)) (u:Un fr [] H1 H' h1 h) (hok:HOk P w H' h)
  (hfr:∀ b∈frs (env::outer),H' b=none∧(b∈fr∨h1.get? b=none)) (hfr2:∀ b∈fr,b∈frs (env::outer)) (he1:h1.get? ea=none) (heH:H' ea=none) (hid1:∀ b∈hid,h1.get? b=none∧H' b=none)
  (lf:(PySem.W.hideAll h (ea::(hid++frs (env::outer)))).LeftW (env::outer) ea (.ref C) a0 h h') :
  Un fr [] H1 H' h1 h'∧HOk P w H' h'∧Fly h1 H' h' ea C:=by
 obtain ⟨st,ff,tr,sl⟩:=lf
 have keep:∀ b o,h.get? b=some o→b≠ea→b∉hid→b∉frs (env::outer)→h'.get? b=some o:=fun b o e n1 n2 n3 =>
  st b o (PySem.W.hideAll_get _ e fun z=>by
   rcases List.mem_cons.mp z with z | z
   ·exact n1 z
   ·rcases List.mem_append.mp z with z | z
    ·exact n2 z
    ·exact n3 z)
 have slot:∀ b o,h.get? b=some o→b∈frs (env::outer)→∃ s,h'.get? b=some { o with slots:=s }:=fun b o e hb=>by
  obtain ⟨o',e',hd⟩:=z2M FF b hb
  rw [e] at e'
  cases e'
  exact sl b o e hd
 have nh:∀ b o,h1.get? b=some o→b≠ea∧b∉hid:=fun b o e=>⟨fun z=>(by rw [z,he1] at e;cases e),fun z=>(by rw [(hid1 b z).1] at e;cases e)⟩
 refine ⟨⟨fun b o e n hb hx=>?_,fun b o e n hb hx=>?_,u.free,fun b o e hx=>?_,u.tups,u.frzs,u.tbls⟩,fun a o e=>?_,he1,heH,?_⟩
 ·have e2:=u.keep b o e n hb hx
  refine keep b o e2 (nh b o e).1 (nh b o e).2 fun z=>?_
  rcases (hfr b z).2 with z | z
  ·exact hb z
  ·rw [z] at e;cases e
 ·obtain ⟨s1,e2⟩:=u.slot b o e n hb hx
  obtain ⟨s2,e3⟩:=slot b _ e2 (hfr2 b hb)
  exact ⟨s2,e3⟩
 ·obtain ⟨o',e2⟩:=u.there b o e hx
  by_cases hb:b∈frs (env::outer)
  ·obtain ⟨s2,e3⟩:=slot b _ e2 hb
   exact ⟨_,e3⟩
  ·exact ⟨o',keep b o' e2 (nh b o e).1 (nh b o e).2 hb⟩
 ·refine (hok a o e).stay (fun b v hb q=>?_) (fun _ q=>q) fun _ _ q=>q
  have hbs:∃ ob,H' b=some ob:=by
   rcases hb with z | z
   ·rw [z];exact ⟨_,e⟩
   ·exact ⟨_,z⟩
  obtain ⟨ob,hob⟩:=hbs
  refine keep b v q (fun z=>?_) (fun z=>?_) fun z=>?_
  ·rw [z,heH] at hob;cases hob
  ·rw [(hid1 b z).2] at hob;cases hob
  ·rw [(hfr b z).1] at hob;cases hob
 ·obtain ⟨oe,vs,T,oT,ts,g1,g2,g3,g4,g5,g6,g7,g8,g9⟩:=tr
  have hT:h1.get? T=none∧H' T=none:=by
   cases eT:h.get? T with
   | none =>
    refine ⟨?_,?_⟩
    ·cases q:h1.get? T with
     | none=>rfl
     | some o =>
      obtain ⟨o',e2⟩:=u.there T o q (by simp)
      rw [eT] at e2;cases e2
    ·cases q:H' T with
     | none=>rfl
     | some o =>
      obtain ⟨ob,hob⟩:=z8n (hok T o q)
      rw [eT] at hob;cases hob
   | some oT' =>
    have hm:T∈ea::(hid++frs (env::outer)):=Classical.byContradiction fun nm=>by
     rw [PySem.W.hideAll_get _ eT nm] at g5;cases g5
    rcases List.mem_cons.mp hm with z | z
    ·exact absurd z g6
    ·rcases List.mem_append.mp z with z | z
     ·exact hid1 T z
     ·obtain ⟨o',e',hd⟩:=z2M ff T z
      rw [g7] at e'
      cases e'
      exact absurd g8 (hd ts)
  exact ⟨a0,oe,vs,T,oT,ts,g1,g2,g3,g4,g6,hT.1,hT.2,g7,g8,g9⟩
theorem zcf {M:Model} {A:Around} {E:Value→Shared→Prop} {Q:Unit→Shared→Prop} {s:Shared} {fr:List Addr} {H1 H':Hp} {h1:Heap} {env:Env} {outer:List Env} {L ea C:Addr} {base:Heap} (hA:A.frames=some (env::outer)) (hL:env.frame=some L) (FF:s.heap.FunFrames base (env::outer)) (u:Un fr [] H1 H' h1 s.heap) (hok:HOk P w H' s.heap)
  (hfr:∀ b∈frs (env::outer),H' b=none∧(b∈fr∨h1.get? b=none)) (hfr2:∀ b∈fr,b∈frs (env::outer)) (hf:zeD h1 H' s.heap ea C∨Fly h1 H' s.heap ea C)
  (k:∀ h',Un fr [] H1 H' h1 h'→HOk P w H' h'→Fly h1 H' h' ea C→Q () { s with heap:=h' }):wpAny M A (leaving env (.ref ea)) Q E s:=by
 rcases hf with ⟨he1,heH,a0,oe,vs,g1,⟨g2,g20⟩,g3,g4⟩ | ⟨he1,heH,a0,oe,vs,T,oT,ts,g1,g2,g3,g4,g5,g6,g7,g8,g9,g10⟩
 ·have FF':s.heap.FunFrames (PySem.W.hideAll s.heap (ea::([]++frs (env::outer)))) (env::outer):=z1f FF fun b hb=>PySem.W.hideAll_none _ (by simp [hb])
  refine wpAny_leaving_firstW hA FF' hL g1 (fun b o e=>PySem.W.of_hideAll _ e) (PySem.W.hideAll_none _ (by simp)) g3 g4 g20 fun h' lf=>?_
  rw [g2] at lf
  obtain ⟨a,b,c⟩:=z6q (hid:=[]) FF u hok hfr hfr2 he1 heH (fun b hb=>by simp at hb) lf
  exact k h' a b c
 ·have FF':s.heap.FunFrames (PySem.W.hideAll s.heap (ea::([T]++frs (env::outer)))) (env::outer):=z1f FF fun b hb=>PySem.W.hideAll_none _ (by simp [hb])
  refine wpAny_leaving_nextW hA FF' hL ⟨oe,vs,T,oT,ts,g1,g2,g3,g4,PySem.W.hideAll_none _ (by simp),g5,g8,g9,g10⟩ (fun b o e=>PySem.W.of_hideAll _ e) (PySem.W.hideAll_none _ (by simp)) fun h' lf=>?_
  obtain ⟨a,b,c⟩:=z6q (hid:=[T]) FF u hok hfr hfr2 he1 heH (fun b hb=>by rw [List.mem_singleton.mp hb];exact ⟨g6,g7⟩) lf
  exact k h' a b c
def CXx (P:Program) (w:World):CXT:=fun outer H s E e s'=>∃ (ea C:Addr) (H':Hp),e=.ref ea∧s'.os=s.os∧AllBare s'.gens∧Un (frs outer) [] H H' s.heap s'.heap∧HOk P w H' s'.heap∧Fly s.heap H' s'.heap ea C∧E (.ref ea) (some C) H'
instance:NoE (CXx P w):=⟨fun ⟨_,_,_,_,_,_,_,_,_,h⟩=>h⟩
theorem zeZ {K:PySem.W.Frag} {mg:Str→Option Value} {base:Heap} {N:List Str} {qual:Str} {scope:Scope} {f:Addr} {cd:Value} {A:Around} {outer:List Env} {s:Shared} {H:Hp} {E:XK} {pins:List (Addr × Obj)} {σ:St} {H':Hp} {s':Shared} {ea C:Addr}
  (J:Inv (z6E (CXx P w) P w K mg base N qual scope f cd A outer s H E) pins σ H' s') (hf:zeD s.heap H' s'.heap ea C∨Fly s.heap H' s'.heap ea C) (hE:E (.ref ea) (some C) H'):(z6E (CXx P w) P w K mg base N qual scope f cd A outer s H E).xe (.ref ea) s':=by
 have hsub:=J.stkSub
 have hfree:=J.stkFree
 have hst:=J.stack
 have hfrm:=J.ok.frames
 show wpAny (model P w) (A.deeper (envOfC qual scope s.heap.objs.size f cd)) (leaving (envOfC qual scope s.heap.objs.size f cd) (.ref ea)) (fun _ s''=>CXx P w outer H s E (.ref ea) s'') (fun e' s''=>CXx P w outer H s E e' s'') s'
 refine zcf (P:=P) (w:=w) (fr:=frs outer) (H1:=H) (H':=H') (h1:=s.heap) (base:=base) hfrm rfl hst J.base J.hok (fun b hb=>⟨hfree b hb,?_⟩) (fun b hb=>List.mem_cons_of_mem _ hb) hf fun h' a b c=>?_
 ·rcases List.mem_cons.mp (hsub b hb) with z | z
  ·right
   rw [z]
   exact Heap.get?_none_of_le (Nat.le_refl _)
  ·exact .inl z
 ·exact ⟨ea,C,H',rfl,J.os,J.bare,a,b,c,hE⟩
theorem z6z {K:PySem.W.Frag} {mg:Str→Option Value} {base:Heap} {N:List Str} {qual:Str} {scope:Scope} {f:Addr} {cd:Value} {A:Around} {outer:List Env} {s:Shared} {H:Hp} {E E':XK} (hE:∀ e C H',E' e C H'→E e C H') :
  z4G (CXx P w) (z6E (CXx P w) P w K mg base N qual scope f cd A outer s H E) E':=by
 intro pins σ H1 s1 e s' I hx
 obtain ⟨ea,C,H',rfl,os,bare,un,hok,fly,q⟩:=hx
 have J:=I.call' (ch:=[]) os un hok bare (fun b z=>absurd z (by simp))
 refine zeZ J (.inr ?_) (hE _ _ _ q)
 have up:∀ b,s1.heap.get? b=none→s.heap.get? b=none:=fun b z=>by
  cases q:s.heap.get? b with
  | none=>rfl
  | some o =>
   obtain ⟨o',e⟩:=I.base.there b o q (by simp [z6E])
   rw [z] at e;cases e
 obtain ⟨a1,a2,a0,oe,vs,T,oT,ts,g1,g2,g3,g4,g5,g6,r⟩:=fly
 exact ⟨up _ a1,a2,a0,oe,vs,T,oT,ts,g1,g2,g3,g4,g5,up _ g6,r⟩
end
end L2
namespace L2
open PySem PySem.Spec PyProof.Rows
theorem zbe {K:PySem.W.Frag} {h:Heap} {C:Addr} {bmB:List Value} {newId:String} (X:K.In h) (e:PySem.W.excIn K C bmB newId=true):∃ bm N nm q bs hdct sn sub ab col dd k0 k1 k2 k3 k5 mN,
  h.get? C=some (excClassObj nm q C N bs bm hdct sn sub ab col dd k0 k1 k2 k3 k5 newId)∧h.Ns N mN∧mN "__init__"=none∧OwnTail h bmB bm:=by
 unfold PySem.W.excIn at e
 split at e
 ·rename_i dict cd sl hl
  split at e
  ·rename_i C' bm a0 a1 a2 a3 n a5 hm hs
   simp only [Bool.and_eq_true,beq_iff_eq,Bool.not_eq_true'] at e
   obtain ⟨⟨⟨⟨⟨e1,e2⟩,e3⟩,e4⟩,e5⟩,e6⟩:=e
   have hC:=X C _ hl
   subst e1 e2
   have hsl:sl=#[a0,a1,a2,a3,some (Value.builtin n),a5]:=by rw [←Array.toArray_toList (xs:=sl),hs]
   obtain ⟨nm,bs,mro,ns,q,hd,sn,sub,ab,col,hdel⟩:=cd
   simp only at hm e3 e5 e6
   subst hm e3 hsl
   exact ⟨bm,ns,nm,q,bs,hd,sn,sub,ab,col,dict,a0,a1,a2,a3,a5,h.nsMap ns,hC,Heap.Ns.of_isNs (PySem.W.isNs_of_in X e5),PySem.W.nsMap_none_of_in X e5 e6,PySem.W.tail_of_in X e4⟩
  ·cases e
 ·cases e
theorem z8p {h:Heap} {bmB bm:List Value} {v:Value} (t:OwnTail h bmB bm) (hb:bmB.contains v=true):bm.contains v=true:=by
 induction t with
 | base=>exact hb
 | own _ _ _ _ ih=>rw [List.contains_cons,ih];simp
section
variable {P:Program} {w:World} {K:PySem.W.Frag} {mg:Str→Option Value} {base:Heap} {N:List Str} {qual:Str} {scope:Scope} {f:Addr} {cd:Value} {A:Around} {outer:List Env} {s0:Shared} {H0:Hp} {E:XK}
theorem z2S {x:Str} {C:Addr} {B newId initId:String} {bmB:List Value} {arg:Expr} {ta:TE} {np cpos pos:Pos} (hx:mg x=some (.ref C)) (hg:Gl (z6E (CXx P w) P w K mg base N qual scope f cd A outer s0 H0 E) x) (he:PySem.W.excIn K C bmB newId=true) (hB:ExcBaseFacts B newId initId bmB)
  (ha:PE (z6E (CXx P w) P w K mg base N qual scope f cd A outer s0 H0 E) arg ta)
  (htr:backTo cpos (starEach [arg] (z6E (CXx P w) P w K mg base N qual scope f cd A outer s0 H0 E).env)=[(false,eval arg (z6E (CXx P w) P w K mg base N qual scope f cd A outer s0 H0 E).env)]:=by rfl) (hdb:(x == ("__debug__":Str))=false:=by decide) :
  PS (z6E (CXx P w) P w K mg base N qual scope f cd A outer s0 H0 E) (.Raise (some (.Call (.Name x np) [arg] [] cpos)) none pos) (fun D σ H=>ta σ H fun v H1=>∀ ea,E (.ref ea) (some C) H1):=by
 intro pins s σ H D I h
 obtain ⟨bm,NN,nm,q,bs,hd,sn,sub,ab,col,dict,a0,a1,a2,a3,a5,mN,hC,hN,hi,ht⟩:=zbe I.ok.mod.kin he
 refine wpAny_Raise_call_subT (nm:=nm) (q:=q) (N:=NN) (bs:=bs) (hdct:=hd) (sn:=sn) (sub:=sub) (ab:=ab) (col:=col) (dd:=dict) (k0:=a0) (k1:=a1) (k2:=a2) (k3:=a3) (k5:=a5) hB (z8p ht hB.hasBase) (I.ok.hd rfl) (by rw [htr];rfl) hi (z4v I hg hx ⟨rfl,?_⟩ hdb)
 rw [htr]
 refine Calls.evalArgs_plain (Calls.spliced_cons (z1B (ha pins s σ H _ I h) fun u s2 v H2 I2 r2 q2=>Calls.spliced_nil ?_))
 have bk:=I2.bk
 refine ⟨rfl,by show 1≤sizeLine;decide,bk _ _ hC,hN.keeps bk,ht.keeps bk,fun h' e me=>?_⟩
 obtain ⟨kp,nw,t,g1,g2,g3⟩:=me
 have J:=I2.kept (h':=h') (t':=s2.toks) kp
 refine zeZ J (.inl ⟨?_,?_,_,_,_,g1,⟨rfl,rfl⟩,rfl,rfl⟩) (q2 e)
 ·cases z:s0.heap.get? e with
  | none=>rfl
  | some o =>
   obtain ⟨o',e'⟩:=I2.base.there e o z (by simp [z6E])
   rw [nw] at e';cases e'
 ·cases z:H2 e with
  | none=>rfl
  | some o =>
   obtain ⟨ob,hob⟩:=z8n (I2.hok e o z)
   rw [nw] at hob;cases hob
end
end L2
namespace L2
open PySem PySem.Spec PyProof.Rows
section
variable {P:Program} {w:World}
theorem zcb {M:Model} {A:Around} {E:Value→Shared→Prop} {Q:Unit→Shared→Prop} {s:Shared} {fr:List Addr} {H1 H':Hp} {h1:Heap} {env:Env} {outer:List Env} {ea C:Addr} {base:Heap} (FF:s.heap.FunFrames base (env::outer)) (u:Un fr [] H1 H' h1 s.heap) (hok:HOk P w H' s.heap)
  (hfr:∀ b∈frs (env::outer),H' b=none∧(b∈fr∨h1.get? b=none)) (hfr2:∀ b∈fr,b∈frs (env::outer)) (hf:Fly h1 H' s.heap ea C)
  (k:∀ h',Un fr [] H1 H' h1 h'→HOk P w H' h'→Fly h1 H' h' ea C→Q () { s with heap:=h' }):wpAny M A (setFlight (.ref ea) none) Q E s:=by
 obtain ⟨he1,heH,a0,oe,vs,T,oT,ts,g1,g2,g3,g4,g5,g6,g7,g8,g9,g10⟩:=hf
 have FF':s.heap.FunFrames (PySem.W.hideAll s.heap (ea::([T]++frs (env::outer)))) (env::outer):=z1f FF fun b hb=>PySem.W.hideAll_none _ (by simp [hb])
 refine lands_againW (base:=PySem.W.hideAll s.heap (ea::([T]++frs (env::outer)))) (l:=env::outer) (cls:=.ref C) (a0:=a0) ⟨fun b o e=>PySem.W.of_hideAll _ e,PySem.W.hideAll_none _ (by simp),FF',oe,vs,T,oT,ts,g1,g2,g3,g4,PySem.W.hideAll_none _ (by simp),g5,g8,g9,g10⟩ fun h' fl up=>?_
 obtain ⟨f1,f2,f3,f4⟩:=fl
 obtain ⟨a,b,c⟩:=z6q (hid:=[T]) FF u hok hfr hfr2 he1 heH (fun b hb=>by rw [List.mem_singleton.mp hb];exact ⟨g6,g7⟩) ⟨f1,f3,f4,up⟩
 exact k h' a b c
theorem ze5 {M:Model} {A:Around} {E:Value→Shared→Prop} {Q:Unit→Shared→Prop} {s:Shared} {fr:List Addr} {H1 H':Hp} {h1:Heap} {env:Env} {outer:List Env} {L ea C:Addr} {base:Heap} (hA:A.frames=some (env::outer)) (hL:env.frame=some L) (FF:s.heap.FunFrames base (env::outer)) (u:Un fr [] H1 H' h1 s.heap) (hok:HOk P w H' s.heap)
  (hfr:∀ b∈frs (env::outer),H' b=none∧(b∈fr∨h1.get? b=none)) (hfr2:∀ b∈fr,b∈frs (env::outer)) (hf:Fly h1 H' s.heap ea C)
  (k:∀ h',Un fr [] H1 H' h1 h'→HOk P w H' h'→Fly h1 H' h' ea C→Q () { s with heap:=h' }):wpAny M A (noteFrame (.ref ea) env) (fun _ s2=>wpAny M A (setFlight (.ref ea) none) Q E s2) E s:=by
 obtain ⟨he1,heH,a0,oe,vs,T,oT,ts,g1,g2,g3,g4,g5,g6,g7,g8,g9,g10⟩:=hf
 have FF':s.heap.FunFrames (PySem.W.hideAll s.heap (ea::([T]++frs (env::outer)))) (env::outer):=z1f FF fun b hb=>PySem.W.hideAll_none _ (by simp [hb])
 refine wpAny_noteFrame_onW hA FF' hL ⟨oe,vs,T,oT,ts,g1,g2,g3,g4,PySem.W.hideAll_none _ (by simp),g5,g8,g9,g10⟩ (fun b o e=>PySem.W.of_hideAll _ e) (PySem.W.hideAll_none _ (by simp)) fun h2 nt=>?_
 obtain ⟨n1,n2,n3,n4⟩:=nt
 refine wpAny_landsW (L:=L) ⟨n1,PySem.W.hideAll_none _ (by simp),n2,n3⟩ fun h' fl up=>?_
 obtain ⟨f1,f2,f3,f4⟩:=fl
 have lw:(PySem.W.hideAll s.heap (ea::([T]++frs (env::outer)))).LeftW (env::outer) ea (.ref C) a0 s.heap h':=⟨f1,f3,f4,fun b o e hd=>by
  obtain ⟨s1,e1⟩:=n4 b o e hd
  obtain ⟨s2,e2⟩:=up b _ e1 hd
  exact ⟨s2,e2⟩⟩
 obtain ⟨a,b,c⟩:=z6q (hid:=[T]) FF u hok hfr hfr2 he1 heH (fun b hb=>by rw [List.mem_singleton.mp hb];exact ⟨g6,g7⟩) lw
 exact k h' a b c
end
abbrev Cx.sup (X:Cx) (e:Addr):Cx:={ X with A:=X.A.mark (some (.ref e)),calm:=false,xe:=fun _ _=>False }
abbrev Cx.tried (X:Cx) (pn:List (Addr × Obj)) (E:Value→Shared→Prop):Cx:={ X with pn:=pn,xe:=E }
theorem Cx.Ok.sup {X:Cx} (ok:X.Ok) (e:Addr):(X.sup e).Ok :=
 ⟨ok.mod,ok.kind,ok.glob,ok.blt,ok.above,ok.inj,ok.has,ok.cab,fun z=>(by cases z),ok.frames,ok.stk,ok.exf,ok.bs,ok.bsz,ok.noex,ok.exfs,ok.funs,ok.frf⟩
theorem Cx.Ok.tried {X:Cx} (ok:X.Ok) (pn:List (Addr × Obj)) (E:Value→Shared→Prop):(X.tried pn E).Ok :=
 ⟨ok.mod,ok.kind,ok.glob,ok.blt,ok.above,ok.inj,ok.has,ok.cab,ok.hd,ok.frames,ok.stk,ok.exf,ok.bs,ok.bsz,ok.noex,ok.exfs,ok.funs,ok.frf⟩
def XE (C:Addr) (n:Nat) (th:TS) (D:z3Y):XK:=fun _ C' H'=>C'=some C∧∀ σ:St,σ.length=n→th D σ H'
theorem zf0 {X:Cx} {x:Str} {C:Addr} {newId:String} {bmB:List Value} {np hpos pos:Pos} {body suite:List Stmt} {b₀:Stmt} {tb:z3Y→TS} {th:TS} (hfr:X.env.frame=some X.env.locals) (hstk:X.stack=X.env::X.outer)
  (hx:X.mg x=some (.ref C)) (hg:Gl X x) (he:PySem.W.excIn X.K C bmB newId=true) (hB:bmB.contains (.type "BaseException")=true)
  (hb:∀ pn E1 D,z4G (CXx X.prog X.w) (X.tried pn E1) (XE C X.N.length th D)→PSs (X.tried pn E1) body (tb D))
  (hs:∀ e,PSs (X.sup e) (b₀::suite) th) (hdb:(x == ("__debug__":Str))=false:=by decide) :
  PS X (.Try body [.ExceptHandler (some (.Name x np)) none (b₀::suite) hpos] [] [] pos) (fun D σ H=>tb D D σ H):=by
 intro pins s σ H D I h
 refine wpAny_Try_except ?_
 have pass:z4G (CXx X.prog X.w) (X.tried (X.pn++pins) fun e s₁=>wpAny (model X.prog X.w) X.A (noteFrame e X.env) (fun _ s₂=>wpAny (model X.prog X.w) X.A (setFlight e none) (fun _ s₃=>wpAny (model X.prog X.w) X.A (handleBy e X.env [.ExceptHandler (some (.Name x np)) none (b₀::suite) hpos]) (SP X pins D) X.xe s₃) X.xe s₂) X.xe s₁) (XE C X.N.length th D):=by
  intro pins' σ' H1 s1 e s' I1 hx'
  obtain ⟨ea,Ce,H',rfl,os,bare,un,hok,fly,hC,hth⟩:=hx'
  cases hC
  have J:=I1.call' (ch:=[]) os un hok bare (fun b z=>absurd z (by simp))
  have FF:s'.heap.FunFrames X.base (X.env::X.outer):=by have:=J.stack;rw [show (X.tried (X.pn++pins) _).stack=X.stack from rfl,hstk] at this;exact this
  have un':Un (frs (X.env::X.outer)) [] H1 H' s1.heap s'.heap:=by rw [←hstk];exact un
  have hfree:∀ b∈frs (X.env::X.outer),H' b=none∧(b∈frs (X.env::X.outer)∨s1.heap.get? b=none):=fun b hb=>⟨J.stkFree b (by show b∈frs X.stack;rw [hstk];exact hb),.inl hb⟩
  refine ze5 (P:=X.prog) (w:=X.w) (fr:=frs (X.env::X.outer)) (H1:=H1) (H':=H') (h1:=s1.heap) (base:=X.base) (outer:=X.outer) (L:=X.env.locals) (by rw [I.ok.frames,hstk]) hfr FF un' hok hfree (fun b hb=>hb) fly fun h2 u2 k2 f2=>?_
  have mk:∀ h3,Un (frs (X.env::X.outer)) [] H1 H' s1.heap h3→HOk X.prog X.w H' h3→Inv (X.sup ea) pins σ' H' { s' with heap:=h3 }:=fun h3 u3 k3=>by
   have J3:=I1.call' (s':={ s' with heap:=h3 }) (ch:=[]) os (by show Un (frs X.stack) [] H1 H' s1.heap h3;rw [hstk];exact u3) k3 bare (fun b z=>absurd z (by simp))
   exact ⟨I.ok.sup ea,J3.os,J3.bare,J3.base,J3.loc,J3.cell,J3.free,J3.freeC,fun p hp=>J3.pin p (List.mem_append_left _ hp),J3.hok,J3.len⟩
  have J2:=mk h2 u2 k2
  obtain ⟨bm,NN,nm,q,bs,hd,sn,sub,ab,col,dict,a0,a1,a2,a3,a5,mN,hC,hN,hi,ht⟩:=zbe J2.kIn he
  refine wpAny_handleBy_cons (codeAny_handlers_test (z4v J2 hg hx ?_ hdb)) (by intro z;cases z)
  obtain ⟨_,_,b0,oe,vs,T,oT,ts,g1,⟨g2,_⟩,_⟩:=id f2
  refine wpAny_excMatches_sub_self hC g1 g2 (z8p ht hB) ?_
  refine codeAny_handlers_suite ?_
  refine zcb (P:=X.prog) (w:=X.w) (fr:=frs (X.env::X.outer)) (H1:=H1) (H':=H') (h1:=s1.heap) (base:=X.base) (env:=X.env) (outer:=X.outer) (by have:=J2.stack;rw [show (X.sup ea).stack=X.stack from rfl,hstk] at this;exact this) u2 k2 hfree (fun b hb=>hb) f2 fun h3 u3 k3 f3=>?_
  have J3:=mk h3 u3 k3
  refine wpAny_mono (hs ea pins _ σ' H' D J3 (hth σ' J3.len)) (fun f s4 sp=>?_) fun _ _ z=>False.elim z
  have z2A:∀ {σ4 H4},Inv (X.sup ea) pins σ4 H4 s4→Inv X pins σ4 H4 s4:=fun K4=>⟨I.ok,K4.os,K4.bare,K4.base,K4.loc,K4.cell,K4.free,K4.freeC,K4.pin,K4.hok,K4.len⟩
  cases f with
  | next=>obtain ⟨σ4,H4,K4,q⟩:=sp;exact ⟨σ4,H4,z2A K4,q⟩
  | brk=>obtain ⟨σ4,H4,K4,q⟩:=sp;exact ⟨σ4,H4,z2A K4,q⟩
  | cont=>obtain ⟨σ4,H4,K4,q⟩:=sp;exact ⟨σ4,H4,z2A K4,q⟩
  | ret u=>obtain ⟨v,σ4,H4,K4,r,q⟩:=sp;exact ⟨v,σ4,H4,z2A K4,r,q⟩
 have I0:∀ E,Inv (X.tried (X.pn++pins) E) [] σ H s:=fun E=>⟨I.ok.tried _ _,I.os,I.bare,I.base,I.loc,I.cell,I.free,I.freeC,fun p hp=>I.pin p (by rw [List.append_nil] at hp;exact hp),I.hok,I.len⟩
 refine wpAny_mono (hb (X.pn++pins) _ D pass [] s σ H D (I0 _) h) (fun f s1 sp=>?_) fun e s1 z=>z
 have z2A:∀ {E σ4 H4 s4},Inv (X.tried (X.pn++pins) E) [] σ4 H4 s4→Inv X pins σ4 H4 s4:=fun K4=>⟨I.ok,K4.os,K4.bare,K4.base,K4.loc,K4.cell,K4.free,K4.freeC,fun p hp=>K4.pin p (by rw [List.append_nil];exact hp),K4.hok,K4.len⟩
 cases f with
 | next=>obtain ⟨σ4,H4,K4,q⟩:=sp;exact wpAny_execs_nil ⟨σ4,H4,z2A K4,q⟩
 | brk=>obtain ⟨σ4,H4,K4,q⟩:=sp;exact ⟨σ4,H4,z2A K4,q⟩
 | cont=>obtain ⟨σ4,H4,K4,q⟩:=sp;exact ⟨σ4,H4,z2A K4,q⟩
 | ret u=>obtain ⟨v,σ4,H4,K4,r,q⟩:=sp;exact ⟨v,σ4,H4,z2A K4,r,q⟩
end L2
namespace L2
open PySem PySem.Spec PyProof.Rows PySem.SeqAt
section
variable {X:Cx}
end
end L2
namespace Gu
open PySem L2
def zav (rows:List Row) (ks:List Int):Prop:=∃ (α:Type) (_:DecidableEq α) (key:Int→α),ks=z2a ((z0r rows.length).map key)
theorem zeJ (rows:List Row):zav rows (z2a (rows.map (·.1))):=⟨List Int,inferInstance,fun x=>(row rows x).1,by rw [z4K rows (·.1)]⟩
theorem zcH {rows:List Row} {ks:List Int} (h:ks.length=rows.length):zav rows (z2a (z30 ks rows)):=⟨Int × List Int,inferInstance,zdb rows ks,by rw [z3B h]⟩
theorem zcm {n:Nat} {rows:List Row} (G:z3C n rows) {ks:List Int} (h:zav rows ks):cnt ks≤cnt (z2a (z30 ks rows)):=by
 obtain ⟨α,ia,key,rfl⟩:=h
 rw [z3B (by rw [z3i,zLm,z0z]),z49 (z6s G.some),z49 (z6s G.some)]
 have h1:=z6b (L:=rows.length) (key:=key)
 have h2:=(z2n (kf (z2a ((z0r rows.length).map key))) (zdb rows (z2a ((z0r rows.length).map key))) (z0r rows.length) fun x hx y hy e=>by
  unfold zdb at e
  exact (Prod.mk.inj e).1).1
 lia
theorem z5I {n:Nat} {rows:List Row} (G:z3C n rows):∀ (m:Nat) (c:Int) (ks:List Int),zav rows ks→z5c rows ks→cnt ks≤cnt (z4S rows m c ks)
 | 0,c,ks,h,_=>Int.le_refl _
 | m+1,c,ks,h,hg=>by
  unfold z4S
  by_cases hc:c < cnt ks
  ·rw [if_pos hc]
   exact Int.le_trans (zcm G h) (z5I G m _ _ (zcH hg.len) (zaB hg))
  ·rw [if_neg hc];exact Int.le_refl _
theorem zdf {n:Nat} {rows:List Row} (G:z0j n rows):((shr rows).length:Int)=cnt (z2y (z0C rows)):=by
 have GF:=z2m G
 obtain ⟨R,N⟩:=z4Z GF
 rw [←z4R G]
 unfold z9t
 rw [z3P (z3A GF).len N GF.go]
 unfold z1P
 have hm:=z28 (kf (z2y (z0C rows))) (z0r (z0C rows).length)
 have:(z0w (kf (z2y (z0C rows))) (z0r (z0C rows).length)).length=(z0D ((z0r (z0C rows).length).map (kf (z2y (z0C rows))))).length:=by rw [←hm,zLm]
 rw [zLm,this]
 obtain ⟨α,ia,key,e⟩:=N
 rw [e,z6b,z49 (z6s GF.some)]
theorem z4T {n:Nat} {rows:List Row} (G:z0j n rows):(shr rows).length≤rows.length:=by
 obtain ⟨L,cl⟩:=z0s G
 have hl:=L.len
 have hh:=(z1g (kOf rows) (z0d rows)).2.2
 unfold shr z1P
 rw [zLm]
 lia
theorem z26 {n:Nat} {rows:List Row} (G:z0j n rows):z0j n (shr rows):=by
 obtain ⟨L,cl⟩:=z0s G
 obtain ⟨h1,h2,h3⟩:=z1g (kOf rows) (z0d rows)
 have hl:=z4T G
 have hf:=G.few
 obtain ⟨r0,t0,e0,_⟩:=zeG G
 have hm:∀ r∈shr rows,∃ x∈z0d rows,r=((row rows x).1,(row rows x).2.map fun g=>((((z0w (kOf rows) (z0d rows)).map (kOf rows)).idxOf (kOf rows g):Nat):Int)):=fun r hr=>by
  unfold shr z1P at hr
  obtain ⟨x,hx,e⟩:=List.mem_map.mp hr
  exact ⟨x,h2 x hx,e.symm⟩
 refine ⟨by lia,by rw [e0];simp,fun r hr=>?_,fun r hr=>?_,fun r hr g hg=>?_⟩
 ·obtain ⟨x,hx,rfl⟩:=hm r hr
  exact G.perm (row rows x) (z0k (L.rg x hx).1 (L.rg x hx).2)
 ·obtain ⟨x,hx,rfl⟩:=hm r hr
  show (List.map _ _).length=n
  rw [zLm]
  exact G.len _ (z0k (L.rg x hx).1 (L.rg x hx).2)
 ·obtain ⟨x,hx,rfl⟩:=hm r hr
  obtain ⟨y,hy,rfl⟩:=List.mem_map.mp hg
  have:=List.idxOf_lt_length_of_mem (h1 y (cl x hx y hy))
  rw [zLm] at this
  unfold shr z1P
  rw [zLm]
  lia
theorem zb3 {n:Nat} {rows:List Row} (G:z0j n rows):shr (shr rows)=shr rows:=by
 obtain ⟨L,cl⟩:=z0s G
 have C:=z2u G
 have R:=z2H G
 obtain ⟨h1,h2,h3⟩:=z1g (kOf rows) (z0d rows)
 obtain ⟨t,et⟩:=L.hd
 refine (z58 (M':=rows) (M:=shr rows) (h:=fun x=>((((z0w (kOf rows) (z0d rows)).map (kOf rows)).idxOf (kOf rows x):Nat):Int)) G (z26 G) ?_ fun x hx=>?_).symm
 ·obtain ⟨t',et'⟩:=z6B (kOf rows) 0 t
  show ((((z0w (kOf rows) (z0d rows)).map (kOf rows)).idxOf (kOf rows 0):Nat):Int)=0
  rw [et,et',List.map_cons,List.idxOf_cons]
  simp
 ·have hy:∃ y,(z0w (kOf rows) (z0d rows))[((z0w (kOf rows) (z0d rows)).map (kOf rows)).idxOf (kOf rows x)]?=some y∧kOf rows y=kOf rows x:=by
   have hlt:=List.idxOf_lt_length_of_mem (h1 x hx)
   have hg:=List.getElem_idxOf hlt
   rw [zLm] at hlt
   rw [List.getElem_map] at hg
   exact ⟨_,zGe hlt,hg⟩
  show row (shr rows) ((((z0w (kOf rows) (z0d rows)).map (kOf rows)).idxOf (kOf rows x):Nat):Int)=_
  generalize ((z0w (kOf rows) (z0d rows)).map (kOf rows)).idxOf (kOf rows x)=j at hy ⊢
  obtain ⟨y,ey,hg⟩:=hy
  have hhd:y∈z0d rows:=h2 _ (List.mem_of_getElem? ey)
  have eb:=(R _ hhd x hx).mp hg
  have er:row (shr rows) ((j:Nat):Int)=((row rows y).1,(row rows y).2.map fun g=>((((z0w (kOf rows) (z0d rows)).map (kOf rows)).idxOf (kOf rows g):Nat):Int)):=by
   unfold row shr z1P
   have:((j:Nat):Int).toNat=j:=by lia
   rw [this,zGd,zGm,ey]
   rfl
  rw [er]
  refine Prod.ext ?_ ?_
  ·exact congrFun eb []
  ·show List.map _ _=List.map _ _
   refine List.ext_getElem (by rw [zLm,zLm,C.len y hhd,C.len x hx]) fun i i1 i2=>?_
   rw [zLm] at i1 i2
   rw [List.getElem_map,List.getElem_map]
   have b1:(row rows y).2.getD i 0=(row rows y).2[i]:=by rw [zGd,zGe i1];rfl
   have b2:(row rows x).2.getD i 0=(row rows x).2[i]:=by rw [zGd,zGe i2];rfl
   have a1:=C.go hhd i
   have a2:=C.go hx i
   rw [b1] at a1
   rw [b2] at a2
   have hb:beh rows (row rows y).2[i]=beh rows (row rows x).2[i]:=by
    rw [←b1,←b2]
    exact funext fun w=>congrFun eb (i::w)
   rw [(R _ a1 _ a2).mpr hb]
def TMx (Ct:Addr) (E:XK) (H:Hp):Prop:=∀ (ea:Addr) (H':Hp),z0f H H'→E (.ref ea) (some Ct) H'
def z6n (K:PySem.W.Frag) (Ct:Addr):Sp:=fun vs H Q E=>∃ (a:Addr) (n:Nat) (rows:List Row),vs=[.ref a]∧z32 K H a rows∧z3C n rows∧n≤60∧(cnt (z2y rows)≤60→∀ (r:Addr) (H':Hp),z0f H H'→H' r=some (.lst ((z2y rows).map V.int))→Q (.ref r) H')∧(60 < cnt (z2y rows)→TMx Ct E H)
end Gu
namespace L2
open PySem PySem.Spec PyProof.Rows
theorem Fun.okx {CX:CXT} {P:Program} {w:World} {K:PySem.W.Frag} {mg:Str→Option Value} {base:Heap} {x qual:Str} {st:Stmt} {f:Addr} {fd:FuncData} {N ps:List Str} {k:Nat} {sp:Sp} (F:Fun K x qual st f fd) (S:z0p N ps (z05 st)) (len:∀ vs H Q E,sp vs H Q E→vs.length=ps.length)
  (hbody:∀ (cdv:Value) (A:Around) (outer:List Env) (s:Shared) (H:Hp) (vs:List V) (Q:VK) (E:XK),z3Q k (A.deeper (envOfC qual (z05 st) s.heap.objs.size f cdv))→sp vs H Q E →
   ∃ t,PSs (z6E CX P w K mg base N qual (z05 st) f cdv A outer s H E) (z0F st) t∧t { nx:=fun _ H'=>Q .non H',rt:=Q } (z5e N vs) H):z0v P w K mg base CX (k+1) f fd ps sp:=by
 obtain ⟨oc,od,kV,doc,pm,an,cdv,ct,osl,rfl,lk,hcd⟩:=F.ex
 exact ze7 lk hcd S len fun A outer s H vs Q E hr hsp=>hbody cdv A outer s H vs Q E hr hsp
end L2
namespace L2
open PySem PySem.Spec PyProof.Rows PySem.SeqAt
section
variable {X:Cx}
end
end L2
namespace Gu
theorem zde {l:List Int} {i:Nat} (h:i < l.length):l.getD i 0=l[i]:=by rw [zGd,zGe h];rfl
end Gu
namespace Gu
open PySem L2
end Gu
namespace L2
open PySem PySem.Spec PyProof.Rows
abbrev frO (o:Obj):HO:=.frz o (.ext fun _=>True)
section
variable {P:Program} {w:World} {H H1:Hp} {h:Heap} {a:Addr} {o:Obj}
theorem z7l (e:h.get? a=some o):z1J P w H h a (frO o):=⟨e,trivial,⟨o,e⟩,fun _ _ _ _=>trivial⟩
theorem z3W (x:HOk P w H h) (e:H a=some (frO o)):h.get? a=some o:=(x a _ e).1
end
def utk (H:Hp) (cs:List Addr):Hp:=fun b=>if b∈cs then none else H b
def rtk (H H1:Hp) (cs:List Addr):Hp:=fun b=>if b∈cs then H b else H1 b
theorem z5q {H:Hp} {cs:List Addr} {b:Addr} (h:b∈cs):utk H cs b=none:=if_pos h
theorem z1d {H:Hp} {cs:List Addr} {b:Addr} (h:b∉cs):utk H cs b=H b:=if_neg h
theorem zaM {H H1:Hp} {cs:List Addr} {b:Addr} (h:b∈cs):rtk H H1 cs b=H b:=if_pos h
theorem z39 {H H1:Hp} {cs:List Addr} {b:Addr} (h:b∉cs):rtk H H1 cs b=H1 b:=if_neg h
theorem z0f.rtk {H H1:Hp} {cs:List Addr} (s:z0f (utk H cs) H1):z0f H (L2.rtk H H1 cs):=fun b o e=>by
 by_cases hb:b∈cs
 ·rw [zaM hb];exact e
 ·rw [z39 hb];exact s b o (by rw [z1d hb];exact e)
theorem z0f.rtk' {H H1:Hp} {cs:List Addr} (hn:∀ c∈cs,H1 c=none):z0f H1 (L2.rtk H H1 cs):=fun b o e=>by
 have hb:b∉cs:=fun z=>by rw [hn b z] at e;cases e
 rw [z39 hb];exact e
theorem z7x {H:Hp} {cs:List Addr} (hc:∀ c∈cs,∃ ob,H c=some (frO ob)) {b:Addr} {o:HO} (e:H b=some o) (ne:∀ ob,o≠frO ob):utk H cs b=some o:=by
 have hb:b∉cs:=fun z=>by
  obtain ⟨ob,q⟩:=hc b z
  rw [e] at q
  exact ne ob (Option.some.inj q)
 rw [z1d hb];exact e
def z7S (H:Hp) (f:Addr) (params:Arguments) (body:Expr) (scope:Scope) (qual:Str) (N:List Str) (fv:St):Prop :=
 ∃ (clos:List (Str × Addr)) (cs:List Addr) (pm:Value) (c':Addr) (ctv:Value) (oc:Obj) (vs:Array Value) (t:Tok),H f=some (frO (PySem.W.kla_obj "<lambda>" qual params body scope clos pm c' ctv))∧H c'=some (frO oc)∧oc.data=.fields vs∧vs[1]?=some (.str qual t) ∧
  (∀ x y c,clos.lookup x=some c→clos.lookup y=some c→x=y)∧(∀ x c,clos.lookup x=some c→c∈cs)∧(∀ c∈cs,(∃ x,clos.lookup x=some c)∧∃ o u,H c=some (frO o)∧o.data=.cell u)∧(∀ x,scope.names.lookup x=some .free→∃ c,clos.lookup x=some c) ∧
  ∀ (i:Nat) x v,N[i]?=some x→fv[i]?=some (some v)→∃ c o u,clos.lookup x=some c∧H c=some (frO o)∧o.data=.cell (some u)∧z1c v u
theorem z7S.mono {H H':Hp} {f:Addr} {params:Arguments} {body:Expr} {scope:Scope} {qual:Str} {N:List Str} {fv:St} (h:z7S H f params body scope qual N fv) (s:z0f H H'):z7S H' f params body scope qual N fv:=by
 obtain ⟨clos,cs,pm,c',ctv,oc,vs,t,e1,e2,e3,e4,e5,e5',e6,e7,e8⟩:=h
 refine ⟨clos,cs,pm,c',ctv,oc,vs,t,s _ _ e1,s _ _ e2,e3,e4,e5,e5',fun c hc=>?_,e7,fun i x v h1 h2=>?_⟩
 ·obtain ⟨hx,o,u,q,d⟩:=e6 c hc
  exact ⟨hx,o,u,s _ _ q,d⟩
 ·obtain ⟨c,o,u,q1,q2,q3⟩:=e8 i x v h1 h2
  exact ⟨c,o,u,q1,s _ _ q2,q3⟩
structure zeh (N ps:List Str) (sc:Scope):Prop where
 kind:sc.kind=.function:=by rfl
 co:sc.isCoroutine=false:=by rfl
 gen:sc.isGenerator=false:=by rfl
 nd:N.Nodup:=by decide +kernel
 pre:N.take ps.length=ps:=by rfl
 par:∀ x∈ps,sc.names.lookup x=some .local:=by decide +kernel
 nocell:∀ y∈sc.names,y.2≠.cell:=by decide +kernel
 fr:∀ x∈N.drop ps.length,sc.names.lookup x=some .free:=by decide +kernel
def z7t (vs:List V) (fv:St):St:=vs.map some++fv.drop vs.length
def zbM (P:Program) (w:World) (K:PySem.W.Frag) (mg:Str→Option Value) (base:Heap) (N:List Str) (qual:Str) (scope:Scope) (f:Addr) (cd:Value) (clos:List (Str × Addr)) (A:Around) (outer:List Env) (s:Shared) (H:Hp):Cx where
 prog:=P
 w:=w
 K:=K
 mg:=mg
 base:=base
 A:=A.deeper (PySem.W.envX qual scope s.heap.objs.size f cd clos)
 N:=N
 s₀:=s
 H₀:=H
 env:=PySem.W.envX qual scope s.heap.objs.size f cd clos
 outer:=outer
 stack:=PySem.W.envX qual scope s.heap.objs.size f cd clos::outer
 ex:=[]
 calm:=true
 fn:=fun _=>false
 pn:=[]
 xe:=noE
theorem z74 {ps:List Str} {us:List Value} {i:Nat} {x:Str} {u:Value} (nd:ps.Nodup) (hp:ps[i]?=some x) (hu:us[i]?=some u):(ps.zip us).reverse.lookup x=some u:=by
 have hm:(x,u)∈(ps.zip us).reverse:=List.mem_reverse.mpr (List.mem_of_getElem? (i:=i) (by rw [List.getElem?_zip_eq_some];exact ⟨hp,hu⟩))
 have key:∀ l:List (Str × Value),(∀ v,(x,v)∈l→v=u)→(x,u)∈l→l.lookup x=some u:=by
  intro l
  induction l with
  | nil=>intro _ h;cases h
  | cons q r ih =>
   intro h1 h2
   obtain ⟨y,v⟩:=q
   rw [List.lookup_cons]
   by_cases e:x=y
   ·subst e
    rw [show (x == x)=true by simp]
    exact congrArg some (h1 v List.mem_cons_self)
   ·rw [show (x == y)=false by simpa using e]
    refine ih (fun v hv=>h1 v (List.mem_cons_of_mem _ hv)) ?_
    rcases List.mem_cons.mp h2 with z | z
    ·injection z with z1 _;exact absurd z1 e
    ·exact z
 refine key _ (fun v hv=>?_) hm
 obtain ⟨j,hj,ej⟩:=List.getElem_of_mem (List.mem_reverse.mp hv)
 have e1:(ps.zip us)[j]?=some (x,v):=by rw [zGe hj,ej]
 rw [List.getElem?_zip_eq_some] at e1
 have:j=i:=z64 nd e1.1 hp
 subst this
 rw [hu] at e1
 exact (Option.some.inj e1.2).symm
theorem zdE {CX:CXT} {P:Program} {w:World} {K:PySem.W.Frag} {mg:Str→Option Value} {base:Heap} {k:Nat} {H:Hp} {f:Addr} {params:Arguments} {body:Expr} {scope:Scope} {qual:Str} {N ps:List Str} {fv:St} (C:z7S H f params body scope qual N fv) (S:zeh N ps scope)
  (hbind:∀ (cl:List (Str × Addr)) (pm cdv ct:Value) (us:List Value),us.length=ps.length→bindArgs (PySem.W.kla_fn "<lambda>" qual params body scope cl pm cdv ct) ⟨us,[]⟩=pure (ps.zip us)) (hfv:fv.length=N.length)
  {A:Around} {outer:List Env} {s:Shared} {us:List Value} {vs:List V} {Q:VK} {E:XK} (hr:z3Q (k+1) A) (e0:zdx P w K mg base A outer s H) (r:z0V vs us) (hl:vs.length=ps.length)
  (hbody:∀ (cd:Value) (clos:List (Str × Addr)) (cs:List Addr),z3Q k (A.deeper (PySem.W.envX qual scope s.heap.objs.size f cd clos))→(∀ c∈cs,∃ o,H c=some (frO o)) →
   ∃ t,PE (zbM P w K mg base N qual scope f cd clos A outer s (utk H cs)) body t∧t (z7t vs fv) (utk H cs) fun v H1=>(∀ c∈cs,H1 c=none)→Q v (rtk H H1 cs)) :
  codeAny (model P w) A (.call (.ref f) ⟨us,[]⟩) (CR CX outer P w H s Q E) s:=by
 obtain ⟨clos,cs,pm,c',ctv,oc,vs',t,e1,e2,e3,e4,e5,hcl,e6',e7,e8⟩:=C
 have e6:∀ c∈cs,∃ o u,H c=some (frO o)∧o.data=.cell u:=fun c hc=>(e6' c hc).2
 obtain ⟨tb,hPE,hq⟩:=hbody (.ref c') clos cs (hr.deeper _) (fun c hc=>let ⟨o,_,q,_⟩:=e6 c hc;⟨o,q⟩)
 have KX:K.In s.heap:=e0.mod.kin.keeps fun b o e=>(e0.bs b o e).1
 have lim:s.heap.NoLimit:=e0.mod.nolimit.keeps fun b o e=>(e0.bs b o e).1
 have hul:us.length=ps.length:=by rw [←r.length];exact hl
 refine PySem.W.kla_callFunE hr.depth (z3W e0.hok e1) rfl S.co S.gen rfl ⟨c',oc,vs',t,rfl,z3W e0.hok e2,e3,e4⟩ ?_
 rw [hbind clos pm (.ref c') ctv us hul]
 refine wpAny_pure (wpAny_newFunctionEnv S.nocell (fun y hy=>S.par y.1 (List.of_mem_zip hy).1) (fun h₁ hns hsb=>?_) S.kind)
 have hk₁:∀ b o,s.heap.get? b=some o→h₁.get? b=some o:=fun b o e=>hsb.extBut b o (Nat.ne_of_lt (Heap.lt_size e)) (Heap.get?_push_of_some _ e)
 refine ⟨lim.keeps hk₁,?_⟩
 show codeAny _ _ (.expr body (PySem.W.envX qual scope s.heap.objs.size f (.ref c') clos)) _ _
 have hcu:∀ c∈cs,utk H cs c=none:=fun c hc=>z5q hc
 have hclt:∀ c∈cs,c < s.heap.objs.size:=fun c hc=>by
  obtain ⟨o,_,q,_⟩:=e6 c hc
  exact Heap.lt_size (z3W e0.hok q)
 have hokU:HOk P w (utk H cs) s.heap:=fun b u e=>by
  have hb:b∉cs:=fun z=>by rw [z5q z] at e;cases e
  rw [z1d hb] at e
  refine (e0.hok b u e).stay (fun _ _ _ q=>q) (fun c q=>?_) fun c xs q=>?_
  ·exact z7x (fun c hc=>let ⟨o,_,q,_⟩:=e6 c hc;⟨o,q⟩) q (fun ob z=>by cases z)
  ·exact z7x (fun c hc=>let ⟨o,_,q,_⟩:=e6 c hc;⟨o,q⟩) q (fun ob z=>by cases z)
 have noA:∀ b:Addr,b∉(zbM P w K mg base N qual scope f (.ref c') clos A outer s (utk H cs)).ex:=fun b z=>absurd (show b∈([]:List Addr) from z) (by simp)
 have nonU:∀ {b:Addr},H b=none→utk H cs b=none:=fun {b} e=>by
  by_cases hb:b∈cs
  ·exact z5q hb
  ·rw [z1d hb];exact e
 have I:Inv (zbM P w K mg base N qual scope f (.ref c') clos A outer s (utk H cs)) [] (z7t vs fv) (utk H cs) { s with heap:=h₁,toks:=s.toks+(ps.zip us).length }:=by
  refine ⟨⟨e0.mod,S.kind,rfl,rfl,Nat.le_refl _,e5,fun y hy=>?_,fun y c hf _=>?_,fun _=>hr.hd,Around.frames_deeper e0.frames,.inr ⟨rfl,rfl⟩,fun b z=>absurd z (noA b),fun b o e=>⟨(e0.bs b o e).1,nonU (e0.bs b o e).2⟩,e0.bsz,fun b _ _=>noA b,fun b z=>absurd z (noA b),e0.funs,fun b hb=>nonU (e0.frf b hb)⟩,
   rfl,e0.bare,Un.kept hk₁,⟨_,hns,fun i y v h1 h2 h3=>?_⟩,fun y c h=>?_,?_,fun y c h=>hcu c (hcl y c h),fun p hp=>absurd (show p∈([]:List (Addr × Obj)) from hp) (by simp),hokU.kept hk₁,?_⟩
  ·rcases hy with hy | hy
   ·exact absurd rfl (S.nocell _ (PySem.mem_of_lookup hy))
   ·exact e7 y hy
  ·exact absurd (show false=true from hf) Bool.false_ne_true
  ·by_cases hi:i < vs.length
   ·have ha:vs[i]?=some v:=by
     unfold z7t at h2
     rw [List.getElem?_append_left (by simpa using hi),zGm] at h2
     cases e:vs[i]? with
     | none=>rw [e] at h2;cases h2
     | some a=>rw [e] at h2;cases h2;rfl
    obtain ⟨u,hu,rv⟩:=r.get ha
    have hp:ps[i]?=some y:=by
     rw [←S.pre,List.getElem?_take_of_lt (by lia)];exact h1
    have ndP:ps.Nodup:=by rw [←S.pre];exact S.nd.sublist (List.take_sublist _ _)
    exact ⟨u,rv,.inl ⟨S.par y (List.mem_of_getElem? hp),z74 ndP hp hu⟩⟩
   ·have h2':fv[i]?=some (some v):=by
     unfold z7t at h2
     rw [List.getElem?_append_right (by simpa using hi),zLm,List.getElem?_drop] at h2
     rw [show vs.length+(i - vs.length)=i by lia] at h2
     exact h2
    obtain ⟨c,o,u,q1,q2,q3,q4⟩:=e8 i y v h1 h2'
    have hkk:scope.names.lookup y=some .local∨scope.names.lookup y=some .cell∨scope.names.lookup y=some .free:=h3
    refine ⟨u,q4,?_⟩
    rcases hkk with z | z | z
    ·have hm:y∈N.drop ps.length:=List.mem_of_getElem? (i:=i - ps.length) (by rw [List.getElem?_drop,show ps.length+(i - ps.length)=i by lia];exact h1)
     rw [S.fr y hm] at z
     cases z
    ·exact absurd rfl (S.nocell _ (PySem.mem_of_lookup z))
    ·exact .inr ⟨.inr z,c,q1,⟨o,hk₁ _ _ (z3W e0.hok q2),q3⟩⟩
  ·obtain ⟨o,u,q,d⟩:=e6 c (hcl y c h)
   exact ⟨u,o,hk₁ _ _ (z3W e0.hok q),d⟩
  ·exact nonU (e0.hok.fresh (Nat.le_refl _))
  ·unfold z7t
   show _=N.length
   have hpl:ps.length≤N.length:=by have:=congrArg List.length S.pre;rw [List.length_take] at this;lia
   rw [List.length_append,zLm,List.length_drop,hfv]
   lia
 refine PySem.W.kla_codeExpr (wpAny_mono (hPE [] _ (z7t vs fv) (utk H cs) _ I hq) (fun v' s' hs=>?_) fun e' s' hs=>False.elim hs)
 obtain ⟨v,H1,J,rv,q1⟩:=hs
 have hn1:∀ c∈cs,H1 c=none:=fun c hc=>by
  obtain ⟨⟨x,hx⟩,_⟩:=e6' c hc
  exact J.freeC x c hx
 have U:Un (frs outer) [] (utk H cs) H1 s.heap s'.heap:=J.base
 have hcs':∀ c∈cs,∃ ob,H c=some (frO ob):=fun c hc=>let ⟨o,_,q,_⟩:=e6 c hc;⟨o,q⟩
 have out:∀ {b:Addr},H b=none→b∉cs:=fun {b} e z=>by obtain ⟨o,q⟩:=hcs' b z;rw [e] at q;cases q
 have got:∀ {b:Addr} {o:HO},(∀ ob,o≠frO ob)→H b=some o→b∉cs:=fun {b o} ne e z=>by obtain ⟨ob,q⟩:=hcs' b z;rw [e] at q;exact ne ob (Option.some.inj q)
 refine ⟨v,rtk H H1 cs,J.os,J.bare,⟨fun b o e n hb hx=>?_,fun b o e n hb hx=>?_,fun b o e n hx=>?_,fun b o e hx=>U.there b o e hx,fun b xs e=>?_,fun b o u e=>?_,fun b ps e=>?_⟩,fun b u e=>?_,rv,q1 hn1⟩
 ·exact U.keep b o e (nonU n) hb hx
 ·exact U.slot b o e (nonU n) hb hx
 ·rw [z39 (out n)];exact U.free b o e (nonU n) hx
 ·have hb:=got (fun ob z=>by cases z) e
  rw [z39 hb];exact U.tups b xs (by rw [z1d hb];exact e)
 ·by_cases hb:b∈cs
  ·rw [zaM hb];exact e
  ·rw [z39 hb];exact U.frzs b o u (by rw [z1d hb];exact e)
 ·have hb:=got (fun ob z=>by cases z) e
  obtain ⟨more,q⟩:=U.tbls b ps (by rw [z1d hb];exact e)
  exact ⟨more,by rw [z39 hb];exact q⟩
 ·by_cases hb:b∈cs
  ·rw [zaM hb] at e
   obtain ⟨ob,q⟩:=hcs' b hb
   rw [q] at e
   have:=Option.some.inj e
   subst this
   refine z7l (U.keep b ob (z3W e0.hok q) (hcu b hb) (fun z=>?_) (by simp))
   have:=e0.frf b z
   rw [q] at this
   cases this
  ·rw [z39 hb] at e
   refine (J.hok b u e).stay (fun _ _ _ q=>q) (fun c q=>?_) fun c xs q=>?_
   ·exact z0f.rtk' hn1 c _ q
   ·exact z0f.rtk' hn1 c _ q
def z2Y (P:Program) (w:World) (K:PySem.W.Frag) (mg:Str→Option Value) (base:Heap) (CX:CXT) (k:Nat) (H:Hp) (f:Addr) (sp:List V→Hp→VK→Prop):Prop :=
 (∃ (o:Obj) (fd:FuncData),H f=some (frO o)∧o.data=.func fd) ∧
 ∀ (H':Hp),z0f H H'→∀ (A:Around) (outer:List Env) (s:Shared) (us:List Value) (vs:List V) (Q:VK),z3Q k A→zdx P w K mg base A outer s H'→z0V vs us→sp vs H' Q →
  codeAny (model P w) A (.call (.ref f) ⟨us,[]⟩) (CR CX outer P w H' s Q E0) s
theorem z2Y.mono {P:Program} {w:World} {K:PySem.W.Frag} {mg:Str→Option Value} {base:Heap} {CX:CXT} {k:Nat} {H H1:Hp} {f:Addr} {sp:List V→Hp→VK→Prop} (h:z2Y P w K mg base CX k H f sp) (s:z0f H H1):z2Y P w K mg base CX k H1 f sp:=by
 obtain ⟨⟨o,fd,e,d⟩,r⟩:=h
 exact ⟨⟨o,fd,s _ _ e,d⟩,fun H' s'=>r H' (s.trans s')⟩
def zew (P:Program) (w:World) (K:PySem.W.Frag) (mg:Str→Option Value) (base:Heap) (CX:CXT) (k:Nat) (i:Nat) (t:TA):TE:=fun σ H Q=>∃ (f:Addr) (sp:List V→Hp→VK→Prop),σ[i]?=some (some (.ref f))∧(∃ (o:Obj) (fd:FuncData),H f=some (frO o)∧o.data=.func fd) ∧
 t σ H fun vs H1=>z2Y P w K mg base CX k H1 f sp∧sp vs H1 Q
section
variable {X:Cx} {CX:CXT} {k:Nat} {x:Str} {p pos:Pos} {e:Expr} {es:List Expr} {t:TA}
theorem z8u [N:NoE CX] (i:Nat) (hr:z3Q k X.A) (ha:PA X (e::es) t) (hN:X.N[i]?=some x:=by rfl) (hv:Vis X.env.scope x:=by first | exact Or.inl rfl | exact Or.inr (Or.inl rfl) | exact Or.inr (Or.inr rfl)) (hd:(x == ("__debug__":Str))=false:=by decide)
  (hcd:(x == ("__classdict__":Str))=false:=by decide) (he:starEach (e::es) X.env=(false,eval e X.env)::starEach es X.env:=by rfl) (hpl:(backTo pos (starEach es X.env)).any (·.1)=false:=by rfl) :
  PE X (.Call (.Name x p) (e::es) [] pos) (zew X.prog X.w X.K X.mg X.base CX k i t):=by
 intro pins s σ H Q I h
 obtain ⟨f,sp,ef,⟨o,fd,eo,od⟩,h⟩:=h
 refine wpAny_Call_Name_kw (z1B (zcG hN hv hd hcd pins s σ H (fun v H1=>v=.ref f∧H1=H) I ⟨_,ef,rfl,rfl⟩) fun u s1 v H1 I1 r1 hz9=>?_)
 obtain ⟨hv1,hH1⟩:=hz9
 subst hv1 hH1
 cases r1
 have h':=ha pos pins s1 σ H1 _ I1 h
 rw [he] at h' ⊢
 refine PySem.W.callWith_of (P:=fun hp=>hp.get? f=some o∨∃ o' fd',hp.get? f=some o'∧o'.data=.func fd') (by show ((false || (backTo pos (starEach es X.env)).any (·.1)) || false)=false;rw [hpl];rfl)
  (fun hp hX=>?_) (PySem.Calls.evalArgs_plain (thn h' fun us s2 ⟨vs,H2,I2,r,cv,q⟩=>?_))
 ·have hX':∃ o' fd',hp.get? f=some o'∧o'.data=.func fd':=hX.elim (fun z=>⟨o,fd,z,od⟩) id
  obtain ⟨o',fd',z,d'⟩:=hX'
  refine ⟨.frame,.inl rfl,?_⟩
  obtain ⟨cls,dd,data,sl⟩:=o'
  simp only at d'
  subst d'
  exact (PySem.W.Looks.ld (part:=none) z).andThen .now
 ·obtain ⟨⟨o',fd',z,d'⟩,run⟩:=cv
  refine ⟨.inr ⟨o',fd',z3W I2.hok z,d'⟩,?_⟩
  refine wpAny_call (codeAny_mono (run H2 (z0f.refl _) X.A X.stack s2 us vs Q hr I2.env0 r q) fun r s' hq=>?_)
  cases r with
  | error e=>exact absurd hq N.no
  | ok fl =>
   cases fl with
   | ret u=>exact I2.after hq
   | next=>exact False.elim hq
   | brk=>exact False.elim hq
   | cont=>exact False.elim hq
end
end L2
namespace L2
open PySem PySem.Spec PyProof.Rows
structure Tb where
 at_:Addr
 pos:Pos
 qual:Str
def zc4 (T:Tb) (H:Hp):Prop:=H T.at_=some (.tbl #[])∨∃ (c':Addr) (oc:Obj) (vs:Array Value) (t:Tok),H T.at_=some (.tbl #[rawInt T.pos.line,rawInt T.pos.col,.ref c'])∧H c'=some (frO oc)∧oc.data=.fields vs∧vs[1]?=some (.str T.qual t)
def z3R (Ts:List Tb) (H:Hp):Prop:=∀ T∈Ts,zc4 T H
structure z0X (Ts:List Tb) (H H':Hp):Prop where
 at_:∀ b o,(∀ ps,o≠.tbl ps)→H b=some o→H' b=some o
 tabs:z3R Ts H→z3R Ts H'
theorem zc4.mono {T:Tb} {H H':Hp} (h:zc4 T H) (s:z0f H H'):zc4 T H':=by
 rcases h with e | ⟨c',oc,vs,t,e1,e2,e3⟩
 ·exact .inl (s _ _ e)
 ·exact .inr ⟨c',oc,vs,t,s _ _ e1,s _ _ e2,e3⟩
theorem z0f.l {Ts:List Tb} {H H':Hp} (s:z0f H H'):z0X Ts H H':=⟨fun b o _ e=>s b o e,fun h T hT=>(h T hT).mono s⟩
theorem z0X.refl {Ts:List Tb} (H:Hp):z0X Ts H H:=(z0f.refl H).l
theorem z0X.trans {Ts:List Tb} {H H1 H2:Hp} (a:z0X Ts H H1) (b:z0X Ts H1 H2):z0X Ts H H2:=⟨fun c o n e=>b.at_ c o n (a.at_ c o n e),fun h=>b.tabs (a.tabs h)⟩
class NT (o:HO):Prop where
 no:∀ ps,o≠.tbl ps
instance NT.lst {xs:List V}:NT (.lst xs):=⟨fun _ z=>by cases z⟩
instance NT.tup {xs:List V}:NT (.tup xs):=⟨fun _ z=>by cases z⟩
instance NT.dK {xs:List (Key × V)}:NT (.dK xs):=⟨fun _ z=>by cases z⟩
instance NT.ext {f:Heap→Prop}:NT (.ext f):=⟨fun _ z=>by cases z⟩
instance NT.frz {o:Obj} {u:HO}:NT (.frz o u):=⟨fun _ z=>by cases z⟩
theorem z0X.g {Ts:List Tb} {H H':Hp} (s:z0X Ts H H') {b:Addr} {o:HO} [n:NT o] (e:H b=some o):H' b=some o:=s.at_ b o n.no e
theorem z0X.seq {Ts:List Tb} {K:PySem.W.Frag} {H H':Hp} {a:Addr} {xs:List V} (s:z0X Ts H H') (h:SqL K H a xs):SqL K H' a xs:=by
 rcases h with (h | ⟨o,h⟩) | h
 ·exact .inl (.inl (s.g h))
 ·exact .inl (.inr ⟨o,s.g h⟩)
 ·exact .inr h
mutual
theorem Dr.monoL {Ts:List Tb} {K:PySem.W.Frag} {H H':Hp} (s:z0X Ts H H'):∀ {d:D} {v:V},Dr K H d v→Dr K H' d v
 | .non,_,h=>by simp only [Dr] at h ⊢;exact h
 | .bl _,_,h=>by simp only [Dr] at h ⊢;exact h
 | .int _,_,h=>by simp only [Dr] at h ⊢;exact h
 | .str _,_,h=>by simp only [Dr] at h ⊢;exact h
 | .tup ds,_,h=>by
  simp only [Dr] at h ⊢
  obtain ⟨a,vs,e,q,r⟩:=h
  exact ⟨a,vs,e,s.g q,DrL.monoL s r⟩
 | .lst ds,_,h=>by
  simp only [Dr] at h ⊢
  obtain ⟨a,vs,e,q,r⟩:=h
  exact ⟨a,vs,e,s.seq q,DrL.monoL s r⟩
theorem DrL.monoL {Ts:List Tb} {K:PySem.W.Frag} {H H':Hp} (s:z0X Ts H H'):∀ {ds:List D} {vs:List V},DrL K H ds vs→DrL K H' ds vs
 | [],_,h=>by simp only [DrL] at h ⊢;exact h
 | d::ds,_,h=>by
  simp only [DrL] at h ⊢
  obtain ⟨v,r,e,q,q'⟩:=h
  exact ⟨v,r,e,Dr.monoL s q,DrL.monoL s q'⟩
end
def zbQ (H:Hp) (cs:List Addr) (ob:Addr→Obj):Hp:=fun b=>if b∈cs then some (frO (ob b)) else H b
theorem z4P {H:Hp} {cs:List Addr} {ob:Addr→Obj} {b:Addr} (h:b∈cs):zbQ H cs ob b=some (frO (ob b)):=if_pos h
theorem z1i {H:Hp} {cs:List Addr} {ob:Addr→Obj} {b:Addr} (h:b∉cs):zbQ H cs ob b=H b:=if_neg h
section
variable {X:Cx} {pins:List (Addr × Obj)} {σ:St} {H:Hp} {s s':Shared} {cs:List Addr} {ob:Addr→Obj}
theorem Inv.cellFree (I:Inv X pins σ H s) {x:Str} {c:Addr} (hc:X.env.cells.lookup x=some c) (hge:X.s₀.heap.objs.size≤c):c∉frs X.stack∧X.base.get? c=none:=by
 refine ⟨fun z=>?_,Heap.get?_none_of_le (Nat.le_trans I.ok.bsz hge)⟩
 rcases List.mem_cons.mp (I.stkSub c z) with q | q
 ·exact I.cne x c hc q
 ·obtain ⟨_,o,ho,_⟩:=I.ok.funs.mem q
  exact absurd (Nat.lt_of_lt_of_le (Heap.lt_size ho) hge) (Nat.lt_irrefl _)
theorem Inv.env0T (I:Inv X pins σ H s) (h1:∀ c∈cs,s.heap.get? c=some (ob c)) (h2:∀ c∈cs,H c=none) (h3:∀ c∈cs,c∉frs X.stack∧X.base.get? c=none):zdx X.prog X.w X.K X.mg X.base X.A X.stack s (zbQ H cs ob):=by
 have E:=I.env0
 have out:∀ {b:Addr} {o:HO},H b=some o→b∉cs:=fun {b o} e z=>by rw [h2 b z] at e;cases e
 refine ⟨E.frames,E.mod,fun b o e=>⟨(E.bs b o e).1,?_⟩,E.bsz,E.funs,fun b hb=>?_,fun b u e=>?_,E.bare⟩
 ·have hb:b∉cs:=fun z=>by rw [(h3 b z).2] at e;cases e
  rw [z1i hb];exact (E.bs b o e).2
 ·have hb':b∉cs:=fun z=>(h3 b z).1 hb
  rw [z1i hb'];exact E.frf b hb
 ·by_cases hb:b∈cs
  ·rw [z4P hb] at e
   have:=Option.some.inj e
   subst this
   exact z7l (h1 b hb)
  ·rw [z1i hb] at e
   exact (I.hok b u e).stay (fun _ _ _ q=>q) (fun c q=>by rw [z1i (out q)];exact q) fun c xs q=>by rw [z1i (out q)];exact q
theorem unT {fr:List Addr} {H':Hp} {h h':Heap} {P:Program} {w:World} (h1:∀ c∈cs,h.get? c=some (ob c)) (h2:∀ c∈cs,H c=none) (h3:∀ c∈cs,c∉fr) (U:Un fr [] (zbQ H cs ob) H' h h') (hok:HOk P w H' h') :
  Un fr [] H (utk H' cs) h h'∧HOk P w (utk H' cs) h':=by
 have out:∀ {b:Addr} {o:HO},H b=some o→b∉cs:=fun {b o} e z=>by rw [h2 b z] at e;cases e
 have at':∀ c∈cs,H' c=some (frO (ob c)):=fun c hc=>U.frzs c _ _ (z4P hc)
 have got:∀ {b:Addr} {o:HO},(∀ x,o≠frO x)→H' b=some o→b∉cs:=fun {b o} ne e z=>by rw [at' b z] at e;exact ne _ (Option.some.inj e).symm
 refine ⟨⟨fun b o e n hb hx=>?_,fun b o e n hb hx=>?_,fun b o e n hx=>?_,fun b o e hx=>U.there b o e hx,fun b xs e=>?_,fun b o u e=>?_,fun b ps e=>?_⟩,fun b u e=>?_⟩
 ·by_cases hc:b∈cs
  ·have q:=z3W hok (at' b hc)
   have q':=h1 b hc
   rw [e] at q'
   rw [q,Option.some.inj q']
  ·exact U.keep b o e (by rw [z1i hc];exact n) hb hx
 ·have hc:b∉cs:=fun z=>h3 b z hb
  exact U.slot b o e (by rw [z1i hc];exact n) hb hx
 ·by_cases hc:b∈cs
  ·exact z5q hc
  ·rw [z1d hc];exact U.free b o e (by rw [z1i hc];exact n) hx
 ·rw [z1d (out e)];exact U.tups b xs (by rw [z1i (out e)];exact e)
 ·rw [z1d (out e)];exact U.frzs b o u (by rw [z1i (out e)];exact e)
 ·obtain ⟨more,q⟩:=U.tbls b ps (by rw [z1i (out e)];exact e)
  exact ⟨more,by rw [z1d (out e)];exact q⟩
 ·have hc:b∉cs:=fun z=>by rw [z5q z] at e;cases e
  rw [z1d hc] at e
  refine (hok b u e).stay (fun _ _ _ q=>q) (fun c q=>?_) fun c xs q=>?_
  ·rw [z1d (got (fun x z=>by cases z) q)];exact q
  ·rw [z1d (got (fun x z=>by cases z) q)];exact q
theorem Inv.afterT {Q:VK} {u:Value} (I:Inv X pins σ H s) (h1:∀ c∈cs,s.heap.get? c=some (ob c)) (h2:∀ c∈cs,H c=none) (h3:∀ c∈cs,c∉frs X.stack∧X.base.get? c=none)
  (h:CE X.stack X.prog X.w (zbQ H cs ob) s (fun v H'=>Q v (utk H' cs)) u s'):EP X pins σ Q u s':=by
 obtain ⟨v,H',os,bare,un,hok,r,q⟩:=h
 obtain ⟨un2,hok2⟩:=unT h1 h2 (fun c hc=>(h3 c hc).1) un hok
 exact I.after ⟨v,utk H' cs,os,bare,un2,hok2,r,q⟩
theorem zgX {P:Program} {w:World} {outer:List Env} {E:XK} {e:Value} (h1:∀ c∈cs,s.heap.get? c=some (ob c)) (h2:∀ c∈cs,H c=none) (h3:∀ c∈cs,c∉frs outer) (h:CXx P w outer (zbQ H cs ob) s (fun e C H'=>E e C (utk H' cs)) e s'):CXx P w outer H s E e s':=by
 obtain ⟨ea,C,H',e1,os,bare,un,hok,fly,q⟩:=h
 obtain ⟨un2,hok2⟩:=unT h1 h2 h3 un hok
 have no:∀ {b:Addr},H' b=none→utk H' cs b=none:=fun {b} z=>by
  by_cases hc:b∈cs
  ·exact z5q hc
  ·rw [z1d hc];exact z
 obtain ⟨f1,f2,a0,oe,vs,T,oT,ts,g1,g2,g3,g4,g5,g6,g7,g8⟩:=fly
 exact ⟨ea,C,utk H' cs,e1,os,bare,un2,hok2,⟨f1,no f2,a0,oe,vs,T,oT,ts,g1,g2,g3,g4,g5,g6,no g7,g8⟩,q⟩
end
end L2
namespace L2
open PySem PySem.Spec PyProof.Rows
def z41 (base:Heap) (mg:Str→Option Value):Prop:=∃ bm o,mg "__builtins__"=some (.ref bm)∧bm≠builtinsNs∧bm≠mainGlobals∧base.get? bm=some o∧o.cls=.type "module"∧o.dict=some builtinsNs∧o.data=.plain
def zbc (Ts:List Tb) (H H':Hp) (fa:Addr) (clos:List (Str × Addr)) (params:Arguments) (body:Expr) (scope:Scope) (qual:Str):Prop :=
 (∀ b o,(∀ ps,o≠.tbl ps)→H b=some o→H' b=some o)∧z3R Ts H'∧∃ (pm:Value) (c':Addr) (ctv:Value) (oc:Obj) (vs:Array Value) (t:Tok),H' fa=some (frO (PySem.W.kla_obj "<lambda>" qual params body scope clos pm c' ctv))∧H' c'=some (frO oc)∧oc.data=.fields vs∧vs[1]?=some (.str qual t)
def zgy (Ts:List Tb) (clos:List (Str × Addr)) (params:Arguments) (body:Expr) (scope:Scope) (qual:Str):TE:=fun _ H Q=>z3R Ts H∧∀ (fa:Addr) (H':Hp),zbc Ts H H' fa clos params body scope qual→Q (.ref fa) H'
section
variable {X:Cx} {N:List Str} {ix:List (Option Nat)} {params:Arguments} {body:Expr} {lsc:Scope} {lpos:Pos} {c:Addr} {T:Tb} {Ts:List Tb}
theorem zfa (S:z0Z X.N X.env.scope N ix lsc) (hcode:X.env.code=.ref c) (hC:PySem.W.CodeHd X.base c T.at_) (hB:z41 X.base X.mg) (hT:T∈Ts) (hTn:∀ T'∈Ts,T'.at_=T.at_→T'=T) (hTp:T.pos=lpos) (hTq:T.qual=X.env.qual++"<lambda>")
  (hdef:defaultsOf params X.env=([],[])):PE X (.Lambda params body lsc lpos) (zgy Ts (z0M X.env.cells lsc.names []) params body lsc T.qual):=by
 intro pins s σ H Q I h
 obtain ⟨ht,h⟩:=h
 subst hTp
 refine PySem.W.kla_eval hdef ?_
 rw [←hTq]
 have hcl:=z29 (scope:=lsc) (env:=X.env) (z0U I S)
 have hns:s.heap.Ns mainGlobals X.mg:=I.mod.glob.keeps I.bk
 have C:PySem.W.CodeHd s.heap c T.at_:=hC.keeps I.bk
 obtain ⟨bm,ob,b1,b2,b3,b4,b5,b6,b7⟩:=hB
 have tP:∀ {ps:Array Value},H T.at_=some (.tbl ps)→s.heap.get? T.at_=some (PySem.W.tabObj ps):=fun e=>I.hok _ _ e
 have neP:∀ {ps:Array Value} {b:Addr},H T.at_=some (.tbl ps)→H b=none→b≠T.at_:=fun e n z=>by rw [z,e] at n;cases n
 rcases ht T hT with e | ⟨c',oc,vs,t,e,ec,d1,d2⟩
 ·have hbP:bm≠T.at_:=neP e (I.bs _ _ b4).2
  have hgP:mainGlobals≠T.at_:=fun z=>by
   obtain ⟨o,es,ep,q,qd,_⟩:=hns
   rw [z,tP e] at q
   cases q
   cases qd
  refine PySem.W.kla_makeFunction (mg:=X.mg) hcl I.ok.glob hns hcode C (tP e) trivial rfl hgP ⟨bm,ob,b1,b2,b3,hbP,I.bk _ _ b4,b5,b6,b7⟩ fun c' ctv h' tk hx hge hlt hrec htb=>?_
  obtain ⟨c2,oc,vs,t,ee,hoc,d1,d2⟩:=hrec
  cases ee
  have hPlt:T.at_ < s.heap.objs.size:=Heap.lt_size (tP e)
  have nPc:T.at_≠c':=Nat.ne_of_lt (Nat.lt_of_lt_of_le hPlt hge)
  have nPf:T.at_≠h'.objs.size:=Nat.ne_of_lt (Nat.lt_trans (Nat.lt_of_lt_of_le hPlt hge) hlt)
  have ncf:c'≠h'.objs.size:=Nat.ne_of_lt hlt
  have Hc:H c'=none:=I.hok.fresh hge
  have Hf:H h'.objs.size=none:=I.hok.fresh (Nat.le_trans hge (Nat.le_of_lt hlt))
  generalize hfo:PySem.W.kla_obj "<lambda>" T.qual params body lsc (z0M X.env.cells lsc.names []) ((X.mg "__name__").getD .none) c' ctv=fo
  have hfg:(h'.push fo).get? h'.objs.size=some fo:=Heap.get?_push_size _ (by rw [←hfo];rfl)
  let H':Hp:=upd (upd (upd H T.at_ (.tbl #[rawInt T.pos.line,rawInt T.pos.col,.ref c'])) c' (frO oc)) h'.objs.size (frO fo)
  have gP:H' T.at_=some (.tbl #[rawInt T.pos.line,rawInt T.pos.col,.ref c']):=by show upd _ _ _ _=_;rw [z07 nPf,z07 nPc,z01]
  have gc:H' c'=some (frO oc):=by show upd _ _ _ _=_;rw [z07 ncf,z01]
  have gf:H' h'.objs.size=some (frO fo):=z01
  have go:∀ {b:Addr},b≠T.at_→b≠c'→b≠h'.objs.size→H' b=H b:=fun {b} n1 n2 n3=>by show upd _ _ _ _=_;rw [z07 n3,z07 n2,z07 n1]
  have gt:∀ {b:Addr} {o:HO},b≠T.at_→H b=some o→H' b=some o:=fun {b o} n1 q=>by rw [go n1 (z0c q Hc) (z0c q Hf)];exact q
  have hk:∀ b o,b≠T.at_→s.heap.get? b=some o→(h'.push fo).get? b=some o:=fun b o n q=>Heap.get?_push_of_some _ (hx b o n q)
  have I':Inv X pins σ H' { s with heap:=h'.push fo,toks:=tk }:=by
   refine I.un ⟨fun b o q n _ _=>hk b o (neP e n) q,fun b o q n _ _=>⟨o.slots,hk b o (neP e n) q⟩,fun b o q n _=>?_,fun b o q _=>?_,fun b xs q=>?_,fun b o u q=>?_,fun b ps q=>?_⟩ (fun b u q=>?_)
   ·have hb:=Heap.lt_size q
    rw [go (neP e n) (Nat.ne_of_lt (Nat.lt_of_lt_of_le hb hge)) (Nat.ne_of_lt (Nat.lt_trans (Nat.lt_of_lt_of_le hb hge) hlt))];exact n
   ·by_cases hb:b=T.at_
    ·exact ⟨_,by rw [hb];exact Heap.get?_push_of_some _ htb⟩
    ·exact ⟨_,hk b o hb q⟩
   ·exact gt (fun z=>by rw [z,e] at q;cases q) q
   ·exact gt (fun z=>by rw [z,e] at q;cases q) q
   ·by_cases hb:b=T.at_
    ·subst hb
     rw [e] at q
     cases q
     exact ⟨#[rawInt T.pos.line,rawInt T.pos.col,.ref c'],by rw [gP];simp⟩
    ·exact ⟨#[],by rw [gt hb q];simp⟩
   ·by_cases hf:b=h'.objs.size
    ·subst hf
     rw [gf] at q
     cases q
     exact z7l hfg
    ·by_cases hc:b=c'
     ·subst hc
      rw [gc] at q
      cases q
      exact z7l (Heap.get?_push_of_some _ hoc)
     ·by_cases hb:b=T.at_
      ·subst hb
       rw [gP] at q
       cases q
       show (h'.push fo).get? T.at_=some (PySem.W.tabObj _)
       have:=Heap.get?_push_of_some fo htb
       simpa using this
      ·rw [go hb hc hf] at q
       refine (I.hok b u q).stay (fun d o hd q'=>hk d o ?_ q') (fun d q'=>gt (fun z=>by rw [z,e] at q';cases q') q') fun d xs q'=>gt (fun z=>by rw [z,e] at q';cases q') q'
       rcases hd with z | z
       ·rw [z];exact hb
       ·exact fun z'=>by rw [z',e] at z;cases z
  refine ⟨.ref h'.objs.size,H',I',rfl,h _ _ ⟨fun b o no q=>gt (fun z=>by rw [z,e] at q;exact no _ (Option.some.inj q).symm) q,fun T' hT'=>?_,_,c',ctv,oc,vs,t,by rw [hfo];exact gf,gc,d1,d2⟩⟩
  by_cases hb:T'.at_=T.at_
  ·have:=hTn T' hT' hb
   subst this
   exact .inr ⟨c',oc,vs,t,gP,gc,d1,d2⟩
  ·rcases ht T' hT' with q | ⟨c3,oc3,vs3,t3,q1,q2,q3⟩
   ·exact .inl (gt hb q)
   ·exact .inr ⟨c3,oc3,vs3,t3,gt hb q1,gt (fun z=>by rw [z,e] at q2;cases q2) q2,q3⟩
 ·have hbP:bm≠T.at_:=neP e (I.bs _ _ b4).2
  refine PySem.W.kla_makeFunctionHit (mg:=X.mg) (cv:=.ref c') hcl I.ok.glob hns hcode C (tP e) (by simp [TriplesOk,rawInt]) (by simp [codeAmong,rawInt]) ⟨bm,ob,b1,b2,b3,hbP,I.bk _ _ b4,b5,b6,b7⟩ fun ctv h' tk hk hsz=>?_
  have Hf:H h'.objs.size=none:=I.hok.fresh hsz
  have gt:∀ {b:Addr} {o:HO} {u:HO},H b=some o→upd H h'.objs.size u b=some o:=fun q=>by rw [z07 (z0c q Hf)];exact q
  refine ⟨.ref h'.objs.size,_,I.laid (a:=h'.objs.size) (o:=frO (PySem.W.kla_obj "<lambda>" T.qual params body lsc (z0M X.env.cells lsc.names []) ((X.mg "__name__").getD .none) c' ctv)) (t':=tk) (fun b o q=>Heap.get?_push_of_some _ (hk b o q)) hsz (z7l (Heap.get?_push_size _ rfl)),rfl,h _ _ ⟨fun b o _ q=>gt q,fun T' hT'=>?_,_,c',ctv,oc,vs,t,z01,gt ec,d1,d2⟩⟩
  rcases ht T' hT' with q | ⟨c3,oc3,vs3,t3,q1,q2,q3⟩
  ·exact .inl (gt q)
  ·exact .inr ⟨c3,oc3,vs3,t3,gt q1,gt q2,q3⟩
def zeM (Ts:List Tb) (params:Arguments) (body:Expr) (lsc:Scope) (qual:Str) (N:List Str) (ix:List (Option Nat)) (sp:Sp) (E:XK) (t0:TE):TE:=fun σ H Q=>t0 σ H fun v0 H1=>z3R Ts H1∧∀ (fa:Addr) (H2:Hp) (cs:List Addr),(∀ b o,(∀ ps,o≠.tbl ps)→H1 b=some o→H2 b=some o) →
 (∀ H3,z0f H2 H3→z0X Ts H1 (utk H3 cs))→(∀ c∈cs,∃ ob,H2 c=some (frO ob))→z7S H2 fa params body lsc qual N (z1l ix σ)→sp [v0,.ref fa] H2 (fun v H3=>Q v (utk H3 cs)) (fun e C H3=>E e C (utk H3 cs))
variable {k:Nat} {g:Addr} {gd:FuncData} {ps:List Str} {sp:Sp} {E:XK} {x:Str} {p pos:Pos} {e0:Expr} {t0:TE}
theorem z47 (G:z0v X.prog X.w X.K X.mg X.base (CXx X.prog X.w) k g gd ps sp) (hr:z3Q k X.A) (hg:Gl X x) (hm:X.mg x=some (.ref g)) (hk:PySem.W.keepIn X.K (.ref g)=true) (hb:z0o X.K gd ps []) (hx:z4G (CXx X.prog X.w) X E)
  (h0:PE X e0 t0) (m0:∀ σ H (Q Q':VK),(∀ v H1,Q v H1→Q' v H1)→t0 σ H Q→t0 σ H Q') (S:z0Z X.N X.env.scope N ix lsc) (hcode:X.env.code=.ref c) (hC:PySem.W.CodeHd X.base c T.at_) (hB:z41 X.base X.mg) (hfn:∀ y,X.fn y=true) (hT:T∈Ts) (hTn:∀ T'∈Ts,T'.at_=T.at_→T'=T) (hTp:T.pos=lpos) (hTq:T.qual=X.env.qual++"<lambda>")
  (hdef:defaultsOf params X.env=([],[]):=by rfl) (hdb:(x == ("__debug__":Str))=false:=by decide)
  (he:starEach [e0,.Lambda params body lsc lpos] X.env=(false,eval e0 X.env)::starEach [.Lambda params body lsc lpos] X.env:=by rfl) (he2:starEach [.Lambda params body lsc lpos] X.env=(false,eval (.Lambda params body lsc lpos) X.env)::starEach [] X.env:=by rfl) (hpl:(backTo pos (starEach [.Lambda params body lsc lpos] X.env)).any (·.1)=false:=by rfl) :
  PE X (.Call (.Name x p) [e0,.Lambda params body lsc lpos] [] pos) (zeM Ts params body lsc T.qual N ix sp E t0):=by
 intro pins s σ H Q I h
 refine wpAny_Call_Name_kw (z4v I hg hm ?_ hdb)
 have hPA:PA X [e0,.Lambda params body lsc lpos] (zdi t0 (zdi (zgy Ts (z0M X.env.cells lsc.names []) params body lsc T.qual) zgr)):=z00 h0 (z00 (zfa S hcode hC hB hT hTn hTp hTq hdef) z03 he2) he
 refine PySem.W.callWith_K (h₀:=X.base) I.ok.mod.kin hk (thn (hPA pos pins s σ H (fun us H2=>∃ (v0:V) (fa:Addr) (H1:Hp),us=[v0,.ref fa]∧(z3R Ts H1∧∀ (fa:Addr) (H2:Hp) (cs:List Addr),(∀ b o,(∀ ps,o≠.tbl ps)→H1 b=some o→H2 b=some o) →
 (∀ H3,z0f H2 H3→z0X Ts H1 (utk H3 cs))→(∀ c∈cs,∃ ob,H2 c=some (frO ob))→z7S H2 fa params body lsc T.qual N (z1l ix σ)→sp [v0,.ref fa] H2 (fun v H3=>Q v (utk H3 cs)) (fun e C H3=>E e C (utk H3 cs)))∧zbc Ts H1 H2 fa (z0M X.env.cells lsc.names []) params body lsc T.qual) I ?_) fun us s2 ⟨vs,H2,I2,r,q⟩=>⟨I2.kIn,?_⟩) he hpl
 ·exact m0 σ H _ _ (fun v0 H1 ⟨ht,hq⟩=>⟨ht,fun fa H' made=>⟨v0,fa,H1,rfl,⟨ht,hq⟩,made⟩⟩) h
 ·obtain ⟨v0,fa,H1,rfl,⟨ht,hq⟩,mfr,mtb,pm,c',ctv,oc,vsc,t,m1,m2,m3,m4⟩:=q
  let clos:=z0M X.env.cells lsc.names []
  let cs:List Addr:=(lsc.names.map (·.1)).filterMap (fun y=>List.lookup y clos)
  let ob:Addr→Obj:=fun c=>(s2.heap.get? c).getD { cls:=.none,data:=.plain }
  have lk:∀ {y:Str} {c:Addr},clos.lookup y=some c→X.env.cells.lookup y=some c:=fun e=>z1U I2 S e
  have mem:∀ {c:Addr},c∈cs→∃ y,clos.lookup y=some c:=fun {c} hc=>by
   obtain ⟨y,_,e⟩:=List.mem_filterMap.mp hc
   exact ⟨y,e⟩
  have inn:∀ y c,clos.lookup y=some c→c∈cs:=fun y c e=>by
   refine List.mem_filterMap.mpr ⟨y,?_,e⟩
   by_cases hm':(y,NameKind.free)∈lsc.names
   ·exact List.mem_map.mpr ⟨_,hm',rfl⟩
   ·have:=z3y (cells:=X.env.cells) lsc.names [] y hm'
    rw [show (z0M X.env.cells lsc.names []).lookup y=some c from e] at this
    cases this
  have h1:∀ c∈cs,s2.heap.get? c=some (ob c):=fun c hc=>by
   obtain ⟨y,e⟩:=mem hc
   obtain ⟨v,o,ho,_⟩:=I2.cell y c (lk e)
   show _=some ((s2.heap.get? c).getD _)
   rw [ho];rfl
  have h2:∀ c∈cs,H2 c=none:=fun c hc=>by
   obtain ⟨y,e⟩:=mem hc
   exact I2.freeC y c (lk e)
  have h3:∀ c∈cs,c∉frs X.stack∧X.base.get? c=none:=fun c hc=>by
   obtain ⟨y,e⟩:=mem hc
   exact I2.cellFree (lk e) (I2.ok.cab y c (hfn y) (lk e))
  have out:∀ {b:Addr} {o:HO},H2 b=some o→b∉cs:=fun {b o} e z=>by rw [h2 b z] at e;cases e
  have tr:∀ {b:Addr} {o:HO},H2 b=some o→zbQ H2 cs ob b=some o:=fun e=>by rw [z1i (out e)];exact e
  have spq:=hq fa (zbQ H2 cs ob) cs (fun b o no e=>tr (mfr b o no e)) (fun H3 s3=>?_) (fun c hc=>⟨ob c,z4P hc⟩) ?_
  ·refine wpAny_call (codeAny_mono (G.run X.A X.stack s2 (zbQ H2 cs ob) ⟨us,[]⟩ us [v0,.ref fa] _ _ hr (I2.env0T h1 h2 h3) (by have:=hb s2 us I2.kIn (by rw [List.append_nil,←r.length];exact G.len _ _ _ _ spq);rw [List.append_nil] at this;exact this) r spq) fun r s' hq=>?_)
   cases r with
   | error e=>exact hx pins σ H2 s2 e s' I2 (zgX h1 h2 (fun c hc=>(h3 c hc).1) hq)
   | ok fl =>
    cases fl with
    | ret u=>exact I2.afterT h1 h2 h3 hq
    | next=>exact False.elim hq
    | brk=>exact False.elim hq
    | cont=>exact False.elim hq
  ·have out3:∀ {b:Addr} {o:HO},H2 b=some o→utk H3 cs b=some o:=fun e=>by rw [z1d (out e)];exact s3 _ _ (tr e)
   refine ⟨fun b o no e=>out3 (mfr b o no e),fun _ T' hT'=>?_⟩
   rcases mtb T' hT' with q | ⟨c3,oc3,vs3,t3,q1,q2,q3⟩
   ·exact .inl (out3 q)
   ·exact .inr ⟨c3,oc3,vs3,t3,out3 q1,out3 q2,q3⟩
  ·refine ⟨clos,cs,pm,c',ctv,oc,vsc,t,tr m1,tr m2,m3,m4,fun y z c e1 e2=>I2.ok.inj y z c (lk e1) (lk e2),inn,fun c hc=>⟨mem hc,?_⟩,fun y hy=>?_,fun i y v e1 e2=>?_⟩
   ·obtain ⟨y,e⟩:=mem hc
    obtain ⟨v,o,ho,hd⟩:=I2.cell y c (lk e)
    refine ⟨ob c,v,z4P hc,?_⟩
    have:=h1 c hc
    rw [ho] at this
    rw [←Option.some.inj this];exact hd
   ·have hm':(y,NameKind.free)∈lsc.names:=PySem.mem_of_lookup hy
    obtain ⟨c,e⟩:=z0U I2 S y hm'
    exact ⟨c,(z1T lsc.names [] y (z0U I2 S) (.inl hm')).trans e⟩
   ·obtain ⟨j,f1,f2,f3⟩:=S.at_ e1 e2
    have hm':(y,NameKind.free)∈lsc.names:=PySem.mem_of_lookup f2
    obtain ⟨m,hn,hl⟩:=I2.loc
    have hvis:=S.frees _ hm' rfl
    obtain ⟨u,ru,look⟩:=hl j y v f1 f3 (.inr hvis)
    rcases look with ⟨hk',_⟩ | ⟨_,c,ec,cell⟩
    ·have hk'':X.env.scope.names.lookup y=some .local:=hk'
     rcases hvis with z | z
     ·rw [z] at hk'';cases hk''
     ·rw [z] at hk'';cases hk''
    ·have hcl:clos.lookup y=some c:=(z1T lsc.names [] y (z0U I2 S) (.inl hm')).trans ec
     have hc:=inn y c hcl
     obtain ⟨o,ho,hd⟩:=cell
     refine ⟨c,ob c,u,hcl,z4P hc,?_,ru⟩
     have:=h1 c hc
     rw [ho] at this
     rw [←Option.some.inj this];exact hd
end
end L2
namespace L2
open PySem PySem.Spec PyProof.Rows
def NFr (H H':Hp):Prop:=∀ b o,(∀ ob,o≠frO ob)→H b=some o→H' b=some o
theorem NFr.seq {K:PySem.W.Frag} {H H':Hp} {a:Addr} {xs:List V} (s:NFr H H') (h:SqL K H a xs):SqL K H' a xs:=by
 rcases h with (h | ⟨o,h⟩) | h
 ·exact .inl (.inl (s _ _ (fun _ z=>by cases z) h))
 ·exact .inl (.inr ⟨o,s _ _ (fun _ z=>by cases z) h⟩)
 ·exact .inr h
mutual
theorem Dr.nfr {K:PySem.W.Frag} {H H':Hp} (s:NFr H H'):∀ {d:D} {v:V},Dr K H d v→Dr K H' d v
 | .non,_,h=>by simp only [Dr] at h ⊢;exact h
 | .bl _,_,h=>by simp only [Dr] at h ⊢;exact h
 | .int _,_,h=>by simp only [Dr] at h ⊢;exact h
 | .str _,_,h=>by simp only [Dr] at h ⊢;exact h
 | .tup ds,_,h=>by
  simp only [Dr] at h ⊢
  obtain ⟨a,vs,e,q,r⟩:=h
  exact ⟨a,vs,e,s _ _ (fun _ z=>by cases z) q,DrL.nfr s r⟩
 | .lst ds,_,h=>by
  simp only [Dr] at h ⊢
  obtain ⟨a,vs,e,q,r⟩:=h
  exact ⟨a,vs,e,s.seq q,DrL.nfr s r⟩
theorem DrL.nfr {K:PySem.W.Frag} {H H':Hp} (s:NFr H H'):∀ {ds:List D} {vs:List V},DrL K H ds vs→DrL K H' ds vs
 | [],_,h=>by simp only [DrL] at h ⊢;exact h
 | d::ds,_,h=>by
  simp only [DrL] at h ⊢
  obtain ⟨v,r,e,q,q'⟩:=h
  exact ⟨v,r,e,Dr.nfr s q,DrL.nfr s q'⟩
end
theorem NFr.utk {H H3:Hp} {cs:List Addr} (hc:∀ c∈cs,∃ ob,H c=some (frO ob)) (s:z0f H H3):NFr H3 (L2.utk H3 cs):=fun b o n e=>z7x (fun c h=>let ⟨ob,q⟩:=hc c h;⟨ob,s _ _ q⟩) e n
theorem Fun.okL {CX:CXT} {P:Program} {w:World} {K:PySem.W.Frag} {mg:Str→Option Value} {base:Heap} {x qual:Str} {st:Stmt} {f c:Addr} {fd:FuncData} {N ps:List Str} {k:Nat} {sp:Sp} (F:Fun K x qual st f fd) (hc:fd.code=.ref c) (S:z0p N ps (z05 st)) (len:∀ vs H Q E,sp vs H Q E→vs.length=ps.length)
  (hbody:∀ (A:Around) (outer:List Env) (s:Shared) (H:Hp) (vs:List V) (Q:VK) (E:XK),z3Q k (A.deeper (envOfC qual (z05 st) s.heap.objs.size f (.ref c)))→sp vs H Q E →
   ∃ t,PSs (z6E CX P w K mg base N qual (z05 st) f (.ref c) A outer s H E) (z0F st) t∧t { nx:=fun _ H'=>Q .non H',rt:=Q } (z5e N vs) H):z0v P w K mg base CX (k+1) f fd ps sp:=by
 obtain ⟨oc,od,kV,doc,pm,an,cdv,ct,osl,rfl,lk,hcd⟩:=F.ex
 have:cdv=.ref c:=hc
 subst this
 exact ze7 lk hcd S len fun A outer s H vs Q E hr hsp=>hbody A outer s H vs Q E hr hsp
theorem zb0 {P:Program} {w:World} {K:PySem.W.Frag} {mg mb:Str→Option Value} {CX:CXT} {k:Nat} {fa a:Addr} {fd:FuncData} {x:Str} {sp:Sp} {s₁:Shared} {vs:List Value} {ns:List Int} {Ts:List Tb}
  (KX:K.In s₁.heap) (hns:s₁.heap.Ns mainGlobals mg) (hb:s₁.heap.Ns builtinsNs mb) (hbb:∀ x:Str,x≠"__name__"→mb x=bootBuiltins x) (hlim:s₁.heap.NoLimit) (hg:s₁.gens=#[])
  (ha:s₁.heap.get? a=some { cls:=.type "list",data:=.seq vs.toArray }) (hi:IntsAre vs ns) (hl:ns.length≤sizeLine) (hr:z3Q k callerA)
  (hT:∀ T∈Ts,s₁.heap.get? T.at_=some (PySem.W.tabObj #[])∧K.lookup T.at_=none∧∃ c,PySem.W.CodeHd s₁.heap c T.at_) (hbm:z41 s₁.heap mg)
  (F:∀ base:Heap,K.In base→base.Ns mainGlobals mg→z41 base mg→z0v P w K mg base CX k fa fd [x] sp) (hbind:∀ (s:Shared) (u:Value),BindsTo s fd ⟨[u],[]⟩ [(x,u)])
  (hsp:∀ H:Hp,z3R Ts H→SqL K H a (ns.map V.int)→sp [.ref a] H (fun v _=>v=.bl true) fun _ _ _=>False)
  (hCX:∀ H e s',CX [] H s₁ (fun _ _ _=>False) e s'→False) :
  codeAny (model P w) callerA (.call (.ref fa) ⟨[.ref a],[]⟩) (fun r s'=>r=.ok (.ret (.bool true))∧OldK s₁.heap s'.heap∧s'.os=s₁.os∧AllBare s'.gens) s₁:=by
 have rv:=z7g hi
 have lenV:=hi.length
 have isT:∀ b,(∃ T∈Ts,T.at_=b)→s₁.heap.get? b=some (PySem.W.tabObj #[])∧K.lookup b=none∧∃ c,PySem.W.CodeHd s₁.heap c b:=fun b ⟨T,hT1,e⟩=>e ▸ hT T hT1
 have core:∀ H:Hp,z3R Ts H→SqL K H a (ns.map V.int)→HOk P w H s₁.heap→(∀ b,H b≠none→(b=a∧K.lookup a=none∧∃ o xs,H b=some (.frz o (.lst xs)))∨((∃ T∈Ts,T.at_=b)∧H b=some (.tbl #[]))) →
   codeAny (model P w) callerA (.call (.ref fa) ⟨[.ref a],[]⟩) (fun r s'=>r=.ok (.ret (.bool true))∧OldK s₁.heap s'.heap∧s'.os=s₁.os∧AllBare s'.gens) s₁:=by
  intro H hO hS hok hA
  have base_of:∀ {b:Addr} {o:Obj},s₁.heap.get? b=some o→H b=none→(zbq s₁.heap H).get? b=some o:=fun e n=>zc0 e n
  have noA:∀ {b:Addr} {o:Obj},s₁.heap.get? b=some o→(∀ xs,o.data≠.seq xs)→(∀ xs,o.data≠.fields xs)→H b=none:=fun {b o} e d1 d2=>by
   cases q:H b with
   | none=>rfl
   | some u =>
    rcases hA b (by rw [q];simp) with ⟨e',_⟩ | ⟨e',_⟩
    ·subst e'
     rw [ha] at e;cases e
     exact absurd rfl (d1 _)
    ·rw [(isT b e').1] at e;cases e
     exact absurd rfl (d2 _)
  have nsK:∀ {b:Addr} {m:Str→Option Value},s₁.heap.Ns b m→(zbq s₁.heap H).Ns b m:=fun {b m} ⟨o,es,ep,e,d,r⟩=>⟨o,es,ep,base_of e (noA e (fun xs z=>by rw [z] at d;cases d) (fun xs z=>by rw [z] at d;cases d)),d,r⟩
  have hKb:K.In (zbq s₁.heap H):=fun b o e=>base_of (KX b o e) (by
   cases q:H b with
   | none=>rfl
   | some u =>
    rcases hA b (by rw [q];simp) with ⟨e',hk,_⟩ | ⟨e',_⟩
    ·subst e'
     rw [hk] at e;cases e
    ·rw [(isT b e').2.1] at e;cases e)
  have hM:Mod K mg (zbq s₁.heap H):=⟨hKb,nsK hns,⟨mb,nsK hb,hbb⟩,let ⟨mc,h1,h2⟩:=hlim;⟨mc,nsK h1,h2⟩⟩
  have hBM:z41 (zbq s₁.heap H) mg:=by
   obtain ⟨bm,o,b1,b2,b3,b4,b5,b6,b7⟩:=hbm
   exact ⟨bm,o,b1,b2,b3,base_of b4 (noA b4 (fun xs z=>by rw [z] at b7;cases b7) (fun xs z=>by rw [z] at b7;cases b7)),b5,b6,b7⟩
  have e0:zdx P w K mg (zbq s₁.heap H) callerA [] s₁ H:=⟨rfl,hM,fun b o e=>ze6 e,Nat.le_of_eq (zat _ _),trivial,fun b hb=>absurd (show b∈([]:List Addr) from hb) (by simp),hok,.of_eq hg⟩
  refine codeAny_mono ((F _ hKb (nsK hns) hBM).run callerA [] s₁ H ⟨[.ref a],[]⟩ [.ref a] [.ref a] _ _ hr e0 (hbind s₁ (.ref a)) (.cons rfl .nil) (hsp H hO hS)) fun r s' h=>?_
  cases r with
  | error e=>exact (hCX H e s' h).elim
  | ok fl =>
   cases fl with
   | next=>exact False.elim h
   | brk=>exact False.elim h
   | cont=>exact False.elim h
   | ret u =>
    obtain ⟨v,H',os,bare,un,hok',r',q⟩:=h
    have q':v=.bl true:=q
    subst q'
    obtain rfl:u=Value.bool true:=r'
    have key:∀ b o,s₁.heap.get? b=some o→s'.heap.get? b=some o∨((∃ T∈Ts,T.at_=b)∧∃ more,s'.heap.get? b=some (PySem.W.tabObj (#[]++more))):=fun b o e=>by
     cases q:H b with
     | none=>exact .inl (un.keep b o e q (by intro z;exact absurd (show b∈([]:List Addr) from z) (by simp)) (by simp))
     | some u =>
      rcases hA b (by rw [q];simp) with ⟨_,_,ob,xs,z⟩ | ⟨e',z⟩
      ·have z2:=un.frzs b ob _ z
       obtain ⟨e1,_⟩:=hok b _ z
       obtain ⟨e2,_⟩:=hok' b _ z2
       rw [e] at e1;cases e1
       exact .inl e2
      ·obtain ⟨more,z2⟩:=un.tbls b #[] z
       exact .inr ⟨e',more,hok' b _ z2⟩
    refine ⟨rfl,⟨fun b o e=>?_,fun b o e=>?_⟩,os,bare⟩
    ·rcases key b o e with z | ⟨e',more,z⟩
     ·exact .inl z
     ·obtain ⟨h1,_,c,hc⟩:=isT b e'
      rw [e] at h1
      cases h1
      refine .inr (.inl ⟨?_,rfl,#[],more,rfl,z⟩)
      obtain ⟨o,vs,_,_,_,_,_,_,_,g1,g2,g3,g4,_⟩:=hc
      exact ⟨c,o,vs,g1,g2,g3,g4⟩
    ·rcases key b o e with z | ⟨e',more,z⟩
     ·exact ⟨_,z⟩
     ·exact ⟨_,z⟩
 have naT:∀ T∈Ts,T.at_≠a:=fun T h z=>by
  have:=(hT T h).1
  rw [z,ha] at this
  cases this
 open Classical in
 cases hk:K.lookup a with
 | some o =>
  have e:=KX a o hk
  rw [ha] at e
  cases e
  refine core (fun b=>if (∃ T∈Ts,T.at_=b) then some (.tbl #[]) else none) (fun T h=>.inl (if_pos ⟨T,h,rfl⟩)) (.inr ⟨_,vs.toArray,_,hk,rfl,rfl,rfl,by rw [List.size_toArray,lenV];exact hl,by simpa using rv⟩) (fun b u z=>?_) fun b z=>?_
  ·by_cases hb:∃ T∈Ts,T.at_=b
   ·have z':=(if_pos hb).symm.trans z
    cases z'
    exact (isT b hb).1
   ·have z':=(if_neg hb).symm.trans z
    cases z'
  ·by_cases hb:∃ T∈Ts,T.at_=b
   ·exact .inr ⟨hb,if_pos hb⟩
   ·exact absurd (if_neg hb) z
 | none =>
  have cA:∀ b,b=a→(if b=a then some (HO.frz { cls:=.type "list",data:=.seq vs.toArray } (.lst (ns.map V.int))) else if (∃ T∈Ts,T.at_=b) then some (.tbl #[]) else none)=some (HO.frz { cls:=.type "list",data:=.seq vs.toArray } (.lst (ns.map V.int))):=fun b e=>if_pos e
  have cT:∀ b,b≠a→(∃ T∈Ts,T.at_=b)→(if b=a then some (HO.frz { cls:=.type "list",data:=.seq vs.toArray } (.lst (ns.map V.int))) else if (∃ T∈Ts,T.at_=b) then some (.tbl #[]) else none)=some (.tbl #[]):=fun b e h=>by rw [if_neg e,if_pos h]
  have cN:∀ b,b≠a→¬ (∃ T∈Ts,T.at_=b)→(if b=a then some (HO.frz { cls:=.type "list",data:=.seq vs.toArray } (.lst (ns.map V.int))) else if (∃ T∈Ts,T.at_=b) then some (.tbl #[]) else none)=none:=fun b e h=>by rw [if_neg e,if_neg h]
  refine core (fun b=>if b=a then some (.frz { cls:=.type "list",data:=.seq vs.toArray } (.lst (ns.map V.int))) else if (∃ T∈Ts,T.at_=b) then some (.tbl #[]) else none) (fun T h=>.inl (cT _ (naT T h) ⟨T,h,rfl⟩)) (.inl (.inr ⟨{ cls:=.type "list",data:=.seq vs.toArray },if_pos rfl⟩)) (fun b u z=>?_) (fun b z=>?_)
  ·by_cases hb:b=a
   ·have z':=(cA b hb).symm.trans z
    cases z'
    subst hb
    exact ⟨ha,by rw [zLm];exact hl,vs,_,rv,ha⟩
   ·by_cases hb2:∃ T∈Ts,T.at_=b
    ·have z':=(cT b hb hb2).symm.trans z
     cases z'
     exact (isT b hb2).1
    ·have z':=(cN b hb hb2).symm.trans z
     cases z'
  ·by_cases hb:b=a
   ·exact .inl ⟨hb,hk,_,_,cA b hb⟩
   ·by_cases hb2:∃ T∈Ts,T.at_=b
    ·exact .inr ⟨hb2,cT b hb hb2⟩
    ·exact absurd (cN b hb hb2) z
theorem walk_of2 {l:PySem.W.OpenLaw} {n k:Nat} {q:Program} {loose:List Str} {XP:(Str→Option Value)→Heap→Prop} {YP:World→Heap→Prop} {d:DefRec} {K:Params→PySem.W.Frag} {CX:World→CXT} {sp:World→Sp} {x:Str} {Ts:List Tb}
  (hn:l.most=some n) (hn2:n≤sizeLine) (hdf:d.params.defaults=[]) (hr:z3Q k callerA)
  (hY:∀ (w:World) (h:Heap),YP w h→(K w.params).In h∧∀ P∈Ts.map (·.at_),h.get? P=some (PySem.W.tabObj #[]))
  (F:∀ (w:World) (mg:Str→Option Value) (fa:Addr) (h:Heap),(K w.params).In h→h.Ns mainGlobals mg→mg d.name=some (.ref fa) →
   ∃ fd:FuncData,(∀ (s:Shared) (u:Value),BindsTo s fd ⟨[u],[]⟩ [(x,u)])∧(∀ T∈Ts,(K w.params).lookup T.at_=none∧∃ c,PySem.W.codeHdIn (K w.params) c T.at_=true) ∧
    ∀ base:Heap,(K w.params).In base→base.Ns mainGlobals mg→z41 base mg→z0v l.prog w (K w.params) mg base (CX w) k fa fd [x] (sp w))
  (hsp:∀ (w:World) (H:Hp) (a:Addr) (ns:List Int),ns.length≤n→z3R Ts H→SqL (K w.params) H a (ns.map V.int)→sp w [.ref a] H (fun v _=>v=.bl true) fun _ _ _=>False)
  (hCX:∀ (w:World) (H:Hp) (s:Shared) (e:Value) (s':Shared),CX w [] H s (fun _ _ _=>False) e s'→False) :
  PySem.W.WalkO q loose XP YP l.row.toRowW d [] (fun f vs=>PySem.call f vs):=by
 refine Att.attach_call hn hdf fun w s₀ s₁ mg mb fa o pm cd doc a vs ns G Y ho hd hcd hmg hobj hints hlen hg=>?_
 obtain ⟨KX,hTb⟩:=hY w _ Y
 obtain ⟨fd,hb,hT,hF⟩:=F w mg fa _ KX G.T.g hmg
 refine zb0 (Ts:=Ts) KX G.T.g G.T.b G.T.builtins G.T.nolimit hg hobj hints (Nat.le_trans hlen hn2) hr (fun T h=>⟨hTb _ (List.mem_map.mpr ⟨T,h,rfl⟩),(hT T h).1,?_⟩) ?_ hF hb (fun H hO hS=>hsp w H a ns hlen hO hS) fun H e s'=>hCX w H s₁ e s'
 ·obtain ⟨c,e⟩:=(hT T h).2
  exact ⟨c,PySem.W.codeHd_of_K KX e⟩
 ·obtain ⟨bm,ob,b1,b2,b3,b4,b5,b6⟩:=G.T.bmain
  refine ⟨bm,ob,b1,b2,fun z=>?_,b3,b4,b5,b6⟩
  obtain ⟨o,es,ep,e,d,_⟩:=G.T.g
  rw [z] at b3
  rw [b3] at e
  cases e
  rw [b6] at d
  cases d
theorem z6m {Ts:List Tb} {T:Tb} (h:(Ts.map (·.at_)).Nodup) (hT:T∈Ts):∀ T'∈Ts,T'.at_=T.at_→T'=T:=by
 induction Ts with
 | nil=>cases hT
 | cons a r ih =>
  rw [List.map_cons,List.nodup_cons] at h
  intro T' hT' e
  rcases List.mem_cons.mp hT with z | z
  ·rcases List.mem_cons.mp hT' with y | y
   ·rw [y,z]
   ·exact absurd (List.mem_map.mpr ⟨T',y,by rw [e,z]⟩) h.1
  ·rcases List.mem_cons.mp hT' with y | y
   ·exact absurd (List.mem_map.mpr ⟨T,z,by rw [←e,y]⟩) h.1
   ·exact ih h.2 z T' y e
end L2
namespace Gu
open PySem L2
abbrev nV (nm:Int→Int) (i:Int):V:=.int (nm i)
abbrev kN (nm:Int→Int) (i:Int):Key:=Sum.inl (nm i)
theorem zaI {nm:Int→Int} (h:∀ x y,nm x=nm y→x=y) (x y:Int) (e:kN nm x=kN nm y):x=y:=h x y (Sum.inl.inj e)
def z42 (nm:Int→Int) (r:Row):Row:=(r.1,r.2.map nm)
theorem z7M (r:Row):z42 (fun i=>i) r=r:=by unfold z42;rw [List.map_id']
def zct (K:PySem.W.Frag) (rows:List Row) (nm:Int→Int):List V→Hp→VK→Prop:=fun vs H Q=>∃ i:Int,vs=[.int (nm i)]∧0≤i∧i < (rows.length:Int)∧z3p K H Q (z5i (z42 nm (row rows i)))
section
variable (P:Program) (w:World) (K:PySem.W.Frag) (mg:Str→Option Value) (base:Heap) (CX:CXT) (k:Nat)
def z7s:Sp:=fun vs H Q _=>∃ (f:Addr) (n:Nat) (rows:List Row) (nm:Int→Int),vs=[.int (nm 0),.ref f]∧(∀ x y,nm x=nm y→x=y)∧z2Y P w K mg base CX k H f (zct K rows nm)∧z0j n rows∧n≤60∧∀ (r:Addr) (H':Hp),z0f H H'→z32 K H' r (z0C rows)→Q (.ref r) H'
def z3v (Ct:Addr):Sp:=fun vs H Q E=>∃ (f:Addr) (n:Nat) (rows:List Row) (nm:Int→Int),vs=[.int (nm 0),.ref f]∧(∀ x y,nm x=nm y→x=y)∧z2Y P w K mg base CX k H f (zct K rows nm)∧z0j n rows∧n≤60 ∧
 ((shr rows).length≤60→z3p K H Q (D.tup (z0l (shr rows))))∧(60 < (shr rows).length→TMx Ct E H)
end
def z5u (Ts:List Tb) (K:PySem.W.Frag) (H:Hp) (Q:VK) (d:D):Prop:=∀ v H',z0X Ts H H'→Dr K H' d v→Q v H'
def zfx (Ts:List Tb) (Ct:Addr) (E:XK) (H:Hp):Prop:=∀ (ea:Addr) (H':Hp),z0X Ts H H'→E (.ref ea) (some Ct) H'
def z95 (Ts:List Tb) (K:PySem.W.Frag):Sp:=fun vs H Q _=>∃ (a:Addr) (ns:List Int),vs=[.ref a]∧SqL K H a (ns.map V.int)∧ns.length≤63∧z3R Ts H∧∀ H',Q (.bl true) H'
theorem z3R.mono {Ts:List Tb} {H H':Hp} (h:z3R Ts H) (s:z0f H H'):z3R Ts H':=(z0f.l s).tabs h
def z3s:List Stmt→Pos
 | [.Return (some (.Call _ [_,.Lambda _ _ _ p] _ _)) _]=>p
 | _::r=>z3s r
 | []=>⟨0,0,0,0⟩
end Gu
namespace L2
open PySem PySem.Spec PyProof.Rows
theorem z2Y.lam {CX:CXT} {P:Program} {w:World} {K:PySem.W.Frag} {mg:Str→Option Value} {base:Heap} {k:Nat} {H:Hp} {f:Addr} {params:Arguments} {body:Expr} {scope:Scope} {qual:Str} {N ps:List Str} {fv:St} {sp:List V→Hp→VK→Prop} (C:z7S H f params body scope qual N fv) (S:zeh N ps scope)
  (hbind:∀ (cl:List (Str × Addr)) (pm cdv ct:Value) (us:List Value),us.length=ps.length→bindArgs (PySem.W.kla_fn "<lambda>" qual params body scope cl pm cdv ct) ⟨us,[]⟩=pure (ps.zip us)) (hfv:fv.length=N.length)
  (len:∀ vs H Q,sp vs H Q→vs.length=ps.length)
  (hbody:∀ (H':Hp),z0f H H'→∀ (A:Around) (outer:List Env) (s:Shared) (cd:Value) (clos:List (Str × Addr)) (cs:List Addr) (vs:List V) (Q:VK),z3Q k (A.deeper (PySem.W.envX qual scope s.heap.objs.size f cd clos))→NFr H' (utk H' cs)→sp vs H' Q →
   ∃ t,PE (zbM P w K mg base N qual scope f cd clos A outer s (utk H' cs)) body t∧t (z7t vs fv) (utk H' cs) fun v H1=>(∀ c∈cs,H1 c=none)→Q v (rtk H' H1 cs)):z2Y P w K mg base CX (k+1) H f sp:=by
 obtain ⟨clos,cs,pm,c',ctv,oc,vs',t,e1,_⟩:=id C
 refine ⟨⟨_,_,e1,rfl⟩,fun H' s' A outer s us vs Q hr e0 r hsp=>?_⟩
 exact zdE (C.mono s') S hbind hfv hr e0 r (len _ _ _ hsp) fun cd clos cs hr' hcs=>hbody H' s' A outer s cd clos cs vs Q hr' (NFr.utk hcs (z0f.refl _)) hsp
theorem z3R.over {Ts:List Tb} {H:Hp} {a:Addr} {xs:List V} {o:HO} (h:z3R Ts H) (e:H a=some (.lst xs)):z3R Ts (upd H a o):=fun T hT=>by
 have ne:∀ {b:Addr} {u:HO},H b=some u→(∀ xs,u≠.lst xs)→upd H a o b=some u:=fun {b u} q n=>by
  have:b≠a:=fun z=>by rw [z,e] at q;exact n xs (Option.some.inj q).symm
  rw [z07 this];exact q
 rcases h T hT with q | ⟨c',oc,vs,t,q1,q2,q3⟩
 ·exact .inl (ne q (fun _ z=>by cases z))
 ·exact .inr ⟨c',oc,vs,t,ne q1 (fun _ z=>by cases z),ne q2 (fun _ z=>by cases z),q3⟩
def SqS (K:PySem.W.Frag) (H:Hp) (a:Addr) (xs:List V):Prop:=SqL K H a xs∨SqT K H a xs
theorem SqS.mono {K:PySem.W.Frag} {H H':Hp} {a:Addr} {xs:List V} (h:SqS K H a xs) (s:z0f H H'):SqS K H' a xs:=by
 rcases h with h | h
 ·exact .inl (s.seq h)
 ·refine .inr ?_
  rcases h with (h | ⟨o,h⟩) | h
  ·exact .inl (.inl (s _ _ h))
  ·exact .inl (.inr ⟨o,s _ _ h⟩)
  ·exact .inr h
def zgZ (K:PySem.W.Frag):R2:=fun x y H Q=>∃ p xs i v,x=.ref p∧y=.int i∧SqS K H p xs∧atI xs i=some v∧Q v H
theorem ixQ {X:Cx} (K:PySem.W.Frag) (h:X.K=K):IxR X (zgZ K):=by
 subst h
 intro value slice pins s σ H x y v u Q I rx ry q hs
 obtain ⟨p,xs,i,z,e1,e2,hq,e3,q⟩:=q
 rcases hq with hq | hq
 ·exact z1C value slice pins s σ H x y v u Q I rx ry ⟨p,xs,i,z,e1,e2,hq,e3,q⟩ hs
 ·exact z1w value slice pins s σ H x y v u Q I rx ry ⟨p,xs,i,z,e1,e2,hq,e3,q⟩ hs
end L2
namespace Gu
open PySem L2
def z6p (K:PySem.W.Frag) (H:Hp) (us:List V) (rows:List Row) (nm:Int→Int):Prop:=∀ i:Int,0≤i→i < (rows.length:Int)→0≤nm i∧∃ v,us[(nm i).toNat]?=some v∧Dr K H (z5i (z42 nm (row rows i))) v
theorem z6p.mono {K:PySem.W.Frag} {H H':Hp} {us:List V} {rows:List Row} {nm:Int→Int} (h:z6p K H us rows nm) (s:z0f H H'):z6p K H' us rows nm:=fun i h0 h1=>by
 obtain ⟨a,v,e,d⟩:=h i h0 h1
 exact ⟨a,v,e,d.mono s⟩
theorem z6p.of {K:PySem.W.Frag} {H:Hp} {us:List V} {rows:List Row} (h:DrL K H (z0l rows) us):z6p K H us rows (fun i=>i):=fun i h0 h1=>by
 obtain ⟨v,ev,dv⟩:=z1X h (z2p h0 h1)
 exact ⟨h0,v,ev,by rw [z7M];exact dv⟩
section
variable {K:PySem.W.Frag} {H H':Hp} {f:Int→D} {r:Int} {nm:Int→Int}
def MkN (nm:Int→Int) (K:PySem.W.Frag) (H:Hp) (o:List Int) (f:Int→D) (kvs:List (Key × V)):Prop:=∃ vs,kvs=mk (o.map nm) vs∧DrL K H (o.map f) vs
theorem MkN.nil:MkN nm K H [] f []:=⟨[],rfl,DrL.nil⟩
theorem MkN.get (ni:∀ x y,nm x=nm y→x=y):∀ {o:List Int} {kvs:List (Key × V)},MkN nm K H o f kvs→r∈o→∃ v,z3d kvs (kN nm r)=some v∧Dr K H (f r) v
 | [],_,_,h=>by simp at h
 | b::o,_,⟨vs,rfl,d⟩,h=>by
  rw [List.map_cons] at d
  simp only [DrL] at d
  obtain ⟨v,r',rfl,d1,d2⟩:=d
  by_cases e:b=r
  ·subst e
   exact ⟨v,z2V (p:=(kN nm b,v)) rfl,d1⟩
  ·obtain ⟨v',h1,h2⟩:=MkN.get ni (o:=o) ⟨r',rfl,d2⟩ (by rcases List.mem_cons.mp h with z | z;exact absurd z.symm e;exact z)
   refine ⟨v',?_,h2⟩
   show z3d ((kN nm b,v)::mk (o.map nm) r') (kN nm r)=_
   rw [z2q (p:=(kN nm b,v)) (fun z=>e (ni _ _ (Sum.inl.inj z)))]
   exact h1
theorem MkN.no (ni:∀ x y,nm x=nm y→x=y):∀ {o:List Int} {kvs:List (Key × V)},MkN nm K H o f kvs→r∉o→z3d kvs (kN nm r)=none
 | [],_,⟨vs,rfl,d⟩,_=>rfl
 | b::o,_,⟨vs,rfl,d⟩,h=>by
  rw [List.map_cons] at d
  simp only [DrL] at d
  obtain ⟨v,r',rfl,d1,d2⟩:=d
  show z3d ((kN nm b,v)::mk (o.map nm) r') (kN nm r)=_
  rw [z2q (p:=(kN nm b,v)) (fun z=>h (by rw [ni _ _ (Sum.inl.inj z)];simp))]
  exact MkN.no ni (o:=o) ⟨r',rfl,d2⟩ (fun z=>h (List.mem_cons_of_mem _ z))
theorem MkN.len {o:List Int} {kvs:List (Key × V)} (h:MkN nm K H o f kvs):kvs.length=o.length:=by
 obtain ⟨vs,rfl,d⟩:=h
 have:=d.length
 rw [zLm] at this
 unfold mk
 rw [zLm,List.length_zip,zLm];lia
theorem MkN.put (ni:∀ x y,nm x=nm y→x=y) {v:V} {o:List Int} {kvs:List (Key × V)} (h:MkN nm K H o f kvs) (hr:r∉o) (h':MkN nm K H' o f kvs) (dv:Dr K H' (f r) v):MkN nm K H' (o++[r]) f (z2Z kvs (kN nm r) v):=by
 rw [z8G _ (h.no ni hr)]
 obtain ⟨vs,rfl,d⟩:=h'
 have hl:=d.length
 rw [zLm] at hl
 refine ⟨vs++[v],?_,by rw [List.map_append];exact DrL.append d (DrL.one dv)⟩
 unfold mk
 rw [List.map_append,List.zip_append (by rw [zLm];exact hl),List.map_append]
 rfl
theorem MkN.mono {o:List Int} {kvs:List (Key × V)} (h:MkN nm K H o f kvs) (s:z0f H H'):MkN nm K H' o f kvs:=by
 obtain ⟨vs,e,d⟩:=h
 exact ⟨vs,e,d.mono s⟩
theorem MkN.keyed {o:List Int} {kvs:List (Key × V)} (h:MkN nm K H o f kvs) (k:z0P H H') (hf:FK f):MkN nm K H' o f kvs:=by
 obtain ⟨vs,e,d⟩:=h
 exact ⟨vs,e,d.keyed k (hf.keyL o)⟩
end
def z4p (K:PySem.W.Frag):Sp:=fun vs H Q _=>∃ (a l m:Addr) (n:Nat) (rows:List Row) (nm:Int→Int) (us:List V) (o:List Int) (k:Int→Int) (kvs:List (Key × V)),vs=[.ref a,.ref l,.ref m]∧SqS K H a us∧z6p K H us rows nm∧(∀ x y,nm x=nm y→x=y)∧z0j n rows∧n≤60∧H l=some (.lst (o.map (nV nm)))∧H m=some (.dK kvs) ∧
 MkN nm K H o (fun r=>D.int (k r)) kvs∧z6D rows o∧(∀ r∈o,∀ g∈(row rows r).2,g∈o)∧z3p K H Q (D.tup (z0l (z1P rows k o)))
def z4O (K:PySem.W.Frag):Sp:=fun vs H Q _=>∃ (a:Addr) (n:Nat) (rows:List Row) (nm:Int→Int) (us:List V),vs=[.ref a,.int (nm 0)]∧SqS K H a us∧z6p K H us rows nm∧(∀ x y,nm x=nm y→x=y)∧z0j n rows∧n≤60∧z3p K H Q (D.tup (z0l (shr rows)))
theorem z8V {n:Nat} {rows:List Row} (G:z0j n rows):∃ h:Int→Int,h 0=0∧Mor rows (shr rows) (z0d rows) h:=by
 obtain ⟨L,cl⟩:=z0s G
 have C:=z2u G
 have R:=z2H G
 obtain ⟨h1,h2,h3⟩:=z1g (kOf rows) (z0d rows)
 obtain ⟨t,et⟩:=L.hd
 refine ⟨fun x=>((((z0w (kOf rows) (z0d rows)).map (kOf rows)).idxOf (kOf rows x):Nat):Int),?_,fun x hx=>?_⟩
 ·obtain ⟨t',et'⟩:=z6B (kOf rows) 0 t
  show ((((z0w (kOf rows) (z0d rows)).map (kOf rows)).idxOf (kOf rows 0):Nat):Int)=0
  rw [et,et',List.map_cons,List.idxOf_cons]
  simp
 ·have hy:∃ y,(z0w (kOf rows) (z0d rows))[((z0w (kOf rows) (z0d rows)).map (kOf rows)).idxOf (kOf rows x)]?=some y∧kOf rows y=kOf rows x:=by
   have hlt:=List.idxOf_lt_length_of_mem (h1 x hx)
   have hg:=List.getElem_idxOf hlt
   rw [zLm] at hlt
   rw [List.getElem_map] at hg
   exact ⟨_,zGe hlt,hg⟩
  show row (shr rows) ((((z0w (kOf rows) (z0d rows)).map (kOf rows)).idxOf (kOf rows x):Nat):Int)=_
  generalize ((z0w (kOf rows) (z0d rows)).map (kOf rows)).idxOf (kOf rows x)=j at hy ⊢
  obtain ⟨y,ey,hg⟩:=hy
  have hhd:y∈z0d rows:=h2 _ (List.mem_of_getElem? ey)
  have eb:=(R _ hhd x hx).mp hg
  have er:row (shr rows) ((j:Nat):Int)=((row rows y).1,(row rows y).2.map fun g=>((((z0w (kOf rows) (z0d rows)).map (kOf rows)).idxOf (kOf rows g):Nat):Int)):=by
   unfold row shr z1P
   have:((j:Nat):Int).toNat=j:=by lia
   rw [this,zGd,zGm,ey]
   rfl
  rw [er]
  refine Prod.ext ?_ ?_
  ·exact congrFun eb []
  ·show List.map _ _=List.map _ _
   refine List.ext_getElem (by rw [zLm,zLm,C.len y hhd,C.len x hx]) fun i i1 i2=>?_
   rw [zLm] at i1 i2
   rw [List.getElem_map,List.getElem_map]
   have b1:(row rows y).2.getD i 0=(row rows y).2[i]:=by rw [zGd,zGe i1];rfl
   have b2:(row rows x).2.getD i 0=(row rows x).2[i]:=by rw [zGd,zGe i2];rfl
   have a1:=C.go hhd i
   have a2:=C.go hx i
   rw [b1] at a1
   rw [b2] at a2
   have hb:beh rows (row rows y).2[i]=beh rows (row rows x).2[i]:=by
    rw [←b1,←b2]
    exact funext fun w=>congrFun eb (i::w)
   rw [(R _ a1 _ a2).mpr hb]
theorem zdB {n:Nat} {M F:List Row} {h:Int→Int} (G:z0j n M) (GF:z0j n F) (hz:h 0=0) (mo:Mor M F (z0d M) h) {x:Int} (hx:x∈z0d M):0≤h x∧h x < (F.length:Int):=by
 have hs:=GF.some
 have:=(z4a G).all (C:=fun x=>x∈z0d M∧0≤h x∧h x < (F.length:Int)) (fun x hx g hg=>?_) (fun x hx=>?_) x hx
 ·exact this.2
 ·obtain ⟨hm,x0,x1⟩:=hx
  refine ⟨(z2u G).cl x hm g hg,?_⟩
  refine GF.go _ (z0k x0 x1) (h g) ?_
  rw [mo x hm]
  exact List.mem_map.mpr ⟨g,hg,rfl⟩
 ·rw [List.mem_singleton.mp hx]
  exact ⟨(z2u G).zero,by rw [hz];lia⟩
def sw (s i:Int):Int:=if i=0 then s else if i=s then 0 else i
theorem z7E (s:Int):sw s 0=s:=if_pos rfl
theorem z5R (s:Int):sw s s=0:=by
 unfold sw
 by_cases h:s=0
 ·rw [if_pos h];exact h
 ·rw [if_neg h,if_pos rfl]
theorem z9g (s i:Int):sw s (sw s i)=i:=by
 by_cases h:i=0
 ·rw [h,z7E,z5R]
 ·by_cases h2:i=s
  ·rw [h2,z5R,z7E]
  ·have e:sw s i=i:=by unfold sw;rw [if_neg h,if_neg h2]
   rw [e,e]
theorem zfg (s:Int) (x y:Int) (e:sw s x=sw s y):x=y:=by rw [←z9g s x,e,z9g]
theorem z9d {s i:Int} {L:Nat} (h0:0≤s) (h1:s < (L:Int)) (i0:0≤i) (i1:i < (L:Int)):0≤sw s i∧sw s i < (L:Int):=by
 unfold sw
 by_cases h:i=0
 ·rw [if_pos h];exact ⟨h0,h1⟩
 ·by_cases h2:i=s
  ·rw [if_neg h,if_pos h2];lia
  ·rw [if_neg h,if_neg h2];exact ⟨i0,i1⟩
def swM (rows:List Row) (s:Int):List Row:=(z0r rows.length).map fun i=>z42 (sw s) (row rows (sw s i))
theorem z3I (rows:List Row) (s:Int):(swM rows s).length=rows.length:=by unfold swM;rw [zLm,z0z]
theorem z1o {L:Nat} {i:Int} (h0:0≤i) (h1:i < (L:Int)):(z0r L)[i.toNat]?=some i:=by
 unfold z0r
 rw [zGm,List.getElem?_range (by lia)]
 show some ((i.toNat:Nat):Int)=some i
 congr 1;lia
theorem z7Y {rows:List Row} {s i:Int} (h0:0≤i) (h1:i < (rows.length:Int)):row (swM rows s) i=z42 (sw s) (row rows (sw s i)):=by
 unfold row swM
 rw [zGd,zGm,z1o h0 h1]
 rfl
theorem zaT {s:Int} (r:Row):z42 (sw s) (z42 (sw s) r)=r:=by
 unfold z42
 rw [List.map_map]
 have:(sw s ∘ sw s)=id:=funext fun x=>z9g s x
 rw [this,List.map_id]
theorem z3o {n:Nat} {rows:List Row} {s:Int} (G:z0j n rows) (h0:0≤s) (h1:s < (rows.length:Int)):z0j n (swM rows s):=by
 have hm:∀ r∈swM rows s,∃ q∈rows,r=z42 (sw s) q:=fun r hr=>by
  unfold swM at hr
  obtain ⟨i,hi,e⟩:=List.mem_map.mp hr
  obtain ⟨i0,i1⟩:=z0H.mp hi
  obtain ⟨j0,j1⟩:=z9d h0 h1 i0 i1
  exact ⟨_,z0k j0 j1,e.symm⟩
 refine ⟨by rw [z3I];exact G.few,by rw [z3I];exact G.some,fun r hr=>?_,fun r hr=>?_,fun r hr g hg=>?_⟩
 ·obtain ⟨q,hq,rfl⟩:=hm r hr
  exact G.perm q hq
 ·obtain ⟨q,hq,rfl⟩:=hm r hr
  show (q.2.map _).length=n
  rw [zLm];exact G.len q hq
 ·obtain ⟨q,hq,rfl⟩:=hm r hr
  obtain ⟨y,hy,rfl⟩:=List.mem_map.mp hg
  obtain ⟨y0,y1⟩:=G.go q hq y hy
  rw [z3I]
  exact z9d h0 h1 y0 y1
theorem za8 {K:PySem.W.Frag} {H:Hp} {us:List V} {rows:List Row} {s:Int} (h0:0≤s) (h1:s < (rows.length:Int)) (h:DrL K H (z0l rows) us):z6p K H us (swM rows s) (sw s):=fun i i0 i1=>by
 rw [z3I] at i1
 obtain ⟨j0,j1⟩:=z9d h0 h1 i0 i1
 obtain ⟨v,ev,dv⟩:=z1X h (z2p j0 j1)
 refine ⟨j0,v,ev,?_⟩
 rw [z7Y i0 i1,zaT]
 exact dv
def goW (M:List Row):Int→List Int→Int
 | x,[]=>x
 | x,l::w=>goW M ((row M x).2.getD l.toNat 0) w
theorem zbj (M:List Row):∀ (w w':List Int) (x:Int),goW M x (w++w')=goW M (goW M x w) w'
 | [],_,_=>rfl
 | l::w,w',x=>zbj M w w' _
def LW (n:Nat) (w:List Int):Prop:=∀ l∈w,0≤l∧l < (n:Int)
theorem LW.tail {n:Nat} {l:Int} {w:List Int} (h:LW n (l::w)):LW n w:=fun x hx=>h x (List.mem_cons_of_mem _ hx)
theorem z9J {n:Nat} {M:List Row} {C:Int→Prop} (hl:∀ x,C x→(row M x).2.length=n) (hc:∀ x,C x→∀ g∈(row M x).2,C g):∀ (w:List Int) (x:Int),LW n w→C x→C (goW M x w)
 | [],_,_,h=>h
 | l::w,x,hw,h=>by
  obtain ⟨l0,l1⟩:=hw l List.mem_cons_self
  have hi:l.toNat < (row M x).2.length:=by rw [hl x h];lia
  refine z9J hl hc w _ hw.tail ?_
  rw [zGd,zGe hi]
  exact hc x h _ (List.getElem_mem hi)
theorem za4 {n:Nat} {M:List Row} (G:z0j n M) {w:List Int} {x:Int} (hw:LW n w) (h0:0≤x) (h1:x < (M.length:Int)):0≤goW M x w∧goW M x w < (M.length:Int) :=
 z9J (n:=n) (C:=fun x=>0≤x∧x < (M.length:Int)) (fun x hx=>G.len _ (z0k hx.1 hx.2)) (fun x hx=>G.go _ (z0k hx.1 hx.2)) w x hw ⟨h0,h1⟩
end Gu
namespace L2
open PySem PySem.Spec PyProof.Rows
theorem z0v.sub {P:Program} {w:World} {K:PySem.W.Frag} {mg:Str→Option Value} {base:Heap} {CX:CXT} {k:Nat} {f:Addr} {fd:FuncData} {ps:List Str} {sp sp':Sp} (h:z0v P w K mg base CX k f fd ps sp) (i:∀ vs H Q E,sp' vs H Q E→sp vs H Q E):z0v P w K mg base CX k f fd ps sp' :=
 { h with len:=fun vs H Q E q=>h.len vs H Q E (i vs H Q E q),run:=fun A outer s H args us vs Q E hr e0 b r q=>h.run A outer s H args us vs Q E hr e0 b r (i vs H Q E q) }
end L2
namespace Gu
open PySem L2
theorem z9z {K:PySem.W.Frag} (vs:List V) (H:Hp) (Q:VK) (E:XK) (h:z8t K vs H Q E):z4O K vs H Q E:=by
 obtain ⟨a,n,rows,rfl,⟨us,ea,da⟩,GM,hn,q⟩:=h
 exact ⟨a,n,rows,fun i=>i,us,rfl,.inl (SqL.of ea),z6p.of da,fun _ _ e=>e,GM,hn,q⟩
instance LW.dec (n:Nat) (w:List Int):Decidable (LW n w):=by unfold LW;infer_instance
def z3g (K:PySem.W.Frag) (Ct:Addr):Sp:=fun vs H Q E=>∃ (n:Nat) (u:V) (w:List Int),vs=[.int n,u]∧Dr K H (D.its w) u∧w.length≤5000∧(LW n w→∀ H',z0f H H'→Q .non H')∧(¬ LW n w→TMx Ct E H)
def z6l (Ts:List Tb) (K:PySem.W.Frag) (Ct:Addr):Sp:=fun vs H Q E=>∃ (v u:V) (rows:List Row) (n:Nat) (w:List Int),vs=[v,u]∧z3R Ts H∧Dr K H (D.tup (z0l rows)) v∧Dr K H (D.its w) u∧z0j n rows∧n≤60∧rows.length≤60∧w.length≤4900 ∧
 (LW n w→z5u Ts K H Q (D.tup (z0l (shr (swM rows (goW rows 0 w))))))∧(¬ LW n w→zfx Ts Ct E H)
def mvR (o:Nat) (g:List Row):List Row:=g.map (z42 fun x=>x+(o:Int))
theorem z1E (o:Nat) (g:List Row):(mvR o g).length=g.length:=by unfold mvR;rw [zLm]
def blk:Nat→List (List Row)→List Row
 | _,[]=>[]
 | o,g::gs=>mvR o g++blk (o+g.length) gs
def hds:Nat→List (List Row)→List Int
 | _,[]=>[]
 | o,g::gs=>(o:Int)::hds (o+g.length) gs
def brM (first:List Int) (gs:List (List Row)):List Row:=(first,hds 1 gs)::blk 1 gs
theorem z4w:∀ (o:Nat) (gs:List (List Row)),(hds o gs).length=gs.length
 | _,[]=>rfl
 | o,g::gs=>by simp [hds,z4w (o+g.length) gs]
theorem z65:∀ (o:Nat) (gs:List (List Row)) (g:List Row),blk o (gs++[g])=blk o gs++mvR (o+(blk o gs).length) g
 | o,[],g=>by simp [blk]
 | o,h::gs,g=>by
  have ih:=z65 (o+h.length) gs g
  show mvR o h++blk (o+h.length) (gs++[g])=(mvR o h++blk (o+h.length) gs)++mvR (o+(mvR o h++blk (o+h.length) gs).length) g
  rw [ih,List.append_assoc,List.length_append,z1E,Nat.add_assoc]
theorem z90:∀ (o:Nat) (gs:List (List Row)) (g:List Row),hds o (gs++[g])=hds o gs++[((o+(blk o gs).length:Nat):Int)]
 | o,[],g=>by simp [blk,hds]
 | o,h::gs,g=>by
  have ih:=z90 (o+h.length) gs g
  show (o:Int)::hds (o+h.length) (gs++[g])=((o:Int)::hds (o+h.length) gs)++[((o+(mvR o h++blk (o+h.length) gs).length:Nat):Int)]
  rw [ih,List.length_append,z1E,Nat.add_assoc]
  rfl
theorem zaV:∀ (b:Nat) (gs:List (List Row)) (i:Nat) (g:List Row),gs[i]?=some g→∃ o:Nat,(hds b gs)[i]?=some (o:Int)∧b≤o∧o+g.length≤b+(blk b gs).length∧∀ (x:Nat) (r:Row),g[x]?=some r→(blk b gs)[o - b+x]?=some (z42 (fun x=>x+(o:Int)) r)
 | b,[],i,g,h=>by simp at h
 | b,q::gs,0,g,h=>by
  have:q=g:=by simpa using h
  subst this
  refine ⟨b,rfl,Nat.le_refl b,?_,fun x r hx=>?_⟩
  ·show b+q.length≤b+(mvR b q++blk (b+q.length) gs).length
   rw [List.length_append,z1E];lia
  ·have hl:x < q.length:=(zGs.mp hx).1
   show (mvR b q++blk (b+q.length) gs)[b - b+x]?=_
   rw [show b - b+x=x by lia,List.getElem?_append_left (by rw [z1E];exact hl)]
   unfold mvR
   rw [zGm,hx]
   rfl
 | b,q::gs,i+1,g,h=>by
  obtain ⟨o,h1,h2,h3,h4⟩:=zaV (b+q.length) gs i g (by simpa using h)
  refine ⟨o,?_,by lia,?_,fun x r hx=>?_⟩
  ·show ((b:Int)::hds (b+q.length) gs)[i+1]?=_
   rw [List.getElem?_cons_succ];exact h1
  ·show o+g.length≤b+(mvR b q++blk (b+q.length) gs).length
   rw [List.length_append,z1E];lia
  ·show (mvR b q++blk (b+q.length) gs)[o - b+x]?=_
   rw [List.getElem?_append_right (by rw [z1E];lia),z1E,show o - b+x - q.length=o - (b+q.length)+x by lia]
   exact h4 x r hx
theorem z5P:∀ (b:Nat) (gs:List (List Row)) (r:Row),r∈blk b gs→∃ (i:Nat) (g:List Row) (o:Nat) (q:Row),gs[i]?=some g∧q∈g∧r=z42 (fun x=>x+(o:Int)) q∧b≤o∧o+g.length≤b+(blk b gs).length
 | b,[],r,h=>by simp [blk] at h
 | b,q::gs,r,h=>by
  have h':r∈mvR b q++blk (b+q.length) gs:=h
  rcases List.mem_append.mp h' with z | z
  ·obtain ⟨p,hp,e⟩:=List.mem_map.mp z
   refine ⟨0,q,b,p,rfl,hp,e.symm,Nat.le_refl b,?_⟩
   show b+q.length≤b+(mvR b q++blk (b+q.length) gs).length
   rw [List.length_append,z1E];lia
  ·obtain ⟨i,g,o,p,h1,h2,h3,h4,h5⟩:=z5P (b+q.length) gs r z
   refine ⟨i+1,g,o,p,by simpa using h1,h2,h3,by lia,?_⟩
   show o+g.length≤b+(mvR b q++blk (b+q.length) gs).length
   rw [List.length_append,z1E];lia
theorem z4l (first:List Int) (gs:List (List Row)):(brM first gs).length=1+(blk 1 gs).length:=by unfold brM;rw [List.length_cons];lia
theorem z62 {n:Nat} {first:List Int} {gs:List (List Row)} (hf:IsP n first) (hl:gs.length=n) (hg:∀ g∈gs,z0j n g) (h400:(brM first gs).length≤400):z0j n (brM first gs):=by
 have hbl:=z4l first gs
 have hm:∀ r∈brM first gs,r=(first,hds 1 gs)∨r∈blk 1 gs:=fun r hr=>List.mem_cons.mp hr
 refine ⟨by lia,by lia,fun r hr=>?_,fun r hr=>?_,fun r hr x hx=>?_⟩
 ·rcases hm r hr with rfl | z
  ·exact hf
  ·obtain ⟨i,g,o,q,h1,h2,rfl,_⟩:=z5P 1 gs r z
   exact (hg g (List.mem_of_getElem? h1)).perm q h2
 ·rcases hm r hr with rfl | z
  ·show (hds 1 gs).length=n
   rw [z4w];exact hl
  ·obtain ⟨i,g,o,q,h1,h2,rfl,_⟩:=z5P 1 gs r z
   show (q.2.map _).length=n
   rw [zLm];exact (hg g (List.mem_of_getElem? h1)).len q h2
 ·rcases hm r hr with rfl | z
  ·obtain ⟨i,hi,e⟩:=List.getElem_of_mem (show x∈hds 1 gs from hx)
   rw [z4w] at hi
   obtain ⟨o,h1,h2,h3,_⟩:=zaV 1 gs i gs[i] (zGe hi)
   rw [zGe (by rw [z4w];exact hi),e] at h1
   have:=(hg gs[i] (List.getElem_mem hi)).some
   cases h1
   lia
  ·obtain ⟨i,g,o,q,h1,h2,rfl,h4,h5⟩:=z5P 1 gs r z
   obtain ⟨y,hy,rfl⟩:=List.mem_map.mp (show x∈q.2.map (fun x=>x+(o:Int)) from hx)
   have:=(hg g (List.mem_of_getElem? h1)).go q h2 y hy
   lia
theorem z8o (first:List Int) (gs:List (List Row)):row (brM first gs) 0=(first,hds 1 gs):=rfl
theorem zev {n:Nat} {first:List Int} {gs:List (List Row)} (hf:IsP n first) (hl:gs.length=n) (hg:∀ g∈gs,z0j n g) (h400:(brM first gs).length≤400) {i:Nat} {g:List Row} (e:gs[i]?=some g) :
  0≤goW (brM first gs) 0 [(i:Int)]∧goW (brM first gs) 0 [(i:Int)] < ((brM first gs).length:Int)∧shr (swM (brM first gs) (goW (brM first gs) 0 [(i:Int)]))=shr g:=by
 have GB:=z62 hf hl hg h400
 have hbl:=z4l first gs
 have Gg:=hg g (List.mem_of_getElem? e)
 have h1g:=Gg.some
 obtain ⟨o,h1,h2,h3,h4⟩:=zaV 1 gs i g e
 have eo:goW (brM first gs) 0 [(i:Int)]=(o:Int):=by
  show (row (brM first gs) 0).2.getD ((i:Int)).toNat 0=_
  rw [z8o]
  show (hds 1 gs).getD ((i:Int)).toNat 0=_
  rw [zGd,show ((i:Int)).toNat=i by lia,h1]
  rfl
 rw [eo]
 have o0:(0:Int)≤(o:Int):=by lia
 have o1:(o:Int) < ((brM first gs).length:Int):=by lia
 refine ⟨o0,o1,?_⟩
 have hrow:∀ x:Int,0≤x→x < (g.length:Int)→row (brM first gs) (x+(o:Int))=z42 (fun x=>x+(o:Int)) (row g x):=fun x x0 x1=>by
  have:=h4 x.toNat (row g x) (z2p x0 x1)
  unfold row at this ⊢
  rw [zGd,show (x+(o:Int)).toNat=(o - 1+x.toNat)+1 by lia]
  show ((first,hds 1 gs)::blk 1 gs)[(o - 1+x.toNat)+1]?.getD _=_
  rw [List.getElem?_cons_succ,this]
  rfl
 refine (z58 (M':=g) (M:=swM (brM first gs) (o:Int)) (h:=fun x=>sw (o:Int) (x+(o:Int))) Gg (z3o GB o0 o1) ?_ fun x hx=>?_).symm
 ·show sw (o:Int) (0+(o:Int))=0
  rw [Int.zero_add,z5R]
 ·obtain ⟨x0,x1⟩:=(z0s Gg).1.rg x hx
  obtain ⟨p0,p1⟩:=z9d (i:=x+(o:Int)) o0 o1 (by lia) (by lia)
  show row (swM (brM first gs) (o:Int)) (sw (o:Int) (x+(o:Int)))=_
  rw [z7Y p0 p1,z9g,hrow x x0 x1]
  unfold z42
  rw [List.map_map]
  rfl
def zhk (K:PySem.W.Frag) (H:Hp) (a:Addr) (gs:List (List Row)):Prop:=∃ us,H a=some (.lst us)∧DrL K H (gs.map fun g=>D.tup (z0l g)) us
def z7C (K:PySem.W.Frag):Sp:=fun vs H Q _=>∃ (v:V) (o:Nat) (g:List Row),vs=[v,.int o]∧Dr K H (D.tup (z0l g)) v∧g.length≤400∧(∀ r∈g,r.2.length≤60)∧∀ (r:Addr) (H':Hp),z0f H H'→z32 K H' r (mvR o g)→Q (.ref r) H'
structure zfr (n:Nat) (first:List Int) (gs:List (List Row)):Prop where
 p:IsP n first
 len:gs.length=n
 good:∀ g∈gs,z0j n g
 few:(brM first gs).length≤400
def z3M (Ts:List Tb) (K:PySem.W.Frag) (Ct:Addr):Sp:=fun vs H Q E=>∃ (v:V) (a:Addr) (n:Nat) (first:List Int) (gs:List (List Row)),vs=[v,.ref a]∧z3R Ts H∧Dr K H (D.its first) v∧zhk K H a gs∧zfr n first gs∧n≤60 ∧
 ((shr (brM first gs)).length≤60→z5u Ts K H Q (D.tup (z0l (shr (brM first gs)))))∧(60 < (shr (brM first gs)).length→zfx Ts Ct E H)
theorem zbh:∀ gs:List (List Row),D.keyL (gs.map fun g=>D.tup (z0l g))
 | []=>by simp only [List.map_nil,D.keyL]
 | g::gs=>by simp only [List.map_cons,D.keyL,D.key];exact ⟨z1m g,zbh gs⟩
theorem zaH {n:Nat} {first:List Int} {gs:List (List Row)} (B:zfr n first gs) (i:Nat) (hi:i≤gs.length):(blk 1 (gs.take i)).length+1≤400:=by
 have h:=B.few
 rw [z4l] at h
 have e:∀ (gs:List (List Row)) (o i:Nat),(blk o (gs.take i)).length≤(blk o gs).length:=by
  intro gs
  induction gs with
  | nil=>intro o i;simp [blk]
  | cons g r ih =>
   intro o i
   cases i with
   | zero=>simp [blk]
   | succ i =>
    show (mvR o g++blk (o+g.length) (r.take i)).length≤(mvR o g++blk (o+g.length) r).length
    rw [List.length_append,List.length_append]
    have:=ih (o+g.length) i
    lia
 have:=e gs 1 i
 lia
theorem z0X.over {Ts:List Tb} {H H':Hp} {l:Addr} {xs:List V} {o:HO} (s:z0X Ts H H') (h:H l=none) (e:H' l=some (.lst xs)):z0X Ts H (upd H' l o) :=
 ⟨fun b u n q=>by rw [z07 (z0c q h)];exact s.at_ b u n q,fun t=>z3R.over (s.tabs t) e⟩
theorem z0X.up {Ts:List Tb} {H H':Hp} {l:Addr} {o:HO} (s:z0X Ts H H') (h:H' l=none):z0X Ts H (upd H' l o):=s.trans (z0f.l (z04 (z0f.refl H') h))
theorem zcI:∀ (o:Nat) (gs:List (List Row)),(∀ g∈gs,g.length≤48)→(blk o gs).length≤48*gs.length
 | _,[],_=>by simp [blk]
 | o,g::gs,h=>by
  have h1:=h g List.mem_cons_self
  have h2:=zcI (o+g.length) gs fun x hx=>h x (List.mem_cons_of_mem _ hx)
  show (mvR o g++blk (o+g.length) gs).length≤48*(gs.length+1)
  rw [List.length_append,z1E]
  lia
def Drn (n:Nat) (g:List Row):Prop:=∃ rows,g=shr rows∧z0j n rows∧rows.length≤48
theorem Drn.good {n:Nat} {g:List Row} (h:Drn n g):z0j n g:=by
 obtain ⟨rows,rfl,G,_⟩:=h
 exact z26 G
theorem Drn.len {n:Nat} {g:List Row} (h:Drn n g):g.length≤48:=by
 obtain ⟨rows,rfl,G,hl⟩:=h
 have:=z4T G
 lia
theorem ze9 {n:Nat} {first:List Int} {gs:List (List Row)} (hf:IsP n first) (hl:gs.length=n) (hn:n≤5) (hg:∀ g∈gs,Drn n g):zfr n first gs:=by
 refine ⟨hf,hl,fun g h=>(hg g h).good,?_⟩
 rw [z4l]
 have:=zcI 1 gs fun g h=>(hg g h).len
 lia
end Gu
namespace L2
open PySem PySem.Spec PyProof.Rows
def zeW (P:Program) (w:World) (K:PySem.W.Frag) (tk tv:TE):TE:=fun σ H Q=>∀ p,H p=none→∀ ob0,DD P w K (upd H p ob0) p []→tk σ (upd H p ob0) fun y H1=>tv σ H1 fun v H2=>∃ d,DD P w K H2 p []∧zdL K H2 d y∧∀ ob,DD P w K (upd H2 p ob) p (z2Z [] d v)→Q (.ref p) (upd H2 p ob)
section
variable {X:Cx} {K:PySem.W.Frag} {k v:Expr} {tk tv:TE} {pos:Pos}
theorem zck (hu:X.A.units+9 < cLine) (hk:PE X k tk) (hv:PE X v tv):PE X (.Dict [some k] [v] pos) (zeW X.prog X.w K tk tv):=by
 intro pins s σ H Q I h
 have hb:(s.heap.objs.size == sysModules)=false:=beq_eq_false_iff_ne.mpr (Ne.symm (Nat.ne_of_lt I.big))
 have I1:Inv X pins σ (upd H s.heap.objs.size (zaW X.prog X.w s.heap.objs.size [])) { s with heap:=s.heap.push { cls:=.type "dict",data:=.dict #[] } }:=by
  refine I.laid (a:=s.heap.objs.size) (o:=zaW X.prog X.w s.heap.objs.size []) (t':=s.toks) (fun _ _ q=>Heap.get?_push_of_some _ q) (Nat.le_refl _) ⟨⟨hb,_,#[],0,Heap.get?_push_size _ rfl,⟨rfl,rfl,rfl⟩,rfl,rfl⟩,⟨_,Heap.get?_push_size _ rfl⟩,fun h1 h2 p k=>?_⟩
  obtain ⟨p0,o1,es1,ep1,p1,p2,p3,p4⟩:=p
  exact ⟨p0,o1,es1,ep1,k _ p1,p2,p3,p4⟩
 have hq:=h _ I.fresh _ ⟨[],z01,.nil,List.nodup_nil,Nat.zero_le _⟩
 refine wpAny_Dict_any rfl rfl (by simp) (by simp) (thn ((z66 hk hv z7Z:PPs X pos [some k] [v] [(tk,tv)]) pins _ σ _ (fun ps H2=>match ps with | [(y,v)]=>∃ d,DD X.prog X.w K H2 s.heap.objs.size []∧zdL K H2 d y∧∀ ob,DD X.prog X.w K (upd H2 s.heap.objs.size ob) s.heap.objs.size (z2Z [] d v)→Q (.ref s.heap.objs.size) (upd H2 s.heap.objs.size ob) | _=>False) I1 hq) fun ws s2 hz8=>?_)
 obtain ⟨ps,H2,I2,rel,q⟩:=hz8
 match ps,rel,q with
 | [],_,q=>exact False.elim q
 | _::_::_,_,q=>exact False.elim q
 | [(y,v)],rel,q =>
  obtain ⟨d,g,⟨⟨b,eb⟩,k1,k2,k3⟩,q⟩:=q
  subst eb
  cases rel with
  | @cons a bb as bs hh t =>
   cases t
   obtain ⟨u1,u2⟩:=bb
   obtain ⟨ry,rv⟩:=hh
   obtain rfl:u1=Value.ref b:=ry
   obtain ⟨hsm,xs,e,rr,dd⟩:=g.at I2
   have rr':=rr
   cases rr
   unfold storeAll
   rw [List.forIn_cons]
   refine wpAny_bind (wpAny_bind (wpAny_dictSet_heap (hsz:=Nat.zero_le _) (show X.A.units+8 < cLine by lia) (z7m I2 k1 k2 k3) dd fun h' dd' hsb=>wpAny_pure ?_))
   show wpAny _ _ (forIn ([]:List (Value × Value)) PUnit.unit _) _ _ _
   rw [List.forIn_nil]
   refine wpAny_pure ?_
   obtain ⟨q',es,ep,hq',h2,h3,h4,_,h5⟩:=dd'
   have Iw:Inv X pins σ (upd H2 s.heap.objs.size (zaW X.prog X.w s.heap.objs.size (storedH [] d b u2))) { s2 with heap:=h',toks:=s2.toks+(z2o X.prog X.w).draws d }:=by
    refine z4o I2 (by rw [e];exact True.intro) hsb ⟨q',hq'⟩ ⟨⟨hsm,q',es,ep,hq',h2,h3,h4⟩,⟨q',hq'⟩,fun h1 h2' p k=>?_⟩
    obtain ⟨p0,o1,es1,ep1,p1,p2,p3,p4⟩:=p
    exact ⟨p0,o1,es1,ep1,k _ p1,p2,p3,p4⟩
   have kt:∀ c ys,H2 c=some (.tup ys)→upd H2 s.heap.objs.size (zaW X.prog X.w s.heap.objs.size (storedH [] d b u2)) c=some (.tup ys):=fun c ys ec=>by
    rw [z07 (z8C g c ys ec)];exact ec
   refine ⟨.ref s.heap.objs.size,_,Iw,rfl,q _ ⟨_,z01,(rr'.put d ⟨k1,k2,k3⟩ rv).mono fun d' v' kd q=>q.keyed kt kd,?_,?_⟩⟩
   ·have ek:=(rr'.put d ⟨k1,k2,k3⟩ rv).keys
    rw [ek]
    exact h5
   ·have:=z1O ([]:List (D × V)) d v
    exact Nat.le_trans this (by decide)
end
end L2
namespace L2
open PySem PySem.Spec PyProof.Rows
structure ZA (z TI TO i1 i2:Addr) (fp1 fp2:List Addr):Prop where
 TIz:TI≠z
 TOz:TO≠z
 i1z:i1≠z
 i2z:i2≠z
 TITO:TI≠TO
 TIi1:TI≠i1
 TIi2:TI≠i2
 TOi1:TO≠i1
 TOi2:TO≠i2
 i12:i1≠i2
 f1z:z∉fp1
 f1T:TO∉fp1
 f1i:i2∉fp1
 f2z:z∉fp2
 f2T:TO∉fp2
 f2i:i1∉fp2
section
variable {prog:Program} {w:World} {A:Around} {E:Value→Shared→Prop} {s:Shared} {z TI TO i1 i2:Addr} {fp1 fp2:List Addr} {n1 n2:Nat} {P1 P2:Nat→Value→Prop} {S1 S2:Nat→Heap→Prop}
theorem ndr {it:Addr} {fp:List Addr} {n:Nat} {P:Nat→Value→Prop} {St:Nat→Heap→Prop} (D:Draws prog w A it fp n P St) {i:Nat} {h h':Heap} {a:Addr} (st:St i h) (hs:Heap.SameBut a h h') (ha:a∉fp):St i h' :=
 D.frame i h h' st fun b hb o e=>hs.extBut b o (fun q=>ha (q ▸ hb)) e
theorem zad {k1 k2:Nat} {a b:Value} {Q:Value→Shared→Prop} (D1:Draws prog w A i1 fp1 n1 P1 S1) (D2:Draws prog w A i2 fp2 n2 P2 S2) (Z:ZA z TI TO i1 i2 fp1 fp2) (hz:IsZip s.heap z TI TO .none) (hTI:IsPair s.heap TI (.ref i1) (.ref i2)) (hTO:IsPair s.heap TO a b)
  (t1:S1 k1 s.heap) (t2:S2 k2 s.heap) (l1:k1 < n1) (l2:k2 < n2)
  (hQ:∀ x y h' tk,P1 k1 x→P2 k2 y→IsZip h' z TI TO (rawInt s.heap.objs.size)→IsPair h' TO x y→S1 (k1+1) h'→S2 (k2+1) h'→IsPair h' s.heap.objs.size x y →
   (∀ c o,c≠z→c≠TO→c≠i1→c≠i2→s.heap.get? c=some o→h'.get? c=some o)→Q (.ref s.heap.objs.size) { s with heap:=h',toks:=tk }) :
  wpAny (model prog w) A (Builtin.«zip.__next__» ⟨[.ref z],[]⟩) (fun fin s'=>∃ v,fin=.done (.ret v)∧Q v s') E s:=by
 show wpAny _ _ (field (.ref z) 2 >>= _) _ _ _
 refine wpAny_bind (wpAny_field hz rfl (x:=.bool false) rfl ?_)
 show wpAny _ _ (field (.ref z) 3 >>= _) _ _ _
 refine wpAny_bind (wpAny_field hz rfl (x:=.ref TI) rfl (wpAny_bind (wpAny_seqItems hTI rfl ?_)))
 show wpAny _ _ (Builtin.SmallTypes.ownedTupleIsFree (.ref z) >>= _) _ _ _
 refine wpAny_bind ?_
 unfold Builtin.SmallTypes.ownedTupleIsFree
 refine wpAny_bind (wpAny_field hz rfl (x:=.none) rfl (wpAny_pure ?_))
 simp only [if_true]
 refine wpAny_bind (wpAny_rule (wpAny_bind (wpAny_field hz rfl (x:=.ref TO) rfl (wpAny_bind (wpAny_setField_rec hz (by simp) fun ha za sa=>?_)))))
 replace za:IsZip ha z TI TO .ellipsis:=za
 refine wpAny_bind ?_
 simp only [List.zipIdx_cons,List.zipIdx_nil,List.forIn_cons,List.forIn_nil]
 refine wpAny_bind (wpAny_bind (wpAny_onRaise ?_))
 show wpAny _ _ (Builtin.SmallTypes.nextOf (.ref i1) >>= _) _ _ _
 refine wpAny_bind (D1.item k1 _ _ _ l1 (ndr D1 t1 sa Z.f1z) fun x hb tb px t1b sb=>wpAny_pure ?_)
 have Tb:IsPair hb TO a b:=sb.extBut _ _ Z.TOi1 (sa.extBut _ _ Z.TOz hTO)
 refine wpAny_bind (wpAny_seqItems Tb rfl (wpAny_bind (wpAny_updateSeq_pair Tb fun hc Tc sc=>?_)))
 replace Tc:IsPair hc TO x b:=Tc
 refine wpAny_bind (wpAny_letGo (wpAny_pure ?_))
 refine wpAny_bind (wpAny_bind (wpAny_onRaise ?_))
 show wpAny _ _ (Builtin.SmallTypes.nextOf (.ref i2) >>= _) _ _ _
 refine wpAny_bind (D2.item k2 _ _ _ l2 (ndr D2 (ndr D2 (ndr D2 t2 sa Z.f2z) sb Z.f2i) sc Z.f2T) fun y hd td py t2d sd=>wpAny_pure ?_)
 have Td:IsPair hd TO x b:=sd.extBut _ _ Z.TOi2 Tc
 refine wpAny_bind (wpAny_seqItems Td rfl (wpAny_bind (wpAny_updateSeq_pair Td fun he Te se=>?_)))
 replace Te:IsPair he TO x y:=Te
 refine wpAny_bind (wpAny_letGo (wpAny_pure (wpAny_pure ?_)))
 refine wpAny_bind (wpAny_seqItems Te rfl (wpAny_bind (wpAny_newTuple ?_)))
 have hsz:he.objs.size=s.heap.objs.size:=by rw [se.1,sd.1,sc.1,sb.1,sa.1]
 have ze:IsZip he z TI TO .ellipsis:=se.extBut _ _ Z.TOz.symm (sd.extBut _ _ Z.i2z.symm (sc.extBut _ _ Z.TOz.symm (sb.extBut _ _ Z.i1z.symm za)))
 have ke:∀ c o,c≠z→c≠TO→c≠i1→c≠i2→s.heap.get? c=some o→he.get? c=some o:=fun c o c1 c2 c3 c4 e=>se.extBut _ _ c2 (sd.extBut _ _ c4 (sc.extBut _ _ c2 (sb.extBut _ _ c3 (sa.extBut _ _ c1 e))))
 have t1e:=ndr D1 (ndr D1 (ndr D1 t1b sc Z.f1T) sd Z.f1i) se Z.f1T
 have t2e:=ndr D2 t2d se Z.f2T
 have zlt:z < he.objs.size:=Heap.lt_size ze
 show wpAny _ _ (Builtin.SmallTypes.ownedTupleHandOut (.ref z) (.ref he.objs.size) >>= _) _ _ _
 refine wpAny_bind ?_
 unfold Builtin.SmallTypes.ownedTupleHandOut
 have zf:IsZip (he.push { cls:=.type "tuple",data:=.seq #[x,y] }) z TI TO .ellipsis:=Heap.get?_push_of_some _ ze
 refine wpAny_bind (wpAny_setField_rec zf (by simp) fun hg zg sg=>?_)
 replace zg:IsZip hg z TI TO (rawInt he.objs.size):=zg
 refine wpAny_setField_rec zg (by simp) fun hh zh sh=>?_
 replace zh:IsZip hh z TI TO (rawInt he.objs.size):=zh
 have up:∀ c o,c≠z→he.get? c=some o→hh.get? c=some o:=fun c o c1 e=>sh.extBut _ _ c1 (sg.extBut _ _ c1 (Heap.get?_push_of_some _ e))
 have pr:IsPair hh he.objs.size x y:=sh.extBut _ _ (Nat.ne_of_gt zlt) (sg.extBut _ _ (Nat.ne_of_gt zlt) (Heap.get?_push_size _ rfl))
 rw [hsz] at zh pr
 refine wpAny_pure ⟨_,rfl,?_⟩
 show Q (.ref he.objs.size) _
 rw [hsz]
 exact hQ x y hh _ px py zh (up _ _ Z.TOz Te) (D1.frame _ _ _ t1e fun b hb o e=>up b o (fun q=>Z.f1z (q ▸ hb)) e) (D2.frame _ _ _ t2e fun b hb o e=>up b o (fun q=>Z.f2z (q ▸ hb)) e) pr fun c o c1 c2 c3 c4 e=>up c o c1 (ke c o c1 c2 c3 c4 e)
theorem zbA {a b:Value} {Q:Fin→Shared→Prop} (D1:Draws prog w A i1 fp1 n1 P1 S1) (Z:ZA z TI TO i1 i2 fp1 fp2) (hz:IsZip s.heap z TI TO .none) (hTI:IsPair s.heap TI (.ref i1) (.ref i2)) (hTO:IsPair s.heap TO a b)
  (t1:S1 n1 s.heap)
  (hE:∀ h' e,(∀ c o,c≠z→c≠TO→c≠i1→c≠i2→s.heap.get? c=some o→h'.get? c=some o)→(∃ o,h'.get? e=some o∧o.cls=.type "StopIteration")→E (.ref e) { s with heap:=h' }) :
  wpAny (model prog w) A (Builtin.«zip.__next__» ⟨[.ref z],[]⟩) Q E s:=by
 show wpAny _ _ (field (.ref z) 2 >>= _) _ _ _
 refine wpAny_bind (wpAny_field hz rfl (x:=.bool false) rfl ?_)
 show wpAny _ _ (field (.ref z) 3 >>= _) _ _ _
 refine wpAny_bind (wpAny_field hz rfl (x:=.ref TI) rfl (wpAny_bind (wpAny_seqItems hTI rfl ?_)))
 show wpAny _ _ (Builtin.SmallTypes.ownedTupleIsFree (.ref z) >>= _) _ _ _
 refine wpAny_bind ?_
 unfold Builtin.SmallTypes.ownedTupleIsFree
 refine wpAny_bind (wpAny_field hz rfl (x:=.none) rfl (wpAny_pure ?_))
 simp only [if_true]
 refine wpAny_bind (wpAny_rule (wpAny_bind (wpAny_field hz rfl (x:=.ref TO) rfl (wpAny_bind (wpAny_setField_rec hz (by simp) fun ha za sa=>?_)))))
 replace za:IsZip ha z TI TO .ellipsis:=za
 refine wpAny_bind ?_
 simp only [List.zipIdx_cons,List.zipIdx_nil,List.forIn_cons,List.forIn_nil]
 refine wpAny_bind (wpAny_bind (wpAny_onRaise ?_))
 show wpAny _ _ (Builtin.SmallTypes.nextOf (.ref i1) >>= _) _ _ _
 refine wpAny_bind (D1.done _ _ _ (ndr D1 t1 sa Z.f1z) fun hb e sb he=>?_)
 obtain ⟨oe,hoe,hce⟩:=he
 have zb:IsZip hb z TI TO .ellipsis:=sb _ _ Z.i1z.symm za
 have hez:e≠z:=fun x=>by subst x;rw [zb] at hoe;cases hoe;simp at hce
 exact wpAny_setField_rec zb (by simp) fun hc _ sc=>hE hc e (fun c o c1 _ c3 _ x=>sc.extBut _ _ c1 (sb _ _ c3 (sa.extBut _ _ c1 x))) ⟨oe,sc.extBut _ _ hez hoe,hce⟩
end
end L2
namespace L2
open PySem PySem.Spec PyProof.Rows
abbrev zt1 (h:Heap) (a:Addr):Heap:=h.push { cls:=.type "tuple_iterator",data:=.fields #[.ref a,.int 0 0] }
abbrev zt2 (h:Heap) (a b:Addr):Heap:=(zt1 h a).push { cls:=.type "tuple_iterator",data:=.fields #[.ref b,.int 0 0] }
abbrev zt3 (h:Heap) (a b:Addr):Heap:=(zt2 h a b).push { cls:=.type "tuple",data:=.seq #[.ref h.objs.size,.ref (zt1 h a).objs.size] }
abbrev zt4 (h:Heap) (a b:Addr):Heap:=(zt3 h a b).push { cls:=.type "tuple",data:=.seq #[.none,.none] }
abbrev zt5 (h:Heap) (a b:Addr):Heap:=(zt4 h a b).push { cls:=.type "zip",data:=.fields #[.none,.bool false,.bool false,.ref (zt2 h a b).objs.size,.ref (zt3 h a b).objs.size] }
theorem z5V (a b:Addr) (xs ys:Array Value) :
  Meets (Builtin.«zip.__new__» ⟨[.type "zip",.ref a,.ref b],[]⟩) (fun _ R s=>s.heap.IsTuple a xs∧s.heap.IsTuple b ys∧R (.ok (.ret (.ref (zt4 s.heap a b).objs.size))) { s with heap:=zt5 s.heap a b }) :=
 .of_wp fun prog w A R s h=>by
  obtain ⟨hp,g,d,tk,os⟩:=s
  obtain ⟨hl1,hl2,h⟩:=h
  have hsub:=sub_zip
  have hL1:Heap.IsTuple (Shared.heap ⟨hp,g,d,tk,os⟩) a xs:=hl1
  have hL2:Heap.IsTuple (Shared.heap ⟨hp.push { cls:=.type "tuple_iterator",data:=.fields #[.ref a,.int 0 0] },g,d,tk,os⟩) b ys:=by
   obtain ⟨o,e,r⟩:=hl2
   exact ⟨o,Heap.get?_push_of_some _ e,r⟩
  wp_walk using wpAny_pyIter_tuple hL1,wpAny_pyIter_tuple hL2
  exact ⟨_,rfl,h⟩
section
variable {prog:Program} {w:World} {A:Around} {E:Value→Shared→Prop} {s:Shared}
theorem z6Z {a b:Addr} {xs ys:Array Value} {Q:Value→Shared→Prop} (hl1:s.heap.IsTuple a xs) (hl2:s.heap.IsTuple b ys)
  (h:∀ h',IsZip h' (s.heap.objs.size+4) (s.heap.objs.size+2) (s.heap.objs.size+3) .none→IsPair h' (s.heap.objs.size+2) (.ref s.heap.objs.size) (.ref (s.heap.objs.size+1)) →
   IsPair h' (s.heap.objs.size+3) .none .none→h'.IsTupleIter s.heap.objs.size a 0→h'.IsTupleIter (s.heap.objs.size+1) b 0→h'.objs.size=s.heap.objs.size+5 →
   (∀ c o,s.heap.get? c=some o→h'.get? c=some o)→Q (.ref (s.heap.objs.size+4)) { s with heap:=h' }) :
  wpAny (model prog w) A (call (.type "zip") [.ref a,.ref b]) Q E s:=by
 refine callType_new F.called_zip (by decide) (F.typeCall_zip_2 _ _) (F.newCall_zip_2 _ _) (fun obj=>F.args_object_init_3 obj _ _) F.entry_zip_new (z5V a b xs ys) ⟨hl1,hl2,?_⟩
 have e1:(zt1 s.heap a).objs.size=s.heap.objs.size+1:=Heap.size_push ..
 have e2:(zt2 s.heap a b).objs.size=s.heap.objs.size+2:=by rw [Heap.size_push,e1]
 have e3:(zt3 s.heap a b).objs.size=s.heap.objs.size+3:=by rw [Heap.size_push,e2]
 have e4:(zt4 s.heap a b).objs.size=s.heap.objs.size+4:=by rw [Heap.size_push,e3]
 have e5:(zt5 s.heap a b).objs.size=s.heap.objs.size+5:=by rw [Heap.size_push,e4]
 have p:∀ {h:Heap} {o u:Obj} {c:Addr},h.get? c=some u→(h.push o).get? c=some u:=fun e=>Heap.get?_push_of_some _ e
 have g5:(zt5 s.heap a b).get? (zt4 s.heap a b).objs.size=some _:=Heap.get?_push_size _ rfl
 have g4:(zt5 s.heap a b).get? (zt3 s.heap a b).objs.size=some _:=p (Heap.get?_push_size _ rfl)
 have g3:(zt5 s.heap a b).get? (zt2 s.heap a b).objs.size=some _:=p (p (Heap.get?_push_size _ rfl))
 have g2:(zt5 s.heap a b).get? (zt1 s.heap a).objs.size=some _:=p (p (p (Heap.get?_push_size _ rfl)))
 have g1:(zt5 s.heap a b).get? s.heap.objs.size=some _:=p (p (p (p (Heap.get?_push_size _ rfl))))
 show _∧_
 rw [e2,e3,e4] at g5
 rw [e1,e2] at g3
 rw [e3] at g4
 rw [e1] at g2
 rw [e4]
 exact ⟨⟨_,g5,rfl⟩,h _ g5 g3 g4 ⟨_,g1,rfl,rfl⟩ ⟨_,g2,rfl,rfl⟩ e5 fun c o x=>p (p (p (p (p x))))⟩
end
def zgb (K:PySem.W.Frag) (a b:Addr):It :=
 ⟨fun i H=>∃ xs ys x y,SqT K H a xs∧SqT K H b ys∧xs[i]?=some x∧ys[i]?=some y,
  fun i H v H'=>∃ p x y,v=.ref p∧H p=none∧(∀ xs,SqT K H a xs→xs[i]?=some x)∧(∀ ys,SqT K H b ys→ys[i]?=some y)∧H'=upd H p (.tup [x,y]),
  fun i H=>∃ xs ys,SqT K H a xs∧SqT K H b ys∧xs.length=i∧ys.length=i⟩
section
variable {X:Cx} {elts:List Expr} {tk:Nat} {tp:Pos}
theorem zbl {P:Program} {w:World} {K:PySem.W.Frag} (a b z TI TO i1 i2:Addr) (D:TI≠z∧TO≠z∧i1≠z∧i2≠z∧TI≠TO∧TI≠i1∧TI≠i2∧TO≠i1∧TO≠i2∧i1≠i2) (aT:a≠TO) (bT:b≠TO) :
  zcP P w K (.Tuple elts tk tp) (zgb K a b) [z,TI,TO,i1,i2] z (fun i h=>IsZip h z TI TO .none∧IsPair h TI (.ref i1) (.ref i2)∧(∃ u v,IsPair h TO u v)∧h.IsTupleIter i1 a i∧h.IsTupleIter i2 b i) where
 mem:=by simp
 obj:=fun i h st c hc=>by
  obtain ⟨hz,hTI,⟨u,v,hTO⟩,⟨o1,e1,c1,d1⟩,⟨o2,e2,c2,d2⟩⟩:=st
  simp at hc
  rcases hc with q | q | q | q | q
  ·rw [q];exact ⟨_,hz,fun v z=>by cases z⟩
  ·rw [q];exact ⟨_,hTI,fun v z=>by cases z⟩
  ·rw [q];exact ⟨_,hTO,fun v z=>by cases z⟩
  ·rw [q];exact ⟨_,e1,fun v z=>by rw [d1] at z;cases z⟩
  ·rw [q];exact ⟨_,e2,fun v z=>by rw [d2] at z;cases z⟩
 keep:=fun i h h' st k=>by
  obtain ⟨hz,hTI,⟨u,v,hTO⟩,⟨o1,e1,c1⟩,⟨o2,e2,c2⟩⟩:=st
  exact ⟨k z (by simp) _ hz,k TI (by simp) _ hTI,⟨u,v,k TO (by simp) _ hTO⟩,⟨o1,k i1 (by simp) _ e1,c1⟩,⟨o2,k i2 (by simp) _ e2,c2⟩⟩
 item:=by
  intro X hP hw hK hc i pins s σ H E I hf st hg
  subst hP hw hK
  obtain ⟨hz,hTI,⟨u,v,hTO⟩,h1,h2⟩:=st
  obtain ⟨xs,ys,x,y,hxs,hys,hx,hy⟩:=hg
  obtain ⟨its,rv,p,_⟩:=I.tuple hxs
  obtain ⟨itt,rw',p',_⟩:=I.tuple hys
  obtain ⟨ux,hux,rux⟩:=rv.get hx
  obtain ⟨uy,huy,ruy⟩:=rw'.get hy
  obtain ⟨d1,d2,d3,d4,d5,d6,d7,d8,d9,d10⟩:=D
  have Da:∀ {l:Addr} {its:Array Value},s.heap.IsTuple l its→l≠z∧l≠i1∧l≠i2:=fun {l its} hl=>by
   obtain ⟨o,e,c,_⟩:=hl
   obtain ⟨o1,e1,c1,_⟩:=id h1
   obtain ⟨o2,e2,c2,_⟩:=id h2
   exact ⟨z22 e hz c rfl (by decide),z22 e e1 c c1 (by decide),z22 e e2 c c2 (by decide)⟩
  obtain ⟨a1,a3,a4⟩:=Da p
  obtain ⟨b1,b3,b4⟩:=Da p'
  have D1:=z3h (prog:=X.prog) (w:=X.w) (A:=X.A.in1) (I.ok.hd hc) i1 a a3 its.toArray
  have D2:=z3h (prog:=X.prog) (w:=X.w) (A:=X.A.in1) (I.ok.hd hc) i2 b b4 itt.toArray
  have Z:ZA z TI TO i1 i2 [i1,a] [i2,b]:=⟨d1,d2,d3,d4,d5,d6,d7,d8,d9,d10,by simp [Ne.symm d3,Ne.symm a1],by simp [d8,Ne.symm aT],by simp [Ne.symm d10,Ne.symm a4],by simp [Ne.symm d4,Ne.symm b1],by simp [d9,Ne.symm bT],by simp [d10,Ne.symm b3]⟩
  have l1:i < its.toArray.size:=by have:=(zGs.mp hux).1;simpa using this
  have l2:i < itt.toArray.size:=by have:=(zGs.mp huy).1;simpa using this
  have hT:s.TypeIs (.ref z) "zip":=⟨_,hz,rfl⟩
  unfold pyNext
  refine wpAny_bind (wpAny_attempt (wpAny_callSpecial?_slot (name:=Str.ofString "__next__") hT F.slot_zip_next (wpAny_call_entry F.slot_zip_next hT F.entry_zip_next
   (zad D1 D2 Z hz hTI hTO ⟨h1,p⟩ ⟨h2,p'⟩ l1 l2 fun x' y' h' tk px py q1 q2 q3 q4 q5 hk=>wpAny_pure ?_) (F.args_zip_next_1 _))))
  have ex:x'=ux:=by
   have e1:its.toArray[i]?=some ux:=by simpa using hux
   rw [e1] at px;exact (Option.some.inj px).symm
  have ey:y'=uy:=by
   have e1:itt.toArray[i]?=some uy:=by simpa using huy
   rw [e1] at py;exact (Option.some.inj py).symm
  subst ex ey
  refine ⟨_,rfl,wpAny_letOwnedTupleGo_zip q1 fun h2' hz2 hs2=>?_⟩
  have zlt:z < s.heap.objs.size:=Heap.lt_size hz
  have kk:∀ c o,c∉[z,TO,i1,i2]→s.heap.get? c=some o→h2'.get? c=some o:=fun c o hc q=>by
   simp at hc
   exact (hs2.2 c hc.1).trans (hk c o hc.1 hc.2.1 hc.2.2.1 hc.2.2.2 q)
  have sub:∀ c∈[z,TO,i1,i2],c∈[z,TI,TO,i1,i2]:=fun c hc=>by simp at hc ⊢;rcases hc with q | q | q | q<;>simp [q]
  have I1:Inv X pins σ (upd H s.heap.objs.size (.tup [x,y])) { s with heap:=h2',toks:=tk }:=by
   refine I.turnedNew (ch:=[z,TO,i1,i2]) kk (Nat.le_refl _) ?_ (fun c hc=>hf c (sub c hc))
   exact ⟨by show 2≤sizeLine;decide,[x',y'],0,.cons rux (.cons ruy .nil),(hs2.2 _ (Nat.ne_of_gt zlt)).trans q5⟩
  have up:∀ {c:Addr} {o:Obj},c≠z→h'.get? c=some o→h2'.get? c=some o:=fun {c o} hc q=>(hs2.2 c hc).trans q
  obtain ⟨⟨o3,e3,c3⟩,_⟩:=q3
  obtain ⟨⟨o4,e4,c4⟩,_⟩:=q4
  refine ⟨.ref s.heap.objs.size,_,I1,rfl,⟨s.heap.objs.size,x,y,rfl,I.fresh,fun zs hz'=>by rw [I.tuple_inj hz' hxs];exact hx,fun zs hz'=>by rw [I.tuple_inj hz' hys];exact hy,rfl⟩,⟨hz2,?_,⟨_,_,up d2 q2⟩,⟨o3,up d3 e3,c3⟩,⟨o4,up d4 e4,c4⟩⟩,fun c hc=>?_⟩
  ·exact up d1 (hk TI _ d1 d5 d6 d7 hTI)
  ·have c0:=(hf c hc).1
   have lt:c < s.heap.objs.size:=by
    obtain ⟨o1,e1,_⟩:=id h1
    obtain ⟨o2,e2,_⟩:=id h2
    simp at hc
    rcases hc with q | q | q | q | q
    ·rw [q];exact zlt
    ·rw [q];exact Heap.lt_size hTI
    ·rw [q];exact Heap.lt_size hTO
    ·rw [q];exact Heap.lt_size e1
    ·rw [q];exact Heap.lt_size e2
   rw [z07 (Nat.ne_of_lt lt)];exact c0
 done:=by
  intro X hP hw hK hc i pins s σ H E I hf st hg
  subst hP hw hK
  obtain ⟨hz,hTI,⟨u,v,hTO⟩,h1,h2⟩:=st
  obtain ⟨xs,ys,hxs,hys,hx,hy⟩:=hg
  obtain ⟨its,rv,p,_⟩:=I.tuple hxs
  obtain ⟨itt,rw',p',_⟩:=I.tuple hys
  obtain ⟨d1,d2,d3,d4,d5,d6,d7,d8,d9,d10⟩:=D
  have Da:∀ {l:Addr} {its:Array Value},s.heap.IsTuple l its→l≠z∧l≠i1∧l≠i2:=fun {l its} hl=>by
   obtain ⟨o,e,c,_⟩:=hl
   obtain ⟨o1,e1,c1,_⟩:=id h1
   obtain ⟨o2,e2,c2,_⟩:=id h2
   exact ⟨z22 e hz c rfl (by decide),z22 e e1 c c1 (by decide),z22 e e2 c c2 (by decide)⟩
  obtain ⟨a1,a3,a4⟩:=Da p
  obtain ⟨b1,b3,b4⟩:=Da p'
  have l1:=rv.length
  have D1:=z3h (prog:=X.prog) (w:=X.w) (A:=X.A.in1) (I.ok.hd hc) i1 a a3 its.toArray
  have Z:ZA z TI TO i1 i2 [i1,a] [i2,b]:=⟨d1,d2,d3,d4,d5,d6,d7,d8,d9,d10,by simp [Ne.symm d3,Ne.symm a1],by simp [d8,Ne.symm aT],by simp [Ne.symm d10,Ne.symm a4],by simp [Ne.symm d4,Ne.symm b1],by simp [d9,Ne.symm bT],by simp [d10,Ne.symm b3]⟩
  have hT:s.TypeIs (.ref z) "zip":=⟨_,hz,rfl⟩
  have ei:i=its.toArray.size:=by simp;lia
  unfold pyNext
  refine wpAny_bind (wpAny_attempt (wpAny_callSpecial?_slot (name:=Str.ofString "__next__") hT F.slot_zip_next (wpAny_call_entry F.slot_zip_next hT F.entry_zip_next
   (zbA D1 Z hz hTI hTO ⟨ei ▸ h1,p⟩ fun h' e hk he=>?_) (F.args_zip_next_1 _))))
  obtain ⟨o,ho,hcl⟩:=he
  refine wpAny_bind (wpAny_isInstance (T:="StopIteration") (b:=true) ⟨o,ho,hcl⟩ isSubtype_stop (wpAny_pure ⟨rfl,?_⟩))
  refine I.turnedL (ch:=[z,TO,i1,i2]) (t':=s.toks) (fun c o hcc q=>?_) (fun c hcc=>hf c ?_)
  ·simp at hcc
   exact hk c o hcc.1 hcc.2.1 hcc.2.2.1 hcc.2.2.2 q
  ·simp at hcc ⊢;rcases hcc with q | q | q | q<;>simp [q]
 self:=fun A i s Q E st h=>wpAny_pyIter_zip st.1 h
def zfW (K:PySem.W.Frag) (ta:TA):TI:=fun σ H R=>ta σ H fun vs H1=>∃ a b:Addr,vs=[.ref a,.ref b]∧(∃ xs,SqT K H1 a xs)∧(∃ ys,SqT K H1 b ys)∧R (zgb K a b) H1
theorem zdP {a b:Expr} {ta:TA} {p pos:Pos} (hg:Gl X "zip") (hm:X.mg "zip"=none) (ha:PA X [a,b] ta) (hs:starEach [a,b] X.env=[(false,eval a X.env),(false,eval b X.env)]:=by rfl) (hs2:starEach [b] X.env=[(false,eval b X.env)]:=by rfl) :
  PI X (.Tuple elts tk tp) (.Call (.Name "zip" p) [a,b] [] pos) (zfW X.K ta):=by
 intro pins s σ H R I h
 refine Call_ (z5v I hg hm boot_zip (PyProof.Rows.callWith_type1 (thn (ha pos pins s σ H _ I h) fun us s1 hz8=>?_) (by rw [hs,hs2]) (by rw [hs2];rfl)))
 obtain ⟨vs,H1,I1,r1,q1⟩:=hz8
 obtain ⟨a,b,e,⟨xs,hq⟩,⟨ys,hq'⟩,q⟩:=q1
 subst e
 obtain ⟨u,v,rfl,ru,rv'⟩:=zbI r1
 cases ru
 cases rv'
 obtain ⟨its,rv,pl,hz⟩:=I1.tuple hq
 obtain ⟨its2,rv2,pl2,hz2⟩:=I1.tuple hq'
 have lt:∀ {l:Addr} {its:Array Value},s1.heap.IsTuple l its→l < s1.heap.objs.size:=fun ⟨o,e,_⟩=>Heap.lt_size e
 have la:=lt pl
 have lb:=lt pl2
 refine z6Z pl pl2 fun h' z1 z2 z3 z4 z5 z6 hk=>wpAny_pyIter_zip z1 ?_
 have I2:Inv X pins σ H1 { s1 with heap:=h' }:=I1.kept (t':=s1.toks) hk
 refine ⟨s1.heap.objs.size+4,[s1.heap.objs.size+4,s1.heap.objs.size+2,s1.heap.objs.size+3,s1.heap.objs.size,s1.heap.objs.size+1],_,_,H1,rfl,I2,
  zbl a b (s1.heap.objs.size+4) (s1.heap.objs.size+2) (s1.heap.objs.size+3) s1.heap.objs.size (s1.heap.objs.size+1) (by refine ⟨?_,?_,?_,?_,?_,?_,?_,?_,?_,?_⟩<;>(show @Ne Nat _ _;lia)) (Nat.ne_of_lt (Nat.lt_trans la (by lia))) (Nat.ne_of_lt (Nat.lt_trans lb (by lia))),⟨z1,z2,⟨_,_,z3⟩,z4,z5⟩,fun c hb=>?_,q⟩
 have hb':s1.heap.objs.size≤c:=by
  simp only [List.mem_cons,List.not_mem_nil,or_false] at hb
  rcases hb with q | q | q | q | q<;>(have q:@Eq Nat c _:=q;lia)
 exact I1.fpOk hb' (I1.hok.fresh hb')
end
theorem zbn {K:PySem.W.Frag} {a b l:Addr} {xs zs:List V} {ix:List (Option Nat)} {g:TG} {te:TE} {σ:St} {H0:Hp} {Qe:Hp→Prop} (hlen:xs.length=zs.length) (Pv:Nat→List V→Hp→Prop) (h0:Pv 0 [] H0) (hl:∀ i ys H,i≤xs.length→Pv i ys H→SqT K H a xs∧SqT K H b zs) (hz:xs.length≤sizeLine)
  (hn:∀ i ys H,Pv i ys H→ys.length=i)
  (hs:∀ i x y p ys H,xs[i]?=some x→zs[i]?=some y→Pv i ys H→H l=some (.lst ys)→H p=none→g (.ref p) (z1l ix σ) (upd H p (.tup [x,y])) fun σ2 H2=>te σ2 H2 fun v H3=>H3 l=some (.lst ys)∧Pv (i+1) (ys++[v]) (upd H3 l (.lst (ys++[v]))))
  (hd:∀ ys H,Pv xs.length ys H→H l=some (.lst ys)→Qe H):z6y ix (zgb K a b) g te σ l H0 Qe:=by
 refine z4V (n:=xs.length) Pv h0 (fun i ys H hi p hy=>?_) fun ys H p hy=>⟨⟨xs,zs,(hl _ ys H (Nat.le_refl _) p).1,(hl _ ys H (Nat.le_refl _) p).2,rfl,hlen.symm⟩,hd ys H p hy⟩
 obtain ⟨q,q'⟩:=hl i ys H (Nat.le_of_lt hi) p
 refine ⟨⟨xs,zs,xs[i],zs[i]'(by lia),q,q',by simp [hi],by simp [show i < zs.length by lia]⟩,by rw [hn i ys H p];exact Nat.lt_of_lt_of_le hi hz,fun x H' y=>?_⟩
 obtain ⟨c,z,z',rfl,hb,hz,hz',rfl⟩:=y
 exact hs i z z' c ys H (hz xs q) (hz' zs q') p hy hb
end L2
namespace Gu
open PySem L2
def pr (m:Nat) (i:Int):D:=.tup [.int (i / (m:Int)),.int (i % (m:Int))]
theorem zaa (m:Nat) (x y:Int) (e:pr m x=pr m y):x=y:=by
 unfold pr at e
 injection e with e
 injection e with e1 e2
 injection e1 with e1
 injection e2 with e2 _
 injection e2 with e2
 have h1:=Int.mul_ediv_add_emod x (m:Int)
 have h2:=Int.mul_ediv_add_emod y (m:Int)
 rw [←h1,←h2,e1,e2]
theorem z3O (m:Nat) (i:Int):D.key (pr m i)∧D.dep (pr m i)≤8∧∃ es,pr m i=.tup es:=by
 unfold pr
 refine ⟨?_,?_,_,rfl⟩
 ·simp only [D.key,D.keyL];exact ⟨trivial,trivial,trivial⟩
 ·simp only [D.dep,D.depL];decide
theorem z6o (m:Nat):∀ o:List Int,D.keyL (o.map (pr m))
 | []=>by simp only [List.map_nil,D.keyL]
 | i::o=>by simp only [List.map_cons,D.keyL];exact ⟨(z3O m i).1,z6o m o⟩
theorem zd2 {K:PySem.W.Frag} {H:Hp} {m:Nat} {i:Int} {v:V} (h:Dr K H (pr m i) v):∃ a,v=.ref a∧H a=some (.tup [.int (i / (m:Int)),.int (i % (m:Int))]):=by
 unfold pr at h
 simp only [Dr,DrL] at h
 obtain ⟨a,vs,e,s,x,l,rfl,hx,y,l',rfl,hy,rfl⟩:=h
 subst hx hy
 exact ⟨a,e,s⟩
theorem zfN {K:PySem.W.Frag} {H:Hp} {m:Nat} {i:Int} {a:Addr} (h:H a=some (.tup [.int (i / (m:Int)),.int (i % (m:Int))])):Dr K H (pr m i) (.ref a):=by
 unfold pr
 exact Dr.tup h (DrL.cons (Dr.int _) (DrL.cons (Dr.int _) DrL.nil))
def zfm (m:Nat) (r:Row):D:=.tup [D.its r.1,.tup (r.2.map (pr m))]
theorem zcx {K:PySem.W.Frag} {H:Hp} {m:Nat} {r:Row} {v:V} (h:Dr K H (zfm m r) v):∃ a b c ws,v=.ref a∧H a=some (.tup [.ref b,.ref c])∧H b=some (.tup (r.1.map V.int))∧H c=some (.tup ws)∧DrL K H (r.2.map (pr m)) ws:=by
 unfold zfm at h
 simp only [Dr,DrL] at h
 obtain ⟨a,vs,rfl,e,x,l,rfl,hx,y,l',rfl,hy,rfl⟩:=h
 obtain ⟨b,us,rfl,eb,rb⟩:=hx
 obtain ⟨c,ws,rfl,ec,rc⟩:=hy
 have e1:=DrL.ints_inv rb
 subst e1
 exact ⟨a,b,c,ws,rfl,e,eb,ec,rc⟩
def z8i (K:PySem.W.Frag) (rows:List Row) (m:Nat):List V→Hp→VK→Prop:=fun vs H Q=>∃ (i:Int) (v:V),vs=[v]∧Dr K H (pr m i) v∧0≤i∧i < (rows.length:Int)∧z3p K H Q (zfm m (row rows i))
section
variable (P:Program) (w:World) (K:PySem.W.Frag) (mg:Str→Option Value) (base:Heap) (CX:CXT) (k:Nat)
def z84:Sp:=fun vs H Q _=>∃ (f:Addr) (v0:V) (n:Nat) (rows:List Row) (m:Nat),vs=[v0,.ref f]∧Dr K H (pr m 0) v0∧z2Y P w K mg base CX k H f (z8i K rows m)∧z0j n rows∧n≤60∧∀ (r:Addr) (H':Hp),z0f H H'→z32 K H' r (z0C rows)→Q (.ref r) H'
def z6j (Ct:Addr):Sp:=fun vs H Q E=>∃ (f:Addr) (v0:V) (n:Nat) (rows:List Row) (m:Nat),vs=[v0,.ref f]∧Dr K H (pr m 0) v0∧z2Y P w K mg base CX k H f (z8i K rows m)∧z0j n rows∧n≤60 ∧
 ((shr rows).length≤60→z3p K H Q (D.tup (z0l (shr rows))))∧(60 < (shr rows).length→TMx Ct E H)
end
end Gu
namespace Gu
open PySem L2
def zdk (m:Nat) (R S:Row):Row:=(z59 R.1 S.1,(List.range R.1.length).map fun k=>R.2.getD k 0*(m:Int)+S.2.getD (R.1.getD k 0).toNat 0)
def z1j (one other:List Row):List Row:=(z0r (one.length*other.length)).map fun i=>zdk other.length (row one (i / (other.length:Int))) (row other (i % (other.length:Int)))
theorem z3j (one other:List Row):(z1j one other).length=one.length*other.length:=by unfold z1j;rw [zLm,z0z]
theorem pix {one other:List Row} {i:Int} (h0:0≤i) (h1:i < ((one.length*other.length:Nat):Int)):(0≤i / (other.length:Int)∧i / (other.length:Int) < (one.length:Int))∧0≤i % (other.length:Int)∧i % (other.length:Int) < (other.length:Int):=by
 have hm:(0:Int) < (other.length:Int):=by
  rcases Nat.eq_zero_or_pos other.length with z | z
  ·rw [z,Nat.mul_zero] at h1;lia
  ·lia
 refine ⟨⟨Int.ediv_nonneg h0 (by lia),?_⟩,Int.emod_nonneg _ (by lia),Int.emod_lt_of_pos _ hm⟩
 refine Int.ediv_lt_of_lt_mul hm ?_
 rw [Int.natCast_mul] at h1
 exact h1
theorem z4B {one other:List Row} {i:Int} (h0:0≤i) (h1:i < ((one.length*other.length:Nat):Int)):row (z1j one other) i=zdk other.length (row one (i / (other.length:Int))) (row other (i % (other.length:Int))):=by
 unfold z1j
 show (List.map _ _).getD _ _=_
 rw [zGd,zGm,z1o h0 h1]
 rfl
theorem zco {n:Nat} {p q:List Int} (hp:IsP n p) (hq:IsP n q):IsP n (z59 p q):=by
 have h1:(z59 p q).Perm (z59 (z0r n) q):=by
  unfold z59
  exact List.Perm.map _ hp
 have h2:z59 (z0r n) q=q:=by
  unfold z59 z0r
  rw [List.map_map]
  refine List.ext_getElem (by rw [zLm,List.length_range,hq.len]) fun i i1 i2=>?_
  rw [List.getElem_map,List.getElem_range]
  show q.getD ((i:Int)).toNat 0=q[i]
  rw [show ((i:Int)).toNat=i by lia,zGd,zGe i2]
  rfl
 rw [h2] at h1
 exact h1.trans hq
theorem z88 {n m:Nat} {R S:Row} {N:Nat} (hR:IsP n R.1) (hRl:R.2.length=n) (hRg:∀ g∈R.2,0≤g∧g < (N:Int)) (hSl:S.2.length=n) (hSg:∀ g∈S.2,0≤g∧g < (m:Int)) {k:Nat} (hk:k < n) :
  ∃ (l:Nat) (g e:Int),R.1[k]?=some (l:Int)∧l < n∧R.2[k]?=some g∧S.2[l]?=some e∧R.2.getD k 0=g∧S.2.getD (R.1.getD k 0).toNat 0=e∧0≤g∧g < (N:Int)∧0≤e∧e < (m:Int):=by
 have hl:=hR.len
 have e1:R.1[k]?=some R.1[k]:=zGe (by lia)
 obtain ⟨l0,l1⟩:=z0H.mp (hR.mem_iff.mp (List.getElem_mem (show k < R.1.length by lia)))
 obtain ⟨l,hl'⟩:=z3l l0
 have e2:R.2[k]?=some R.2[k]:=zGe (by lia)
 have ll:l < n:=by lia
 have e3:S.2[l]?=some S.2[l]:=zGe (by lia)
 obtain ⟨g0,g1⟩:=hRg _ (List.getElem_mem (show k < R.2.length by lia))
 obtain ⟨s0,s1⟩:=hSg _ (List.getElem_mem (show l < S.2.length by lia))
 refine ⟨l,R.2[k],S.2[l],by rw [e1,hl'],ll,e2,e3,?_,?_,g0,g1,s0,s1⟩
 ·rw [zGd,e2];rfl
 ·rw [zGd (l:=R.1),e1]
  show S.2.getD (R.1[k]).toNat 0=_
  rw [hl',show ((l:Int)).toNat=l by lia,zGd,e3];rfl
theorem z93 {g e:Int} {N m:Nat} (g0:0≤g) (g1:g < (N:Int)) (e0:0≤e) (e1:e < (m:Int)):0≤g*(m:Int)+e∧g*(m:Int)+e < ((N*m:Nat):Int):=by
 have h1:0≤g*(m:Int):=Int.mul_nonneg g0 (by lia)
 have h2:(g+1)*(m:Int)≤(N:Int)*(m:Int):=Int.mul_le_mul_of_nonneg_right (by lia) (by lia)
 rw [Int.add_mul,Int.one_mul] at h2
 rw [Int.natCast_mul]
 lia
theorem z2W {n:Nat} {one other:List Row} (G:z0j n one) (G':z0j n other) (h4:one.length*other.length≤4000):z0j n (z1j one other):=by
 have h1:=G.some
 have h2:=G'.some
 have hm:∀ r∈z1j one other,∃ R∈one,∃ S∈other,r=zdk other.length R S:=fun r hr=>by
  unfold z1j at hr
  obtain ⟨i,hi,e⟩:=List.mem_map.mp hr
  obtain ⟨i0,i1⟩:=z0H.mp hi
  obtain ⟨⟨a0,a1⟩,b0,b1⟩:=pix (one:=one) (other:=other) i0 i1
  exact ⟨_,z0k a0 a1,_,z0k b0 b1,e.symm⟩
 refine ⟨by rw [z3j];exact h4,by rw [z3j];exact Nat.mul_pos h1 h2,fun r hr=>?_,fun r hr=>?_,fun r hr g hg=>?_⟩
 ·obtain ⟨R,hR,S,hS,rfl⟩:=hm r hr
  exact zco (G.perm R hR) (G'.perm S hS)
 ·obtain ⟨R,hR,S,hS,rfl⟩:=hm r hr
  show (List.map _ _).length=n
  rw [zLm,List.length_range,(G.perm R hR).len]
 ·obtain ⟨R,hR,S,hS,rfl⟩:=hm r hr
  obtain ⟨k,hk,rfl⟩:=List.mem_map.mp (show g∈(List.range R.1.length).map _ from hg)
  have hk':k < n:=by have:=List.mem_range.mp hk;rw [(G.perm R hR).len] at this;exact this
  obtain ⟨l,g',e,_,_,_,_,q1,q2,g0,g1,e0,e1⟩:=z88 (m:=other.length) (N:=one.length) (G.perm R hR) (G.len R hR) (G.go R hR) (G'.len S hS) (G'.go S hS) hk'
  rw [q1,q2,z3j]
  exact z93 g0 g1 e0 e1
theorem zgg {m:Nat} {g e:Int} (e0:0≤e) (e1:e < (m:Int)):pr m (g*(m:Int)+e)=.tup [.int g,.int e]:=by
 have hm:(0:Int) < (m:Int):=by lia
 unfold pr
 have q1:(g*(m:Int)+e) / (m:Int)=g:=by
  rw [Int.add_comm,Int.add_mul_ediv_right _ _ (by lia),Int.ediv_eq_zero_of_lt e0 e1];lia
 have q2:(g*(m:Int)+e) % (m:Int)=e:=by
  rw [Int.add_comm,Int.add_mul_emod_self_right,Int.emod_eq_of_lt e0 e1]
 rw [q1,q2]
def z6u (K:PySem.W.Frag):Sp:=fun vs H Q _=>∃ (a b:V) (p q:List Int),vs=[a,b]∧Dr K H (D.its p) a∧Dr K H (D.its q) b∧(∀ x∈p,0≤x∧x < (q.length:Int))∧p.length≤1000∧z3p K H Q (D.its (z59 p q))
def zaA (K:PySem.W.Frag):Sp:=fun vs H Q _=>∃ (v1 v2 v3:V) (n:Nat) (one other:List Row) (i:Int),vs=[v1,v2,v3]∧Dr K H (D.tup (z0l one)) v1∧Dr K H (D.tup (z0l other)) v2∧Dr K H (pr other.length i) v3∧z0j n one∧z0j n other∧n≤60∧0≤i∧i < ((one.length*other.length:Nat):Int)∧z3p K H Q (zfm other.length (row (z1j one other) i))
def z6d (Ts:List Tb) (K:PySem.W.Frag) (Ct:Addr):Sp:=fun vs H Q E=>∃ (v1 v2:V) (n:Nat) (one other:List Row),vs=[v1,v2]∧z3R Ts H∧Dr K H (D.tup (z0l one)) v1∧Dr K H (D.tup (z0l other)) v2∧z0j n one∧z0j n other∧n≤60∧one.length*other.length≤4000 ∧
 ((shr (z1j one other)).length≤60→z5u Ts K H Q (D.tup (z0l (shr (z1j one other)))))∧(60 < (shr (z1j one other)).length→zfx Ts Ct E H)
theorem zan {n:Nat} {p:List Int} (h:IsP n p) {k:Nat} (hk:k < n):∃ j:Nat,j < n∧(z2A p)[k]?=some (j:Int)∧p[j]?=some (k:Int):=by
 have hm:(k:Int)∈p:=h.mem_iff.mpr (z0H.mpr ⟨by lia,by lia⟩)
 have hlt:=List.idxOf_lt_length_of_mem hm
 refine ⟨p.idxOf (k:Int),by rw [h.len] at hlt;exact hlt,?_,?_⟩
 ·unfold z2A
  rw [zGm,h.len]
  have:=z1o (L:=n) (i:=(k:Int)) (by lia) (by lia)
  rw [Int.toNat_natCast] at this
  rw [this]
  rfl
 ·rw [zGe hlt,List.getElem_idxOf hlt]
theorem zcw {n:Nat} {p:List Int} (h:IsP n p):IsP n (z2A p):=by
 have e:=z5W h.nodup
 rw [h.len] at e
 unfold z2A
 rw [h.len]
 have q:((z0r n).map fun k=>((p.idxOf k:Nat):Int)).Perm (p.map fun k=>((p.idxOf k:Nat):Int)):=List.Perm.map _ (List.Perm.symm h)
 rw [e] at q
 exact q
def zaQ (r:Row):Row:=(z2A r.1,(z2A r.1).map fun l=>r.2.getD l.toNat 0)
def z37 (rows:List Row):List Row:=rows.map zaQ
theorem z1L (rows:List Row):(z37 rows).length=rows.length:=zLm _
theorem z4h {rows:List Row} {i:Int} (h0:0≤i) (h1:i < (rows.length:Int)):row (z37 rows) i=zaQ (row rows i):=by
 have:=z2p h0 h1
 unfold z37 row at *
 rw [zGd,zGm,this]
 rfl
theorem zaC {n:Nat} {r:Row} (hp:IsP n r.1) (hl:r.2.length=n) {k:Nat} (hk:k < n):∃ j:Nat,j < n∧(z2A r.1)[k]?=some (j:Int)∧r.1[j]?=some (k:Int)∧∃ g,r.2[j]?=some g∧(zaQ r).2[k]?=some g:=by
 obtain ⟨j,hj,e1,e2⟩:=zan hp hk
 have e3:r.2[j]?=some r.2[j]:=zGe (by lia)
 refine ⟨j,hj,e1,e2,r.2[j],e3,?_⟩
 unfold zaQ
 rw [zGm,e1]
 show some (r.2.getD ((j:Int)).toNat 0)=_
 rw [Int.toNat_natCast,zGd,e3]
 rfl
theorem z60 {n:Nat} {r:Row} (hp:IsP n r.1):(zaQ r).2.length=n:=by
 show (List.map _ _).length=n
 rw [zLm,z8b,hp.len]
theorem zbG {n:Nat} {r:Row} (hp:IsP n r.1) (hl:r.2.length=n) {g:Int} (hg:g∈(zaQ r).2):g∈r.2:=by
 obtain ⟨k,hk,e⟩:=List.getElem_of_mem hg
 rw [z60 hp] at hk
 obtain ⟨j,_,_,_,g',e3,e4⟩:=zaC hp hl hk
 rw [zGe (by rw [z60 hp];exact hk),e] at e4
 rw [Option.some.inj e4]
 exact List.mem_of_getElem? e3
theorem z2i {n:Nat} {rows:List Row} (G:z0j n rows):z0j n (z37 rows):=by
 refine ⟨by rw [z1L];exact G.few,by rw [z1L];exact G.some,fun r hr=>?_,fun r hr=>?_,fun r hr g hg=>?_⟩
 ·obtain ⟨q,hq,rfl⟩:=List.mem_map.mp hr
  exact zcw (G.perm q hq)
 ·obtain ⟨q,hq,rfl⟩:=List.mem_map.mp hr
  exact z60 (G.perm q hq)
 ·obtain ⟨q,hq,rfl⟩:=List.mem_map.mp hr
  rw [z1L]
  exact G.go q hq g (zbG (G.perm q hq) (G.len q hq) hg)
theorem zbR {n:Nat} {M:List Row} (G:z0j n M) (h:∀ x∈z0d M,(row M x).1=z0r n):shr M=[(z0r n,List.replicate n 0)]:=by
 have GS:z0j n [(z0r n,List.replicate n (0:Int))]:=⟨by simp,by simp,fun r hr=>by rw [List.mem_singleton.mp hr];exact z8h n,fun r hr=>by rw [List.mem_singleton.mp hr];simp,fun r hr g hg=>by
  rw [List.mem_singleton.mp hr] at hg
  have:=(List.mem_replicate.mp (show g∈List.replicate n (0:Int) from hg)).2
  rw [this];simp⟩
 have e:=z58 (M':=M) (M:=[(z0r n,List.replicate n (0:Int))]) (h:=fun _=>0) G GS rfl fun x hx=>?_
 ·rw [e,←z4R GS]
  exact z9D GS fun r hr=>by rw [List.mem_singleton.mp hr]
 ·obtain ⟨x0,x1⟩:=(z0s G).1.rg x hx
  show (z0r n,List.replicate n (0:Int))=_
  rw [h x hx]
  refine Prod.ext rfl ?_
  show List.replicate n (0:Int)=(row M x).2.map fun _=>0
  rw [List.map_const',G.len _ (z0k x0 x1)]
theorem z9U {n:Nat} {one:List Row} (G:z0j n one) (h4:one.length*(shr (z37 one)).length≤4000):shr (z1j one (shr (z37 one)))=[(z0r n,List.replicate n 0)]:=by
 have GA:=z2i G
 have GF:=z26 GA
 obtain ⟨h,hz,mo⟩:=z8V GA
 have GP:=z2W G GF h4
 have C:=z2u GA
 have L:=(z0s GA).1
 have pt:∀ x∈z0d (z37 one),∃ i0:0≤x*((shr (z37 one)).length:Int)+h x,row (z1j one (shr (z37 one))) (x*((shr (z37 one)).length:Int)+h x)=zdk (shr (z37 one)).length (row one x) (row (shr (z37 one)) (h x)):=fun x hx=>by
  obtain ⟨x0,x1⟩:=L.rg x hx
  rw [z1L] at x1
  obtain ⟨f0,f1⟩:=zdB GA GF hz mo hx
  obtain ⟨i0,i1⟩:=z93 x0 x1 f0 f1
  refine ⟨i0,?_⟩
  rw [z4B i0 i1]
  have hm:(0:Int) < ((shr (z37 one)).length:Int):=by lia
  have q1:(x*((shr (z37 one)).length:Int)+h x) / ((shr (z37 one)).length:Int)=x:=by
   rw [Int.add_comm,Int.add_mul_ediv_right _ _ (by lia),Int.ediv_eq_zero_of_lt f0 f1];lia
  have q2:(x*((shr (z37 one)).length:Int)+h x) % ((shr (z37 one)).length:Int)=h x:=by
   rw [Int.add_comm,Int.add_mul_emod_self_right,Int.emod_eq_of_lt f0 f1]
  rw [q1,q2]
 have cl:=(z4a GP).all (C:=fun i=>∃ x∈z0d (z37 one),i=x*((shr (z37 one)).length:Int)+h x) (fun i hi g hg=>?_) (fun i hi=>?_)
 ·refine zbR GP fun i hi=>?_
  obtain ⟨x,hx,rfl⟩:=cl i hi
  obtain ⟨_,e⟩:=pt x hx
  rw [e]
  obtain ⟨x0,x1⟩:=L.rg x hx
  rw [z1L] at x1
  show z59 (row one x).1 (row (shr (z37 one)) (h x)).1=z0r n
  rw [mo x hx,z4h x0 x1]
  exact za9 (G.perm _ (z0k x0 x1))
 ·obtain ⟨x,hx,rfl⟩:=hi
  obtain ⟨_,e⟩:=pt x hx
  rw [e] at hg
  obtain ⟨x0,x1⟩:=L.rg x hx
  rw [z1L] at x1
  have hr:=z0k x0 x1
  have hp:=G.perm _ hr
  have hl:=G.len _ hr
  obtain ⟨k,hk,rfl⟩:=List.mem_map.mp (show g∈(List.range (row one x).1.length).map _ from hg)
  have hk':k < n:=by have:=List.mem_range.mp hk;rw [hp.len] at this;exact this
  have hpl:=hp.len
  have e1:(row one x).1[k]?=some (row one x).1[k]:=zGe (by rw [hp.len];exact hk')
  obtain ⟨l0,l1⟩:=z0H.mp (hp.mem_iff.mp (List.getElem_mem (show k < (row one x).1.length by rw [hp.len];exact hk')))
  obtain ⟨l,hl'⟩:=z3l l0
  obtain ⟨j,_,e2,e3,y,e4,e5⟩:=zaC hp hl (show l < n by lia)
  have hb:=z92 hp e1
  rw [hl',Int.toNat_natCast,e2] at hb
  have ejk:j=k:=by have:=Option.some.inj hb;lia
  subst ejk
  refine ⟨y,C.cl x hx y ?_,?_⟩
  ·rw [z4h x0 x1];exact List.mem_of_getElem? e5
  ·rw [mo x hx,z4h x0 x1]
   show (row one x).2.getD j 0*_+((zaQ (row one x)).2.map h).getD ((row one x).1.getD j 0).toNat 0=_
   rw [zGd (l:=(row one x).2),e4,zGd (l:=(row one x).1),e1]
   show y*_+((zaQ (row one x)).2.map h).getD ((row one x).1[j]).toNat 0=_
   rw [hl',Int.toNat_natCast,zGd,zGm,e5]
   rfl
 ·rw [List.mem_singleton.mp hi]
  exact ⟨0,C.zero,by rw [hz];lia⟩
def z6A (K:PySem.W.Frag):Sp:=fun vs H Q _=>∃ (a:V) (p:List Int) (n:Nat),vs=[a]∧Dr K H (D.its p) a∧IsP n p∧n≤1000∧z3p K H Q (D.its (z2A p))
def z4i (K:PySem.W.Frag):Sp:=fun vs H Q _=>∃ (v:V) (r:Row) (n:Nat),vs=[v]∧Dr K H (z5i r) v∧IsP n r.1∧r.2.length=n∧n≤60∧z3p K H Q (z5i (zaQ r))
def zax (Ts:List Tb) (K:PySem.W.Frag) (Ct:Addr):Sp:=fun vs H Q E=>∃ (v:V) (n:Nat) (one:List Row),vs=[v]∧z3R Ts H∧Dr K H (D.tup (z0l one)) v∧z0j n one∧n≤60 ∧
 ((shr (z37 one)).length≤60→z5u Ts K H Q (D.tup (z0l (shr (z37 one)))))∧(60 < (shr (z37 one)).length→zfx Ts Ct E H)
def z1b (M:List Row):Int→List Int→List Int
 | _,[]=>[]
 | x,l::w=>(row M x).1.getD l.toNat 0::z1b M ((row M x).2.getD l.toNat 0) w
theorem z4g (M:List Row):∀ (w:List Int) (x:Int),(z1b M x w).length=w.length
 | [],_=>rfl
 | _::w,x=>by show (z1b M _ w).length+1=w.length+1;rw [z4g M w]
theorem z6t (M:List Row):∀ (w w':List Int) (x:Int),z1b M x (w++w')=z1b M x w++z1b M (goW M x w) w'
 | [],_,_=>rfl
 | l::w,w',x=>by show _::z1b M _ (w++w')=_::(z1b M _ w++z1b M (goW M _ w) w');rw [z6t M w w']
theorem z7u {n:Nat} {M:List Row} (G:z0j n M):∀ (w:List Int) (x:Int),LW n w→0≤x→x < (M.length:Int)→LW n (z1b M x w)
 | [],_,_,_,_=>fun _ h=>by simp [z1b] at h
 | l::w,x,hw,h0,h1=>fun y hy=>by
  obtain ⟨l0,l1⟩:=hw l List.mem_cons_self
  have hm:=z0k h0 h1
  have hi:l.toNat < (row M x).2.length:=by rw [G.len _ hm];lia
  have hp:=G.perm _ hm
  have hi1:l.toNat < (row M x).1.length:=by rw [hp.len];lia
  rcases List.mem_cons.mp hy with rfl | hy
  ·rw [zGd,zGe hi1]
   exact z0H.mp (hp.mem_iff.mp (List.getElem_mem hi1))
  ·have hg:0≤(row M x).2.getD l.toNat 0∧(row M x).2.getD l.toNat 0 < (M.length:Int):=by
    rw [zGd,zGe hi]
    exact G.go _ hm _ (List.getElem_mem hi)
   exact z7u G w _ hw.tail hg.1 hg.2 y hy
def z5Y (K:PySem.W.Frag):Sp:=fun vs H Q _=>∃ (v u:V) (rows:List Row) (n:Nat) (w:List Int) (s:Int),vs=[v,.int s,u]∧Dr K H (D.tup (z0l rows)) v∧Dr K H (D.its w) u∧z0j n rows∧n≤60∧w.length≤4900∧LW n w∧0≤s∧s < (rows.length:Int) ∧
 ∀ (r t:Addr) (H':Hp),z0f H H'→H' r=some (.tup [.ref t,.int (goW rows s w)])→H' t=some (.tup ((z1b rows s w).map V.int))→Q (.ref r) H'
def z9I (Ts:List Tb) (K:PySem.W.Frag):Sp:=fun vs H Q _=>∃ (v:V) (rows:List Row) (n:Nat) (g:Int),vs=[v,.int g]∧z3R Ts H∧Dr K H (D.tup (z0l rows)) v∧z0j n rows∧n≤60∧rows.length≤60∧0≤g∧g < (rows.length:Int)∧z5u Ts K H Q (D.tup (z0l (shr (swM rows g))))
def z9V (K:PySem.W.Frag) (Ct:Addr):Sp:=fun vs H Q E=>∃ (v u:V) (rows:List Row) (n:Nat) (w:List Int),vs=[v,u]∧Dr K H (D.tup (z0l rows)) v∧Dr K H (D.its w) u∧z0j n rows∧n≤60∧w.length≤4900∧(LW n w→∀ (t:Addr) (H':Hp),z0f H H'→H' t=some (.tup ((z1b rows 0 w).map V.int))→Q (.ref t) H')∧(¬ LW n w→TMx Ct E H)
end Gu
namespace L2
open PySem PySem.Spec PyProof.Rows
section
variable {M:Model} {A:Around} {E:Value→Shared→Prop}
variable {nm q:Str} {C N:Addr} {bs bm:List Value} {hdct:Bool} {sn:List Str} {sub:List Value} {ab:Bool} {col:Option Bool} {dd:Option Addr} {k0 k1 k2 k3 k5:Option Value} {newId:String}
variable {nm' q':Str} {C' N':Addr} {bs' bm':List Value} {hdct':Bool} {sn':List Str} {sub':List Value} {ab':Bool} {col':Option Bool} {dd':Option Addr} {k0' k1' k2' k3' k5':Option Value} {newId':String}
end
end L2
namespace Gu
open PySem L2
theorem dvm {m:Nat} {g e:Int} (e0:0≤e) (e1:e < (m:Int)):(g*(m:Int)+e) / (m:Int)=g∧(g*(m:Int)+e) % (m:Int)=e:=by
 have hm:(0:Int) < (m:Int):=by lia
 constructor
 ·rw [Int.add_comm,Int.add_mul_ediv_right _ _ (by lia),Int.ediv_eq_zero_of_lt e0 e1];lia
 ·rw [Int.add_comm,Int.add_mul_emod_self_right,Int.emod_eq_of_lt e0 e1]
theorem z8g {f:Int→Int} {l:List Int} {k:Nat} (h:k < l.length):(l.map f).getD k 0=f (l.getD k 0):=by
 rw [zGd,zGd,zGm,zGe h]
 rfl
def z8m (n:Nat):List Row:=[(z0r n,List.replicate n 0)]
theorem zau {p q:List Int} {k:Nat} (h:k < p.length):(z59 p q).getD k 0=q.getD (p.getD k 0).toNat 0:=by
 unfold z59
 rw [z8g (f:=fun x=>q.getD x.toNat 0) h]
theorem zbk {m:Nat} {R S:Row} {k:Nat} (h:k < R.1.length):(zdk m R S).2.getD k 0=R.2.getD k 0*(m:Int)+S.2.getD (R.1.getD k 0).toNat 0:=by
 show (List.map _ (List.range R.1.length)).getD k 0=_
 rw [zGd,zGm,List.getElem?_range h]
 rfl
theorem zeY {L:Nat} {k:Nat} (h:k < L):(z0r L)[k]?=some (k:Int):=by
 have:=z1o (L:=L) (i:=(k:Int)) (by lia) (by lia)
 rw [Int.toNat_natCast] at this
 exact this
theorem z8l:∀ (X Y:List Row),D.okL (z0l X) (z0l Y)
 | [],[]=>by simp [z0l,D.okL]
 | [],_::_=>by simp [z0l,D.okL]
 | _::_,[]=>by simp [z0l,D.okL]
 | r::X,q::Y=>by
  simp only [z0l,List.map_cons,D.okL]
  refine ⟨?_,z8l X Y⟩
  unfold z5i
  simp only [D.ok,D.okL]
  exact ⟨z25 _ _,z25 _ _,trivial⟩
def pw (n:Nat) (one:List Row):Nat→List Row
 | 0=>z8m n
 | j+1=>shr (z1j (pw n one j) one)
end Gu
namespace L2
open PySem PySem.Spec PyProof.Rows
theorem z9Q (its:List Value):slicePick its.toArray none none (some (-1))=its.reverse.toArray:=by
 have eb:sliceBounds none none (some (-1)) its.toArray.size=((its.length:Int) - 1,-1,-1):=by
  simp only [sliceBounds,Option.getD_some,List.size_toArray]
  rfl
 unfold slicePick
 rw [eb]
 congr 1
 have h:=HT.fm_rev its its.length (Nat.le_refl _)
 rw [List.take_of_length_le (by rw [List.length_reverse];exact Nat.le_refl _)] at h
 rw [←h]
 have er:sliceRange ((its.length:Int) - 1) (-1) (-1)=(List.range its.length).map fun m=>its.length - 1 - m:=by
  have ec:(if ((its.length:Int) - 1) > -1 then (((its.length:Int) - 1) - -1 - -1 - 1) / (- -1) else 0)=(its.length:Int):=by
   by_cases hn:(its.length:Int) - 1 > -1
   ·rw [if_pos hn,show (- -1:Int)=1 by decide,Int.ediv_one];lia
   ·rw [if_neg hn];lia
  unfold sliceRange
  simp only [show ¬ ((-1:Int) > 0) by decide,if_false]
  rw [ec,Int.toNat_natCast]
  refine List.map_congr_left fun m hm=>?_
  lia
 show (sliceRange ((its.length:Int) - 1) (-1) (-1)).filterMap _=_
 rw [er,List.filterMap_map]
 refine HT.fm_congr fun m hm=>?_
 show its.toArray[its.length - 1 - m]?=_
 rw [List.getElem?_toArray]
section
variable {X:Cx} {e st:Expr} {te ts:TE} {pos p2:Pos}
def zfZ (K:PySem.W.Frag) (te ts:TE):TE:=fun σ H Q=>te σ H fun x H1=>ts σ H1 fun y H2=>y=.int (-1)∧∃ a xs,x=.ref a∧SqL K H2 a xs∧∀ p,H2 p=none→Q (.ref p) (upd H2 p (.lst xs.reverse))
theorem zdX (he:PE X e te) (hst:PE X st ts):PE X (.Subscript e (.Slice none none (some st) p2) pos) (zfZ X.K te ts):=by
 intro pins s σ H Q I h
 refine Subscript_ (z1B (he pins s σ H _ I h) fun v s1 x H1 I1 r1 q1=>?_)
 refine wpAny_Slice ?_
 rw [evalPart_none]
 refine wpAny_pure (wpAny_pure ?_)
 rw [evalPart_some]
 refine z1B (hst pins s1 σ H1 _ I1 q1) fun vt s2 y H2 I2 ry hz9=>?_
 obtain ⟨ey,a,xs,ex,hx,q⟩:=hz9
 subst ey ex
 obtain ⟨t,rfl⟩:=ry
 cases r1
 have I4:Inv X pins σ H2 { s2 with heap:=s2.heap.push { cls:=.type "slice",data:=.fields #[.none,.none,.int (-1) t] } }:=I2.kept (t':=s2.toks) fun b ob q=>Heap.get?_push_of_some _ q
 generalize hs5:({ s2 with heap:=s2.heap.push { cls:=.type "slice",data:=.fields #[.none,.none,.int (-1) t] } }:Shared)=s5 at I4
 have hsl:s5.heap.IsSliceOf s2.heap.objs.size .none .none (.int (-1) t):=by rw [←hs5];exact Heap.IsSliceOf.new ..
 obtain ⟨its,r,ht,hz⟩:=I4.list hx
 have hlen:its.toArray.size=xs.length:=by rw [List.size_toArray];exact r.length.symm
 have hg:wpAny (model X.prog X.w) X.A (getItem (.ref a) (.ref s2.heap.objs.size)) (EP X pins σ Q) X.xe s5:=by
  refine wpAny_getItem_list_slice ht.isList hsl .none .none (.int _ _) (by simp) ?_ (by rw [hlen];exact hz)
  rw [z9Q]
  refine ⟨.ref s5.heap.objs.size,_,I4.laid (t':=s5.toks) (o:=.lst xs.reverse) (fun b ob q=>Heap.get?_push_of_some _ q) (Nat.le_refl _) ?_,rfl,q _ (I4.hok.fresh (Nat.le_refl _))⟩
  exact ⟨by rw [List.length_reverse];exact hz,_,0,r.reverse,Heap.get?_push_size _ rfl⟩
 exact tail_any (ops:=[.ref a,.ref s2.heap.objs.size]) ht.isList.typeIs slot_list_getitem.lookup hg (by with_unfolding_all rfl)
end
end L2
namespace Gu
open PySem L2
def z31 (n:Int) (w:List Int):Int:=w.foldl (fun a l=>a*n+l) 0
theorem z3r (n:Int) (w:List Int) (l:Int):z31 n (w++[l])=z31 n w*n+l:=by
 unfold z31
 rw [List.foldl_append]
 rfl
def lit (n:Int):Nat→Int→List Int
 | 0,_=>[]
 | k+1,x=>x % n::lit n k (x / n)
def dvn (n:Int):Nat→Int→Int
 | 0,x=>x
 | k+1,x=>dvn n k (x / n)
theorem z8r (n:Int):∀ (k:Nat) (x:Int),dvn n (k+1) x=dvn n k x / n
 | 0,_=>rfl
 | k+1,x=>z8r n k (x / n)
theorem z8W (n:Int):∀ (k:Nat) (x:Int),lit n (k+1) x=lit n k x++[dvn n k x % n]
 | 0,_=>rfl
 | k+1,x=>by
  show x % n::lit n (k+1) (x / n)=x % n::(lit n k (x / n)++[dvn n k (x / n) % n])
  rw [z8W n k (x / n)]
theorem z86 (n:Int):∀ (k:Nat) (x:Int),(lit n k x).length=k
 | 0,_=>rfl
 | k+1,x=>by show (lit n k (x / n)).length+1=k+1;rw [z86 n k]
theorem z8Y {n:Int} (hn:0 < n):∀ (k:Nat) (x:Int),dvn n k x=0↔0≤x∧x < n ^ k
 | 0,x=>by
  show x=0↔_
  rw [Int.pow_zero]
  lia
 | k+1,x=>by
  show dvn n k (x / n)=0↔_
  rw [z8Y hn k (x / n),Int.pow_succ]
  constructor
  ·rintro ⟨h0,h1⟩
   refine ⟨?_,?_⟩
   ·rcases Int.lt_or_le x 0 with z | z
    ·have:=Int.ediv_neg_of_neg_of_pos z hn
     lia
    ·exact z
   ·exact (Int.ediv_lt_iff_lt_mul hn).mp h1
  ·rintro ⟨h0,h1⟩
   exact ⟨Int.ediv_nonneg h0 (by lia),(Int.ediv_lt_iff_lt_mul hn).mpr h1⟩
def z5a (n:Int) (k:Nat) (x:Int):List Int:=(lit n k x).reverse
theorem z8E (n:Int) (k:Nat) (x:Int):(z5a n k x).length=k:=by unfold z5a;rw [List.length_reverse,z86]
theorem z6c {n:Nat} (hn:0 < n) (k:Nat) (x:Int):LW n (z5a n k x):=by
 have:∀ (k:Nat) (x:Int),LW n (lit n k x):=fun k=>by
  induction k with
  | zero=>exact fun x l h=>by simp [lit] at h
  | succ k ih =>
   intro x l h
   rcases List.mem_cons.mp h with rfl | h
   ·exact ⟨Int.emod_nonneg _ (by lia),Int.emod_lt_of_pos _ (by lia)⟩
   ·exact ih _ l h
 exact fun l h=>this k x l (List.mem_reverse.mp h)
theorem z8N {n:Nat} (hn:0 < n):∀ (r:List Int),LW n r.reverse→z5a n r.length (z31 n r.reverse)=r.reverse∧0≤z31 n r.reverse∧z31 n r.reverse < (n:Int) ^ r.length
 | [],_=>⟨rfl,by simp [z31],by simp [z31]⟩
 | l::r,h=>by
  rw [List.reverse_cons] at h ⊢
  obtain ⟨e,h0,h1⟩:=z8N hn r fun x hx=>h x (List.mem_append_left _ hx)
  obtain ⟨l0,l1⟩:=h l (by simp)
  rw [z3r]
  have hm:(0:Int) < (n:Int):=by lia
  obtain ⟨q1,q2⟩:=dvm (m:=n) (g:=z31 n r.reverse) l0 l1
  refine ⟨?_,?_,?_⟩
  ·show (lit n (r.length+1) _).reverse=_
   show ((z31 n r.reverse*(n:Int)+l) % (n:Int)::lit n r.length ((z31 n r.reverse*(n:Int)+l) / (n:Int))).reverse=_
   rw [q1,q2,List.reverse_cons]
   exact congrArg (·++[l]) e
  ·have:=Int.mul_nonneg h0 (Int.le_of_lt hm)
   lia
  ·rw [List.length_cons,Int.pow_succ]
   have h2:(z31 n r.reverse+1)*(n:Int)≤(n:Int) ^ r.length*(n:Int):=Int.mul_le_mul_of_nonneg_right (by lia) (by lia)
   rw [Int.add_mul,Int.one_mul] at h2
   lia
theorem z6H {n:Nat} (hn:0 < n) {w:List Int} (h:LW n w):z5a n w.length (z31 n w)=w∧0≤z31 n w∧z31 n w < (n:Int) ^ w.length:=by
 have:=z8N hn w.reverse (by rw [List.reverse_reverse];exact h)
 rw [List.reverse_reverse,List.length_reverse] at this
 exact this
def z7L (K:PySem.W.Frag) (Ct:Addr):Sp:=fun vs H Q E=>∃ (n:Nat) (u:V) (w:List Int),vs=[.int n,u]∧Dr K H (D.its w) u∧n≤60∧w.length≤4900∧(LW n w→∀ H',z0f H H'→Q (.int (z31 n w)) H')∧(¬ LW n w→TMx Ct E H)
def zb9 (n:Nat) (many x:Int):Prop:=0≤many∧many≤1000∧0≤x∧x < (n:Int) ^ many.toNat
def z6f (K:PySem.W.Frag) (Cb:Addr):Sp:=fun vs H Q E=>∃ (n:Nat) (many x:Int),vs=[.int n,.int many,.int x]∧0 < n∧n≤60∧(zb9 n many x→∀ (t:Addr) (H':Hp),z0f H H'→H' t=some (.tup ((z5a n many.toNat x).map V.int))→Q (.ref t) H')∧(¬ zb9 n many x→TMx Cb E H)
def z20 (n:Nat) (one:List Row) (m:Nat):List Int:=(z0r (n ^ m)).map fun x=>z31 n (z1b one 0 (z5a n m x))
theorem z2r (n:Nat) (one:List Row) (m:Nat):(z20 n one m).length=n ^ m:=by unfold z20;rw [zLm,z0z]
theorem z69 {α:Type} (f:Int→α) (L i:Nat) (h:i < L):((z0r L).map f).take (i+1)=((z0r L).map f).take i++[f (i:Int)]:=by
 rw [List.take_add_one]
 congr 1
 rw [zGm,zeY h]
 rfl
theorem z9Z {n m:Nat} (n2:2≤n) (h:n ^ m≤1024):m≤10:=by
 rcases Nat.lt_or_ge 10 m with z | z
 ·have h1:2 ^ 11≤2 ^ m:=Nat.pow_le_pow_right (by decide) z
  have h2:2 ^ m≤n ^ m:=Nat.pow_le_pow_left n2 m
  have:(2:Nat) ^ 11=2048:=by decide
  lia
 ·exact z
def z9o (n:Nat):Int:=if n=2 then 10 else if n=3 then 6 else if n=4 then 5 else 4
theorem zdY {n:Nat} (n2:2≤n) (n5:n≤5):atI [V.int 10,V.int 6,V.int 5,V.int 4] ((n:Int) - 2)=some (V.int (z9o n)):=by
 have cs:n=2∨n=3∨n=4∨n=5:=by lia
 rcases cs with rfl | rfl | rfl | rfl
 ·exact z0y (j:=0) rfl
 ·exact z0y (j:=1) rfl
 ·exact z0y (j:=2) rfl
 ·exact z0y (j:=3) rfl
theorem zci {n:Nat} (n2:2≤n) (n5:n≤5) (m:Nat):(m:Int) > z9o n↔1024 < n ^ m:=by
 have up:∀ (b k:Nat),1≤b→1024 < b ^ k→k≤m→1024 < b ^ m:=fun b k hb h hk=>Nat.lt_of_lt_of_le h (Nat.pow_le_pow_right hb hk)
 have dn:∀ (b k:Nat),1≤b→b ^ k≤1024→m≤k→¬ 1024 < b ^ m:=fun b k hb h hk=>by have:=Nat.pow_le_pow_right hb hk;lia
 have cs:n=2∨n=3∨n=4∨n=5:=by lia
 rcases cs with rfl | rfl | rfl | rfl
 ·show (m:Int) > 10↔_
  exact ⟨fun h=>up 2 11 (by decide) (by decide) (by lia),fun h=>Decidable.byContradiction fun z=>dn 2 10 (by decide) (by decide) (by lia) h⟩
 ·show (m:Int) > 6↔_
  exact ⟨fun h=>up 3 7 (by decide) (by decide) (by lia),fun h=>Decidable.byContradiction fun z=>dn 3 6 (by decide) (by decide) (by lia) h⟩
 ·show (m:Int) > 5↔_
  exact ⟨fun h=>up 4 6 (by decide) (by decide) (by lia),fun h=>Decidable.byContradiction fun z=>dn 4 5 (by decide) (by decide) (by lia) h⟩
 ·show (m:Int) > 4↔_
  exact ⟨fun h=>up 5 5 (by decide) (by decide) (by lia),fun h=>Decidable.byContradiction fun z=>dn 5 4 (by decide) (by decide) (by lia) h⟩
def z57 (K:PySem.W.Frag) (Ct Cb:Addr):Sp:=fun vs H Q E=>∃ (n:Nat) (many:Int),vs=[.int n,.int many]∧2≤n∧n≤5∧many < 2 ^ 61∧(many < 0→TMx Cb E H)∧(0≤many→1024 < n ^ many.toNat→TMx Ct E H)∧(0≤many→n ^ many.toNat≤1024→Q (.int ((n ^ many.toNat:Nat):Int)) H)
def zgV (H:Hp) (Q:VK) (xs:List Int):Prop:=∀ (r:Addr) (H':Hp),z0f H H'→H r=none→H' r=some (.lst (xs.map V.int))→Q (.ref r) H'
def z7I (K:PySem.W.Frag) (Ct Cb:Addr):Sp:=fun vs H Q E=>∃ (v:V) (one:List Row) (n:Nat) (many:Int),vs=[v,.int many]∧Dr K H (D.tup (z0l one)) v∧z0j n one∧2≤n∧n≤5∧many < 2 ^ 61∧(many < 0→TMx Cb E H)∧(0≤many→1024 < n ^ many.toNat→TMx Ct E H)∧(0≤many→n ^ many.toNat≤1024→zgV H Q (z20 n one many.toNat))
def z4t (K:PySem.W.Frag):Sp:=fun vs H Q _=>∃ (n:Nat),vs=[.int n]∧2≤n∧n≤5∧∀ H',z0f H H'→Q (.int (z9o n)) H'
theorem zcO {n m:Nat} {M:List Row} {x:Int} (x0:0≤x) (x1:x < ((n ^ m:Nat):Int)):(z20 n M m)[x.toNat]?=some (z31 n (z1b M 0 (z5a n m x))):=by
 unfold z20
 rw [zGm,z1o x0 x1]
 rfl
theorem zcV {n:Nat} (n0:0 < n) {w:List Int} (h:LW n w):0≤z31 n w∧z31 n w < ((n ^ w.length:Nat):Int):=by
 obtain ⟨_,h0,h1⟩:=z6H n0 h
 exact ⟨h0,by rw [Int.natCast_pow];exact h1⟩
def fits (n:Nat) (one:List Row) (m:Nat):Prop:=∀ i,i≤m→(pw n one i).length≤60
theorem zee {α:Type} {us:List α} (h:us.length=1):∃ a,us=[a]:=by
 cases us with
 | nil=>cases h
 | cons a r =>
  cases r with
  | nil=>exact ⟨a,rfl⟩
  | cons _ _=>simp at h
theorem zez {α:Type} {us:List α} (h:us.length=2):∃ a b,us=[a,b]:=by
 cases us with
 | nil=>cases h
 | cons a r =>
  obtain ⟨b,rfl⟩:=zee (show r.length=1 by simpa using h)
  exact ⟨a,b,rfl⟩
theorem zgT {α:Type} {us:List α} (h:us.length=3):∃ a b c,us=[a,b,c]:=by
 cases us with
 | nil=>cases h
 | cons a r =>
  obtain ⟨b,c,rfl⟩:=zez (show r.length=2 by simpa using h)
  exact ⟨a,b,c,rfl⟩
section
variable (P:Program) (w:World) (K:PySem.W.Frag) (mg:Str→Option Value) (base:Heap) (CX:CXT) (k:Nat)
def z7B (Cm:V→Addr→Hp→List Row→Prop):Sp:=fun vs H Q _=>∃ (f:Addr) (v0:V) (n:Nat) (rows:List Row),vs=[v0,.ref f]∧Cm v0 f H rows∧z0j n rows∧n≤60∧∀ (r:Addr) (H':Hp),z0f H H'→z32 K H' r (z0C rows)→Q (.ref r) H'
def z5Z (Cm:V→Addr→Hp→List Row→Prop) (Ct:Addr):Sp:=fun vs H Q E=>∃ (f:Addr) (v0:V) (n:Nat) (rows:List Row),vs=[v0,.ref f]∧Cm v0 f H rows∧z0j n rows∧n≤60 ∧
 ((shr rows).length≤60→z3p K H Q (D.tup (z0l (shr rows))))∧(60 < (shr rows).length→TMx Ct E H)
def CmF:V→Addr→Hp→List Row→Prop:=fun v0 f H rows=>∃ nm:Int→Int,v0=.int (nm 0)∧(∀ x y,nm x=nm y→x=y)∧z2Y P w K mg base CX k H f (zct K rows nm)
def CmP:V→Addr→Hp→List Row→Prop:=fun v0 f H rows=>∃ m:Nat,Dr K H (pr m 0) v0∧z2Y P w K mg base CX k H f (z8i K rows m)
end
section
variable {P:Program} {w:World} {K:PySem.W.Frag} {mg:Str→Option Value} {base:Heap} {CX:CXT} {k:Nat} {Ct:Addr}
theorem zeC (vs:List V) (H:Hp) (Q:VK) (E:XK) (h:z7B K (CmF P w K mg base CX k) vs H Q E):z7s P w K mg base CX k vs H Q E:=by
 obtain ⟨f,v0,n,rows,rfl,⟨nm,rfl,ni,hV⟩,G,hn,q⟩:=h
 exact ⟨f,n,rows,nm,rfl,ni,hV,G,hn,q⟩
theorem zeq (vs:List V) (H:Hp) (Q:VK) (E:XK) (h:z7B K (CmP P w K mg base CX k) vs H Q E):z84 P w K mg base CX k vs H Q E:=by
 obtain ⟨f,v0,n,rows,rfl,⟨m,d,hV⟩,G,hn,q⟩:=h
 exact ⟨f,v0,n,rows,m,rfl,d,hV,G,hn,q⟩
theorem zdw (vs:List V) (H:Hp) (Q:VK) (E:XK) (h:z3v P w K mg base CX k Ct vs H Q E):z5Z K (CmF P w K mg base CX k) Ct vs H Q E:=by
 obtain ⟨f,n,rows,nm,rfl,ni,hV,G,hn,q⟩:=h
 exact ⟨f,_,n,rows,rfl,⟨nm,rfl,ni,hV⟩,G,hn,q⟩
theorem zdz (vs:List V) (H:Hp) (Q:VK) (E:XK) (h:z6j P w K mg base CX k Ct vs H Q E):z5Z K (CmP P w K mg base CX k) Ct vs H Q E:=by
 obtain ⟨f,v0,n,rows,m,rfl,d,hV,G,hn,q⟩:=h
 exact ⟨f,v0,n,rows,rfl,⟨m,d,hV⟩,G,hn,q⟩
end
end Gu
namespace L2
open PySem PySem.Spec PyProof.Rows
section
variable {prog:Program} {w:World} {A:Around} {R:Result→Shared→Prop} {s:Shared}
end
section
variable {X:Cx} {pins:List (Addr × Obj)} {σ:St} {H:Hp} {s:Shared} {N:List Str} {ix:List (Option Nat)} {scope:Scope} {elt iter tg cx:Expr} {pos:Pos} {g:TG} {tt:TT} {te:TE} {E:Value→Shared→Prop}
end
end L2
namespace L2
open PySem PySem.Spec PyProof.Rows
section
variable {X:Cx} {pins:List (Addr × Obj)} {σ:St} {H:Hp} {s:Shared} {N:List Str} {ix:List (Option Nat)} {scope:Scope} {elt iter tg cx:Expr} {pos:Pos} {te:TE} {E:Value→Shared→Prop}
end
end L2
namespace L2
open PySem PySem.Spec PyProof.Rows
section
variable {X:Cx} {CX:CXT} {k:Nat} {f C:Addr} {fd:FuncData} {ps:List Str} {sp:Sp} {dvs:List V} {ds:List Value} {E:XK} {x m:Str} {p pos apos:Pos} {e o:Expr} {es:List Expr} {ta:TE} {t:TA} {σ0:St}
end
end L2
namespace L2
open PySem PySem.Spec PyProof.Rows PySem.SeqAt
open PySem.AutoSeq1 (wpAny_loadPart')
section
variable {X:Cx} (K:PySem.W.Frag)
end
end L2
namespace Gu
open PySem L2
theorem ze1 {K:PySem.W.Frag} {a:Addr} {xs:List V} {g:TG} {tb:TS} {D:z3Y} {σ:St} {H:Hp} (Pv:Nat→St→Hp→Prop) (h0:Pv 0 σ H) (hl:∀ i σ H,i≤xs.length→Pv i σ H→SqL K H a xs)
  (hs:∀ i x σ H,xs[i]?=some x→Pv i σ H→∀ Ed:z3Y,(∀ σ' H',Pv (i+1) σ' H'→Ed.nx σ' H')→g x σ H fun σ2 H2=>tb Ed σ2 H2) (hd:∀ σ H,Pv xs.length σ H→D.nx σ H) :
  ∃ W:Nat→Nat→St→Hp→Prop,(∃ m,W 0 m σ H)∧∀ i m σ H,W i m σ H →
   ((Itl K a).stop i H∧D.nx σ H)∨((Itl K a).go i H∧∃ N:St→Hp→Prop,(∀ σ' H',N σ' H'→∃ m',m' < m∧W (i+1) m' σ' H')∧∀ x H',(Itl K a).yld i H x H'→g x σ H' fun σ2 H2=>tb { D with nx:=N,ct:=N,bk:=D.nx } σ2 H2) :=
 z8H Pv h0 hl (fun i x σ H hx p=>hs i x σ H hx p _ fun _ _ z=>z) hd
theorem zfY {K:PySem.W.Frag} {a:Addr} {xs:List V} {g:TG} {tb:TS} {D:z3Y} {σ:St} {H:Hp} (Pv:Nat→St→Hp→Prop) (h0:Pv 0 σ H) (hl:∀ i σ H,i≤xs.length→Pv i σ H→SqT K H a xs)
  (hs:∀ i x σ H,xs[i]?=some x→Pv i σ H→∀ Ed:z3Y,(∀ σ' H',Pv (i+1) σ' H'→Ed.nx σ' H')→g x σ H fun σ2 H2=>tb Ed σ2 H2) (hd:∀ σ H,Pv xs.length σ H→D.nx σ H) :
  ∃ W:Nat→Nat→St→Hp→Prop,(∃ m,W 0 m σ H)∧∀ i m σ H,W i m σ H →
   ((Itt K a).stop i H∧D.nx σ H)∨((Itt K a).go i H∧∃ N:St→Hp→Prop,(∀ σ' H',N σ' H'→∃ m',m' < m∧W (i+1) m' σ' H')∧∀ x H',(Itt K a).yld i H x H'→g x σ H' fun σ2 H2=>tb { D with nx:=N,ct:=N,bk:=D.nx } σ2 H2) :=
 z82 Pv h0 hl (fun i x σ H hx p=>hs i x σ H hx p _ fun _ _ z=>z) hd
theorem zdt {W:Nat→St→Hp→Prop} {m:Nat} {T:(St→Hp→Prop)→Prop} (h:∀ N:St→Hp→Prop,(∀ m' σ' H',m' < m→W m' σ' H'→N σ' H')→T N):∃ N:St→Hp→Prop,(∀ σ' H',N σ' H'→∃ m',m' < m∧W m' σ' H')∧T N :=
 ⟨fun σ' H'=>∃ m',m' < m∧W m' σ' H',fun _ _ z=>z,h _ fun m' σ' H' a b=>⟨m',a,b⟩⟩
theorem zcS {lo:Int} {n:Nat} {g:TG} {tb:TS} {D:z3Y} {σ:St} {H:Hp} (Pv:Nat→St→Hp→Prop) (h0:Pv 0 σ H)
  (hs:∀ i σ H,i < n→Pv i σ H→∀ Ed:z3Y,(∀ σ' H',Pv (i+1) σ' H'→Ed.nx σ' H')→g (.int (lo+i)) σ H fun σ2 H2=>tb Ed σ2 H2) (hd:∀ σ H,Pv n σ H→D.nx σ H) :
  ∃ W:Nat→Nat→St→Hp→Prop,(∃ m,W 0 m σ H)∧∀ i m σ H,W i m σ H →
   ((Itr lo n).stop i H∧D.nx σ H)∨((Itr lo n).go i H∧∃ N:St→Hp→Prop,(∀ σ' H',N σ' H'→∃ m',m' < m∧W (i+1) m' σ' H')∧∀ x H',(Itr lo n).yld i H x H'→g x σ H' fun σ2 H2=>tb { D with nx:=N,ct:=N,bk:=D.nx } σ2 H2) :=
 z4x Pv h0 (fun i σ H hi p=>hs i σ H hi p _ fun _ _ z=>z) hd
theorem zgI {c:TT} {tb:TS} {D:z3Y} {σ:St} {H:Hp} (Post:St→Hp→Prop) (h1:∀ Ed:z3Y,(∀ σ' H',Post σ' H'→Ed.nx σ' H')→z6I c tb Ed σ H) (h2:∀ σ' H',Post σ' H'→D.nx σ' H'):z6I c tb D σ H:=h1 D h2
theorem zfv {t1 t2:TS} {D:z3Y} {σ:St} {H:Hp} (Post:St→Hp→Prop) (h1:∀ Ed:z3Y,(∀ σ' H',Post σ' H'→Ed.nx σ' H')→t1 Ed σ H) (h2:∀ σ' H',Post σ' H'→t2 D σ' H'):zgP t1 t2 D σ H:=h1 _ h2
theorem zhx {K:PySem.W.Frag} {a b:Addr} {xs ys:List V} {g:TG} {tb:TS} {D:z3Y} {σ:St} {H:Hp} (hlen:xs.length=ys.length) (Pv:Nat→St→Hp→Prop) (h0:Pv 0 σ H) (hl:∀ i σ H,i≤xs.length→Pv i σ H→SqL K H a xs∧SqL K H b ys)
  (hs:∀ i x y p σ H,xs[i]?=some x→ys[i]?=some y→Pv i σ H→H p=none→∀ Ed:z3Y,(∀ σ' H',Pv (i+1) σ' H'→Ed.nx σ' H')→g (.ref p) σ (upd H p (.tup [x,y])) fun σ2 H2=>tb Ed σ2 H2) (hd:∀ σ H,Pv xs.length σ H→D.nx σ H) :
  ∃ W:Nat→Nat→St→Hp→Prop,(∃ m,W 0 m σ H)∧∀ i m σ H,W i m σ H →
   ((Itz K a b).stop i H∧D.nx σ H)∨((Itz K a b).go i H∧∃ N:St→Hp→Prop,(∀ σ' H',N σ' H'→∃ m',m' < m∧W (i+1) m' σ' H')∧∀ x H',(Itz K a b).yld i H x H'→g x σ H' fun σ2 H2=>tb { D with nx:=N,ct:=N,bk:=D.nx } σ2 H2) :=
 zdy hlen Pv h0 hl (fun i x y p σ H hx hy h hp=>hs i x y p σ H hx hy h hp _ fun _ _ z=>z) hd
theorem zfC {K:PySem.W.Frag} {a:Addr} {xs:List V} {g:TG} {tb:TS} {D:z3Y} {σ:St} {H:Hp} (Pv:Nat→St→Hp→Prop) (h0:Pv 0 σ H) (hl:∀ i σ H,i≤xs.length→Pv i σ H→SqT K H a xs)
  (hs:∀ i x p σ H,xs[i]?=some x→Pv i σ H→H p=none→∀ Ed:z3Y,(∀ σ' H',Pv (i+1) σ' H'→Ed.nx σ' H')→g (.ref p) σ (upd H p (.tup [.int (i:Nat),x])) fun σ2 H2=>tb Ed σ2 H2) (hd:∀ σ H,Pv xs.length σ H→D.nx σ H) :
  ∃ W:Nat→Nat→St→Hp→Prop,(∃ m,W 0 m σ H)∧∀ i m σ H,W i m σ H →
   ((Ite K a).stop i H∧D.nx σ H)∨((Ite K a).go i H∧∃ N:St→Hp→Prop,(∀ σ' H',N σ' H'→∃ m',m' < m∧W (i+1) m' σ' H')∧∀ x H',(Ite K a).yld i H x H'→g x σ H' fun σ2 H2=>tb { D with nx:=N,ct:=N,bk:=D.nx } σ2 H2) :=
 zcj Pv h0 hl (fun i x p σ H hx h hp=>hs i x p σ H hx h hp _ fun _ _ z=>z) hd
theorem zdl {n:Nat} {A B:List Row} (GA:z0j n A) (GB:z0j n B) {a b:Int} (a0:0≤a) (a1:a < (A.length:Int)) (b0:0≤b) (b1:b < (B.length:Int)):row (z1j A B) (a*(B.length:Int)+b)=zdk B.length (row A a) (row B b):=by
 obtain ⟨v0,v1⟩:=z93 a0 a1 b0 b1
 rw [z4B v0 v1,(dvm b0 b1).1,(dvm b0 b1).2]
end Gu
namespace L2
open PySem PySem.Spec PyProof.Rows PySem.SeqAt
section
variable {X:Cx} (K:PySem.W.Frag)
end
end L2
namespace Gu
open PySem L2
def zdR (A B:List Row):D:=if (shr (z1j A B)).length≤60 then .tup (z0l (shr (z1j A B))) else .non
def za3 (Ts:List Tb) (K:PySem.W.Frag):Sp:=fun vs H Q _=>∃ (v1 v2:V) (n:Nat) (one other:List Row),vs=[v1,v2]∧z3R Ts H∧Dr K H (D.tup (z0l one)) v1∧Dr K H (D.tup (z0l other)) v2∧z0j n one∧z0j n other∧n≤60∧one.length*other.length≤4000 ∧
 z5u Ts K H Q (zdR one other)
theorem z8L {A B:List Row} (h:(shr (z1j A B)).length≤60):zdR A B=.tup (z0l (shr (z1j A B))):=if_pos h
theorem z8x {A B:List Row} (h:60 < (shr (z1j A B)).length):zdR A B=.non:=if_neg (by lia)
theorem zam {K:PySem.W.Frag} {H:Hp} {ds:List D} {v:V} (h:Dr K H (.tup ds) v):∃ a,v=.ref a:=by
 simp only [Dr] at h
 obtain ⟨a,_,e,_⟩:=h
 exact ⟨a,e⟩
theorem zeX {K:PySem.W.Frag} {H:Hp} {v:V} (h:Dr K H .non v):v=.non:=by simpa only [Dr] using h
def fuL:List Int→List Int→Nat
 | a::as,b::bs=>if a=b then fuL as bs+1 else 0
 | _,_=>0
def pgo (m:Nat) (R S:Row):List Int:=(List.range R.2.length).map fun k=>R.2.getD k 0*(m:Int)+S.2.getD k 0
def prM (one other:List Row):List Row:=(z0r (one.length*other.length)).map fun c=>((row one (c / (other.length:Int))).1,pgo other.length (row one (c / (other.length:Int))) (row other (c % (other.length:Int))))
theorem z2z (one other:List Row):(prM one other).length=one.length*other.length:=by unfold prM;rw [zLm,z0z]
theorem z7G {one other:List Row} {i:Int} (h0:0≤i) (h1:i < ((one.length*other.length:Nat):Int)):row (prM one other) i=((row one (i / (other.length:Int))).1,pgo other.length (row one (i / (other.length:Int))) (row other (i % (other.length:Int)))):=by
 unfold prM
 show (List.map _ _).getD _ _=_
 rw [zGd,zGm,z1o h0 h1]
 rfl
theorem z3D {n N:Nat} {gs:List Int} (hl:gs.length=n) (hg:∀ g∈gs,0≤g∧g < (N:Int)) {k:Nat} (hk:k < n):gs[k]?=some (gs.getD k 0)∧0≤gs.getD k 0∧gs.getD k 0 < (N:Int):=by
 have e:gs[k]?=some gs[k]:=zGe (by lia)
 rw [zGd,e]
 exact ⟨rfl,hg _ (List.getElem_mem (by lia))⟩
theorem zbz {n:Nat} {one other:List Row} (G:z0j n one) (G':z0j n other) (h4:one.length*other.length≤4000):z0j n (prM one other):=by
 have h1:=G.some
 have h2:=G'.some
 have hm:∀ r∈prM one other,∃ R∈one,∃ S∈other,r=(R.1,pgo other.length R S):=fun r hr=>by
  unfold prM at hr
  obtain ⟨i,hi,e⟩:=List.mem_map.mp hr
  obtain ⟨i0,i1⟩:=z0H.mp hi
  obtain ⟨⟨a0,a1⟩,b0,b1⟩:=pix (one:=one) (other:=other) i0 i1
  exact ⟨_,z0k a0 a1,_,z0k b0 b1,e.symm⟩
 refine ⟨by rw [z2z];exact h4,by rw [z2z];exact Nat.mul_pos h1 h2,fun r hr=>?_,fun r hr=>?_,fun r hr g hg=>?_⟩
 ·obtain ⟨R,hR,S,hS,rfl⟩:=hm r hr
  exact G.perm R hR
 ·obtain ⟨R,hR,S,hS,rfl⟩:=hm r hr
  show (List.map _ _).length=n
  rw [zLm,List.length_range,G.len R hR]
 ·obtain ⟨R,hR,S,hS,rfl⟩:=hm r hr
  obtain ⟨k,hk,rfl⟩:=List.mem_map.mp (show g∈(List.range R.2.length).map _ from hg)
  have hk':k < n:=by have:=List.mem_range.mp hk;rw [G.len R hR] at this;exact this
  obtain ⟨_,g0,g1⟩:=z3D (G.len R hR) (G.go R hR) hk'
  obtain ⟨_,e0,e1⟩:=z3D (G'.len S hS) (G'.go S hS) hk'
  rw [z2z]
  exact z93 g0 g1 e0 e1
theorem zfs {m:Nat} {g e:Int} (e0:0≤e) (e1:e < (m:Int)):(g*(m:Int)+e) / (m:Int)=g∧(g*(m:Int)+e) % (m:Int)=e:=by
 constructor
 ·rw [Int.add_comm,Int.add_mul_ediv_right _ _ (by lia),Int.ediv_eq_zero_of_lt e0 e1];lia
 ·rw [Int.add_comm,Int.add_mul_emod_self_right,Int.emod_eq_of_lt e0 e1]
def zdT (w:List Int):List Int→List (List Int)→Nat→List Int→List (List Int)
 | _,ws,_,[]=>ws
 | o,ws,k,g::gs=>if g∈o then zdT w o ws (k+1) gs else zdT w (o++[g]) (ws++[w++[(k:Int)]]) (k+1) gs
def pb (one other:List Row):Nat→List Int→List (List Int)→Nat→Option (List Int)
 | 0,_,_,_=>none
 | f+1,o,ws,i=>match o[i]?,ws[i]? with
  | some c,some w=>if (row one (c / (other.length:Int))).1=(row other (c % (other.length:Int))).1 then pb one other f (z0b o (row (prM one other) c).2) (zdT w o ws 0 (row (prM one other) c).2) (i+1)
   else some (w++[((fuL (row one (c / (other.length:Int))).1 (row other (c % (other.length:Int))).1:Nat):Int)])
  | _,_=>none
def zg8 (one other:List Row):Option (List Int):=pb one other (one.length*other.length+1) [0] [[]] 0
end Gu
namespace L2
open PySem PySem.Spec PyProof.Rows
section
variable {prog:Program} {w:World} {A:Around} {E:Value→Shared→Prop} {s:Shared} {z TI TO i1 i2:Addr} {fp1 fp2:List Addr} {n1 n2:Nat} {P1 P2:Nat→Value→Prop} {S1 S2:Nat→Heap→Prop}
end
end L2
namespace L2
open PySem PySem.Spec PyProof.Rows
section
variable {X:Cx} {elts:List Expr} {tk:Nat} {tp:Pos}
end
end L2
namespace Gu
open PySem L2
def zgj (one other:List Row) (c:Int):Prop:=(row one (c / (other.length:Int))).1=(row other (c % (other.length:Int))).1
def Has (o:List Int) (ws:List (List Int)) (c:Int) (L:Nat):Prop:=∃ (k:Nat) (u:List Int),ws[k]?=some u∧o[k]?=some c∧u.length≤L
structure zhm (n:Nat) (one other:List Row) (o:List Int) (ws:List (List Int)):Prop where
 ln:ws.length=o.length
 wd:∀ (j:Nat) (v:List Int),ws[j]?=some v→LW n v∧o[j]?=some (goW (prM one other) 0 v)
 mono:∀ (j k:Nat) (v u:List Int),j≤k→ws[j]?=some v→ws[k]?=some u→v.length≤u.length
 out:∀ v∈ws,z1b one 0 v=z1b other 0 v
 z:ws[0]?=some []
theorem z8U (M:List Row) (v:List Int) (l:Int):z1b M 0 (v++[l])=z1b M 0 v++[(row M (goW M 0 v)).1.getD l.toNat 0]:=by rw [z6t];rfl
structure BI (n:Nat) (one other:List Row) (o:List Int) (ws:List (List Int)) (i:Nat):Prop extends zhm n one other o ws where
 up:∀ v,ws[i]?=some v→∀ u∈ws,u.length≤v.length+1
 al:∀ (j:Nat) (c:Int),j < i→o[j]?=some c→zgj one other c
 su:∀ (j:Nat) (v:List Int),j < i→ws[j]?=some v→∀ g∈(row (prM one other) (goW (prM one other) 0 v)).2,Has o ws g (v.length+1)
end Gu
namespace L2
open PySem PySem.Spec PyProof.Rows
variable {X:Cx}
end L2
namespace Gu
open PySem L2
end Gu
namespace L2
open PySem PySem.Spec PyProof.Rows
section
variable {prog:Program} {w:World} {A:Around} {R:Result→Shared→Prop} {s:Shared}
end
section
variable {X:Cx} {pins:List (Addr × Obj)} {σ:St} {H:Hp} {s:Shared} {N:List Str} {ix:List (Option Nat)} {scope:Scope} {elt iter tg iter2 tg2:Expr} {pos:Pos} {g g2:TG} {wi2:TI} {te:TE} {E:Value→Shared→Prop}
end
end L2
namespace Gu
open PySem L2
def zgF (M:List Row) (e:Row):Nat→Int
 | 0=>goW M 0 e.1
 | t+1=>goW M (zgF M e t) e.2
end Gu
namespace L2
open PySem PySem.Spec PyProof.Rows PySem.SeqAt
section
variable {X:Cx}
end
end L2
namespace L2
open PySem PySem.Spec PyProof.Rows
open PySem.AutoSeq1 (wpAny_loadPart')
section
variable {X:Cx}
end
end L2
namespace Gu
open PySem L2
def zhA (M:List Row) (e:Row) (t:Nat):List Int:=(List.range t).map (zgF M e)
theorem zb2 {n:Nat} {M' M:List Row} {o:List Int} {h:Int→Int} (mo:Mor M' M o h) (cl:∀ r∈o,∀ g∈(row M' r).2,g∈o) (hl:∀ r∈o,(row M' r).2.length=n):∀ (w:List Int) (x:Int),x∈o→LW n w→z1b M (h x) w=z1b M' x w
 | [],_,_,_=>rfl
 | l::w,x,hx,hw=>by
  obtain ⟨l0,l1⟩:=hw l List.mem_cons_self
  have hk:l.toNat < (row M' x).2.length:=by rw [hl x hx];lia
  show (row M (h x)).1.getD l.toNat 0::z1b M ((row M (h x)).2.getD l.toNat 0) w=(row M' x).1.getD l.toNat 0::z1b M' ((row M' x).2.getD l.toNat 0) w
  rw [mo x hx]
  show (row M' x).1.getD l.toNat 0::z1b M (((row M' x).2.map h).getD l.toNat 0) w=_
  rw [z8g hk,zb2 mo cl hl w _ (cl x hx _ (by rw [zde hk];exact List.getElem_mem hk)) hw.tail]
theorem zaZ {n:Nat} {M:List Row} (G:z0j n M) {w:List Int} (hw:LW n w):z1b (shr M) 0 w=z1b M 0 w:=by
 obtain ⟨h,h0,mo⟩:=z8V G
 obtain ⟨L,cl⟩:=z0s G
 have:=zb2 mo cl (fun r hr=>G.len _ (z0k (L.rg r hr).1 (L.rg r hr).2)) w 0 (by obtain ⟨t,ht⟩:=L.hd;rw [ht];exact List.mem_cons_self) hw
 rw [h0] at this
 exact this
theorem z8a {n:Nat} {A B:List Row} (GA:z0j n A) (GB:z0j n B):∀ (w:List Int) (a b:Int),LW n w→0≤a→a < (A.length:Int)→0≤b→b < (B.length:Int)→z1b (z1j A B) (a*(B.length:Int)+b) w=z1b B b (z1b A a w)
 | [],_,_,_,_,_,_,_=>rfl
 | l::w,a,b,hw,a0,a1,b0,b1=>by
  obtain ⟨l0,l1⟩:=hw l List.mem_cons_self
  have hR:=z0k a0 a1
  have hS:=z0k b0 b1
  obtain ⟨k,g,e,q1,q2,q3,q4,q5,q6,g0,g1,e0,e1⟩:=z88 (m:=B.length) (N:=A.length) (GA.perm _ hR) (GA.len _ hR) (GA.go _ hR) (GB.len _ hS) (GB.go _ hS) (k:=l.toNat) (by lia)
  have hl:=(GA.perm _ hR).len
  show (row (z1j A B) (a*(B.length:Int)+b)).1.getD l.toNat 0::z1b (z1j A B) ((row (z1j A B) (a*(B.length:Int)+b)).2.getD l.toNat 0) w=(row B b).1.getD ((row A a).1.getD l.toNat 0).toNat 0::z1b B ((row B b).2.getD ((row A a).1.getD l.toNat 0).toNat 0) (z1b A ((row A a).2.getD l.toNat 0) w)
  rw [zdl GA GB a0 a1 b0 b1,zbk (by lia),q5,q6,z8a GA GB w g e hw.tail g0 g1 e0 e1]
  congr 1
  show (z59 (row A a).1 (row B b).1).getD l.toNat 0=_
  rw [zau (by lia)]
theorem z8A {n:Nat} {A B:List Row} (GA:z0j n A) (GB:z0j n B) (h4:A.length*B.length≤4000) {w:List Int} (hw:LW n w):z1b (shr (z1j A B)) 0 w=z1b B 0 (z1b A 0 w):=by
 rw [zaZ (z2W GA GB h4) hw]
 have:=z8a GA GB w 0 0 hw (Int.le_refl 0) (by have:=GA.some;lia) (Int.le_refl 0) (by have:=GB.some;lia)
 rw [Int.zero_mul,Int.add_zero] at this
 exact this
theorem z6P {n:Nat}:∀ {w:List Int},LW n w→z1b (z8m n) 0 w=w
 | [],_=>rfl
 | l::w,hw=>by
  obtain ⟨l0,l1⟩:=hw l List.mem_cons_self
  show (z0r n).getD l.toNat 0::z1b (z8m n) ((List.replicate n (0:Int)).getD l.toNat 0) w=l::w
  rw [zGd,zeY (by lia),zGd,List.getElem?_replicate,if_pos (by lia)]
  show ((l.toNat:Int))::z1b (z8m n) 0 w=l::w
  rw [z6P hw.tail,Int.toNat_of_nonneg l0]
theorem zbC {n:Nat} {A:List Row} (GA:z0j n A) (h8:A.length≤8) {w:List Int} (hw:LW n w):z1b (shr (z37 A)) 0 (z1b A 0 w)=w:=by
 have GC:=z26 (z2i GA)
 have hc:(shr (z37 A)).length≤8:=by have:=z4T (z2i GA);rw [z1L] at this;lia
 have h4:A.length*(shr (z37 A)).length≤4000:=Nat.le_trans (Nat.mul_le_mul h8 hc) (by decide)
 rw [←z8A GA GC h4 hw,z9U GA h4]
 exact z6P hw
def StR (n:Nat) (M:List Row) (r:Int):Prop:=row M r=(z0r n,List.replicate n r)
instance (n:Nat) (M:List Row) (r:Int):Decidable (StR n M r):=inferInstanceAs (Decidable (_=_))
def zeu (M:List Row) (rs:List Int):List Int:=z0D (rs.flatMap fun r=>(row M r).2)
def mvF (n:Nat) (M:List Row) (rs:List Int):List Int:=rs.filter fun r=>!decide (StR n M r)
def mvs (n:Nat) (M:List Row):Nat→List Int
 | 0=>[0]
 | k+1=>zeu M (mvF n M (mvs n M k))
def dlp (n:Nat) (M:List Row):Nat→Nat→Option Nat
 | 0,_=>none
 | f+1,k=>if mvF n M (mvs n M k)=[] then some k else dlp n M f (k+1)
def dep (n:Nat) (M:List Row):Option Nat:=dlp n M M.length 0
def Lp (n:Nat) (M:List Row) (r:Int):Prop:=∃ v,v≠[]∧LW n v∧goW M r v=r
theorem z9R {n:Nat} {l:Nat} {w:List Int} (h:l < n) (lw:LW n w):LW n ((l:Int)::w):=fun x hx=>by
 rcases List.mem_cons.mp hx with q | q
 ·rw [q];lia
 ·exact lw x q
noncomputable def lpB (n:Nat) (M:List Row) (j:Nat):Bool:=@decide (Lp n M (j:Int)) (Classical.propDecidable _)
noncomputable def zgR (n:Nat) (M:List Row) (i:Nat):List (List Row):=((List.range i).filter (lpB n M)).map fun (j:Nat)=>shr (swM M (j:Int))
end Gu
namespace L2
open PySem PySem.Spec PyProof.Rows
section
variable {X:Cx}
end
end L2
namespace L2
open PySem PySem.Spec PyProof.Rows
section
variable {prog:Program} {w:World} {A:Around} {R:Result→Shared→Prop} {s:Shared}
end
section
variable {X:Cx} {pins:List (Addr × Obj)} {σ:St} {H:Hp} {s:Shared} {N:List Str} {ix:List (Option Nat)} {scope:Scope} {kx vx iter tg:Expr} {pos:Pos} {g:TG} {tk tv:TE} {E:Value→Shared→Prop}
end
section
variable {X:Cx} {pins:List (Addr × Obj)} {σ:St} {H:Hp} {s:Shared} {N:List Str} {ix:List (Option Nat)} {scope:Scope} {elt iter tg cx:Expr} {pos:Pos} {g:TG} {tt:TT} {te:TE} {E:Value→Shared→Prop}
end
end L2
namespace L2
open PySem PySem.Spec PyProof.Rows PySem.SeqAt
section
variable {X:Cx} (K:PySem.W.Frag)
theorem z6r (hK:X.K=K) (hu:X.A.units+64 < cLine):OpR X (compareOp .NotEq) (fun x y H Q=>∃ (ds es:List D),Dr K H (.lst ds) x∧Dr K H (.lst es) y∧ds.length=es.length∧D.okL ds es∧D.depL ds≤50∧Q (.bl (!D.eq (.lst ds) (.lst es))) H):=by
 subst hK
 intro pins s σ H x y v u Q I rx ry h
 obtain ⟨ds,es,hx,hy,hln,o,hd,q⟩:=h
 simp only [Dr] at hx hy
 obtain ⟨l,vs,rfl,q1,r⟩:=hx
 obtain ⟨b,us,rfl,q2,r'⟩:=hy
 cases rx
 cases ry
 obtain ⟨its,rv,pl,_⟩:=I.list q1
 obtain ⟨itt,rv',pl',_⟩:=I.list q2
 have e1:its.toArray.size=ds.length:=by rw [r.length,rv.length];simp
 have e2:itt.toArray.size=es.length:=by rw [r'.length,rv'.length];simp
 have R:=RcNeAt.lists (A:=X.A) (e:=D.at_ ds es) pl.isList pl'.isList (by rw [e1,e2,hln]) (by lia) (fun j h1 h2=>by
  have l1:=rv.length
  have l2:=rv'.length
  have l3:=r.length
  have l4:=r'.length
  have h1':j < its.length:=by simpa using h1
  have h2':j < itt.length:=by simpa using h2
  have e1:ds[j]?=some ds[j]:=zGe (by lia)
  have e2:es[j]?=some es[j]:=zGe (by lia)
  obtain ⟨x1,g1,d1⟩:=r.get e1
  obtain ⟨x2,g2,d2⟩:=r'.get e2
  obtain ⟨u1,k1,z5⟩:=rv.get g1
  obtain ⟨u2,k2,z6⟩:=rv'.get g2
  have z1:u1=its.toArray[j]:=by
   rw [zGe h1'] at k1
   have:=Option.some.inj k1
   simpa using this.symm
  have z2:u2=itt.toArray[j]:=by
   rw [zGe h2'] at k2
   have:=Option.some.inj k2
   simpa using this.symm
  have z3:D.at_ ds es j=D.eq ds[j] es[j]:=by unfold D.at_;rw [e1,e2]
  rw [z3,←z1,←z2]
  exact (zes I 50 X.A.in1 (Nat.le_trans (D.depL_get e1) hd) (by show X.A.units+1+50 < cLine;lia) d1 d2 (D.okL_get o e1 e2) z5 z6).1)
 rw [e1,D.all_eqL' hln] at R
 have e3:D.eq (.lst ds) (.lst es)=D.eqL ds es:=by simp only [D.eq]
 rw [e3] at q
 exact R _ _ _ _ ⟨.bl _,H,I,rfl,q⟩
end
end L2
namespace Gu
open PySem L2
end Gu
namespace L2
open PySem PySem.Spec PyProof.Rows
def Ris (xs:Array Nat):Prop:=xs.toList.Pairwise (· < ·)
section
variable {M:Model} {A:Around} {E:Value→Shared→Prop}
end
end L2
namespace L2
open PySem PySem.Spec PyProof.Rows
def zgU (w:World):Bool:=!w.params.followText "set-order"
structure Sit (prog:Program) (w:World) (es:Array (Int × Value)) (t:SetTable) (ks:List Int):Prop where
 elems:ElemsOf (intKind prog w) es.toList
 keysI:IntsAre (es.toList.map (·.2)) ks
 fits:t.fits es.size=true
 led:t.led=zgU w
 ris:Ris t.place
def zhd (prog:Program) (w:World) (h:Heap) (a:Addr) (ks:List Int):Prop :=
 ∃ o es ep t,h.get? a=some o∧o.ExactSet∧o.data=.set es ep t∧Sit prog w es t ks
section
variable {prog:Program} {w:World} {A:Around} {E:Value→Shared→Prop} {s:Shared}
end
section
variable {prog:Program} {w:World} {A:Around} {R:Result→Shared→Prop} {I:Addr} {fp wr:List Addr} {G:Array GenState→Array GenState→Prop} {n:Nat} {P:Nat→Value→Prop} {St:Nat→Shared→Prop}
end
section
variable {prog:Program} {w:World} {A:Around} {E:Value→Shared→Prop} {s:Shared}
end
end L2
namespace L2
open PySem PySem.Spec PyProof.Rows
namespace SF
end SF
section
variable {prog:Program} {w:World} {A:Around} {E:Value→Shared→Prop} {s:Shared} {it a:Addr} {es:Array (Int × Value)} {ep:Nat} {t:SetTable} {i:Nat}
end
end L2
namespace L2
open PySem PySem.Spec PyProof.Rows
section
variable {prog:Program} {w:World} {A:Around} {E:Value→Shared→Prop} {s:Shared} {it a:Addr} {es:Array (Int × Value)} {ep:Nat} {t:SetTable} {i:Nat}
end
section
variable {prog:Program} {w:World} {A:Around} {es:Array (Int × Value)} {ep:Nat} {t:SetTable}
end
section
variable {prog:Program} {w:World} {A:Around} {E:Value→Shared→Prop} {s:Shared} {it a:Addr} {es:Array (Int × Value)} {ep:Nat} {t:SetTable} {i:Nat}
end
end L2
namespace L2
open PySem PySem.Spec PyProof.Rows
section
variable {prog:Program} {w:World} {A:Around} {E:Value→Shared→Prop} {s:Shared} {a:Nat} {es:Array (Int × Value)} {ep:Nat} {t:SetTable}
end
end L2
namespace L2
open PySem PySem.Spec PyProof.Rows PySem.SeqAt
open PySem.AutoSeq1 (wpAny_loadPart')
def zhz (P:Program) (w:World) (a:Addr) (ks:List Int):HO:=.ext fun h=>zhd P w h a ks
section
variable {X:Cx} (K:PySem.W.Frag)
end
end L2
namespace Gu
open PySem L2
end Gu
namespace L2
open PySem PySem.Spec PyProof.Rows
theorem zf5 {X:Cx} (K:PySem.W.Frag) (h:X.K=K) (hu:X.A.units+64 < cLine):OpR X (compareOp .Eq) (fun x y H Q=>∃ (a b:Addr) (d e:D),x=.ref a∧y=.ref b∧Dr K H d x∧Dr K H e y∧D.ok d e∧D.dep d≤50∧Q (.bl (D.eq d e)) H):=h ▸ zeR hu
end L2
namespace Gu
open PySem L2
end Gu
namespace L2
open PySem PyProof.Rows
structure z5t {α:Type} (lt:α→α→Bool):Prop where
 asy:∀ a b,lt a b=true→lt b a=false
 tr:∀ a b c,lt b a=false→lt c b=false→lt c a=false
 an:∀ a b,lt a b=false→lt b a=false→a=b
theorem z5t.refl {α:Type} {lt:α→α→Bool} (h:z5t lt) (a:α):lt a a=false:=by
 cases e:lt a a with
 | false=>rfl
 | true=>rw [h.asy a a e] at e;cases e
def z9f {α:Type} (prog:Program) (w:World) (A:Around) (E:Value→Shared→Prop) (s:Shared) (kd:SortKind) (S:List Keyed) (kf:Keyed→α) (lt:α→α→Bool):Prop :=
 ∀ (st:SortSt) (x y:Keyed) (Q:Option Bool→SortSt→Prop),kindOf st=kd→x∈S→y∈S→Q (some (lt (kf x) (kf y))) st→wpS (model prog w) A E s (lt' x y) Q st
def zaw:Bool→Keyed→Array Keyed→Nat→Nat→Nat→StateT SortSt Sem (Option Nat):=sortPriv% PySem.Builtin.gallop
section
variable {prog:Program} {w:World} {A:Around} {E:Value→Shared→Prop} {s:Shared} {α:Type} {kf:Keyed→α} {lt:α→α→Bool} {kd:SortKind} {S:List Keyed}
def bey (kf:Keyed→α) (lt:α→α→Bool) (left:Bool) (key x:Keyed):Bool:=if left then lt (kf x) (kf key) else !lt (kf key) (kf x)
theorem zdA (hA:z9f prog w A E s kd S kf lt) {st:SortSt} (hk:kindOf st=kd) {left:Bool} {key x:Keyed} {arr:Array Keyed} {i:Nat} (hx:arr[i]?=some x) (hxS:x∈S) (hkS:key∈S) {Q:Option Bool→SortSt→Prop} (h:Q (some (bey kf lt left key x)) st) :
  wpS (model prog w) A E s (elem' arr i >>= fun x=>ite (left=true) (lt' x key) (lt' key x >>= fun r=>pure (r.map not))) Q st:=by
 rw [elem'_eq,hx]
 refine wpS_bind (wpS_pure ?_)
 cases left with
 | true =>
  simp only [if_true]
  exact hA st x key Q hk hxS hkS h
 | false =>
  simp only [Bool.false_eq_true,if_false]
  exact wpS_bind (hA st key x _ hk hkS hxS (wpS_pure h))
theorem z9a (hA:z9f prog w A E s kd S kf lt) {st:SortSt} (hk:kindOf st=kd) {left:Bool} {key:Keyed} {arr:Array Keyed} {base n hint:Nat} (hkS:key∈S)
  (hx:∀ i,i < n→∃ x,arr[base+i]?=some x∧x∈S) (P:Nat→Bool) (hP:∀ i x,i < n→arr[base+i]?=some x→bey kf lt left key x=P i)
  (mono:∀ i j,i≤j→j < n→P j=true→P i=true) (hh:hint < n) {Q:Option Nat→SortSt→Prop}
  (h:∀ k,k≤n→(∀ i,i < k→P i=true)→(∀ i,k≤i→i < n→P i=false)→Q (some k) st) :
  wpS (model prog w) A E s (zaw left key arr base n hint) Q st:=by
 have nmono:∀ i j,i≤j→j < n→P i=false→P j=false:=fun i j hij hj hi=>by
  cases e:P j with
  | false=>rfl
  | true=>rw [mono i j hij hj e] at hi;cases hi
 have ask:∀ i,i < n→∀ {st':SortSt},st'=st→∀ {Q:Option Bool→SortSt→Prop},Q (some (P i)) st→wpS (model prog w) A E s (elem' arr (base+i) >>= fun x=>ite (left=true) (lt' x key) (lt' key x >>= fun r=>pure (r.map not))) Q st':=fun i hi st' e Q hq=>by
  subst e
  obtain ⟨x,e1,e2⟩:=hx i hi
  exact zdA hA hk e1 e2 hkS (by rw [hP i x hi e1];exact hq)
 refine wpS_bind (ask hint hh rfl ?_)
 dsimp only
 cases eh:P hint
 rotate_left
 focus
  simp only [if_true]
  refine wpS_bind (wpS_mono (wpS_forRange (I:=fun x c st'=>st'=st∧∃ lo ofs,c=(none,lo,ofs)∧lo < ofs∧hint+lo < n∧P (hint+lo)=true∧x < ofs)
   (Q:=fun c st'=>st'=st∧∃ lo ofs,c=(none,lo,ofs)∧lo < ofs∧hint+lo < n∧P (hint+lo)=true∧(ofs ≥ n - hint∨P (hint+ofs)=false)) ?s1 ?f1 ⟨rfl,0,1,rfl,by lia,by lia,eh,by lia⟩) ?p1)
  case f1 =>
   rintro c st' ⟨rfl,lo,ofs,rfl,a1,a2,a3,a4⟩
   exact ⟨rfl,lo,ofs,rfl,a1,a2,a3,.inl (by lia)⟩
  case s1 =>
   rintro x c st' _ hxn ⟨rfl,lo,ofs,rfl,a1,a2,a3,a4⟩
   dsimp only
   by_cases c1:ofs ≥ n - hint
   ·rw [if_pos c1]
    exact wpS_pure ⟨rfl,lo,ofs,rfl,a1,a2,a3,.inl c1⟩
   ·rw [if_neg c1]
    refine wpS_bind (ask (hint+ofs) (by lia) rfl ?_)
    dsimp only
    cases e:P (hint+ofs) with
    | true =>
     simp only [Bool.not_true,Bool.false_eq_true,if_false]
     exact wpS_pure ⟨rfl,ofs,2*ofs+1,rfl,by lia,by lia,e,by lia⟩
    | false =>
     simp only [Bool.not_false,if_true]
     exact wpS_pure ⟨rfl,lo,ofs,rfl,a1,a2,a3,.inr e⟩
  rintro c st9 ⟨h9,lo,ofs,rfl,a1,a2,a3,a4⟩
  rw [h9]
  have q1:hint+lo+1≤hint+min ofs (n - hint):=by lia
  have q2:hint+min ofs (n - hint)≤n:=by lia
  have q3:∀ i,i < hint+lo+1→P i=true:=fun i hi=>mono i (hint+lo) (by lia) a2 a3
  have q4:∀ i,hint+min ofs (n - hint)≤i→i < n→P i=false:=fun i h1 h2=>by
   rcases a4 with a4 | a4
   ·lia
   ·exact nmono (hint+ofs) i (by lia) h2 a4
  dsimp only
 rotate_left
 focus
  simp only [Bool.false_eq_true,if_false]
  refine wpS_bind (wpS_mono (wpS_forRange (I:=fun x c st'=>st'=st∧∃ lo ofs,c=(none,lo,ofs)∧lo < ofs∧lo≤hint∧P (hint - lo)=false∧x < ofs)
   (Q:=fun c st'=>st'=st∧∃ lo ofs,c=(none,lo,ofs)∧lo < ofs∧lo≤hint∧P (hint - lo)=false∧(ofs ≥ hint+1∨P (hint - ofs)=true)) ?s2 ?f2 ⟨rfl,0,1,rfl,by lia,by lia,eh,by lia⟩) ?p2)
  case f2 =>
   rintro c st' ⟨rfl,lo,ofs,rfl,a1,a2,a3,a4⟩
   exact ⟨rfl,lo,ofs,rfl,a1,a2,a3,.inl (by lia)⟩
  case s2 =>
   rintro x c st' _ hxn ⟨rfl,lo,ofs,rfl,a1,a2,a3,a4⟩
   dsimp only
   by_cases c1:ofs ≥ hint+1
   ·rw [if_pos c1]
    exact wpS_pure ⟨rfl,lo,ofs,rfl,a1,a2,a3,.inl c1⟩
   ·rw [if_neg c1]
    refine wpS_bind (ask (hint - ofs) (by lia) rfl ?_)
    dsimp only
    cases e:P (hint - ofs) with
    | true =>
     simp only [if_true]
     exact wpS_pure ⟨rfl,lo,ofs,rfl,a1,a2,a3,.inr e⟩
    | false =>
     simp only [Bool.false_eq_true,if_false]
     exact wpS_pure ⟨rfl,ofs,2*ofs+1,rfl,by lia,by lia,e,by lia⟩
  rintro c st9 ⟨h9,lo,ofs,rfl,a1,a2,a3,a4⟩
  rw [h9]
  have q1:hint+1 - min ofs (hint+1)≤hint - lo:=by lia
  have q2:hint - lo≤n:=by lia
  have q3:∀ i,i < hint+1 - min ofs (hint+1)→P i=true:=fun i hi=>by
   rcases a4 with a4 | a4
   ·lia
   ·exact mono i (hint - ofs) (by lia) (by lia) a4
  have q4:∀ i,hint - lo≤i→i < n→P i=false:=fun i h1 h2=>nmono (hint - lo) i (by lia) h2 a3
  dsimp only
 all_goals
  refine wpS_bind (wpS_mono (wpS_forRange (I:=fun x c st'=>st'=st∧∃ lo hi,c=(none,lo,hi)∧lo≤hi∧hi≤n∧(∀ i,i < lo→P i=true)∧(∀ i,hi≤i→i < n→P i=false)∧hi - lo≤n - x)
   (Q:=fun c st'=>st'=st∧∃ k,c=(none,k,k)∧k≤n∧(∀ i,i < k→P i=true)∧(∀ i,k≤i→i < n→P i=false)) ?step ?fin' ⟨rfl,_,_,rfl,q1,q2,q3,q4,by lia⟩) ?post)
  case fin' =>
   rintro c st' ⟨rfl,lo,hi,rfl,a1,a2,a3,a4,a5⟩
   have:lo=hi:=by lia
   subst this
   exact ⟨rfl,lo,rfl,a2,a3,a4⟩
  case post =>
   rintro c st' ⟨rfl,k,rfl,a1,a2,a3⟩
   exact wpS_pure (h k a1 a2 a3)
  case step =>
   rintro x c st' _ hxn ⟨rfl,lo,hi,rfl,a1,a2,a3,a4,a5⟩
   dsimp only
   by_cases c1:lo ≥ hi
   ·rw [if_pos c1]
    have:lo=hi:=by lia
    subst this
    exact wpS_pure ⟨rfl,lo,rfl,a2,a3,a4⟩
   ·rw [if_neg c1]
    have hm:lo+(hi - lo) / 2 < hi:=by lia
    have hml:lo≤lo+(hi - lo) / 2:=Nat.le_add_right _ _
    have hmh:hi - (lo+(hi - lo) / 2+1)+1≤hi - lo∧lo+(hi - lo) / 2 - lo+1≤hi - lo:=by lia
    generalize lo+(hi - lo) / 2=m at hm hml hmh ⊢
    refine wpS_bind (ask m (by lia) rfl ?_)
    dsimp only
    cases e:P m with
    | true =>
     simp only [if_true]
     exact wpS_pure ⟨rfl,m+1,hi,rfl,by lia,a2,fun i hi'=>mono i m (by lia) (by lia) e,a4,by lia⟩
    | false =>
     simp only [Bool.false_eq_true,if_false]
     exact wpS_pure ⟨rfl,lo,m,rfl,hml,by lia,a3,fun i h1 h2=>nmono m i h1 h2 e,by lia⟩
end
end L2
namespace L2
open PySem PyProof.Rows
def z6w:Nat→StateT SortSt Sem Unit:=sortPriv% PySem.Builtin.setMinGallop
def zc7:Array Keyed→Array Keyed→StateT SortSt Sem (Array Keyed):=sortPriv% PySem.Builtin.mergeLo
section
variable {α:Type} (kf:Keyed→α) (lt:α→α→Bool)
def Sl (l:List Keyed):Prop:=l.Pairwise fun x y=>lt (kf y) (kf x)=false
structure MI (a b:Array Keyed) (out:Array Keyed) (ia ib:Nat):Prop where
 la:ia≤a.size
 lb:ib≤b.size
 so:Sl kf lt out.toList
 le:∀ x∈out.toList,∀ y∈a.toList.drop ia++b.toList.drop ib,lt (kf y) (kf x)=false
 pm:(out.toList++(a.toList.drop ia++b.toList.drop ib)).Perm (a.toList++b.toList)
end
section
variable {α:Type} {kf:Keyed→α} {lt:α→α→Bool}
theorem z4M {a:Array Keyed} {i:Nat} (h:i < a.size):a.toList.drop i=a[i]::a.toList.drop (i+1):=by
 rw [List.drop_eq_getElem_cons (by simpa using h)];simp
theorem MI.size {a b out:Array Keyed} {ia ib:Nat} (h:MI kf lt a b out ia ib):out.size=ia+ib:=by
 have:=h.pm.length_eq
 have h1:=h.la
 have h2:=h.lb
 simp at this
 lia
theorem z7P {l:List Keyed} {i:Nat} {x:Keyed} (h:Sl kf lt l) (hx:l[i]?=some x):∀ y∈l.drop (i+1),lt (kf y) (kf x)=false:=fun y hy=>by
 obtain ⟨j,hj,e⟩:=List.mem_iff_getElem.mp hy
 rw [List.getElem_drop] at e
 obtain ⟨hi,ei⟩:=zGs.mp hx
 have hj':i+1+j < l.length:=by simp at hj;lia
 have:=List.pairwise_iff_getElem.mp h i (i+1+j) hi hj' (by lia)
 rw [ei,e] at this
 exact this
theorem z7O {l:List Keyed} (h:Sl kf lt l) (i:Nat):Sl kf lt (l.drop i):=h.sublist (List.drop_sublist _ _)
theorem z2R (T:z5t lt) {l:List Keyed} {i:Nat} {x y:Keyed} (h:Sl kf lt l) (hx:l[i]?=some x) (hy:lt (kf x) (kf y)=false):∀ z∈l.drop i,lt (kf z) (kf y)=false:=fun z hz=>by
 obtain ⟨hi,ei⟩:=zGs.mp hx
 rw [List.drop_eq_getElem_cons hi,ei] at hz
 rcases List.mem_cons.mp hz with rfl | hz
 ·exact hy
 ·exact T.tr (kf y) (kf x) (kf z) hy (z7P h hx z hz)
theorem MI.pushA {a b out:Array Keyed} {ia ib:Nat} (h:MI kf lt a b out ia ib) (sa:Sl kf lt a.toList) (hi:ia < a.size) (hle:∀ y∈b.toList.drop ib,lt (kf y) (kf a[ia])=false):MI kf lt a b (out.push a[ia]) (ia+1) ib:=by
 have e:=z4M hi
 have hx:a.toList[ia]?=some a[ia]:=by rw [Array.getElem?_toList,Array.getElem?_eq_getElem hi]
 refine ⟨hi,h.lb,?_,fun x hx' y hy=>?_,?_⟩
 ·rw [Array.toList_push]
  refine List.pairwise_append.mpr ⟨h.so,List.pairwise_singleton _ _,fun x hx' y hy=>?_⟩
  rw [List.mem_singleton.mp hy]
  exact h.le x hx' a[ia] (by rw [e];simp)
 ·rw [Array.toList_push,List.mem_append,List.mem_singleton] at hx'
  rcases hx' with hx' | rfl
  ·exact h.le x hx' y (by
    rcases List.mem_append.mp hy with z | z
    ·rw [e];simp [z]
    ·simp [z])
  ·rcases List.mem_append.mp hy with z | z
   ·exact z7P sa hx y z
   ·exact hle y z
 ·have:=h.pm
  rw [e] at this
  rw [Array.toList_push,List.append_assoc]
  exact this
theorem MI.pushB {a b out:Array Keyed} {ia ib:Nat} (h:MI kf lt a b out ia ib) (sb:Sl kf lt b.toList) (hi:ib < b.size) (hle:∀ y∈a.toList.drop ia,lt (kf y) (kf b[ib])=false):MI kf lt a b (out.push b[ib]) ia (ib+1):=by
 have e:=z4M hi
 have hx:b.toList[ib]?=some b[ib]:=by rw [Array.getElem?_toList,Array.getElem?_eq_getElem hi]
 refine ⟨h.la,hi,?_,fun x hx' y hy=>?_,?_⟩
 ·rw [Array.toList_push]
  refine List.pairwise_append.mpr ⟨h.so,List.pairwise_singleton _ _,fun x hx' y hy=>?_⟩
  rw [List.mem_singleton.mp hy]
  exact h.le x hx' b[ib] (by rw [e];simp)
 ·rw [Array.toList_push,List.mem_append,List.mem_singleton] at hx'
  rcases hx' with hx' | rfl
  ·exact h.le x hx' y (by
    rcases List.mem_append.mp hy with z | z
    ·simp [z]
    ·rw [e];simp [z])
  ·rcases List.mem_append.mp hy with z | z
   ·exact hle y z
   ·exact z7P sb hx y z
 ·have:=h.pm
  rw [e] at this
  rw [Array.toList_push,List.append_assoc]
  refine List.Perm.trans ?_ this
  refine List.Perm.append_left _ ?_
  rw [List.singleton_append]
  exact (List.perm_middle).symm
theorem MI.chunkA {a b out:Array Keyed} {ia ib:Nat} (sa:Sl kf lt a.toList) (h:MI kf lt a b out ia ib):∀ (k:Nat),ia+k≤a.size→(∀ i (hi:i < a.size),ia≤i→i < ia+k→∀ y∈b.toList.drop ib,lt (kf y) (kf a[i])=false)→MI kf lt a b (out++a.extract ia (ia+k)) (ia+k) ib
 | 0,_,_=>by
  have:a.extract ia (ia+0)=#[]:=by simp;lia
  rw [this,Array.append_empty]
  exact h
 | k+1,hk,hle=>by
  have ih:=MI.chunkA sa h k (by lia) fun i hi h1 h2=>hle i hi h1 (by lia)
  have:=ih.pushA sa (by lia:ia+k < a.size) (hle (ia+k) (by lia) (by lia) (by lia))
  have e:out++a.extract ia (ia+(k+1))=(out++a.extract ia (ia+k)).push a[ia+k]:=by
   have e1:=Array.push_extract_getElem (as:=a) (i:=ia) (j:=ia+k) (by lia)
   rw [Nat.min_eq_left (by lia)] at e1
   rw [←Array.append_push,show ia+(k+1)=(ia+k)+1 by lia,e1]
  rw [e]
  exact this
theorem MI.swap {a b out:Array Keyed} {ia ib:Nat} (h:MI kf lt a b out ia ib):MI kf lt b a out ib ia:=by
 refine ⟨h.lb,h.la,h.so,fun x hx y hy=>h.le x hx y ?_,?_⟩
 ·rcases List.mem_append.mp hy with z | z
  ·exact List.mem_append_right _ z
  ·exact List.mem_append_left _ z
 ·exact ((List.Perm.append_left _ List.perm_append_comm).trans h.pm).trans List.perm_append_comm
theorem MI.chunkB {a b out:Array Keyed} {ia ib:Nat} (sb:Sl kf lt b.toList) (h:MI kf lt a b out ia ib) (k:Nat) (hk:ib+k≤b.size) (hle:∀ i (hi:i < b.size),ib≤i→i < ib+k→∀ y∈a.toList.drop ia,lt (kf y) (kf b[i])=false):MI kf lt a b (out++b.extract ib (ib+k)) ia (ib+k) :=
 (MI.chunkA sb h.swap k hk hle).swap
def Mgd (kf:Keyed→α) (lt:α→α→Bool) (a b r:Array Keyed):Prop:=Sl kf lt r.toList∧r.toList.Perm (a.toList++b.toList)
theorem z1N (a:Array Keyed) (i:Nat):(a.extract i a.size).toList=a.toList.drop i:=by
 rw [Array.toList_extract,List.extract_eq_take_drop]
 exact List.take_of_length_le (by simp)
theorem MI.doneB {a b out:Array Keyed} {ia:Nat} (sa:Sl kf lt a.toList) (h:MI kf lt a b out ia b.size):Mgd kf lt a b (out++a.extract ia a.size++b.extract b.size b.size):=by
 have e:b.toList.drop b.size=[]:=List.drop_of_length_le (by simp)
 have e2:(out++a.extract ia a.size++b.extract b.size b.size).toList=out.toList++a.toList.drop ia:=by
  rw [Array.toList_append,Array.toList_append,z1N,z1N,e,List.append_nil]
 unfold Mgd
 rw [e2]
 refine ⟨List.pairwise_append.mpr ⟨h.so,z7O sa ia,fun x hx y hy=>h.le x hx y (by simp [hy])⟩,?_⟩
 have:=h.pm
 rw [e,List.append_nil] at this
 exact this
theorem MI.doneA {a b out:Array Keyed} {ib:Nat} (sb:Sl kf lt b.toList) (h:MI kf lt a b out a.size ib):Mgd kf lt a b (out++a.extract a.size a.size++b.extract ib b.size):=by
 have e:a.toList.drop a.size=[]:=List.drop_of_length_le (by simp)
 have e2:(out++a.extract a.size a.size++b.extract ib b.size).toList=out.toList++b.toList.drop ib:=by
  rw [Array.toList_append,Array.toList_append,z1N,z1N,e,List.append_nil]
 unfold Mgd
 rw [e2]
 refine ⟨List.pairwise_append.mpr ⟨h.so,z7O sb ib,fun x hx y hy=>h.le x hx y (by simp [hy])⟩,?_⟩
 have:=h.pm
 rw [e,List.nil_append] at this
 exact this
theorem MI.lastA {a b out:Array Keyed} {ia ib:Nat} (sb:Sl kf lt b.toList) (h:MI kf lt a b out ia ib) (hia:ia+1=a.size) (hl:∀ y∈b.toList,∀ z,a[a.size - 1]?=some z→lt (kf z) (kf y)=false):Mgd kf lt a b (out++b.extract ib b.size++a.extract ia a.size):=by
 have hi:ia < a.size:=by lia
 have e:a.toList.drop ia=[a[ia]]:=by
  rw [z4M hi,List.drop_of_length_le (by simp;lia)]
 have e2:(out++b.extract ib b.size++a.extract ia a.size).toList=out.toList++(b.toList.drop ib++[a[ia]]):=by
  rw [Array.toList_append,Array.toList_append,z1N,z1N,e,List.append_assoc]
 have hz:a[a.size - 1]?=some a[ia]:=by
  rw [show a.size - 1=ia by lia,Array.getElem?_eq_getElem hi]
 unfold Mgd
 rw [e2]
 refine ⟨List.pairwise_append.mpr ⟨h.so,List.pairwise_append.mpr ⟨z7O sb ib,List.pairwise_singleton _ _,fun x hx y hy=>?_⟩,fun x hx y hy=>h.le x hx y ?_⟩,?_⟩
 ·rw [List.mem_singleton.mp hy]
  exact hl x (List.mem_of_mem_drop hx) _ hz
 ·rw [e]
  rcases List.mem_append.mp hy with z | z
  ·exact List.mem_append_right _ z
  ·exact List.mem_append_left _ z
 ·have:=h.pm
  rw [e] at this
  exact (List.Perm.append_left _ List.perm_append_comm).trans this
end
section
variable {prog:Program} {w:World} {A:Around} {E:Value→Shared→Prop} {s:Shared} {α:Type} {kf:Keyed→α} {lt:α→α→Bool} {kd:SortKind} {S:List Keyed}
theorem z0B {st:SortSt} {arr:Array Keyed} {i:Nat} {x:Keyed} {Q:Keyed→SortSt→Prop} (h:arr[i]?=some x) (q:Q x st):wpS (model prog w) A E s (elem' arr i) Q st:=by
 rw [elem'_eq,h];exact wpS_pure q
theorem z3N (T:z5t lt) (hA:z9f prog w A E s kd S kf lt) {st:SortSt} (hk:kindOf st=kd) {left:Bool} {key:Keyed} {arr:Array Keyed} {base n hint:Nat} (hkS:key∈S) (hbn:base+n≤arr.size)
  (hS:∀ i (hi:i < arr.size),base≤i→i < base+n→arr[i]∈S) (seg:∀ i j (hi:i < arr.size) (hj:j < arr.size),base≤i→i≤j→j < base+n→lt (kf arr[j]) (kf arr[i])=false) (hh:hint < n) {Q:Option Nat→SortSt→Prop}
  (h:∀ k,k≤n→(∀ i (hi:i < arr.size),base≤i→i < base+k→bey kf lt left key arr[i]=true)→(∀ i (hi:i < arr.size),base+k≤i→i < base+n→bey kf lt left key arr[i]=false)→Q (some k) st) :
  wpS (model prog w) A E s (zaw left key arr base n hint) Q st:=by
 refine z9a hA hk hkS (fun i hi=>⟨arr[base+i],Array.getElem?_eq_getElem (by lia),hS _ (by lia) (by lia) (by lia)⟩) (fun i=>bey kf lt left key (arr[base+i]?.getD key)) (fun i x hi hx=>by rw [hx];rfl) (fun i j hij hj hp=>?_) hh fun k hk1 h1 h2=>?_
 ·have ei:arr[base+i]?=some arr[base+i]:=Array.getElem?_eq_getElem (by lia)
  have ej:arr[base+j]?=some arr[base+j]:=Array.getElem?_eq_getElem (by lia)
  have sg:=seg (base+i) (base+j) (by lia) (by lia) (by lia) (by lia) (by lia)
  simp only [ej,Option.getD_some] at hp
  simp only [ei,Option.getD_some]
  unfold bey at hp ⊢
  cases left with
  | true =>
   simp only [if_true] at hp ⊢
   cases e:lt (kf arr[base+i]) (kf key) with
   | true=>rfl
   | false=>rw [T.tr _ _ _ e sg] at hp;cases hp
  | false =>
   simp only [Bool.false_eq_true,if_false,Bool.not_eq_true'] at hp ⊢
   exact T.tr _ _ _ sg hp
 ·refine h k hk1 (fun i hi a1 a2=>?_) (fun i hi a1 a2=>?_)
  ·have:=h1 (i - base) (by lia)
   rw [show base+(i - base)=i by lia,Array.getElem?_eq_getElem hi] at this
   exact this
  ·have:=h2 (i - base) (by lia) (by lia)
   rw [show base+(i - base)=i by lia,Array.getElem?_eq_getElem hi] at this
   exact this
theorem z8K {arr:Array Keyed} (T:z5t lt) (h:Sl kf lt arr.toList) {base n:Nat}:∀ i j (hi:i < arr.size) (hj:j < arr.size),base≤i→i≤j→j < base+n→lt (kf arr[j]) (kf arr[i])=false:=fun i j hi hj _ hij _=>by
 rcases Nat.lt_or_ge i j with q | q
 ·have:=List.pairwise_iff_getElem.mp h i j (by simpa using hi) (by simpa using hj) q
  simpa using this
 ·have:i=j:=by lia
  subst this
  exact T.refl _
def StG (st st':SortSt):Prop:=∃ g,st'=SortSt.mk' (kindOf st) (arrOf st) (pendingOf st) g (failedOf st)
theorem StG.refl (st:SortSt):StG st st:=⟨gallopOf st,rfl⟩
theorem StG.set {st st':SortSt} (h:StG st st') (g:Nat):StG st (SortSt.mk' (kindOf st') (arrOf st') (pendingOf st') g (failedOf st')):=by
 obtain ⟨g',rfl⟩:=h
 exact ⟨g,rfl⟩
theorem z46 {M:Model} {A:Around} {E:Value→Shared→Prop} {s:Shared} {st st2:SortSt} (hG:StG st st2) {g:Nat} {Q:PUnit→SortSt→Prop} (h:∀ st3,StG st st3→Q ⟨⟩ st3):wpS M A E s (z6w g) Q st2:=wpS_modify (h _ (hG.set g))
theorem StG.kind {st st':SortSt} (h:StG st st'):kindOf st'=kindOf st:=by obtain ⟨g,rfl⟩:=h;rfl
set_option maxHeartbeats 8000000 in
theorem z7T (T:z5t lt) (hA:z9f prog w A E s kd S kf lt) {st:SortSt} (hk:kindOf st=kd) {a b:Array Keyed} (haS:∀ x∈a.toList,x∈S) (hbS:∀ x∈b.toList,x∈S) (sa:Sl kf lt a.toList) (sb:Sl kf lt b.toList)
  (ha:0 < a.size) (hb:0 < b.size) (hfirst:lt (kf b[0]) (kf a[0])=true) (hl:∀ y∈b.toList,∀ z,a[a.size - 1]?=some z→lt (kf z) (kf y)=false) {Q:Array Keyed→SortSt→Prop}
  (h:∀ r st',StG st st'→Mgd kf lt a b r→Q r st') :
  wpS (model prog w) A E s (zc7 a b) Q st:=by
 have M0:MI kf lt a b #[] 0 0:=⟨by lia,by lia,List.Pairwise.nil,fun x hx=>by simp at hx,by simp⟩
 have eb0:b[0]?=some b[0]:=Array.getElem?_eq_getElem hb
 have M1:MI kf lt a b #[b[0]] 0 1:=M0.pushB sb hb (fun y hy=>z2R T sa (i:=0) (x:=a[0]) (by simp [ha]) (T.asy _ _ hfirst) y hy)
 have hSa:∀ i (hi:i < a.size),a[i]∈S:=fun i hi=>haS _ (by simp)
 have hSb:∀ i (hi:i < b.size),b[i]∈S:=fun i hi=>hbS _ (by simp)
 have ea:∀ i (hi:i < a.size),a[i]?=some a[i]:=fun i hi=>Array.getElem?_eq_getElem hi
 have eb:∀ i (hi:i < b.size),b[i]?=some b[i]:=fun i hi=>Array.getElem?_eq_getElem hi
 have leA:∀ i (hi:i < a.size) (y:Keyed),lt (kf a[i]) (kf y)=false→∀ z∈a.toList.drop i,lt (kf z) (kf y)=false:=fun i hi y q=>z2R T sa (by simp [hi]) q
 have leB:∀ i (hi:i < b.size) (y:Keyed),lt (kf b[i]) (kf y)=false→∀ z∈b.toList.drop i,lt (kf z) (kf y)=false:=fun i hi y q=>z2R T sb (by simp [hi]) q
 refine wpS_bind (wpS_lift (wpAny_rule ⟨rfl,?_⟩))
 refine wpS_bind (z0B eb0 ?_)
 dsimp only
 by_cases c1:1=b.size
 ·rw [if_pos (by simpa using c1)]
  refine wpS_pure (h _ _ (StG.refl st) ?_)
  rw [c1] at M1
  have:=M1.doneB sa
  rw [←c1] at this
  rw [←c1]
  exact this
 rw [if_neg (by simpa using c1)]
 by_cases c2:0+1=a.size
 ·rw [if_pos (by simpa using c2)]
  exact wpS_pure (h _ _ (StG.refl st) (M1.lastA sb (by lia) hl))
 rw [if_neg (by simpa using c2)]
 refine wpS_bind (wpS_get ?_)
 refine wpS_bind (wpS_mono (wpS_forRange (I:=fun x c st'=>StG st st'∧∃ out ia ib mg,c=(none,out,ia,ib,mg)∧MI kf lt a b out ia ib∧ia+1 < a.size∧ib < b.size∧x < out.size)
  (Q:=fun c st'=>StG st st'∧∃ r,c.1=some r∧Mgd kf lt a b r) ?step ?fin ⟨StG.refl st,_,_,_,_,rfl,M1,by lia,by lia,by simp⟩) ?post)
 case fin =>
  rintro c st' ⟨hG,out,ia,ib,mg,rfl,M,q1,q2,q3⟩
  have:=M.size
  lia
 case post =>
  rintro ⟨c1,c2⟩ st' ⟨hG,r,e,hr⟩
  dsimp only at e ⊢
  subst e
  exact wpS_pure (h r st' hG hr)
 case step =>
  rintro x c st1 _ hx ⟨hG,out,ia,ib,mg,rfl,M,q1,q2,q3⟩
  dsimp only
  refine wpS_bind (wpS_mono (wpS_forRange (I:=fun y c st'=>st'=st1∧∃ out ia ib ac bc,c=(none,out,ia,ib,ac,bc)∧MI kf lt a b out ia ib∧ia+1 < a.size∧ib < b.size∧x+y < out.size)
   (Q:=fun c st'=>st'=st1∧((∃ r,c.1=some r∧Mgd kf lt a b r)∨∃ out ia ib ac bc,c=(none,out,ia,ib,ac,bc)∧MI kf lt a b out ia ib∧ia+1 < a.size∧ib < b.size∧x+1 < out.size)) ?istep ?ifin ⟨rfl,_,_,_,_,_,rfl,M,q1,q2,by lia⟩) ?ipost)
  case ifin =>
   rintro c st' ⟨rfl,out,ia,ib,ac,bc,rfl,M,q1,q2,q3⟩
   exact ⟨rfl,.inr ⟨out,ia,ib,ac,bc,rfl,M,q1,q2,by lia⟩⟩
  case istep =>
   rintro y c st' _ hy ⟨rfl,out,ia,ib,ac,bc,rfl,M,q1,q2,q3⟩
   dsimp only
   refine wpS_bind (z0B (eb ib q2) ?_)
   refine wpS_bind (z0B (ea ia (by lia)) ?_)
   refine wpS_bind (hA _ _ _ _ (hG.kind.trans hk) (hSb ib q2) (hSa ia (by lia)) ?_)
   dsimp only
   cases e:lt (kf b[ib]) (kf a[ia]) with
   | true =>
    simp only [if_true]
    refine wpS_bind (z0B (eb ib q2) ?_)
    have M':=M.pushB sb q2 (leA ia (by lia) _ (T.asy _ _ e))
    have hs:(out.push b[ib]).size=out.size+1:=Array.size_push ..
    by_cases d1:ib+1=b.size
    ·rw [if_pos (by simpa using d1)]
     refine wpS_pure ⟨rfl,.inl ⟨_,rfl,?_⟩⟩
     rw [d1] at M' ⊢
     exact M'.doneB sa
    rw [if_neg (by simpa using d1)]
    split
    ·exact wpS_pure ⟨rfl,.inr ⟨_,_,_,_,_,rfl,M',q1,by lia,by lia⟩⟩
    ·exact wpS_pure ⟨rfl,_,_,_,_,_,rfl,M',q1,by lia,by lia⟩
   | false =>
    simp only [Bool.false_eq_true,if_false]
    refine wpS_bind (z0B (ea ia (by lia)) ?_)
    have M':=M.pushA sa (by lia:ia < a.size) (leB ib q2 _ e)
    have hs:(out.push a[ia]).size=out.size+1:=Array.size_push ..
    by_cases d1:ia+1+1=a.size
    ·rw [if_pos (by simpa using d1)]
     exact wpS_pure ⟨rfl,.inl ⟨_,rfl,M'.lastA sb d1 hl⟩⟩
    rw [if_neg (by simpa using d1)]
    split
    ·exact wpS_pure ⟨rfl,.inr ⟨_,_,_,_,_,rfl,M',by lia,q2,by lia⟩⟩
    ·exact wpS_pure ⟨rfl,_,_,_,_,_,rfl,M',by lia,q2,by lia⟩
  case ipost =>
   rintro c st' ⟨h9,hc⟩
   rw [h9]
   rcases hc with ⟨r,e,hr⟩ | ⟨out,ia,ib,ac,bc,rfl,M,q1,q2,q3⟩
   ·obtain ⟨c1,c2⟩:=c
    dsimp only at e ⊢
    subst e
    exact wpS_pure ⟨hG,r,rfl,hr⟩
   dsimp only
   refine wpS_bind (wpS_lift (wpAny_rule ⟨rfl,?_⟩))
   refine wpS_bind (wpS_mono (wpS_forRange (I:=fun y c st'=>StG st st'∧∃ out ia ib mg ac bc,c=(none,out,ia,ib,mg,ac,bc)∧MI kf lt a b out ia ib∧ia+1 < a.size∧ib < b.size∧x+1 < out.size)
    (Q:=fun c st'=>StG st st'∧((∃ r,c.1=some r∧Mgd kf lt a b r)∨∃ out ia ib mg ac bc,c=(none,out,ia,ib,mg,ac,bc)∧MI kf lt a b out ia ib∧ia+1 < a.size∧ib < b.size∧x+1 < out.size)) ?gstep ?gfin ⟨hG,_,_,_,_,_,_,rfl,M,q1,q2,q3⟩) ?gpost)
   case gfin =>
    rintro c st' ⟨hG,out,ia,ib,mg,ac,bc,rfl,M,q1,q2,q3⟩
    exact ⟨hG,.inr ⟨out,ia,ib,mg,ac,bc,rfl,M,q1,q2,q3⟩⟩
   case gpost =>
    rintro c st' ⟨hG,hc⟩
    rcases hc with ⟨r,e,hr⟩ | ⟨out,ia,ib,mg,ac,bc,rfl,M,q1,q2,q3⟩
    ·obtain ⟨c1,c2⟩:=c
     dsimp only at e ⊢
     subst e
     exact wpS_pure ⟨hG,r,rfl,hr⟩
    dsimp only
    refine wpS_bind (z46 hG fun st3 hG2=>?_)
    exact wpS_pure ⟨hG2,out,ia,ib,_,rfl,M,q1,q2,q3⟩
   case gstep =>
    rintro y c st2 _ hy ⟨hG,out,ia,ib,mg,ac,bc,rfl,M,q1,q2,q3⟩
    dsimp only
    by_cases d0:mg > 1
    all_goals
     first | rw [if_pos d0] | rw [if_neg d0]
     refine wpS_bind (z46 hG fun st3 hG2=>?_)
     refine wpS_bind (z0B (eb ib q2) ?_)
     refine wpS_bind (z3N T hA (hG2.kind.trans hk) (hSb ib q2) (by lia) (fun i hi _ _=>hSa i hi) (z8K T sa) (by lia) fun k hk1 f1 f2=>?_)
     have f1':∀ i (hi:i < a.size),ia≤i→i < ia+k→lt (kf b[ib]) (kf a[i])=false:=fun i hi u1 u2=>by have:=f1 i hi u1 u2;unfold bey at this;simpa using this
     have f2':∀ i (hi:i < a.size),ia+k≤i→lt (kf b[ib]) (kf a[i])=true:=fun i hi u1=>by have:=f2 i hi u1 (by lia);unfold bey at this;simpa using this
     dsimp only
     have hs0:=M.size
     by_cases d1:k > 0
     focus
      rw [if_pos d1]
      have M2:=M.chunkA sa k (by lia) (fun i hi u1 u2=>leB ib q2 _ (f1' i hi u1 u2))
      by_cases d2:ia+k+1=a.size
      ·rw [if_pos (by simpa using d2)]
       exact wpS_pure ⟨hG2,.inl ⟨_,rfl,M2.lastA sb d2 hl⟩⟩
      rw [if_neg (by simpa using d2)]
      by_cases d2':ia+k=a.size
      ·rw [if_pos (by simpa using d2')]
       refine wpS_pure ⟨hG2,.inl ⟨_,rfl,?_⟩⟩
       rw [d2'] at M2 ⊢
       exact M2.doneA sb
      rw [if_neg (by simpa using d2')]
      have u2:ia+k+1 < a.size:=by lia
      have f3:=f2' (ia+k) (by lia) (Nat.le_refl _)
     rotate_left
     focus
      rw [if_neg d1]
      have hk0:k=0:=by lia
      subst hk0
      have M2:=M
      have u2:=q1
      have f3:=f2' ia (by lia) (by lia)
     all_goals
      refine wpS_bind (z0B (eb ib q2) ?_)
      have u3:=Nat.lt_of_succ_lt u2
      have M3:=M2.pushB sb q2 (leA _ u3 _ (T.asy _ _ f3))
      by_cases d3:ib+1=b.size
      ·rw [if_pos (by simpa using d3)]
       refine wpS_pure ⟨hG2,.inl ⟨_,rfl,?_⟩⟩
       rw [d3] at M3 ⊢
       exact M3.doneB sa
      rw [if_neg (by simpa using d3)]
      refine wpS_bind (z0B (ea _ u3) ?_)
      refine wpS_bind (z3N T hA (hG2.kind.trans hk) (hSa _ u3) (by lia) (fun i hi _ _=>hSb i hi) (z8K T sb) (by lia) fun k1 hk1 g1 g2=>?_)
      dsimp only
      by_cases d4:k1 > 0
      focus
       rw [if_pos d4]
       have M4:=M3.chunkB sb k1 (by lia) (fun i hi u1 u2=>leA _ u3 _ (T.asy _ _ (g1 i hi u1 u2)))
       by_cases d5:ib+1+k1=b.size
       ·rw [if_pos (by simpa using d5)]
        refine wpS_pure ⟨hG2,.inl ⟨_,rfl,?_⟩⟩
        rw [d5] at M4 ⊢
        exact M4.doneB sa
       rw [if_neg (by simpa using d5)]
       have u4:ib+1+k1 < b.size:=by lia
       have g3:=g2 (ib+1+k1) u4 (Nat.le_refl _) (by lia)
      rotate_left
      focus
       rw [if_neg d4]
       have hk0:k1=0:=by lia
       subst hk0
       have M4:=M3
       have u4:ib+1 < b.size:=by lia
       have g3:=g2 (ib+1) u4 (by lia) (by lia)
      all_goals
       refine wpS_bind (z0B (ea _ u3) ?_)
       have M5:=M4.pushA sa u3 (leB _ u4 _ g3)
       have hs5:=M5.size
       split
       ·rename_i d6
        exact wpS_pure ⟨hG2,.inl ⟨_,rfl,M5.lastA sb (by simpa using d6) hl⟩⟩
       rename_i d6
       rw [beq_iff_eq] at d6
       split
       ·exact wpS_pure ⟨hG2,.inr ⟨_,_,_,_,_,_,rfl,M5,by lia,by lia,by lia⟩⟩
       ·exact wpS_pure ⟨hG2,_,_,_,_,_,_,rfl,M5,by lia,by lia,by lia⟩
end
end L2
namespace L2
open PySem PyProof.Rows
def zc8:Array Keyed→Array Keyed→StateT SortSt Sem (Array Keyed):=sortPriv% PySem.Builtin.mergeHi
section
variable {α:Type} (kf:Keyed→α) (lt:α→α→Bool)
structure MH (a b:Array Keyed) (out:Array Keyed) (na nb:Nat):Prop where
 la:na≤a.size
 lb:nb≤b.size
 so:Sl kf lt out.toList.reverse
 le:∀ y∈out.toList,∀ x∈a.toList.take na++b.toList.take nb,lt (kf y) (kf x)=false
 pm:((a.toList.take na++b.toList.take nb)++out.toList.reverse).Perm (a.toList++b.toList)
end
section
variable {α:Type} {kf:Keyed→α} {lt:α→α→Bool}
theorem z5z {a:Array Keyed} {i:Nat} (h:i < a.size):a.toList.take (i+1)=a.toList.take i++[a[i]]:=by
 rw [List.take_add_one,show a.toList[i]?=some a[i] by rw [Array.getElem?_toList,Array.getElem?_eq_getElem h]];rfl
theorem MH.size {a b out:Array Keyed} {na nb:Nat} (h:MH kf lt a b out na nb):out.size+na+nb=a.size+b.size:=by
 have:=h.pm.length_eq
 have h1:=h.la
 have h2:=h.lb
 simp at this
 lia
theorem z3G (T:z5t lt) {l:List Keyed} {i:Nat} {x y:Keyed} (h:Sl kf lt l) (hx:l[i]?=some x) (hy:lt (kf y) (kf x)=false):∀ z∈l.take (i+1),lt (kf y) (kf z)=false:=fun z hz=>by
 obtain ⟨j,hj,e⟩:=List.mem_iff_getElem.mp hz
 rw [List.getElem_take] at e
 obtain ⟨hi,ei⟩:=zGs.mp hx
 have hji:j≤i:=by simp at hj;lia
 rcases Nat.lt_or_ge j i with q | q
 ·have:=List.pairwise_iff_getElem.mp h j i (by lia) hi q
  rw [e,ei] at this
  exact T.tr (kf z) (kf x) (kf y) this hy
 ·have:j=i:=by lia
  subst this
  rw [←e,ei]
  exact hy
theorem MH.pushA {a b out:Array Keyed} {na nb:Nat} (h:MH kf lt a b out (na+1) nb) (sa:Sl kf lt a.toList) (T:z5t lt) (hi:na < a.size) (hle:∀ x∈b.toList.take nb,lt (kf a[na]) (kf x)=false):MH kf lt a b (out.push a[na]) na nb:=by
 have e:=z5z hi
 have hx:a.toList[na]?=some a[na]:=by rw [Array.getElem?_toList,Array.getElem?_eq_getElem hi]
 have hin:∀ x∈a.toList.take na++b.toList.take nb,x∈a.toList.take (na+1)++b.toList.take nb:=fun x hx=>by
  rcases List.mem_append.mp hx with z | z
  ·rw [e];simp [z]
  ·simp [z]
 refine ⟨by have:=h.la;lia,h.lb,?_,fun y hy x hx'=>?_,?_⟩
 ·rw [Array.toList_push,List.reverse_append]
  refine List.pairwise_append.mpr ⟨List.pairwise_singleton _ _,h.so,fun x hx' y hy=>?_⟩
  have hx'':x=a[na]:=by simpa using hx'
  subst hx''
  exact h.le y (by simpa using hy) a[na] (by rw [e];simp)
 ·rw [Array.toList_push,List.mem_append,List.mem_singleton] at hy
  rcases hy with hy | rfl
  ·exact h.le y hy x (hin x hx')
  ·rcases List.mem_append.mp hx' with z | z
   ·exact z3G T sa hx (T.refl _) x (by rw [e];simp [z])
   ·exact hle x z
 ·have:=h.pm
  rw [e] at this
  rw [Array.toList_push,List.reverse_append]
  refine List.Perm.trans ?_ this
  show ((a.toList.take na++b.toList.take nb)++([a[na]]++out.toList.reverse)).Perm ((a.toList.take na++[a[na]]++b.toList.take nb)++out.toList.reverse)
  rw [←List.append_assoc]
  refine List.Perm.append_right _ ?_
  rw [List.append_assoc,List.append_assoc]
  exact List.Perm.append_left _ List.perm_append_comm
theorem MH.swap {a b out:Array Keyed} {na nb:Nat} (h:MH kf lt a b out na nb):MH kf lt b a out nb na:=by
 refine ⟨h.lb,h.la,h.so,fun y hy x hx=>h.le y hy x ?_,?_⟩
 ·rcases List.mem_append.mp hx with z | z
  ·exact List.mem_append_right _ z
  ·exact List.mem_append_left _ z
 ·exact ((List.Perm.append_right _ List.perm_append_comm).trans h.pm).trans List.perm_append_comm
theorem MH.pushB {a b out:Array Keyed} {na nb:Nat} (h:MH kf lt a b out na (nb+1)) (sb:Sl kf lt b.toList) (T:z5t lt) (hi:nb < b.size) (hle:∀ x∈a.toList.take na,lt (kf b[nb]) (kf x)=false):MH kf lt a b (out.push b[nb]) na nb :=
 (MH.pushA h.swap sb T hi hle).swap
theorem MH.chunkA {a b:Array Keyed} {nb at_:Nat} (sa:Sl kf lt a.toList) (T:z5t lt):∀ (na:Nat) (out:Array Keyed),at_≤na→MH kf lt a b out na nb→(∀ i (hi:i < a.size),at_≤i→i < na→∀ x∈b.toList.take nb,lt (kf a[i]) (kf x)=false)→MH kf lt a b (out++(a.extract at_ na).reverse) at_ nb
 | 0,out,h0,h,_=>by
  have:at_=0:=by lia
  subst this
  simpa using h
 | na+1,out,h0,h,hle=>by
  by_cases e:at_=na+1
  ·subst e
   have:(a.extract (na+1) (na+1)).reverse=#[]:=by simp;lia
   rw [this,Array.append_empty]
   exact h
  ·have hi:na < a.size:=by have:=h.la;lia
   have:=MH.chunkA sa T na (out.push a[na]) (by lia) (h.pushA sa T hi (hle na hi (by lia) (by lia))) fun i hi' u1 u2=>hle i hi' u1 (by lia)
   have e2:out++(a.extract at_ (na+1)).reverse=out.push a[na]++(a.extract at_ na).reverse:=by
    have e1:=Array.push_extract_getElem (as:=a) (i:=at_) (j:=na) hi
    rw [Nat.min_eq_left (by lia)] at e1
    rw [←e1,Array.reverse_push]
    simp
   rw [e2]
   exact this
theorem MH.chunkB {a b:Array Keyed} {na at_:Nat} (sb:Sl kf lt b.toList) (T:z5t lt) (nb:Nat) (out:Array Keyed) (h0:at_≤nb) (h:MH kf lt a b out na nb) (hle:∀ i (hi:i < b.size),at_≤i→i < nb→∀ x∈a.toList.take na,lt (kf b[i]) (kf x)=false):MH kf lt a b (out++(b.extract at_ nb).reverse) na at_ :=
 (MH.chunkA sb T nb out h0 h.swap hle).swap
theorem z1q (a:Array Keyed) (n:Nat):(a.extract 0 n).toList=a.toList.take n:=by
 rw [Array.toList_extract,List.extract_eq_take_drop];simp
theorem MH.doneA {a b out:Array Keyed} {nb:Nat} (sb:Sl kf lt b.toList) (h:MH kf lt a b out 0 nb):Mgd kf lt a b (a.extract 0 0++b.extract 0 nb++out.reverse):=by
 have e2:(a.extract 0 0++b.extract 0 nb++out.reverse).toList=b.toList.take nb++out.toList.reverse:=by
  rw [Array.toList_append,Array.toList_append,z1q,z1q,Array.toList_reverse];simp
 unfold Mgd
 rw [e2]
 refine ⟨List.pairwise_append.mpr ⟨sb.sublist (List.take_sublist _ _),h.so,fun x hx y hy=>h.le y (by simpa using hy) x (by simp [hx])⟩,?_⟩
 have:=h.pm
 simpa using this
theorem MH.doneB {a b out:Array Keyed} {na:Nat} (sa:Sl kf lt a.toList) (h:MH kf lt a b out na 0):Mgd kf lt a b (a.extract 0 na++b.extract 0 0++out.reverse):=by
 have e2:(a.extract 0 na++b.extract 0 0++out.reverse).toList=a.toList.take na++out.toList.reverse:=by
  rw [Array.toList_append,Array.toList_append,z1q,z1q,Array.toList_reverse];simp
 unfold Mgd
 rw [e2]
 refine ⟨List.pairwise_append.mpr ⟨sa.sublist (List.take_sublist _ _),h.so,fun x hx y hy=>h.le y (by simpa using hy) x (by simp [hx])⟩,?_⟩
 have:=h.pm
 simpa using this
theorem MH.firstB {a b out:Array Keyed} {na:Nat} (sa:Sl kf lt a.toList) (hb:0 < b.size) (h:MH kf lt a b out na 1) (hf:∀ y∈a.toList,lt (kf y) (kf b[0])=false):Mgd kf lt a b (b.extract 0 1++a.extract 0 na++out.reverse):=by
 have e1:b.toList.take 1=[b[0]]:=by
  have:=z5z (a:=b) (i:=0) hb
  simpa using this
 have e2:(b.extract 0 1++a.extract 0 na++out.reverse).toList=[b[0]]++a.toList.take na++out.toList.reverse:=by
  rw [Array.toList_append,Array.toList_append,z1q,z1q,Array.toList_reverse,e1]
 unfold Mgd
 rw [e2]
 refine ⟨List.pairwise_append.mpr ⟨List.pairwise_append.mpr ⟨List.pairwise_singleton _ _,sa.sublist (List.take_sublist _ _),fun x hx y hy=>?_⟩,h.so,fun x hx y hy=>h.le y (by simpa using hy) x ?_⟩,?_⟩
 ·rw [List.mem_singleton.mp hx]
  exact hf y (List.mem_of_mem_take hy)
 ·rw [e1]
  rcases List.mem_append.mp hx with z | z
  ·exact List.mem_append_right _ z
  ·exact List.mem_append_left _ z
 ·have:=h.pm
  rw [e1] at this
  exact (List.Perm.append_right _ List.perm_append_comm).trans this
end
section
variable {prog:Program} {w:World} {A:Around} {E:Value→Shared→Prop} {s:Shared} {α:Type} {kf:Keyed→α} {lt:α→α→Bool} {kd:SortKind} {S:List Keyed}
set_option maxHeartbeats 8000000 in
theorem z7Q (T:z5t lt) (hA:z9f prog w A E s kd S kf lt) {st:SortSt} (hk:kindOf st=kd) {a b:Array Keyed} (haS:∀ x∈a.toList,x∈S) (hbS:∀ x∈b.toList,x∈S) (sa:Sl kf lt a.toList) (sb:Sl kf lt b.toList)
  (ha:0 < a.size) (hb:0 < b.size) (hfirst:lt (kf b[0]) (kf a[0])=true) (hl:∀ y∈b.toList,∀ z,a[a.size - 1]?=some z→lt (kf z) (kf y)=false) {Q:Array Keyed→SortSt→Prop}
  (h:∀ r st',StG st st'→Mgd kf lt a b r→Q r st') :
  wpS (model prog w) A E s (zc8 a b) Q st:=by
 have hSa:∀ i (hi:i < a.size),a[i]∈S:=fun i hi=>haS _ (by simp)
 have hSb:∀ i (hi:i < b.size),b[i]∈S:=fun i hi=>hbS _ (by simp)
 have ea:∀ i (hi:i < a.size),a[i]?=some a[i]:=fun i hi=>Array.getElem?_eq_getElem hi
 have eb:∀ i (hi:i < b.size),b[i]?=some b[i]:=fun i hi=>Array.getElem?_eq_getElem hi
 have hf:∀ y∈a.toList,lt (kf y) (kf b[0])=false:=fun y hy=>z2R T sa (i:=0) (x:=a[0]) (by simp [ha]) (T.asy _ _ hfirst) y (by simpa using hy)
 have leA:∀ i (hi:i < a.size) (y:Keyed),lt (kf y) (kf a[i])=false→∀ z∈a.toList.take (i+1),lt (kf y) (kf z)=false:=fun i hi y q=>z3G T sa (by simp [hi]) q
 have leB:∀ i (hi:i < b.size) (y:Keyed),lt (kf y) (kf b[i])=false→∀ z∈b.toList.take (i+1),lt (kf y) (kf z)=false:=fun i hi y q=>z3G T sb (by simp [hi]) q
 obtain ⟨m,hm⟩:∃ m,a.size=m+1:=⟨a.size - 1,by lia⟩
 have hm1:a.size - 1=m:=by lia
 have M0:MH kf lt a b #[] (m+1) b.size:=⟨by lia,Nat.le_refl _,List.Pairwise.nil,fun y hy=>by simp at hy,by rw [←hm,List.take_of_length_le (by simp),List.take_of_length_le (by simp)];simp⟩
 have M1:MH kf lt a b #[a[m]] m b.size:=M0.pushA sa T (by lia) (fun x hx=>hl x (List.mem_of_mem_take hx) _ (by rw [hm1];exact ea m (by lia)))
 refine wpS_bind (wpS_lift (wpAny_rule ⟨rfl,?_⟩))
 rw [hm1]
 refine wpS_bind (z0B (ea m (by lia)) ?_)
 dsimp only
 by_cases c1:m=0
 ·rw [if_pos (by simpa using c1)]
  refine wpS_pure (h _ _ (StG.refl st) ?_)
  subst c1
  exact M1.doneA sb
 rw [if_neg (by simpa using c1)]
 by_cases c2:b.size=1
 ·rw [if_pos (by simpa using c2)]
  refine wpS_pure (h _ _ (StG.refl st) ?_)
  rw [c2] at M1
  have:=M1.firstB sa hb hf
  rw [←c2] at this
  exact this
 rw [if_neg (by simpa using c2)]
 refine wpS_bind (wpS_get ?_)
 refine wpS_bind (wpS_mono (wpS_forRange (I:=fun x c st'=>StG st st'∧∃ na nb out mg,c=(none,na,nb,out,mg)∧MH kf lt a b out na nb∧1≤na∧2≤nb∧x < out.size)
  (Q:=fun c st'=>StG st st'∧∃ r,c.1=some r∧Mgd kf lt a b r) ?step ?fin ⟨StG.refl st,_,_,_,_,rfl,M1,by lia,by lia,by simp⟩) ?post)
 case fin =>
  rintro c st' ⟨hG,na,nb,out,mg,rfl,M,q1,q2,q3⟩
  have:=M.size
  lia
 case post =>
  rintro ⟨c1,c2⟩ st' ⟨hG,r,e,hr⟩
  dsimp only at e ⊢
  subst e
  exact wpS_pure (h r st' hG hr)
 case step =>
  rintro x c st1 _ hx ⟨hG,na,nb,out,mg,rfl,M,q1,q2,q3⟩
  dsimp only
  refine wpS_bind (wpS_mono (wpS_forRange (I:=fun y c st'=>st'=st1∧∃ na nb out ac bc,c=(none,na,nb,out,ac,bc)∧MH kf lt a b out na nb∧1≤na∧2≤nb∧x+y < out.size)
   (Q:=fun c st'=>st'=st1∧((∃ r,c.1=some r∧Mgd kf lt a b r)∨∃ na nb out ac bc,c=(none,na,nb,out,ac,bc)∧MH kf lt a b out na nb∧1≤na∧2≤nb∧x+1 < out.size)) ?istep ?ifin ⟨rfl,_,_,_,_,_,rfl,M,q1,q2,by lia⟩) ?ipost)
  case ifin =>
   rintro c st' ⟨rfl,na,nb,out,ac,bc,rfl,M,q1,q2,q3⟩
   exact ⟨rfl,.inr ⟨na,nb,out,ac,bc,rfl,M,q1,q2,by lia⟩⟩
  case istep =>
   rintro y c st' _ hy ⟨rfl,na,nb,out,ac,bc,rfl,M,q1,q2,q3⟩
   obtain ⟨p,rfl⟩:∃ p,na=p+1:=⟨na - 1,by lia⟩
   obtain ⟨r,rfl⟩:∃ r,nb=r+2:=⟨nb - 2,by lia⟩
   have hp:p < a.size:=by have:=M.la;lia
   have hr:r+1 < b.size:=by have:=M.lb;lia
   have z1:p+1 - 1=p:=rfl
   have z2:r+2 - 1=r+1:=rfl
   dsimp only
   simp only [z1,z2]
   refine wpS_bind (z0B (eb (r+1) hr) ?_)
   refine wpS_bind (z0B (ea p hp) ?_)
   refine wpS_bind (hA _ _ _ _ (hG.kind.trans hk) (hSb (r+1) hr) (hSa p hp) ?_)
   dsimp only
   cases e:lt (kf b[r+1]) (kf a[p]) with
   | true =>
    simp only [if_true]
    refine wpS_bind (z0B (ea p hp) ?_)
    have M':=M.pushA sa T hp (leB (r+1) hr _ (T.asy _ _ e))
    have hs:(out.push a[p]).size=out.size+1:=Array.size_push ..
    by_cases d1:p=0
    ·rw [if_pos (by simpa using d1)]
     refine wpS_pure ⟨rfl,.inl ⟨_,rfl,?_⟩⟩
     subst d1
     exact M'.doneA sb
    rw [if_neg (by simpa using d1)]
    split
    ·exact wpS_pure ⟨rfl,.inr ⟨_,_,_,_,_,rfl,M',by lia,by lia,by lia⟩⟩
    ·exact wpS_pure ⟨rfl,_,_,_,_,_,rfl,M',by lia,by lia,by lia⟩
   | false =>
    simp only [Bool.false_eq_true,if_false]
    refine wpS_bind (z0B (eb (r+1) hr) ?_)
    have M':=M.pushB sb T hr (leA p hp _ e)
    have hs:(out.push b[r+1]).size=out.size+1:=Array.size_push ..
    by_cases d1:r+1=1
    ·rw [if_pos (by simpa using d1)]
     refine wpS_pure ⟨rfl,.inl ⟨_,rfl,?_⟩⟩
     have d1':r=0:=by lia
     subst d1'
     exact M'.firstB sa hb hf
    rw [if_neg (by simpa using d1)]
    split
    ·exact wpS_pure ⟨rfl,.inr ⟨_,_,_,_,_,rfl,M',by lia,by lia,by lia⟩⟩
    ·exact wpS_pure ⟨rfl,_,_,_,_,_,rfl,M',by lia,by lia,by lia⟩
  case ipost =>
   rintro c st' ⟨h9,hc⟩
   rw [h9]
   rcases hc with ⟨r,e,hr⟩ | ⟨na,nb,out,ac,bc,rfl,M,q1,q2,q3⟩
   ·obtain ⟨c1,c2⟩:=c
    dsimp only at e ⊢
    subst e
    exact wpS_pure ⟨hG,r,rfl,hr⟩
   dsimp only
   refine wpS_bind (wpS_lift (wpAny_rule ⟨rfl,?_⟩))
   refine wpS_bind (wpS_mono (wpS_forRange (I:=fun y c st'=>StG st st'∧∃ na nb out mg ac bc,c=(none,na,nb,out,mg,ac,bc)∧MH kf lt a b out na nb∧1≤na∧2≤nb∧x+1 < out.size)
    (Q:=fun c st'=>StG st st'∧((∃ r,c.1=some r∧Mgd kf lt a b r)∨∃ na nb out mg ac bc,c=(none,na,nb,out,mg,ac,bc)∧MH kf lt a b out na nb∧1≤na∧2≤nb∧x+1 < out.size)) ?gstep ?gfin ⟨hG,_,_,_,_,_,_,rfl,M,q1,q2,q3⟩) ?gpost)
   case gfin =>
    rintro c st' ⟨hG,na,nb,out,mg,ac,bc,rfl,M,q1,q2,q3⟩
    exact ⟨hG,.inr ⟨na,nb,out,mg,ac,bc,rfl,M,q1,q2,q3⟩⟩
   case gpost =>
    rintro c st' ⟨hG,hc⟩
    rcases hc with ⟨r,e,hr⟩ | ⟨na,nb,out,mg,ac,bc,rfl,M,q1,q2,q3⟩
    ·obtain ⟨c1,c2⟩:=c
     dsimp only at e ⊢
     subst e
     exact wpS_pure ⟨hG,r,rfl,hr⟩
    dsimp only
    refine wpS_bind (z46 hG fun st3 hG2=>?_)
    exact wpS_pure ⟨hG2,na,nb,out,_,rfl,M,q1,q2,q3⟩
   case gstep =>
    rintro y c st2 _ hy ⟨hG,na,nb,out,mg,ac,bc,rfl,M,q1,q2,q3⟩
    obtain ⟨p,rfl⟩:∃ p,na=p+1:=⟨na - 1,by lia⟩
    obtain ⟨r,rfl⟩:∃ r,nb=r+2:=⟨nb - 2,by lia⟩
    have hp:p < a.size:=by have:=M.la;lia
    have hr:r+1 < b.size:=by have:=M.lb;lia
    have z1:p+1 - 1=p:=rfl
    have z2:r+2 - 1=r+1:=rfl
    have z3:r+1 - 1=r:=rfl
    dsimp only
    simp only [z1,z2,z3]
    by_cases d0:mg > 1
    all_goals
     first | rw [if_pos d0] | rw [if_neg d0]
     refine wpS_bind (z46 hG fun st3 hG2=>?_)
     refine wpS_bind (z0B (eb (r+1) hr) ?_)
     refine wpS_bind (z3N T hA (hG2.kind.trans hk) (hSb (r+1) hr) (by lia) (fun i hi _ _=>hSa i hi) (z8K T sa) (by lia) fun a1 ha1 f1 f2=>?_)
     have f1':∀ i (hi:i < a.size),i < a1→lt (kf b[r+1]) (kf a[i])=false:=fun i hi u=>by have:=f1 i hi (Nat.zero_le _) (by lia);unfold bey at this;simpa using this
     have f2':∀ i (hi:i < a.size),a1≤i→i < p+1→lt (kf b[r+1]) (kf a[i])=true:=fun i hi u1 u2=>by have:=f2 i hi (by lia) (by lia);unfold bey at this;simpa using this
     have HA:∀ x∈a.toList.take a1,lt (kf b[r+1]) (kf x)=false:=fun x hx=>by
      obtain ⟨j,hj,e⟩:=List.mem_iff_getElem.mp hx
      rw [List.getElem_take] at e
      have hj':j < a1∧j < a.size:=by simp at hj;lia
      have:=f1' j hj'.2 hj'.1
      rw [←e]
      simpa using this
     dsimp only
     by_cases d1:p+1 - a1 > 0
     focus
      rw [if_pos d1]
      have M2:=MH.chunkA sa T (p+1) _ (by lia:a1≤p+1) M (fun i hi u1 u2=>leB (r+1) hr _ (T.asy _ _ (f2' i hi u1 u2)))
      by_cases d2:a1=0
      ·rw [if_pos (by simpa using d2)]
       refine wpS_pure ⟨hG2,.inl ⟨_,rfl,?_⟩⟩
       subst d2
       exact M2.doneA sb
      rw [if_neg (by simpa using d2)]
      obtain ⟨p1,rfl⟩:∃ p1,a1=p1+1:=⟨a1 - 1,by lia⟩
      have z4:p1+1 - 1=p1:=rfl
      simp only [z4]
     rotate_left
     focus
      rw [if_neg d1]
      have hk0:a1=p+1:=by lia
      subst hk0
      have M2:=M
      obtain ⟨p1,rfl⟩:∃ p1,p1=p:=⟨p,rfl⟩
     all_goals
      refine wpS_bind (z0B (eb (r+1) hr) ?_)
      have M3:=M2.pushB sb T hr HA
      by_cases d3:r+1=1
      ·rw [if_pos (by simpa using d3)]
       refine wpS_pure ⟨hG2,.inl ⟨_,rfl,?_⟩⟩
       have d3':r=0:=by lia
       subst d3'
       exact M3.firstB sa hb hf
      rw [if_neg (by simpa using d3)]
      refine wpS_bind (z0B (ea (p1) (by lia)) ?_)
      refine wpS_bind (z3N T hA (hG2.kind.trans hk) (hSa (p1) (by lia)) (by lia) (fun i hi _ _=>hSb i hi) (z8K T sb) (by lia) fun a2 ha2 g1 g2=>?_)
      have g1':∀ i (hi:i < b.size),i < a2→lt (kf b[i]) (kf a[p1])=true:=fun i hi u=>by have:=g1 i hi (Nat.zero_le _) (by lia);unfold bey at this;simpa using this
      have g2':∀ i (hi:i < b.size),a2≤i→i < r+1→lt (kf b[i]) (kf a[p1])=false:=fun i hi u1 u2=>by have:=g2 i hi (by lia) (by lia);unfold bey at this;simpa using this
      have HB:∀ x∈b.toList.take a2,lt (kf a[p1]) (kf x)=false:=fun x hx=>by
       obtain ⟨j,hj,e⟩:=List.mem_iff_getElem.mp hx
       rw [List.getElem_take] at e
       have hj':j < a2∧j < b.size:=by simp at hj;lia
       have:=T.asy _ _ (g1' j hj'.2 hj'.1)
       rw [←e]
       simpa using this
      dsimp only
      by_cases d4:r+1 - a2 > 0
      focus
       rw [if_pos d4]
       have MB:=MH.chunkB sb T (r+1) _ (by lia:a2≤r+1) M3 (fun i hi u1 u2=>leA (p1) (by lia) _ (g2' i hi u1 u2))
       by_cases d5:a2=1
       ·rw [if_pos (by simpa using d5)]
        refine wpS_pure ⟨hG2,.inl ⟨_,rfl,?_⟩⟩
        subst d5
        exact MB.firstB sa hb hf
       rw [if_neg (by simpa using d5)]
       by_cases d5':a2=0
       ·rw [if_pos (by simpa using d5')]
        refine wpS_pure ⟨hG2,.inl ⟨_,rfl,?_⟩⟩
        subst d5'
        exact MB.doneB sa
       rw [if_neg (by simpa using d5')]
      rotate_left
      focus
       rw [if_neg d4]
       have hk0:a2=r+1:=by lia
       subst hk0
       have MB:=M3
      all_goals
       refine wpS_bind (z0B (ea (p1) (by lia)) ?_)
       have M5:=MB.pushA sa T (by lia:p1 < a.size) HB
       have hs5:=M5.size
       have hs0:=M.size
       by_cases d6:p1=0
       ·rw [if_pos (by simpa using d6)]
        refine wpS_pure ⟨hG2,.inl ⟨_,rfl,?_⟩⟩
        subst d6
        exact M5.doneA sb
       rw [if_neg (by simpa using d6)]
       split
       ·exact wpS_pure ⟨hG2,.inr ⟨_,_,_,_,_,_,rfl,M5,by lia,by lia,by lia⟩⟩
       ·exact wpS_pure ⟨hG2,_,_,_,_,_,_,rfl,M5,by lia,by lia,by lia⟩
end
end L2
namespace L2
open PySem PyProof.Rows
section
variable {α:Type} (kf:Keyed→α) (lt:α→α→Bool)
def KA (xs:Array Keyed) (i:Nat):α:=kf (xs[i]?.getD (.none,.none))
def zb1 (xs:Array Keyed) (lo n:Nat):Prop:=∀ i j,i≤j→j < n→lt (KA kf xs (lo+j)) (KA kf xs (lo+i))=false
def zeg (xs:Array Keyed) (lo n:Nat):Prop:=∀ i j,i≤j→j < n→lt (KA kf xs (lo+i)) (KA kf xs (lo+j))=false
end
structure SB (kd:SortKind) (p0:Array (Nat × Nat × Nat)) (a₀:Array Keyed) (lo hi:Nat) (st:SortSt):Prop where
 perm:(arrOf st).Perm a₀
 kind:kindOf st=kd
 failed:failedOf st=none
 pend:pendingOf st=p0
 out:∀ k:Nat,k < lo∨hi≤k→(arrOf st)[k]?=a₀[k]?
section
variable {α:Type} {kf:Keyed→α} {lt:α→α→Bool} {kd:SortKind} {p0:Array (Nat × Nat × Nat)} {a₀:Array Keyed} {lo hi:Nat} {st:SortSt}
theorem SB.size (h:SB kd p0 a₀ lo hi st):(arrOf st).size=a₀.size:=h.perm.size_eq
theorem SB.arr (h:SB kd p0 a₀ lo hi st) {xs:Array Keyed} (hp:xs.Perm (arrOf st)) (ho:∀ k:Nat,k < lo∨hi≤k→xs[k]?=(arrOf st)[k]?):SB kd p0 a₀ lo hi (setArr st xs) :=
 ⟨hp.trans h.perm,h.kind,h.failed,h.pend,fun k hk=>(ho k hk).trans (h.out k hk)⟩
theorem z3k {xs ys:Array Keyed} {i j:Nat} (h:xs[i]?=ys[j]?):KA kf xs i=KA kf ys j:=by unfold KA;rw [h]
theorem z4N {xs:Array Keyed} {i j:Nat} (hj:j≤xs.size) (k:Nat):KA kf (mirror xs i j ((j - i) / 2)) k=if i≤k∧k < j then KA kf xs (i+j - 1 - k) else KA kf xs k:=by
 have e:=getElem?_mirror_all (i:=i) hj k
 by_cases h1:i≤k∧k < j
 ·rw [if_pos h1] at e ⊢;exact z3k e
 ·rw [if_neg h1] at e ⊢;exact z3k e
theorem z1a {xs:Array Keyed} {i j:Nat} (hj:j≤xs.size) (heq:∀ k,i≤k→k < j→KA kf xs k=KA kf xs (j - 1)) (k:Nat):KA kf (mirror xs i j ((j - i) / 2)) k=KA kf xs k:=by
 rw [z4N hj]
 split
 ·rw [heq _ (by lia) (by lia),heq k (by lia) (by lia)]
 ·rfl
theorem z70 {xs:Array Keyed} {src d:Nat} (hs:src < xs.size) (hd:d≤src) (k:Nat):KA kf (bubble xs src d) k=if k=src - d then KA kf xs src else if src - d < k∧k≤src then KA kf xs (k - 1) else KA kf xs k:=by
 have e:=getElem?_bubble hs d hd k
 by_cases h1:k=src - d
 ·rw [if_pos h1] at e ⊢;exact z3k e
 ·rw [if_neg h1] at e ⊢
  by_cases h2:src - d < k∧k≤src
  ·rw [if_pos h2] at e ⊢;exact z3k e
  ·rw [if_neg h2] at e ⊢;exact z3k e
theorem z2O {xs:Array Keyed} {i j:Nat} (hj:j≤xs.size) {k:Nat} (hk:k < i∨j≤k):(mirror xs i j ((j - i) / 2))[k]?=xs[k]?:=by
 rw [getElem?_mirror_all hj,if_neg (by lia)]
theorem z9v {xs:Array Keyed} {src d:Nat} (hs:src < xs.size) (hd:d≤src) {k:Nat} (hk:k < src - d∨src < k):(bubble xs src d)[k]?=xs[k]?:=by
 rw [getElem?_bubble hs d hd,if_neg (by lia),if_neg (by lia)]
end
section
variable {prog:Program} {w:World} {A:Around} {E:Value→Shared→Prop} {s:Shared} {α:Type} {kf:Keyed→α} {lt:α→α→Bool} {kd:SortKind} {S:List Keyed} {p0:Array (Nat × Nat × Nat)} {a₀:Array Keyed} {lo hi:Nat}
theorem z3L (hA:z9f prog w A E s kd S kf lt) (h0:∀ x∈a₀.toList,x∈S) {st:SortSt} (hB:SB kd p0 a₀ lo hi st) {i j:Nat} (hi':i < a₀.size) (hj:j < a₀.size) {Q:Option Bool→SortSt→Prop}
  (h:Q (some (lt (KA kf (arrOf st) i) (KA kf (arrOf st) j))) st):wpS (model prog w) A E s (ltAt' i j) Q st:=by
 have e:∀ k,k < a₀.size→∃ x,(arrOf st)[k]?=some x∧x∈S∧KA kf (arrOf st) k=kf x:=fun k hk=>by
  have hk':k < (arrOf st).size:=by rw [hB.size];exact hk
  refine ⟨(arrOf st)[k],Array.getElem?_eq_getElem hk',h0 _ ((Array.perm_iff_toList_perm.mp hB.perm).mem_iff.mp (by simp)),?_⟩
  unfold KA;rw [Array.getElem?_eq_getElem hk'];rfl
 obtain ⟨x,e1,x1,x2⟩:=e i hi'
 obtain ⟨y,e2,y1,y2⟩:=e j hj
 rw [ltAt'_eq]
 refine wpS_bind (wpS_get ?_)
 show wpS _ _ _ _ (do let x ←elem' (arrOf st) i;let y ←elem' (arrOf st) j;lt' x y) Q st
 refine wpS_bind (z0B e1 ?_)
 refine wpS_bind (z0B e2 ?_)
 exact hA st x y Q hB.kind x1 y1 (by rw [←x2,←y2];exact h)
theorem z4E (T:z5t lt) (hA:z9f prog w A E s kd S kf lt) (h0:∀ x∈a₀.toList,x∈S) {st:SortSt} {n ok:Nat} {Q:Bool→SortSt→Prop} (hn:lo+n≤a₀.size) (hhi:lo+n≤hi) (hok:ok≤n) (hB:SB kd p0 a₀ lo hi st) (hs:zb1 kf lt (arrOf st) lo ok)
  (h:∀ st',SB kd p0 a₀ lo hi st'→zb1 kf lt (arrOf st') lo n→Q true st'):wpS (model prog w) A E s (binarySort' lo n ok) Q st:=by
 rw [binarySort'_eq]
 refine wpS_bind (wpS_mono (wpS_forRange (I:=fun k c st'=>c=(none,())∧SB kd p0 a₀ lo hi st'∧zb1 kf lt (arrOf st') lo (min k n))
  (Q:=fun c st'=>c=(none,())∧SB kd p0 a₀ lo hi st'∧zb1 kf lt (arrOf st') lo n) ?step ?fin ?init) ?post)
 case post =>
  rintro c st' ⟨rfl,hB',hs'⟩
  exact wpS_pure (h st' hB' hs')
 case init =>
  refine ⟨rfl,hB,fun i j hij hj=>?_⟩
  by_cases h1:ok=0
  ·have:i=j:=by lia
   subst this;exact T.refl _
  ·exact hs i j hij (by lia)
 case fin =>
  rintro c st' ⟨hc,hB',hs'⟩
  refine ⟨hc,hB',?_⟩
  rwa [show min (max (max ok 1) n) n=n by lia] at hs'
 case step =>
  rintro k c st' hak hkn ⟨rfl,hB',hs'⟩
  rw [show min k n=k by lia] at hs'
  have hk:lo+k < a₀.size:=by lia
  refine wpS_bind (wpS_mono (wpS_forRange (I:=fun x c st''=>st''=st'∧∃ l r,c=(none,l,r)∧l≤r∧r≤k∧r - l≤k - x ∧
    (∀ i,i < l→lt (KA kf (arrOf st') (lo+k)) (KA kf (arrOf st') (lo+i))=false)∧(∀ i,r≤i→i < k→lt (KA kf (arrOf st') (lo+k)) (KA kf (arrOf st') (lo+i))=true))
   (Q:=fun c st''=>st''=st'∧∃ l r,c=(none,l,r)∧l≤k ∧
    (∀ i,i < l→lt (KA kf (arrOf st') (lo+k)) (KA kf (arrOf st') (lo+i))=false)∧(∀ i,l≤i→i < k→lt (KA kf (arrOf st') (lo+k)) (KA kf (arrOf st') (lo+i))=true)) ?istep ?ifin ?iinit) ?ipost)
  case iinit=>exact ⟨rfl,0,k,rfl,by lia,by lia,by lia,fun i hi=>by lia,fun i h1 h2=>by lia⟩
  case ifin =>
   rintro c st'' ⟨rfl,l,r,rfl,hlr,hrk,hm,hlo,hhi⟩
   have:l=r:=by lia
   subst this
   exact ⟨rfl,l,l,rfl,hrk,hlo,hhi⟩
  case istep =>
   rintro x c st'' _ hxk ⟨rfl,l,r,rfl,hlr,hrk,hm,hlo,hhi⟩
   dsimp only
   by_cases hge:l ≥ r
   ·rw [if_pos hge]
    have:l=r:=by lia
    subst this
    exact wpS_pure ⟨rfl,l,l,rfl,hrk,hlo,hhi⟩
   ·rw [if_neg hge]
    refine wpS_bind (z3L hA h0 hB' hk (by lia) ?_)
    cases hless:lt (KA kf (arrOf st'') (lo+k)) (KA kf (arrOf st'') (lo+(l+r) / 2))
    case true =>
     simp only [if_true]
     refine wpS_pure ⟨rfl,l,(l+r) / 2,rfl,by lia,by lia,by lia,hlo,fun i h1 h2=>?_⟩
     cases e:lt (KA kf (arrOf st'') (lo+k)) (KA kf (arrOf st'') (lo+i)) with
     | true=>rfl
     | false=>rw [T.tr _ _ _ (hs' _ _ h1 h2) e] at hless;cases hless
    case false =>
     simp only [Bool.false_eq_true,if_false]
     refine wpS_pure ⟨rfl,(l+r) / 2+1,r,rfl,by lia,by lia,by lia,fun i h1=>?_,hhi⟩
     exact T.tr _ _ _ (hs' i ((l+r) / 2) (by lia) (by lia)) hless
  case ipost =>
   rintro c st'' ⟨rfl,l,r,rfl,hlk,hlo,hhi'⟩
   show wpS _ _ _ _ (do moveDown' (lo+k) (lo+l);pure (ForInStep.yield (none,()))) _ _
   rw [moveDown'_eq]
   have hks:lo+k < (arrOf st'').size:=by rw [hB'.size];exact hk
   have hd:lo+k - (lo+l)≤lo+k:=by lia
   refine wpS_bind (wpS_modify (wpS_pure ⟨rfl,hB'.arr (bubble_perm _ _ _) (fun k' hk'=>z9v hks hd (by lia)),?_⟩))
   rw [show min (k+1) n=k+1 by lia]
   intro i j hij hj
   show lt (KA kf (bubble (arrOf st'') (lo+k) (lo+k - (lo+l))) (lo+j)) (KA kf (bubble (arrOf st'') (lo+k) (lo+k - (lo+l))) (lo+i))=false
   rw [z70 hks hd,z70 hks hd,show lo+k - (lo+k - (lo+l))=lo+l by lia]
   have z2A:∀ i,i < k+1→0 < i→lo+i - 1=lo+(i - 1):=fun i _ _=>by lia
   repeat' split
   all_goals first
    | (exfalso;lia)
    | exact T.refl _
    | exact hlo _ (by lia)
    | (rw [show lo+j - 1=lo+(j - 1) by lia];exact T.asy _ _ (hhi' _ (by lia) (by lia)))
    | (rw [show lo+j - 1=lo+(j - 1) by lia,show lo+i - 1=lo+(i - 1) by lia];exact hs' _ _ (by lia) (by lia))
    | (rw [show lo+j - 1=lo+(j - 1) by lia];exact hs' _ _ (by lia) (by lia))
    | exact hs' _ _ (by lia) (by lia)
end
end L2
namespace L2
open PySem PyProof.Rows
section
variable {prog:Program} {w:World} {A:Around} {E:Value→Shared→Prop} {s:Shared} {α:Type} {kf:Keyed→α} {lt:α→α→Bool} {kd:SortKind} {S:List Keyed} {p0:Array (Nat × Nat × Nat)} {a₀:Array Keyed} {lo hi:Nat}
theorem z6a (T:z5t lt) (hA:z9f prog w A E s kd S kf lt) (h0:∀ x∈a₀.toList,x∈S) {st:SortSt} {nrem:Nat} {Q:Option Nat→SortSt→Prop} (hn:lo+nrem≤a₀.size) (hhi:lo+nrem≤hi) (h1:1≤nrem) (hB:SB kd p0 a₀ lo hi st)
  (h:∀ m st',SB kd p0 a₀ lo hi st'→1≤m→m≤nrem→zb1 kf lt (arrOf st') lo m→Q (some m) st'):wpS (model prog w) A E s (countRun' lo nrem) Q st:=by
 rw [countRun'_eq]
 refine wpS_bind (wpS_mono (wpS_forRange (I:=fun x c st'=>st'=st∧c=(none,x)∧zb1 kf lt (arrOf st) lo x)
  (Q:=fun c st'=>st'=st∧∃ n,c=(none,n)∧1≤n∧n≤nrem∧zb1 kf lt (arrOf st) lo n∧(n=nrem∨lt (KA kf (arrOf st) (lo+n)) (KA kf (arrOf st) (lo+n - 1))=true)) ?stepA7 ?finA7 ⟨rfl,rfl,(fun i j hij hj=>by have:i=j:=(by lia);subst this;exact T.refl _)⟩) ?postA7)
 case finA7 =>
  rintro c st' ⟨e9,rfl,hs'⟩
  rw [show max (1) nrem=nrem by lia] at hs' ⊢
  exact ⟨e9,nrem,rfl,by lia,Nat.le_refl _,hs',.inl rfl⟩
 case stepA7 =>
  rintro x c st' hax hxn ⟨e9,rfl,hs'⟩
  rw [e9]
  dsimp only
  refine wpS_bind (z3L hA h0 hB (by lia) (by lia) ?_)
  cases hless:lt (KA kf (arrOf st) (lo+x)) (KA kf (arrOf st) (lo+x - 1))
  case true =>
   simp only [if_true]
   exact wpS_pure ⟨rfl,x,rfl,hax,by lia,hs',.inr hless⟩
  case false =>
   simp only [Bool.false_eq_true,if_false]
   refine wpS_pure ⟨rfl,rfl,fun i j hij hj=>?_⟩
   by_cases hjx:j < x
   ·exact hs' i j hij hjx
   ·have hj':j=x:=by lia
    subst hj'
    by_cases hi':i=j
    ·subst hi';exact T.refl _
    ·have:=hs' i (j - 1) (by lia) (by lia)
     rw [show lo+(j - 1)=lo+j - 1 by lia] at this
     exact T.tr _ _ _ this hless
 case postA7 =>
  rintro c st' ⟨e9,n,rfl,hn1,hn2,hsn,hor⟩
  rw [e9]
  dsimp only
  by_cases hnn:n=nrem
  ·rw [if_pos (by simpa using hnn)]
   exact wpS_pure (h n st hB hn1 hn2 hsn)
  rw [if_neg (by simpa using hnn)]
  have hlt:=hor.resolve_left hnn
  by_cases hgt:n > 1
  focus
   rw [if_pos hgt]
   refine wpS_bind (z3L hA h0 hB (by lia) (by lia) ?_)
   cases hrose:lt (KA kf (arrOf st) lo) (KA kf (arrOf st) (lo+n - 1))
   case true =>
    simp only [if_true]
    exact wpS_pure (h n st hB hn1 hn2 hsn)
   simp only [Bool.false_eq_true,if_false]
   have hsz0:lo+n≤(arrOf st).size:=by rw [hB.size];lia
   have hall:∀ k,lo≤k→k < lo+n→KA kf (arrOf st) k=KA kf (arrOf st) (lo+n - 1):=by
    intro k u1 u2
    have a1:=hsn 0 (k - lo) (by lia) (by lia)
    have a2:=hsn (k - lo) (n - 1) (by lia) (by lia)
    rw [show lo+(k - lo)=k by lia,Nat.add_zero] at a1
    rw [show lo+(k - lo)=k by lia,show lo+(n - 1)=lo+n - 1 by lia] at a2
    exact T.an _ _ (T.tr _ _ _ hrose a1) a2
   refine wpS_bind (wpS_reverse ?_)
   have hB5:SB kd p0 a₀ lo hi (setArr st (mirror (arrOf st) lo (lo+n) ((lo+n - lo) / 2))):=hB.arr (mirror_perm _ _ _ _) (fun k hk=>z2O hsz0 (by lia))
   have hs5:zeg kf lt (arrOf (setArr st (mirror (arrOf st) lo (lo+n) ((lo+n - lo) / 2)))) lo (n+1):=by
    intro i j hij hj
    show lt (KA kf (mirror (arrOf st) _ _ _) (lo+i)) (KA kf (mirror (arrOf st) _ _ _) (lo+j))=false
    rw [z1a hsz0 hall,z1a hsz0 hall]
    by_cases hjn:j < n
    ·rw [hall (lo+i) (by lia) (by lia),hall (lo+j) (by lia) (by lia)];exact T.refl _
    ·have hj':j=n:=by lia
     subst hj'
     by_cases hi':i=j
     ·subst hi';exact T.refl _
     ·rw [hall (lo+i) (by lia) (by lia)];exact T.asy _ _ hlt
   generalize setArr st (mirror (arrOf st) lo (lo+n) ((lo+n - lo) / 2))=st5 at hB5 hs5 ⊢
  rotate_left
  focus
   rw [if_neg hgt]
   have hn1':n=1:=by lia
   have hs5:zeg kf lt (arrOf st) lo (n+1):=by
    subst hn1'
    intro i j hij hj
    by_cases hi':i=j
    ·subst hi';exact T.refl _
    ·have hi0:i=0:=by lia
     have hj1:j=1:=by lia
     subst hi0;subst hj1
     exact T.asy _ _ hlt
   have hB5:=hB
   generalize st=st5 at hB5 hs5 ⊢
  all_goals
   refine wpS_bind (wpS_lift (wpAny_rule ⟨rfl,?_⟩))
   refine wpS_bind (wpS_mono (wpS_forRange (I:=fun x c st'=>∃ neq,c=(none,x,neq)∧SB kd p0 a₀ lo hi st'∧zeg kf lt (arrOf st') lo x∧neq+1≤x∧(∀ i,x - (neq+1)≤i→i < x→KA kf (arrOf st') (lo+i)=KA kf (arrOf st') (lo+x - 1)))
    (Q:=fun c st'=>∃ m neq,c=(none,m,neq)∧n+1≤m∧m≤nrem∧SB kd p0 a₀ lo hi st'∧zeg kf lt (arrOf st') lo m∧neq+1≤m∧(∀ i,m - (neq+1)≤i→i < m→KA kf (arrOf st') (lo+i)=KA kf (arrOf st') (lo+m - 1))) ?stepD1 ?finD1 ⟨0,rfl,hB5,hs5,by lia,fun i u1 u2=>by congr 1;lia⟩) ?postD1)
   case finD1 =>
    rintro c st' ⟨neq,rfl,hB',hs',hq,he⟩
    rw [show max (n+1) nrem=nrem by lia] at hs' hq he ⊢
    exact ⟨nrem,neq,rfl,by lia,Nat.le_refl _,hB',hs',hq,he⟩
   case stepD1 =>
    rintro x c st' hax hxn ⟨neq,rfl,hB',hs',hq,he⟩
    dsimp only
    have hsz:lo+x≤(arrOf st').size:=by rw [hB'.size];lia
    refine wpS_bind (z3L hA h0 hB' (by lia) (by lia) ?_)
    cases hless:lt (KA kf (arrOf st') (lo+x)) (KA kf (arrOf st') (lo+x - 1))
    case true =>
     simp only [if_true]
     have step1:∀ xs:Array Keyed,(∀ k,KA kf xs k=KA kf (arrOf st') k)→zeg kf lt xs lo (x+1):=by
      intro xs hk i j hij hj
      rw [hk,hk]
      by_cases hjx:j < x
      ·exact hs' i j hij hjx
      ·have hj':j=x:=by lia
       subst hj'
       by_cases hi':i=j
       ·subst hi';exact T.refl _
       ·have:=hs' i (j - 1) (by lia) (by lia)
        rw [show lo+(j - 1)=lo+j - 1 by lia] at this
        exact T.tr _ _ _ (T.asy _ _ hless) this
     have heq:∀ k,lo+x - (neq+1)≤k→k < lo+x→KA kf (arrOf st') k=KA kf (arrOf st') (lo+x - 1):=fun k u1 u2=>by
      have:=he (k - lo) (by lia) (by lia)
      rw [show lo+(k - lo)=k by lia] at this
      exact this
     by_cases hneq:neq > 0
     ·rw [if_pos hneq]
      refine wpS_bind (wpS_reverse (wpS_pure ⟨0,rfl,hB'.arr (mirror_perm _ _ _ _) (fun k hk=>z2O hsz (by lia)),step1 _ (z1a hsz heq),by lia,fun i u1 u2=>by congr 1;lia⟩))
     ·rw [if_neg hneq]
      exact wpS_pure ⟨0,rfl,hB',step1 _ (fun _=>rfl),by lia,fun i u1 u2=>by congr 1;lia⟩
    case false =>
     simp only [Bool.false_eq_true,if_false]
     refine wpS_bind (z3L hA h0 hB' (by lia) (by lia) ?_)
     cases hlarger:lt (KA kf (arrOf st') (lo+x - 1)) (KA kf (arrOf st') (lo+x))
     case true =>
      simp only [if_true]
      exact wpS_pure ⟨x,neq,rfl,hax,by lia,hB',hs',hq,he⟩
     case false =>
      simp only [Bool.false_eq_true,if_false]
      have heqx:KA kf (arrOf st') (lo+x)=KA kf (arrOf st') (lo+x - 1):=T.an _ _ hless hlarger
      refine wpS_pure ⟨neq+1,rfl,hB',fun i j hij hj=>?_,by lia,fun i u1 u2=>?_⟩
      ·by_cases hjx:j < x
       ·exact hs' i j hij hjx
       ·have hj':j=x:=by lia
        subst hj'
        by_cases hi':i=j
        ·subst hi';exact T.refl _
        ·have:=hs' i (j - 1) (by lia) (by lia)
         rw [show lo+(j - 1)=lo+j - 1 by lia] at this
         rw [heqx];exact this
      ·rw [show lo+(x+1) - 1=lo+x by lia]
       by_cases hix:i=x
       ·subst hix;rfl
       ·rw [heqx];exact he i (by lia) (by lia)
   case postD1 =>
    rintro c st7 ⟨m,neq,rfl,hm1,hm2,hB7,hs7,hq,he⟩
    dsimp only
    have hsz:lo+m≤(arrOf st7).size:=by rw [hB7.size];lia
    have heq:∀ k,lo+m - (neq+1)≤k→k < lo+m→KA kf (arrOf st7) k=KA kf (arrOf st7) (lo+m - 1):=fun k u1 u2=>by
     have:=he (k - lo) (by lia) (by lia)
     rw [show lo+(k - lo)=k by lia] at this
     exact this
    by_cases hneq:neq > 0
    focus
     rw [if_pos hneq]
     refine wpS_bind (wpS_reverse ?_)
     have hB7':SB kd p0 a₀ lo hi (setArr st7 (mirror (arrOf st7) (lo+m - (neq+1)) (lo+m) ((lo+m - (lo+m - (neq+1))) / 2))):=hB7.arr (mirror_perm _ _ _ _) (fun k hk=>z2O hsz (by lia))
     have hs7':zeg kf lt (arrOf (setArr st7 (mirror (arrOf st7) (lo+m - (neq+1)) (lo+m) ((lo+m - (lo+m - (neq+1))) / 2)))) lo m:=by
      intro i j hij hj
      show lt (KA kf (mirror (arrOf st7) _ _ _) (lo+i)) (KA kf (mirror (arrOf st7) _ _ _) (lo+j))=false
      rw [z1a hsz heq,z1a hsz heq]
      exact hs7 i j hij hj
     generalize setArr st7 (mirror (arrOf st7) (lo+m - (neq+1)) (lo+m) ((lo+m - (lo+m - (neq+1))) / 2))=st6 at hB7' hs7' ⊢
    rotate_left
    focus
     rw [if_neg hneq]
     have hB7':=hB7
     have hs7':=hs7
     generalize st7=st6 at hB7' hs7' ⊢
    all_goals
     have hsz3:lo+m≤(arrOf st6).size:=by rw [(hB7').size];lia
     refine wpS_bind (wpS_reverse ?_)
     have hB3:SB kd p0 a₀ lo hi (setArr st6 (mirror (arrOf st6) lo (lo+m) ((lo+m - lo) / 2))):=(hB7').arr (mirror_perm _ _ _ _) (fun k hk=>z2O hsz3 (by lia))
     have hs3:zb1 kf lt (arrOf (setArr st6 (mirror (arrOf st6) lo (lo+m) ((lo+m - lo) / 2)))) lo m:=by
      intro i j hij hj
      show lt (KA kf (mirror (arrOf st6) lo (lo+m) ((lo+m - lo) / 2)) (lo+j)) (KA kf (mirror (arrOf st6) lo (lo+m) ((lo+m - lo) / 2)) (lo+i))=false
      rw [z4N hsz3,z4N hsz3,if_pos (by lia),if_pos (by lia),show lo+(lo+m) - 1 - (lo+j)=lo+(m - 1 - j) by lia,show lo+(lo+m) - 1 - (lo+i)=lo+(m - 1 - i) by lia]
      exact hs7' _ _ (by lia) (by lia)
     generalize setArr st6 (mirror (arrOf st6) lo (lo+m) ((lo+m - lo) / 2))=st8 at hB3 hs3 ⊢
     refine wpS_bind (wpS_mono (wpS_forRange (I:=fun x c st'=>st'=st8∧c=(none,x)∧zb1 kf lt (arrOf st8) lo x)
      (Q:=fun c st'=>st'=st8∧∃ n,c=(none,n)∧m≤n∧n≤nrem∧zb1 kf lt (arrOf st8) lo n∧(n=nrem∨lt (KA kf (arrOf st8) (lo+n)) (KA kf (arrOf st8) (lo+n - 1))=true)) ?stepA2 ?finA2 ⟨rfl,rfl,hs3⟩) ?postA2)
     case finA2 =>
      rintro c st' ⟨e9,rfl,hs'⟩
      rw [show max (m) nrem=nrem by lia] at hs' ⊢
      exact ⟨e9,nrem,rfl,by lia,Nat.le_refl _,hs',.inl rfl⟩
     case stepA2 =>
      rintro x c st' hax hxn ⟨e9,rfl,hs'⟩
      rw [e9]
      dsimp only
      refine wpS_bind (z3L hA h0 hB3 (by lia) (by lia) ?_)
      cases hless:lt (KA kf (arrOf st8) (lo+x)) (KA kf (arrOf st8) (lo+x - 1))
      case true =>
       simp only [if_true]
       exact wpS_pure ⟨rfl,x,rfl,hax,by lia,hs',.inr hless⟩
      case false =>
       simp only [Bool.false_eq_true,if_false]
       refine wpS_pure ⟨rfl,rfl,fun i j hij hj=>?_⟩
       by_cases hjx:j < x
       ·exact hs' i j hij hjx
       ·have hj':j=x:=by lia
        subst hj'
        by_cases hi':i=j
        ·subst hi';exact T.refl _
        ·have:=hs' i (j - 1) (by lia) (by lia)
         rw [show lo+(j - 1)=lo+j - 1 by lia] at this
         exact T.tr _ _ _ this hless
     case postA2 =>
      rintro c st' ⟨e9,n,rfl,hn1,hn2,hsn,hor⟩
      rw [e9]
      dsimp only
      exact wpS_pure (h n st8 hB3 (by lia) hn2 hsn)
end
end L2
namespace L2
open PySem PyProof.Rows
theorem zdp {M:Model} {A:Around} {E:Value→Shared→Prop} {s:Shared} {σ:Type} {x st:σ} {Q:PUnit→σ→Prop} (h:Q ⟨⟩ x):wpS M A E s (set x:StateT σ Sem PUnit) Q st:=by
 unfold wpS;rw [StateT.run_set];exact wpAny_pure ⟨rfl,h⟩
theorem z5L:∀ (l:List Keyed) (j:Nat) (pre mid post:List Keyed) (arr:Array Keyed),mid.length=l.length→arr.toList=pre++mid++post→∀ base,base+j=pre.length →
  ((l.zipIdx j).foldl (fun a (q:Keyed × Nat)=>a.setIfInBounds (base+q.2) q.1) arr).toList=pre++l++post
 | [],j,pre,mid,post,arr,hm,e,base,hb=>by
  have:mid=[]:=List.eq_nil_of_length_eq_zero hm
  subst this
  simpa using e
 | x::l,j,pre,mid,post,arr,hm,e,base,hb=>by
  cases mid with
  | nil=>cases hm
  | cons y mid =>
   rw [List.zipIdx_cons,List.foldl_cons]
   have e2:(arr.setIfInBounds (base+j) x).toList=(pre++[x])++mid++post:=by
    rw [Array.toList_setIfInBounds,e,hb]
    simp [List.set_append]
   have:=z5L l (j+1) (pre++[x]) mid post _ (Nat.succ.inj hm) e2 base (by simp;lia)
   rw [this]
   simp
section
variable {prog:Program} {w:World} {A:Around} {E:Value→Shared→Prop} {s:Shared} {α:Type} {kf:Keyed→α} {lt:α→α→Bool} {kd:SortKind} {S:List Keyed}
theorem z8D {x y:List Keyed} (hx:Sl kf lt x) (hy:Sl kf lt y) (h:∀ a∈x,∀ b∈y,lt (kf b) (kf a)=false):Sl kf lt (x++y):=List.pairwise_append.mpr ⟨hx,hy,h⟩
theorem zbP (T:z5t lt) {l:List Keyed} (h:Sl kf lt l) {i j:Nat} (hi:i < l.length) (hj:j < l.length) (hij:i≤j):lt (kf l[j]) (kf l[i])=false:=by
 rcases Nat.lt_or_ge i j with q | q
 ·exact List.pairwise_iff_getElem.mp h i j hi hj q
 ·have:i=j:=by lia
  subst this
  exact T.refl _
theorem z80 (T:z5t lt) (hA:z9f prog w A E s kd S kf lt) {st:SortSt} (hk:kindOf st=kd) (hfl:failedOf st=none) {pre u v post:List Keyed} (hS:∀ x∈(arrOf st).toList,x∈S) (harr:(arrOf st).toList=pre++u++v++post)
  {i pw pw2:Nat} (hp1:(pendingOf st)[i]?=some (pre.length,u.length,pw)) (hp2:(pendingOf st)[i+1]?=some (pre.length+u.length,v.length,pw2)) (hu0:0 < u.length) (hv0:0 < v.length) (hu:Sl kf lt u) (hv:Sl kf lt v) {Q:Bool→SortSt→Prop}
  (h:∀ r st',Sl kf lt r→r.Perm (u++v)→kindOf st'=kd→failedOf st'=none→pendingOf st'=((pendingOf st).setIfInBounds i (pre.length,u.length+v.length,pw)).eraseIdxIfInBounds (i+1)→(arrOf st').toList=pre++r++post→Q true st') :
  wpS (model prog w) A E s (mergeAt' i) Q st:=by
 have hsz:(arrOf st).size=pre.length+u.length+v.length+post.length:=by rw [←Array.length_toList,harr];simp;lia
 have hU:∀ j (hj:j < u.length),(arrOf st)[pre.length+j]?=some u[j]:=fun j hj=>by
  rw [←Array.getElem?_toList,harr,List.append_assoc,List.append_assoc,List.getElem?_append_right (by lia),Nat.add_sub_cancel_left,List.getElem?_append_left hj,zGe hj]
 have hV:∀ j (hj:j < v.length),(arrOf st)[pre.length+u.length+j]?=some v[j]:=fun j hj=>by
  rw [←Array.getElem?_toList,harr,List.append_assoc,List.getElem?_append_right (by simp)]
  rw [show pre.length+u.length+j - (pre++u).length=j by simp,List.getElem?_append_left hj,zGe hj]
 have gU:∀ j (hj:j < (arrOf st).size) (h1:pre.length≤j) (h2:j < pre.length+u.length),(arrOf st)[j]=u[j - pre.length]'(by lia):=fun j hj h1 h2=>by
  have:=hU (j - pre.length) (by lia)
  rw [show pre.length+(j - pre.length)=j by lia,Array.getElem?_eq_getElem hj] at this
  exact Option.some.inj this
 have gV:∀ j (hj:j < (arrOf st).size) (h1:pre.length+u.length≤j) (h2:j < pre.length+u.length+v.length),(arrOf st)[j]=v[j - (pre.length+u.length)]'(by lia):=fun j hj h1 h2=>by
  have:=hV (j - (pre.length+u.length)) (by lia)
  rw [show pre.length+u.length+(j - (pre.length+u.length))=j by lia,Array.getElem?_eq_getElem hj] at this
  exact Option.some.inj this
 have hSi:∀ j (hj:j < (arrOf st).size),(arrOf st)[j]∈S:=fun j hj=>hS _ (by simp)
 have hSu:∀ x∈u,x∈S:=fun x hx=>hS x (by rw [harr];simp [hx])
 have hSv:∀ x∈v,x∈S:=fun x hx=>hS x (by rw [harr];simp [hx])
 refine wpS_bind (wpS_get ?_)
 rw [hp1,hp2]
 dsimp only
 refine wpS_bind (zdp ?_)
 generalize hP:((pendingOf st).setIfInBounds i (pre.length,u.length+v.length,pw)).eraseIdxIfInBounds (i+1)=P at h ⊢
 have hk1:kindOf (setPending st P)=kd:=hk
 have hv00:=hV 0 hv0
 rw [Nat.add_zero] at hv00
 refine wpS_bind (z0B hv00 ?_)
 refine wpS_bind (z3N T hA hk1 (hSv _ (List.getElem_mem _)) (by lia) (fun j hj _ _=>hSi j hj) (fun a b ha hb u1 u2 u3=>by rw [gU a ha u1 (by lia),gU b hb (by lia) u3];exact zbP T hu _ _ (by lia)) hu0 fun k hk2 f1 f2=>?_)
 have f1':∀ j (hj:j < u.length),j < k→lt (kf v[0]) (kf u[j])=false:=fun j hj hjk=>by
  have:=f1 (pre.length+j) (by lia) (by lia) (by lia)
  rw [gU (pre.length+j) (by lia) (by lia) (by lia)] at this
  unfold bey at this
  simpa using this
 have f2':∀ j (hj:j < u.length),k≤j→lt (kf v[0]) (kf u[j])=true:=fun j hj hjk=>by
  have:=f2 (pre.length+j) (by lia) (by lia) (by lia)
  rw [gU (pre.length+j) (by lia) (by lia) (by lia)] at this
  unfold bey at this
  simpa using this
 have uv0:∀ x∈u.take k,lt (kf v[0]) (kf x)=false:=fun x hx=>by
  obtain ⟨j,hj,e⟩:=List.mem_iff_getElem.mp hx
  rw [List.getElem_take] at e
  have hj':j < k∧j < u.length:=by simp at hj;lia
  rw [←e];exact f1' j hj'.2 hj'.1
 have v0v:∀ y∈v,lt (kf y) (kf v[0])=false:=fun y hy=>by
  obtain ⟨j,hj,e⟩:=List.mem_iff_getElem.mp hy
  rw [←e];exact zbP T hv hv0 hj (by lia)
 have utv:∀ x∈u.take k,∀ y∈v,lt (kf y) (kf x)=false:=fun x hx y hy=>T.tr _ _ _ (uv0 x hx) (v0v y hy)
 have stay:(arrOf (setPending st P)).toList=pre++(u++v)++post:=by
  show (arrOf st).toList=_
  rw [harr];simp
 dsimp only
 by_cases c1:u.length - k=0
 ·rw [if_pos (by simpa using c1)]
  have hku:u.take k=u:=List.take_of_length_le (by lia)
  rw [hku] at utv
  exact wpS_pure (h (u++v) _ (z8D hu hv utv) .rfl hk hfl rfl stay)
 rw [if_neg (by simpa using c1)]
 have hlast:pre.length+k+(u.length - k) - 1=pre.length+(u.length - 1):=by lia
 rw [hlast]
 refine wpS_bind (z0B (hU (u.length - 1) (by lia)) ?_)
 refine wpS_bind (z3N T hA hk1 (hSu _ (List.getElem_mem _)) (by lia) (fun j hj _ _=>hSi j hj) (fun a b ha hb u1 u2 u3=>by rw [gV a ha u1 (by lia),gV b hb (by lia) u3];exact zbP T hv _ _ (by lia)) (by lia) fun m hm2 g1 g2=>?_)
 have g1':∀ j (hj:j < v.length),j < m→lt (kf v[j]) (kf (u[u.length - 1]'(by lia)))=true:=fun j hj hjk=>by
  have:=g1 (pre.length+u.length+j) (by lia) (by lia) (by lia)
  rw [gV (pre.length+u.length+j) (by lia) (by lia) (by lia)] at this
  unfold bey at this
  simpa using this
 have g2':∀ j (hj:j < v.length),m≤j→lt (kf v[j]) (kf (u[u.length - 1]'(by lia)))=false:=fun j hj hjk=>by
  have:=g2 (pre.length+u.length+j) (by lia) (by lia) (by lia)
  rw [gV (pre.length+u.length+j) (by lia) (by lia) (by lia)] at this
  unfold bey at this
  simpa using this
 have ul:∀ x∈u,lt (kf (u[u.length - 1]'(by lia))) (kf x)=false:=fun x hx=>by
  obtain ⟨j,hj,e⟩:=List.mem_iff_getElem.mp hx
  rw [←e];exact zbP T hu hj (by lia) (by lia)
 have lv:∀ y∈v.drop m,lt (kf y) (kf (u[u.length - 1]'(by lia)))=false:=fun y hy=>by
  obtain ⟨j,hj,e⟩:=List.mem_iff_getElem.mp hy
  rw [List.getElem_drop] at e
  have hj':m+j < v.length:=by simp at hj;lia
  rw [←e];exact g2' (m+j) hj' (by lia)
 have uvd:∀ x∈u,∀ y∈v.drop m,lt (kf y) (kf x)=false:=fun x hx y hy=>T.tr _ _ _ (ul x hx) (lv y hy)
 dsimp only
 by_cases c2:m=0
 ·rw [if_pos (by simpa using c2)]
  subst c2
  rw [List.drop_zero] at uvd
  exact wpS_pure (h (u++v) _ (z8D hu hv uvd) .rfl hk hfl rfl stay)
 rw [if_neg (by simpa using c2)]
 have ex:((arrOf st).extract (pre.length+k) (pre.length+u.length)).toList=u.drop k:=by
  rw [Array.toList_extract,List.extract_eq_take_drop,harr,List.append_assoc,List.append_assoc,List.drop_append,List.drop_of_length_le (by lia),List.nil_append,Nat.add_sub_cancel_left,List.drop_append_of_le_length (by lia)]
  rw [show pre.length+u.length - (pre.length+k)=(u.drop k).length by simp;lia]
  exact List.take_left
 have ey:((arrOf st).extract (pre.length+u.length) (pre.length+u.length+m)).toList=v.take m:=by
  rw [Array.toList_extract,List.extract_eq_take_drop,harr,List.append_assoc,List.drop_append,show (pre++u).length=pre.length+u.length by simp,List.drop_of_length_le (by simp),List.nil_append,Nat.sub_self,List.drop_zero,Nat.add_sub_cancel_left,List.take_append_of_le_length hm2]
 generalize hx:(arrOf st).extract (pre.length+k) (pre.length+u.length)=X at ex ⊢
 generalize hy:(arrOf st).extract (pre.length+u.length) (pre.length+u.length+m)=Y at ey ⊢
 have hXs:X.size=u.length - k:=by rw [←Array.length_toList,ex];simp
 have hYs:Y.size=m:=by rw [←Array.length_toList,ey];simp;lia
 have x0:X[0]'(by lia)=u[k]'(by lia):=by
  have:X.toList[0]?=some (u[k]'(by lia)):=by rw [ex,List.getElem?_drop,Nat.add_zero,zGe (by lia)]
  rw [Array.getElem?_toList,Array.getElem?_eq_getElem (by lia)] at this
  exact Option.some.inj this
 have y0:Y[0]'(by lia)=v[0]:=by
  have:Y.toList[0]?=some v[0]:=by rw [ey,List.getElem?_take_of_lt (by lia),zGe hv0]
  rw [Array.getElem?_toList,Array.getElem?_eq_getElem (by lia)] at this
  exact Option.some.inj this
 have hfirst:lt (kf (Y[0]'(by lia))) (kf (X[0]'(by lia)))=true:=by rw [x0,y0];exact f2' k (by lia) (Nat.le_refl _)
 have hl:∀ y∈Y.toList,∀ z,X[X.size - 1]?=some z→lt (kf z) (kf y)=false:=fun y hy z hz=>by
  have ez:z=u[u.length - 1]'(by lia):=by
   rw [←Array.getElem?_toList,ex,List.getElem?_drop,show k+(X.size - 1)=u.length - 1 by lia,zGe (by lia)] at hz
   exact (Option.some.inj hz).symm
  rw [ey] at hy
  obtain ⟨j,hj,e⟩:=List.mem_iff_getElem.mp hy
  rw [List.getElem_take] at e
  have hj':j < m∧j < v.length:=by simp at hj;lia
  rw [ez,←e]
  exact T.asy _ _ (g1' j hj'.2 hj'.1)
 have fin:∀ r st',StG (setPending st P) st'→Mgd kf lt X Y r→wpS (model prog w) A E s (do
   modify fun s=>setArr s (r.toList.zipIdx.foldl (fun a (q:Keyed × Nat)=>a.setIfInBounds (pre.length+k+q.2) q.1) (arrOf s))
   let __do_lift ←get
   pure (failedOf __do_lift).isNone) Q st':=fun r st' hG hr=>by
  obtain ⟨g,rfl⟩:=hG
  obtain ⟨hr1,hr2⟩:=hr
  rw [ex,ey] at hr2
  refine wpS_bind (wpS_modify ?_)
  refine wpS_bind (wpS_get (wpS_pure ?_))
  have hfn:failedOf (setArr (SortSt.mk' (kindOf (setPending st P)) (arrOf (setPending st P)) (pendingOf (setPending st P)) g (failedOf (setPending st P))) (r.toList.zipIdx.foldl (fun a (q:Keyed × Nat)=>a.setIfInBounds (pre.length+k+q.2) q.1) (arrOf st)))=none:=hfl
  have hw:=z5L r.toList 0 (pre++u.take k) (u.drop k++v.take m) (v.drop m++post) (arrOf st) (by rw [←hr2.length_eq]) (by
   rw [harr]
   simp only [List.append_assoc]
   rw [←List.append_assoc (u.take k) (u.drop k),List.take_append_drop,←List.append_assoc (v.take m) (v.drop m),List.take_append_drop]) (pre.length+k) (by simp;lia)
  have memr:∀ y∈r.toList,y∈u.drop k∨y∈v.take m:=fun y hy=>List.mem_append.mp (hr2.mem_iff.mp hy)
  rw [show (failedOf (setArr (SortSt.mk' (kindOf (setPending st P)) (arrOf (setPending st P)) (pendingOf (setPending st P)) g (failedOf (setPending st P))) (r.toList.zipIdx.foldl (fun a (q:Keyed × Nat)=>a.setIfInBounds (pre.length+k+q.2) q.1) (arrOf st)))).isNone=true by rw [hfn];rfl]
  refine h (u.take k++(r.toList++v.drop m)) _ (z8D (hu.sublist (List.take_sublist _ _)) (z8D hr1 (hv.sublist (List.drop_sublist _ _)) fun x hx y hy=>?_) fun x hx y hy=>?_) ?_ hk hfl rfl ?_
  ·rcases memr x hx with z | z
   ·exact uvd x (List.mem_of_mem_drop z) y hy
   ·have hvv:Sl kf lt (v.take m++v.drop m):=by rw [List.take_append_drop];exact hv
    exact (List.pairwise_append.mp hvv).2.2 x z y hy
  ·rcases List.mem_append.mp hy with z | z
   ·rcases memr y z with z | z
    ·have huu:Sl kf lt (u.take k++u.drop k):=by rw [List.take_append_drop];exact hu
     exact (List.pairwise_append.mp huu).2.2 x hx y z
    ·exact utv x hx y (List.mem_of_mem_take z)
   ·exact utv x hx y (List.mem_of_mem_drop z)
  ·have e1:(u++v).Perm (u.take k++((u.drop k++v.take m)++v.drop m)):=by
    simp only [List.append_assoc]
    rw [List.take_append_drop,←List.append_assoc (u.take k) (u.drop k),List.take_append_drop]
   exact (List.Perm.append_left _ (List.Perm.append_right _ hr2)).trans e1.symm
  ·show (r.toList.zipIdx.foldl (fun a (q:Keyed × Nat)=>a.setIfInBounds (pre.length+k+q.2) q.1) (arrOf st)).toList=_
   rw [hw]
   simp
 split
 ·exact wpS_bind (z7T T hA hk1 (fun x hx=>hSu x (List.mem_of_mem_drop (by rw [ex] at hx;exact hx))) (fun x hx=>hSv x (List.mem_of_mem_take (by rw [ey] at hx;exact hx))) (by rw [ex];exact hu.sublist (List.drop_sublist _ _)) (by rw [ey];exact hv.sublist (List.take_sublist _ _)) (by lia) (by lia) hfirst hl fin)
 ·exact wpS_bind (z7Q T hA hk1 (fun x hx=>hSu x (List.mem_of_mem_drop (by rw [ex] at hx;exact hx))) (fun x hx=>hSv x (List.mem_of_mem_take (by rw [ey] at hx;exact hx))) (by rw [ex];exact hu.sublist (List.drop_sublist _ _)) (by rw [ey];exact hv.sublist (List.take_sublist _ _)) (by lia) (by lia) hfirst hl fin)
end
end L2
namespace L2
open PySem PyProof.Rows
def z43:Nat→List (List Keyed)→List (Nat × Nat)
 | _,[]=>[]
 | off,r::rs=>(off,r.length)::z43 (off+r.length) rs
theorem z3x:∀ (R1 R2:List (List Keyed)) (off:Nat),z43 off (R1++R2)=z43 off R1++z43 (off+R1.flatten.length) R2
 | [],R2,off=>by simp [z43]
 | r::R1,R2,off=>by
  simp only [List.cons_append,z43,List.flatten_cons,List.length_append]
  rw [z3x R1 R2,Nat.add_assoc]
theorem z2C:∀ (R:List (List Keyed)) (off:Nat),(z43 off R).length=R.length
 | [],_=>rfl
 | r::R,off=>by simp only [z43,List.length_cons,z2C R]
theorem zd0 {β:Type}:∀ (P1 P2:List β) (a a' b:β),((P1++a::b::P2).set P1.length a').eraseIdx (P1.length+1)=P1++a'::P2
 | [],P2,a,a',b=>rfl
 | x::P1,P2,a,a',b=>by
  show x::((P1++a::b::P2).set P1.length a').eraseIdx (P1.length+1)=x::(P1++a'::P2)
  rw [zd0 P1 P2]
def mk2 (t:Nat × Nat × Nat):Nat × Nat:=(t.1,t.2.1)
section
variable {α:Type} {kf:Keyed→α} {lt:α→α→Bool} {kd:SortKind}
structure RI (kf:Keyed→α) (lt:α→α→Bool) (kd:SortKind) (a0:List Keyed) (runs:List (List Keyed)) (z1A:List Keyed) (st:SortSt):Prop where
 arr:(arrOf st).toList=runs.flatten++z1A
 perm:(arrOf st).toList.Perm a0
 kind:kindOf st=kd
 failed:failedOf st=none
 pend:(pendingOf st).toList.map mk2=z43 0 runs
 srt:∀ r∈runs,0 < r.length∧Sl kf lt r
theorem RI.size {a0:List Keyed} {runs:List (List Keyed)} {z1A:List Keyed} {st:SortSt} (h:RI kf lt kd a0 runs z1A st):(arrOf st).size=a0.length:=by
 rw [←Array.length_toList];exact h.perm.length_eq
theorem RI.len {a0:List Keyed} {runs:List (List Keyed)} {z1A:List Keyed} {st:SortSt} (h:RI kf lt kd a0 runs z1A st):runs.flatten.length+z1A.length=a0.length:=by
 rw [←h.perm.length_eq,h.arr,List.length_append]
theorem RI.psize {a0:List Keyed} {runs:List (List Keyed)} {z1A:List Keyed} {st:SortSt} (h:RI kf lt kd a0 runs z1A st):(pendingOf st).size=runs.length:=by
 have:=congrArg List.length h.pend
 rw [zLm,z2C,Array.length_toList] at this
 exact this
theorem z8Z:∀ (R:List (List Keyed)),(∀ r∈R,0 < r.length)→R.length≤R.flatten.length
 | [],_=>Nat.zero_le _
 | r::R,h=>by
  have h1:=h r List.mem_cons_self
  have h2:=z8Z R fun q hq=>h q (List.mem_cons_of_mem _ hq)
  simp only [List.length_cons,List.flatten_cons,List.length_append]
  lia
theorem RI.push {a0:List Keyed} {runs:List (List Keyed)} {z1A r:List Keyed} {st:SortSt} (h:RI kf lt kd a0 runs (r++z1A) st) (hr:0 < r.length) (hs:Sl kf lt r) {pw:Nat} {lo n:Nat} (hlo:lo=runs.flatten.length) (hn:n=r.length) :
  RI kf lt kd a0 (runs++[r]) z1A (setPending st ((pendingOf st).push (lo,n,pw))):=by
 subst hlo hn
 refine ⟨?_,h.perm,h.kind,h.failed,?_,fun q hq=>?_⟩
 ·show (arrOf st).toList=_
  rw [h.arr];simp
 ·show ((pendingOf st).push _).toList.map mk2=_
  rw [Array.toList_push,List.map_append,h.pend,z3x]
  simp [z43,mk2]
 ·rcases List.mem_append.mp hq with z | z
  ·exact h.srt q z
  ·rw [List.mem_singleton] at z
   rw [z];exact ⟨hr,hs⟩
theorem RI.power {a0:List Keyed} {runs:List (List Keyed)} {z1A:List Keyed} {st:SortSt} (h:RI kf lt kd a0 runs z1A st) (i pw:Nat) :
  RI kf lt kd a0 runs z1A (setPending st ((pendingOf st).modify i fun (st,len,_)=>(st,len,pw))):=by
 refine ⟨h.arr,h.perm,h.kind,h.failed,?_,h.srt⟩
 show ((pendingOf st).modify i _).toList.map mk2=_
 rw [←h.pend]
 apply List.ext_getElem?
 intro j
 rw [zGm,zGm,Array.getElem?_toList,Array.getElem?_toList,Array.getElem?_modify]
 split
 ·cases (pendingOf st)[j]? with
  | none=>rfl
  | some t=>rfl
 ·rfl
end
section
variable {prog:Program} {w:World} {A:Around} {E:Value→Shared→Prop} {s:Shared} {α:Type} {kf:Keyed→α} {lt:α→α→Bool} {kd:SortKind} {S:List Keyed}
theorem z4u (T:z5t lt) (hA:z9f prog w A E s kd S kf lt) {a0:List Keyed} (hS:∀ x∈a0,x∈S) {runs:List (List Keyed)} {z1A:List Keyed} {st:SortSt} (h:RI kf lt kd a0 runs z1A st) {i:Nat} (hi:i+1 < (pendingOf st).size) {Q:Bool→SortSt→Prop}
  (hQ:∀ runs' st',RI kf lt kd a0 runs' z1A st'→(pendingOf st').size+1=(pendingOf st).size→Q true st'):wpS (model prog w) A E s (mergeAt' i) Q st:=by
 have hrl:i+1 < runs.length:=by rw [←h.psize];exact hi
 obtain ⟨R1,u,v,R2,e,hR1⟩:∃ R1 u v R2,runs=R1++u::v::R2∧R1.length=i:=by
  refine ⟨runs.take i,runs[i],runs[i+1],runs.drop (i+2),?_,by rw [List.length_take];lia⟩
  rw [←List.drop_eq_getElem_cons hrl,←List.drop_eq_getElem_cons (by lia),List.take_append_drop]
 have hp:=h.pend
 rw [e,z3x] at hp
 simp only [z43,Nat.zero_add] at hp
 obtain ⟨P1,P2',ep,e1,e2⟩:=List.map_eq_append_iff.mp hp
 obtain ⟨a,P3,ep2,e3,e4⟩:=List.map_eq_cons_iff.mp e2
 obtain ⟨b,P2,ep3,e5,e6⟩:=List.map_eq_cons_iff.mp e4
 subst ep3 ep2
 obtain ⟨a1,a2,pa⟩:=a
 obtain ⟨b1,b2,pb⟩:=b
 simp only [mk2,Prod.mk.injEq] at e3 e5
 obtain ⟨rfl,rfl⟩:=e3
 obtain ⟨rfl,rfl⟩:=e5
 have hP1:P1.length=i:=by
  have:=congrArg List.length e1
  rw [zLm,z2C] at this
  rw [this,hR1]
 have g1:(pendingOf st)[i]?=some (R1.flatten.length,u.length,pa):=by
  rw [←Array.getElem?_toList,ep,List.getElem?_append_right (by lia),hP1,Nat.sub_self];rfl
 have g2:(pendingOf st)[i+1]?=some (R1.flatten.length+u.length,v.length,pb):=by
  rw [←Array.getElem?_toList,ep,List.getElem?_append_right (by lia),hP1,Nat.add_sub_cancel_left];rfl
 have hu:=h.srt u (by rw [e];simp)
 have hv:=h.srt v (by rw [e];simp)
 have harr:=h.arr
 rw [e] at harr
 refine z80 T hA h.kind h.failed (pre:=R1.flatten) (u:=u) (v:=v) (post:=R2.flatten++z1A) (fun x hx=>hS x (h.perm.mem_iff.mp hx)) (by rw [harr];simp) g1 g2 hu.1 hv.1 hu.2 hv.2 fun r st' hr1 hr2 k1 k2 k3 k4=>?_
 have hel:(pendingOf st').toList=P1++(R1.flatten.length,u.length+v.length,pa)::P2:=by
  rw [k3,Array.toList_eraseIdxIfInBounds,Array.toList_setIfInBounds,ep,←hP1]
  exact zd0 P1 P2 _ _ _
 refine hQ (R1++r::R2) st' ⟨?_,?_,k1,k2,?_,fun q hq=>?_⟩ ?_
 ·rw [k4];simp
 ·refine List.Perm.trans ?_ h.perm
  rw [k4,harr]
  simp only [List.flatten_append,List.flatten_cons,List.append_assoc]
  refine List.Perm.append_left _ ?_
  rw [←List.append_assoc u v]
  exact List.Perm.append_right _ hr2
 ·rw [hel,List.map_append,List.map_cons,e1,e6,z3x]
  simp only [z43,mk2,Nat.zero_add]
  rw [hr2.length_eq,List.length_append,Nat.add_assoc]
 ·rcases List.mem_append.mp hq with z | z
  ·exact h.srt q (by rw [e];exact List.mem_append_left _ z)
  ·rcases List.mem_cons.mp z with z | z
   ·rw [z,hr2.length_eq,List.length_append]
    exact ⟨by lia,hr1⟩
   ·exact h.srt q (by rw [e];simp [z])
 ·rw [←Array.length_toList,←Array.length_toList,hel,ep]
  simp only [List.length_append,List.length_cons]
  lia
theorem RI.cut {a0:List Keyed} {runs:List (List Keyed)} {z1A:List Keyed} {st st':SortSt} (h:RI kf lt kd a0 runs z1A st) {n:Nat} (hn:n≤z1A.length) (hB:SB kd (pendingOf st) (arrOf st) runs.flatten.length a0.length st') (hs:zb1 kf lt (arrOf st') runs.flatten.length n) :
  ∃ r rest',r.length=n∧Sl kf lt r∧r.length+rest'.length=z1A.length∧RI kf lt kd a0 runs (r++rest') st':=by
 have hsz:(arrOf st').size=a0.length:=by rw [hB.size];exact h.size
 have hl:=h.len
 have ht:(arrOf st').toList.take runs.flatten.length=runs.flatten:=by
  apply List.ext_getElem?
  intro j
  rcases Nat.lt_or_ge j runs.flatten.length with q | q
  ·rw [List.getElem?_take_of_lt q,Array.getElem?_toList,hB.out j (.inl q),←Array.getElem?_toList,h.arr,List.getElem?_append_left q]
  ·rw [List.getElem?_take_eq_none q,List.getElem?_eq_none q]
 have hdl:((arrOf st').toList.drop runs.flatten.length).length=z1A.length:=by rw [List.length_drop,Array.length_toList,hsz];lia
 refine ⟨((arrOf st').toList.drop runs.flatten.length).take n,((arrOf st').toList.drop runs.flatten.length).drop n,by rw [List.length_take,hdl];lia,?_,by rw [←List.length_append,List.take_append_drop,hdl],?_,?_,hB.kind,hB.failed,by rw [hB.pend];exact h.pend,h.srt⟩
 ·refine List.pairwise_iff_getElem.mpr fun i j hi hj hij=>?_
  have hj':j < n:=by rw [List.length_take] at hj;lia
  have g:∀ k (hk:k < (((arrOf st').toList.drop runs.flatten.length).take n).length),KA kf (arrOf st') (runs.flatten.length+k)=kf ((((arrOf st').toList.drop runs.flatten.length).take n)[k]):=fun k hk=>by
   have hk':k < n:=by rw [List.length_take] at hk;lia
   have hkl:runs.flatten.length+k < (arrOf st').toList.length:=by have:=Array.length_toList (xs:=arrOf st');lia
   unfold KA
   rw [List.getElem_take,List.getElem_drop,←Array.getElem?_toList,zGe hkl]
   rfl
  rw [←g i hi,←g j hj]
  exact hs i j (by lia) hj'
 ·rw [List.take_append_drop]
  conv=>lhs;rw [←List.take_append_drop runs.flatten.length (arrOf st').toList,ht]
 ·exact (Array.perm_iff_toList_perm.mp hB.perm).trans h.perm
theorem z5T (T:z5t lt) (hA:z9f prog w A E s kd S kf lt) {st:SortSt} {Q:Unit→SortSt→Prop} (hS:∀ x∈(arrOf st).toList,x∈S) (hk:kindOf st=kd) (hf:failedOf st=none) (hp:pendingOf st=#[])
  (h:∀ st',(arrOf st').toList.Perm (arrOf st).toList→failedOf st'=none→Sl kf lt (arrOf st').toList→Q () st'):wpS (model prog w) A E s sortRuns' Q st:=by
 generalize ha0:(arrOf st).toList=a0 at h hS
 have hsz0:(arrOf st).size=a0.length:=by rw [←ha0,Array.length_toList]
 have hR:RI kf lt kd a0 [] a0 st:=⟨ha0,by rw [ha0],hk,hf,by rw [hp];rfl,fun r hr=>nomatch hr⟩
 rw [sortRuns'_eq]
 refine wpS_bind (wpS_get ?_)
 dsimp only
 simp only [hsz0]
 generalize hmr:minRun' a0.length a0.length 0=mr
 refine wpS_bind (wpS_mono (wpS_forRange
  (I:=fun x c st'=>∃ runs z1A lo,c=(none,lo)∧RI kf lt kd a0 runs z1A st'∧lo=runs.flatten.length∧(x≤lo∨lo=a0.length))
  (Q:=fun c st'=>∃ runs lo,c=(none,lo)∧RI kf lt kd a0 runs [] st') ?step ?fin ⟨[],a0,0,rfl,hR,rfl,.inl (Nat.le_refl _)⟩) ?post)
 case fin =>
  rintro c st' ⟨runs,z1A,lo,rfl,hR,hlo,hx⟩
  have:=hR.len
  have:z1A=[]:=List.eq_nil_of_length_eq_zero (by lia)
  subst this
  exact ⟨runs,lo,rfl,hR⟩
 case step =>
  rintro x c st' _ hx ⟨runs,z1A,lo,rfl,hR,hlo,hx⟩
  have hlen:=hR.len
  dsimp only
  by_cases hge:lo ≥ a0.length
  ·rw [if_pos hge]
   have:z1A=[]:=List.eq_nil_of_length_eq_zero (by lia)
   subst this
   exact wpS_pure ⟨runs,lo,rfl,hR⟩
  rw [if_neg hge]
  subst hlo
  have hSx:∀ x∈(arrOf st').toList,x∈S:=fun x hx=>hS x (hR.perm.mem_iff.mp hx)
  have hsz:=hR.size
  refine wpS_bind (z6a T hA hSx (lo:=runs.flatten.length) (hi:=a0.length) (p0:=pendingOf st') (a₀:=arrOf st') (by lia) (by lia) (by lia) ⟨.rfl,hR.kind,hR.failed,rfl,fun _ _=>rfl⟩ fun m st2 hB2 hm1 hm2 hs2=>?_)
  dsimp only
  by_cases hlt:m < mr
  focus
   rw [if_pos hlt]
   refine wpS_bind (wpS_lift (wpAny_rule ⟨rfl,?_⟩))
   refine wpS_bind (z4E T hA hSx (by lia) (by lia) (by lia) hB2 hs2 fun st3 hB3 hs3=>?_)
   simp only [Bool.not_true,Bool.false_eq_true,if_false]
   obtain ⟨r,rest',r1,r2,r3,hR3⟩:=hR.cut (by lia) hB3 hs3
  rotate_left
  focus
   rw [if_neg hlt]
   obtain ⟨st3,rfl⟩:∃ s,s=st2:=⟨_,rfl⟩
   obtain ⟨r,rest',r1,r2,r3,hR3⟩:=hR.cut (by lia) hB2 hs2
  all_goals
   refine wpS_bind (wpS_get ?_)
   cases hbk:(pendingOf st3).back? with
   | none =>
    dsimp only
    refine wpS_bind (wpS_modify (wpS_pure ⟨runs++[r],rest',_,rfl,hR3.push (by lia) r2 rfl (by lia),by rw [List.flatten_append,List.length_append];simp only [List.flatten_cons,List.flatten_nil,List.append_nil];lia,?_⟩))
    lia
   | some t =>
    obtain ⟨s1,n1,p1⟩:=t
    dsimp only
    generalize power' _ _ _ _=pw
    refine wpS_bind (wpS_mono (wpS_forRange (I:=fun x c st''=>c=(none,())∧∃ runs',RI kf lt kd a0 runs' (r++rest') st'') (Q:=fun c st''=>c=(none,())∧∃ runs',RI kf lt kd a0 runs' (r++rest') st'') ?stA (fun _ _ hh=>hh) ⟨rfl,runs,hR3⟩) ?poA)
    case stA =>
     rintro x c st4 _ hx ⟨rfl,runs',hR4⟩
     refine wpS_bind (wpS_get ?_)
     by_cases h1:(pendingOf st4).size > 1
     ·rw [if_pos h1]
      rw [Array.getElem?_eq_getElem (by lia)]
      generalize (pendingOf st4)[(pendingOf st4).size - 2]'(by lia)=t
      obtain ⟨t1,t2,older⟩:=t
      dsimp only
      by_cases h2:older≤pw
      ·rw [if_pos h2]
       exact wpS_pure ⟨rfl,runs',hR4⟩
      rw [if_neg h2]
      refine wpS_bind (z4u T hA hS hR4 (by lia) fun runs5 st5 hR5 hsz=>?_)
      simp only [Bool.not_true,Bool.false_eq_true,if_false]
      exact wpS_pure ⟨rfl,runs5,hR5⟩
     ·rw [if_neg h1]
      exact wpS_pure ⟨rfl,runs',hR4⟩
    case poA =>
     rintro c st4 ⟨rfl,runs',hR4⟩
     dsimp only
     have hl4:=hR4.len
     rw [List.length_append] at hl4
     refine wpS_bind (wpS_modify ?_)
     refine wpS_bind (wpS_modify (wpS_pure ⟨runs'++[r],rest',_,rfl,(hR4.power _ pw).push (by lia) r2 (by lia) (by lia),by rw [List.flatten_append,List.length_append];simp only [List.flatten_cons,List.flatten_nil,List.append_nil];lia,?_⟩))
     lia
 case post =>
  rintro c st' ⟨runs,lo,rfl,hR⟩
  dsimp only
  refine wpS_bind (wpS_mono (wpS_forRange (I:=fun x c st''=>c=(none,())∧(∃ runs,RI kf lt kd a0 runs [] st'')∧(pendingOf st'').size≤max 1 (a0.length - x)) (Q:=fun c st''=>c=(none,())∧(∃ runs,RI kf lt kd a0 runs [] st'')∧(pendingOf st'').size≤1) ?_ ?_ ⟨rfl,⟨runs,hR⟩,?_⟩) ?_)
  ·rintro x c st'' _ hx ⟨rfl,⟨runs,hR⟩,hm⟩
   refine wpS_bind (wpS_get ?_)
   by_cases h1:(pendingOf st'').size≤1
   ·rw [if_pos h1]
    exact wpS_pure ⟨rfl,⟨runs,hR⟩,h1⟩
   rw [if_neg h1]
   refine wpS_bind (z4u T hA hS hR (by (repeat' split)<;>lia) fun runs' st3 hR' hsz=>?_)
   simp only [Bool.not_true,Bool.false_eq_true,if_false]
   exact wpS_pure ⟨rfl,⟨runs',hR'⟩,by lia⟩
  ·rintro c st'' ⟨rfl,hh,hm⟩
   exact ⟨rfl,hh,by lia⟩
  ·have h1:=z8Z runs fun r hr=>(hR.srt r hr).1
   have h2:=hR.len
   rw [hR.psize]
   simp only [List.length_nil] at h2
   lia
  ·rintro c st'' ⟨rfl,⟨runs,hR⟩,hm⟩
   dsimp only
   refine wpS_pure (h _ hR.perm hR.failed ?_)
   rw [hR.psize] at hm
   rw [hR.arr,List.append_nil]
   match runs,hm,hR.srt with
   | [],_,_=>exact List.Pairwise.nil
   | [r],_,hs =>
    rw [show [r].flatten=r by simp]
    exact (hs r (List.mem_singleton.mpr rfl)).2
end
end L2
namespace L2
open PySem PySem.Spec PyProof.Rows PySem.SeqAt
open PySem.AutoSeq1 (wpAny_loadPart')
def z2l (h:Heap) (a:Addr) (vs:List Value):Heap :=
 ((h.update a (Obj.mapSeq fun _=>#[])).push (seqObj "tuple" vs.toArray 0)).push (seqObj "list" #[] 0)
section
variable {prog:Program} {w:World} {A:Around} {E:Value→Shared→Prop} {s:Shared} {α:Type} {kf:Keyed→α} {lt:α→α→Bool} {kd:SortKind}
theorem z7K {a:Addr} {vs:List Value} {n:Nat} {P:Fin→Shared→Prop} (T:z5t lt) (ho:s.heap.get? a=some (seqObj "list" vs.toArray n)) (hz:vs.length≤sizeLine)
  (hkk:2≤vs.length→wpAny (model prog w) A (keyKind' vs.toArray) (fun k s'=>s'={ s with heap:=z2l s.heap a vs }∧k=kd) E { s with heap:=z2l s.heap a vs })
  (hA:z9f prog w A E { s with heap:=z2l s.heap a vs } kd (vs.zip vs) kf lt)
  (h:∀ xs:List Keyed,xs.Perm (vs.zip vs)→Sl kf lt xs→P (.done (.ret .none)) { s with heap:=sortedHeap s.heap a vs (xs.map (·.2)).toArray }) :
  wpAny (model prog w) A (Builtin.«list.sort» ⟨[.ref a],[]⟩) P E s:=by
 rw [list_sort_plain]
 have ha:a < s.heap.objs.size:=Heap.lt_size ho
 refine wpAny_bind (listItems_at ho rfl ?_)
 refine wpAny_bind (listUpdate_at ho rfl ?_ (by simpa using hz) (by simp))
 obtain ⟨e1,ho1⟩:∃ e1,(s.heap.update a (Obj.mapSeq fun _=>#[])).get? a=some (seqObj "list" #[] e1):=⟨_,get?_update_seq ho (fun _=>#[])⟩
 refine wpAny_bind (seqEpoch_at ho1 rfl ?_)
 refine wpAny_bind (wpAny_newTuple ?_ (by simpa using hz))
 refine wpAny_bind (wpAny_newList ?_)
 refine wpAny_holding ?_
 have ho6:(z2l s.heap a vs).get? a=some (seqObj "list" #[] e1):=by
  unfold z2l
  rw [Heap.get?_push_ne _ _ _ (by rw [size_push',Heap.size_update];exact Nat.ne_of_lt (Nat.lt_succ_of_lt ha)),Heap.get?_push_ne _ _ _ (by rw [Heap.size_update];exact Nat.ne_of_lt ha)]
  exact ho1
 show wpAny (model prog w) A _ P E { s with heap:=z2l s.heap a vs }
 dsimp only
 have hsz:vs.toArray.size=vs.length:=by simp
 by_cases h2:vs.toArray.size < 2
 ·rw [if_pos h2,if_pos h2]
  refine wpAny_bind (wpAny_pure ?_)
  rw [StateT.run_pure]
  refine wpAny_bind (wpAny_pure ?_)
  dsimp only
  refine wpAny_bind (seqEpoch_at ho6 rfl ?_)
  refine wpAny_bind (listUpdate_at ho6 rfl ?_ (hsz2:=by rw [Array.size_map];show (pairsOf vs).size≤_;rw [pairsOf_size];lia))
  simp only [bne_self_eq_false,Bool.false_eq_true,if_false]
  have hs:Sl kf lt (vs.zip vs):=by
   refine List.pairwise_iff_getElem.mpr fun i j hi hj hij=>?_
   have:(vs.zip vs).length=vs.length:=by simp
   lia
  have e:(Array.map (·.2) (vs.toArray.zip vs.toArray))=((vs.zip vs).map (·.2)).toArray:=by simp
  have:=h (vs.zip vs) .rfl hs
  rw [←e] at this
  exact wpAny_pure this
 ·rw [if_neg h2,if_neg h2]
  refine wpAny_bind (wpAny_mono (hkk (by lia)) ?_ fun _ _ e=>e)
  rintro k s' ⟨rfl,rfl⟩
  refine wpAny_bind (wpAny_mono (z5T T hA (st:=SortSt.mk' k (vs.toArray.zip vs.toArray) #[] 7 none)
   (Q:=fun _ st'=>(arrOf st').toList.Perm (vs.zip vs)∧failedOf st'=none∧Sl kf lt (arrOf st').toList)
   (fun x hx=>by have:x∈(pairsOf vs).toList:=hx;rw [pairsOf_toList] at this;exact this) rfl rfl rfl fun st' a1 a2 a3=>⟨by have e:(arrOf st').toList.Perm (pairsOf vs).toList:=a1;rw [pairsOf_toList] at e;exact e,a2,a3⟩) ?_ fun _ _ e=>e)
  rintro ⟨⟨⟩,st'⟩ s' ⟨rfl,hp,hf,hs⟩
  dsimp only
  refine wpAny_bind (seqEpoch_at ho6 rfl ?_)
  have hl:(arrOf st').size=vs.length:=by rw [←Array.length_toList,hp.length_eq];simp
  refine wpAny_bind (listUpdate_at ho6 rfl ?_ (hsz2:=by rw [Array.size_map];lia))
  rw [hf]
  simp only [bne_self_eq_false,Bool.false_eq_true,if_false]
  have e:(Array.map (·.2) (arrOf st'))=(((arrOf st').toList).map (·.2)).toArray:=by rw [←Array.toList_map]
  have:=h _ hp hs
  rw [←e] at this
  exact wpAny_pure this
theorem zfq:z5t (fun a b:Int=>decide (a < b)):=⟨fun a b h=>by simp at *;lia,fun a b c h1 h2=>by simp at *;lia,fun a b h1 h2=>by simp at *;lia⟩
theorem zcc {S:List Keyed} (hS:∀ p∈S,∃ n t,p.1=.int n t):z9f prog w A E s oneType' S (fun p=>numOf p.1) (fun a b=>decide (a < b)):=by
 intro st x y Q hk hx hy h
 obtain ⟨x1,x2⟩:=x
 obtain ⟨y1,y2⟩:=y
 obtain ⟨n,t,rfl⟩:∃ n t,x1=.int n t:=hS _ hx
 obtain ⟨m,u,rfl⟩:∃ n t,y1=.int n t:=hS _ hy
 rw [lt'_eq]
 refine wpS_bind (wpS_get ?_)
 rw [hk,keyLt'_oneType]
 refine wpS_bind (wpS_lift (wpAny_attempt (oneLt_int ⟨rfl,?_⟩)))
 exact wpS_pure h
theorem z5h {a:Addr} {vs:List Value} {ns:List Int} {n:Nat} {P:Fin→Shared→Prop} (ho:s.heap.get? a=some (seqObj "list" vs.toArray n))
  (hI:IntsAre vs ns) (hz:vs.length≤sizeLine)
  (h:∀ (out:Array Value) (ns':List Int),IntsAre out.toList ns'→ns'.Perm ns→ns'.Pairwise (·≤·)→P (.done (.ret .none)) { s with heap:=sortedHeap s.heap a vs out }) :
  wpAny (model prog w) A (Builtin.«list.sort» ⟨[.ref a],[]⟩) P E s:=by
 refine z7K zfq ho hz (kd:=oneType') (fun h2=>?_) (zcc fun p hp=>hI.all _ (mem_zip_self hp).2) fun xs hp hs=>?_
 ·match vs,h2,hI with
  | v₁::v₂::z1A,_,hI =>
   rw [keyKind_ints hI]
   exact wpAny_pure ⟨rfl,rfl⟩
 ·have hmem:∀ p,p∈xs→p.1=p.2∧p.1∈vs:=fun p hp'=>mem_zip_self (hp.mem_iff.mp hp')
  refine h _ (xs.map fun p=>numOf p.1) ?_ ?_ ?_
  ·have e:((xs.map (·.2)).toArray).toList=xs.map (·.1):=List.map_congr_left fun p hp'=>(hmem p hp').1.symm
   rw [e]
   have h1:=intsAre_map (xs.map (·.1)) (by
    intro v hv
    obtain ⟨p,hp',rfl⟩:=List.mem_map.mp hv
    exact hI.all _ (hmem p hp').2)
   rwa [List.map_map] at h1
  ·have h1:=hp.map (fun p=>numOf p.1)
   have e2:(vs.zip vs).map (fun p=>numOf p.1)=ns:=by
    have:(vs.zip vs).map (fun p=>numOf p.1)=((vs.zip vs).map Prod.fst).map numOf:=by rw [List.map_map];rfl
    rw [this,List.map_fst_zip (Nat.le_refl _),hI.nums]
   rwa [e2] at h1
  ·refine List.pairwise_map.mpr (hs.imp fun {x y} q=>?_)
   simpa using q
end
end L2
namespace L2
open PySem PySem.Spec PyProof.Rows PySem.SeqAt
open PySem.AutoSeq1 (wpAny_loadPart')
section
variable {X:Cx} (K:PySem.W.Frag)
theorem zfb (hK:X.K=K):z3e X (.builtin "sorted") (fun xs H Q=>∃ (p:Addr) (ns:List Int),xs=[.ref p]∧SqL K H p (ns.map V.int)∧∀ ns':List Int,ns'.Perm ns→ns'.Pairwise (·≤·)→∀ l,H l=none→Q (.ref l) (upd H l (.lst (ns'.map V.int)))):=by
 subst hK
 intro pins s σ H xs us Q I r h
 obtain ⟨p,ns,rfl,hp,q⟩:=h
 obtain ⟨u,rfl,ru⟩:=z5l r
 cases ru
 obtain ⟨its,rv,⟨o,n,ho,hc,_,hd⟩,hz⟩:=I.list hp
 have hI:=z94 rv
 have hlen:its.length=ns.length:=by have:=rv.length;rw [zLm] at this;exact this.symm
 have hzi:its.length≤sizeLine:=by rw [←rv.length];exact hz
 refine Calls.call_function_entry kind_sorted plain_sorted entry_sorted (args_sorted1 _) ?_
 unfold Builtin.«sorted»
 refine wpAny_bind (m:=checkCount "sorted" 1 1 _) (wpAny_pure ?_)
 refine wpAny_bind (wpAny_collect_seq (T:="list") p (.inl rfl) ho hc hd (fun h1 hk1=>?_) (by simpa using hzi))
 have e0:its.toArray.toList=its:=by simp
 rw [e0]
 refine wpAny_bind (wpAny_newList ?_ hzi)
 have I1:Inv X pins σ H { s with heap:=h1 }:=I.kept (t':=s.toks) hk1
 have hoL:(h1.push (seqObj "list" its.toArray 0)).get? h1.objs.size=some (seqObj "list" its.toArray 0):=Heap.get?_push_size _ rfl
 show wpAny _ _ _ _ _ { s with heap:=h1.push (seqObj "list" its.toArray 0) }
 refine wpAny_bind (wpAny_holding (wpAny_call_entry slot_list_sort ⟨_,hoL,rfl⟩ entry_list_sort
  (z5h hoL hI hzi fun out ns' a1 a2 a3=>⟨_,rfl,?_⟩) (args_list_sort _)))
 obtain ⟨e,he⟩:=sortedHeap_at (out:=out) hoL
 refine wpAny_pure ⟨_,rfl,.ref h1.objs.size,_,I1.laid (a:=h1.objs.size) (o:=.lst (ns'.map V.int)) (t':=s.toks) (fun b u q=>?_) (Nat.le_refl _) ⟨?_,out.toList,e,zab a1,by simpa [seqObj] using he⟩,rfl,q ns' a2 a3 _ I1.fresh⟩
 ·have hlt:b < h1.objs.size:=Heap.lt_size q
  rw [sortedHeap_old (Nat.ne_of_lt hlt) (by rw [Heap.size_push];exact Nat.lt_succ_of_lt hlt)]
  exact Heap.get?_push_of_some _ q
 ·rw [zLm,List.Perm.length_eq a2,←hlen]
  exact hzi
end
def stp {α:Type} (k:Nat) (xs:List α):List α:=(List.range ((xs.length+k - 1) / k)).filterMap fun m=>xs[k*m]?
theorem zc6 {xs:List V} {its:List Value} (h:z0V xs its) (k:Nat):z0V (stp k xs) (stp k its):=by
 unfold stp
 rw [h.length]
 generalize List.range ((its.length+k - 1) / k)=js
 induction js with
 | nil=>exact .nil
 | cons j js ih =>
  rw [List.filterMap_cons,List.filterMap_cons]
  rcases Nat.lt_or_ge (k*j) xs.length with q | q
  ·obtain ⟨u,e,r⟩:=h.get (zGe q)
   rw [zGe q,e]
   exact .cons r ih
  ·rw [List.getElem?_eq_none q,List.getElem?_eq_none (by rw [←h.length];exact q)]
   exact ih
theorem z9u (its:List Value) {k:Nat} (hk:0 < k):slicePick its.toArray none none (some (k:Int))=(stp k its).toArray:=by
 have hk':((k:Int) > 0):=by lia
 have eb:sliceBounds none none (some (k:Int)) its.toArray.size=(0,(its.length:Int),(k:Int)):=by
  simp [sliceBounds,hk',hk]
 unfold slicePick
 rw [eb]
 congr 1
 have er:sliceRange 0 (its.length:Int) (k:Int)=(List.range ((its.length+k - 1) / k)).map fun m=>k*m:=by
  unfold sliceRange
  simp only [hk',if_true]
  have ec:(if (0:Int) < (its.length:Int) then ((its.length:Int) - 0+(k:Int) - 1) / (k:Int) else 0).toNat=(its.length+k - 1) / k:=by
   rcases Nat.eq_zero_or_pos its.length with z | z
   ·rw [if_neg (by lia),z,Nat.div_eq_of_lt (by lia)];rfl
   ·rw [if_pos (by lia),show ((its.length:Int) - 0+(k:Int) - 1)=((its.length+k - 1:Nat):Int) by lia,←Int.natCast_ediv,Int.toNat_natCast]
  rw [ec]
  refine List.map_congr_left fun m hm=>?_
  rw [Int.zero_add,←Int.natCast_mul,Int.toNat_natCast]
 show (sliceRange 0 (its.length:Int) (k:Int)).filterMap _=_
 rw [er,List.filterMap_map]
 refine HT.fm_congr fun m hm=>?_
 show its.toArray[k*m]?=_
 rw [List.getElem?_toArray]
section
variable {X:Cx} {e st:Expr} {te ts:TE} {pos p2:Pos}
def zer (K:PySem.W.Frag) (te ts:TE):TE:=fun σ H Q=>te σ H fun x H1=>ts σ H1 fun y H2=>∃ (k:Nat),y=.int (k:Int)∧0 < k∧∃ a xs,x=.ref a∧SqL K H2 a xs∧∀ p,H2 p=none→Q (.ref p) (upd H2 p (.lst (stp k xs)))
theorem zcW {α:Type} (k:Nat) (xs:List α):(stp k xs).length≤xs.length:=by
 unfold stp
 refine Nat.le_trans (List.length_filterMap_le _ _) ?_
 rw [List.length_range]
 rcases Nat.eq_zero_or_pos k with z | z
 ·rw [z];simp
 ·rcases Nat.eq_zero_or_pos xs.length with y | y
  ·rw [y,Nat.div_eq_of_lt (by lia)];exact Nat.le_refl _
  ·refine (Nat.div_le_iff_le_mul_add_pred z).mpr ?_
   have:=Nat.mul_le_mul_right xs.length z
   lia
theorem zcn (he:PE X e te) (hst:PE X st ts):PE X (.Subscript e (.Slice none none (some st) p2) pos) (zer X.K te ts):=by
 intro pins s σ H Q I h
 refine Subscript_ (z1B (he pins s σ H _ I h) fun v s1 x H1 I1 r1 q1=>?_)
 refine wpAny_Slice ?_
 rw [evalPart_none]
 refine wpAny_pure (wpAny_pure ?_)
 rw [evalPart_some]
 refine thn (hst pins s1 σ H1 _ I1 q1) fun vt s2 hz8=>?_
 obtain ⟨y,H2,I2,ry,k,ey,hk,a,xs,ex,hx,q⟩:=hz8
 subst ey ex
 obtain ⟨t,rfl⟩:=ry
 cases r1
 have I4:Inv X pins σ H2 { s2 with heap:=s2.heap.push { cls:=.type "slice",data:=.fields #[.none,.none,.int (k:Int) t] } }:=I2.kept (t':=s2.toks) fun b ob q=>Heap.get?_push_of_some _ q
 generalize hs5:({ s2 with heap:=s2.heap.push { cls:=.type "slice",data:=.fields #[.none,.none,.int (k:Int) t] } }:Shared)=s5 at I4
 have hsl:s5.heap.IsSliceOf s2.heap.objs.size .none .none (.int (k:Int) t):=by rw [←hs5];exact Heap.IsSliceOf.new ..
 obtain ⟨its,r,ht,hz⟩:=I4.list hx
 have hlen:its.toArray.size=xs.length:=by rw [List.size_toArray];exact r.length.symm
 have hg:wpAny (model X.prog X.w) X.A (getItem (.ref a) (.ref s2.heap.objs.size)) (EP X pins σ Q) X.xe s5:=by
  refine wpAny_getItem_list_slice ht.isList hsl .none .none (.int _ _) (by simp;lia) ?_ (by rw [hlen];exact hz)
  rw [z9u its hk]
  refine ⟨.ref s5.heap.objs.size,_,I4.laid (t':=s5.toks) (o:=.lst (stp k xs)) (fun b ob q=>Heap.get?_push_of_some _ q) (Nat.le_refl _) ?_,rfl,q _ (I4.hok.fresh (Nat.le_refl _))⟩
  exact ⟨Nat.le_trans (zcW k xs) hz,_,0,zc6 r k,Heap.get?_push_size _ rfl⟩
 exact tail_any (ops:=[.ref a,.ref s2.heap.objs.size]) ht.isList.typeIs slot_list_getitem.lookup hg (by with_unfolding_all rfl)
end
end L2
namespace Gu
open PySem L2
theorem z9X {n:Nat} (n0:0 < n):∀ (m:Nat) {x:Int},0≤x→x < ((n ^ m:Nat):Int)→z31 n (z5a n m x)=x
 | 0,x,h0,h1=>by
  have:x=0:=by simp at h1;lia
  rw [this];rfl
 | m+1,x,h0,h1=>by
  have hn:(0:Int) < (n:Int):=by lia
  show z31 n ((x % (n:Int)::lit n m (x / (n:Int))).reverse)=x
  rw [List.reverse_cons,z3r]
  have h2:x / (n:Int) < ((n ^ m:Nat):Int):=by
   refine (Int.ediv_lt_iff_lt_mul hn).mpr ?_
   rw [Nat.pow_succ,Int.natCast_mul] at h1
   exact h1
  have:=z9X n0 m (x:=x / (n:Int)) (Int.ediv_nonneg h0 (by lia)) h2
  unfold z5a at this
  rw [this,Int.mul_comm]
  exact Int.mul_ediv_add_emod x n
def zeH (A B:List Int):List Int:=A.map fun x=>B.getD x.toNat 0
theorem z7V {n m:Nat} {M:List Row} (G:z0j n M) (n0:0 < n) {x:Int}:LW n (z1b M 0 (z5a n m x))∧(z1b M 0 (z5a n m x)).length=m:=by
 refine ⟨z7u G _ 0 (z6c n0 m x) (Int.le_refl 0) (by have:=G.some;lia),?_⟩
 rw [z4g,z8E]
theorem zaj {n m:Nat} {M:List Row} (G:z0j n M) (n0:0 < n):∀ y∈z20 n M m,0≤y∧y < ((n ^ m:Nat):Int):=fun y hy=>by
 unfold z20 at hy
 obtain ⟨x,_,rfl⟩:=List.mem_map.mp hy
 obtain ⟨h1,h2⟩:=z7V (m:=m) (x:=x) G n0
 have:=zcV n0 h1
 rw [h2] at this
 exact this
theorem z8T {n m:Nat} {A B:List Row} (GA:z0j n A) (n0:0 < n):zeH (z20 n A m) (z20 n B m)=(z0r (n ^ m)).map fun x=>z31 n (z1b B 0 (z1b A 0 (z5a n m x))):=by
 unfold zeH
 conv=>lhs;rw [show z20 n A m=(z0r (n ^ m)).map fun x=>z31 n (z1b A 0 (z5a n m x)) from rfl]
 rw [List.map_map]
 refine List.map_congr_left fun x hx=>?_
 obtain ⟨h1,h2⟩:=z7V (m:=m) (x:=x) GA n0
 have hr:=zcV n0 h1
 rw [h2] at hr
 show (z20 n B m).getD (z31 n (z1b A 0 (z5a n m x))).toNat 0=_
 rw [zGd,zcO hr.1 hr.2]
 have:=(z6H n0 h1).1
 rw [h2] at this
 rw [this]
 rfl
theorem z50 {L:Nat} {x:Int} (h:x∈z0r L):0≤x∧x < (L:Int):=by
 unfold z0r at h
 obtain ⟨k,hk,rfl⟩:=List.mem_map.mp h
 have:=List.mem_range.mp hk
 constructor
 ·exact Int.natCast_nonneg k
 ·exact Int.ofNat_lt.mpr this
theorem z6T {n m:Nat} {A:List Row} (GA:z0j n A) (h8:A.length≤8) (n0:0 < n):zeH (z20 n A m) (z20 n (shr (z37 A)) m)=z0r (n ^ m):=by
 rw [z8T GA n0]
 conv=>rhs;rw [←List.map_id (z0r (n ^ m))]
 refine List.map_congr_left fun x hx=>?_
 obtain ⟨x0,x1⟩:=z50 hx
 rw [zbC GA h8 (z6c n0 m x)]
 exact z9X n0 m x0 x1
theorem zb6 {n m:Nat} {A B:List Row} (GA:z0j n A) (GB:z0j n B) (h4:A.length*B.length≤4000) (n0:0 < n):zeH (z20 n A m) (z20 n B m)=z20 n (shr (z1j A B)) m:=by
 rw [z8T GA n0]
 exact List.map_congr_left fun x hx=>by rw [z8A GA GB h4 (z6c n0 m x)]
theorem z8c {α:Type} [BEq α] [LawfulBEq α]:∀ (l l':List α),l.Nodup→l'.Nodup→(∀ a,a∈l↔a∈l')→l.Perm l'
 | [],l',_,_,h=>by
  cases l' with
  | nil=>exact .nil
  | cons a l'=>exact absurd ((h a).mpr List.mem_cons_self) (by simp)
 | a::l,l',h1,h2,h=>by
  have ha:=(h a).mp List.mem_cons_self
  obtain ⟨hn,h1'⟩:=List.nodup_cons.mp h1
  refine List.Perm.trans (List.Perm.cons a (z8c l (l'.erase a) h1' (h2.erase a) fun b=>?_)) (List.perm_cons_erase ha).symm
  rw [h2.mem_erase_iff]
  constructor
  ·exact fun hb=>⟨fun e=>hn (e ▸ hb),(h b).mp (List.mem_cons_of_mem _ hb)⟩
  ·rintro ⟨n1,n2⟩
   rcases List.mem_cons.mp ((h b).mpr n2) with z | z
   ·exact absurd z n1
   ·exact z
theorem zar {l:List Int} {L:Nat} (hn:l.Nodup) (hb:∀ x∈l,0≤x∧x < (L:Int)) (hl:l.length=L):IsP L l:=by
 refine z8c l (z0r L) hn (z2T L) fun a=>⟨fun h=>?_,fun h=>?_⟩
 ·obtain ⟨h0,h1⟩:=hb a h
  exact List.mem_of_getElem? (z1o h0 h1)
 ·refine Classical.byContradiction fun z=>?_
  have:=z6L (n:=L) (List.nodup_cons.mpr ⟨z,hn⟩) fun x hx=>by
   rcases List.mem_cons.mp hx with rfl | hx
   ·exact z50 h
   ·exact hb x hx
  rw [List.length_cons] at this
  lia
theorem zcd {n m:Nat} {A:List Row} (GA:z0j n A) (h8:A.length≤8) (n0:0 < n):IsP (n ^ m) (z20 n A m):=by
 refine zar ?_ (zaj GA n0) (z2r n A m)
 have h:=z6T (m:=m) GA h8 n0
 have hn:=z2T (n ^ m)
 rw [←h] at hn
 unfold zeH at hn
 rw [List.nodup_iff_pairwise_ne,List.pairwise_map] at hn
 exact List.Pairwise.imp (fun {a b} hab e=>hab (by rw [e])) hn
theorem z8z {n:Nat} (n0:0 < n) (m:Nat) (j:Int):z5a n (m+1) ((n:Int)*j)=z5a n m j++[0]:=by
 have hn:(n:Int)≠0:=by lia
 show (((n:Int)*j) % (n:Int)::lit n m (((n:Int)*j) / (n:Int))).reverse=_
 rw [Int.mul_emod_right,Int.mul_ediv_cancel_left _ hn,List.reverse_cons]
 rfl
theorem zd8 {α β:Type} (f:α→β) (k:Nat) (xs:List α):stp k (xs.map f)=(stp k xs).map f:=by
 unfold stp
 rw [zLm,List.map_filterMap]
 refine congrFun (congrArg _ (funext fun m=>?_)) _
 rw [zGm]
theorem zbv {n m:Nat} {A:List Row} (GA:z0j n A) (n0:0 < n):(stp n (z20 n A (m+1))).map (fun x=>x / (n:Int))=z20 n A m:=by
 have hc:(n ^ (m+1)+n - 1) / n=n ^ m:=by
  rw [Nat.pow_succ,show n ^ m*n+n - 1=(n - 1)+n ^ m*n by lia,Nat.add_mul_div_right _ _ n0,Nat.div_eq_of_lt (by lia),Nat.zero_add]
 unfold stp
 rw [z2r,hc]
 have e:((List.range (n ^ m)).filterMap fun j=>(z20 n A (m+1))[n*j]?)=(List.range (n ^ m)).map fun j:Nat=>z31 n (z1b A 0 (z5a n (m+1) ((n:Int)*(j:Int)))):=by
  rw [←List.filterMap_eq_map']
  refine HT.fm_congr fun j hj=>?_
  have hj':=List.mem_range.mp hj
  have hb:n*j < n ^ (m+1):=by rw [Nat.pow_succ,Nat.mul_comm];exact Nat.mul_lt_mul_of_pos_right hj' n0
  have:=zcO (M:=A) (n:=n) (m:=m+1) (x:=((n*j:Nat):Int)) (by lia) (by lia)
  rw [Int.toNat_natCast,Int.natCast_mul] at this
  exact this
 rw [e,List.map_map]
 show _=(z0r (n ^ m)).map fun x=>z31 n (z1b A 0 (z5a n m x))
 unfold z0r
 rw [List.map_map]
 refine List.map_congr_left fun j hj=>?_
 show z31 n (z1b A 0 (z5a n (m+1) ((n:Int)*(j:Int)))) / (n:Int)=z31 n (z1b A 0 (z5a n m (j:Int)))
 rw [z8z n0,z8U,z3r]
 have hl:=(z7V (m:=m+1) (x:=(n:Int)*(j:Int)) GA n0).1
 rw [z8z n0,z8U] at hl
 obtain ⟨l0,l1⟩:=hl _ (List.mem_append_right _ (List.mem_singleton.mpr rfl))
 exact (dvm (m:=n) (g:=z31 n (z1b A 0 (z5a n m (j:Int)))) l0 l1).1
theorem zcX {n:Nat} {M:List Row} (G:z0j n M) {g:Int} (g0:0≤g) (g1:g < (M.length:Int)):∀ (w:List Int),LW n w→z1b (shr (swM M g)) 0 w=z1b M g w:=fun w hw=>by
 have Gs:=z3o G g0 g1
 rw [zaZ Gs hw]
 have key:∀ (w:List Int) (x:Int),LW n w→0≤x→x < (M.length:Int)→z1b (swM M g) x w=z1b M (sw g x) w:=fun w=>by
  induction w with
  | nil=>intro x _ _ _;rfl
  | cons l w ih =>
   intro x h x0 x1
   have hl:=h l List.mem_cons_self
   have hs:=z9d g0 g1 x0 x1
   have hm:=z0k hs.1 hs.2
   show (row (swM M g) x).1.getD l.toNat 0::z1b (swM M g) ((row (swM M g) x).2.getD l.toNat 0) w=_
   rw [z7Y x0 x1]
   have hgl:=G.len _ hm
   have e2:(z42 (sw g) (row M (sw g x))).2.getD l.toNat 0=sw g ((row M (sw g x)).2.getD l.toNat 0):=by
    unfold z42
    rw [zGd,zGd,zGm,zGe (by rw [hgl];lia)]
    rfl
   have hgo:=G.go _ hm ((row M (sw g x)).2.getD l.toNat 0) (by rw [zGd,zGe (by rw [hgl];lia)];exact List.getElem_mem _)
   have hsg:=z9d g0 g1 hgo.1 hgo.2
   rw [e2,ih _ (fun q hq=>h q (List.mem_cons_of_mem _ hq)) hsg.1 hsg.2,z9g]
   rfl
 rw [key w 0 hw (Int.le_refl 0) (by have:=G.some;lia)]
 have:sw g 0=g:=by
  have h1:=z5R g
  have h2:=z9g g g
  rw [h1] at h2
  exact h2
 rw [this]
theorem zei {M:List Row} {P:Int→Prop} (hP:∀ c,P c→∀ g∈(row M c).2,P g):∀ (f i:Nat) (o:List Int),(∀ c∈o,P c)→∀ c∈bfs M f i o,P c
 | 0,_,_,h=>h
 | f+1,i,o,h=>by
  cases eo:o[i]? with
  | none=>rw [z2Q (by rw [List.getElem?_eq_none_iff] at eo;exact eo)];exact h
  | some r =>
   rw [z2U eo]
   refine zei hP f (i+1) _ fun c hc=>?_
   rcases z0E.mp hc with z | z
   ·exact h c z
   ·exact hP r (h r (List.mem_of_getElem? eo)) c z
theorem zbX {n:Nat} {one other:List Row} (G:z0j n one) (G':z0j n other) (h4:one.length*other.length≤4000) (h:∀ w,LW n w→z1b one 0 w=z1b other 0 w):shr one=shr other:=by
 have GP:=zbz G G' h4
 obtain ⟨L,cl⟩:=z0s GP
 have hP:∀ c∈z0d (prM one other),(0≤c∧c < ((one.length*other.length:Nat):Int))∧∀ w,LW n w→z1b one (c / (other.length:Int)) w=z1b other (c % (other.length:Int)) w:=by
  refine zei (fun c ⟨rc,hc⟩ g hg=>?_) _ _ _ fun c hc=>?_
  ·have:c=0:=by simpa using hc
   subst this
   refine ⟨⟨Int.le_refl 0,?_⟩,fun w hw=>by rw [Int.zero_ediv,Int.zero_emod];exact h w hw⟩
   have:=GP.some
   rw [z2z] at this
   lia
  ·have rg:=GP.go _ (z0k rc.1 (by rw [z2z];exact rc.2)) g hg
   rw [z2z] at rg
   refine ⟨rg,fun w hw=>?_⟩
   rw [z7G rc.1 rc.2] at hg
   obtain ⟨⟨a0,a1⟩,b0,b1⟩:=pix (one:=one) (other:=other) rc.1 rc.2
   have hR:=z0k a0 a1
   have hS:=z0k b0 b1
   obtain ⟨k,hk,rfl⟩:=List.mem_map.mp (show g∈(List.range (row one (c / (other.length:Int))).2.length).map _ from hg)
   have hk':k < n:=by have:=List.mem_range.mp hk;rw [G.len _ hR] at this;exact this
   obtain ⟨_,e0,e1⟩:=z3D (G'.len _ hS) (G'.go _ hS) hk'
   rw [(zfs e0 e1).1,(zfs e0 e1).2]
   have:=hc ((k:Int)::w) (z9R hk' hw)
   exact (List.cons.inj this).2
 have hall:∀ c∈z0d (prM one other),(row one (c / (other.length:Int))).1=(row other (c % (other.length:Int))).1:=fun c hc=>by
  obtain ⟨rc,hw⟩:=hP c hc
  obtain ⟨⟨a0,a1⟩,b0,b1⟩:=pix (one:=one) (other:=other) rc.1 rc.2
  have l1:=(G.perm _ (z0k a0 a1)).len
  have l2:=(G'.perm _ (z0k b0 b1)).len
  refine List.ext_getElem (by rw [l1,l2]) fun k k1 k2=>?_
  have:=(List.cons.inj (hw [(k:Int)] (z9R (by lia) fun _ z=>by simp at z))).1
  rw [Int.toNat_natCast,zGd,zGd,zGe k1,zGe k2] at this
  exact this
 have m1:Mor (prM one other) one (z0d (prM one other)) fun c=>c / (other.length:Int):=fun c hc=>by
  have rc:=L.rg c hc
  rw [z2z] at rc
  rw [z7G rc.1 rc.2]
  obtain ⟨⟨a0,a1⟩,b0,b1⟩:=pix (one:=one) (other:=other) rc.1 rc.2
  have hR:=z0k a0 a1
  have hS:=z0k b0 b1
  show row one (c / (other.length:Int))=_
  generalize row one (c / (other.length:Int))=R at *
  generalize row other (c % (other.length:Int))=S at *
  show R=(R.1,(pgo _ R S).map _)
  unfold pgo
  rw [List.map_map]
  refine Prod.ext rfl ?_
  refine List.ext_getElem (by rw [zLm,List.length_range]) fun k k1 k2=>?_
  have hk':k < n:=by rw [G.len R hR] at k1;exact k1
  obtain ⟨q,_,_⟩:=z3D (G.len R hR) (G.go R hR) hk'
  obtain ⟨_,e0,e1⟩:=z3D (G'.len S hS) (G'.go S hS) hk'
  rw [List.getElem_map,List.getElem_range]
  show _=(R.2.getD k 0*_+S.2.getD k 0) / _
  rw [(zfs e0 e1).1]
  rw [zGe k1] at q
  exact Option.some.inj q
 have m2:Mor (prM one other) other (z0d (prM one other)) fun c=>c % (other.length:Int):=fun c hc=>by
  have rc:=L.rg c hc
  rw [z2z] at rc
  rw [z7G rc.1 rc.2]
  have ha:=hall c hc
  obtain ⟨⟨a0,a1⟩,b0,b1⟩:=pix (one:=one) (other:=other) rc.1 rc.2
  have hR:=z0k a0 a1
  have hS:=z0k b0 b1
  show row other (c % (other.length:Int))=_
  generalize row one (c / (other.length:Int))=R at *
  generalize row other (c % (other.length:Int))=S at *
  show S=(R.1,(pgo _ R S).map _)
  unfold pgo
  rw [List.map_map,ha]
  refine Prod.ext rfl ?_
  refine List.ext_getElem (by rw [zLm,List.length_range,G.len R hR,G'.len S hS]) fun k k1 k2=>?_
  have hk':k < n:=by rw [G'.len S hS] at k1;exact k1
  obtain ⟨q,e0,e1⟩:=z3D (G'.len S hS) (G'.go S hS) hk'
  rw [List.getElem_map,List.getElem_range]
  show _=(R.2.getD k 0*_+S.2.getD k 0) % _
  rw [(zfs e0 e1).2]
  rw [zGe k1] at q
  exact Option.some.inj q
 rw [←z58 GP G (by rw [Int.zero_ediv]) m1,←z58 GP G' (by rw [Int.zero_emod]) m2]
theorem zdg {n:Nat} {A:List Row} (GA:z0j n A) (hA:shr A=A) (h8:A.length≤8) (n5:n≤5) {gs:List (List Row)} (hgs:gs=(z0r n).map fun l=>shr (swM A (goW A 0 [l]))):zfr n (row A 0).1 gs∧shr (brM (row A 0).1 gs)=A:=by
 have h1:=GA.some
 have go:∀ l:Int,0≤l→l < (n:Int)→0≤goW A 0 [l]∧goW A 0 [l] < (A.length:Int):=fun l l0 l1=>za4 GA (fun q hq=>by rw [List.mem_singleton.mp hq];exact ⟨l0,l1⟩) (Int.le_refl 0) (by lia)
 have hd:∀ g∈gs,Drn n g:=fun g hg=>by
  rw [hgs] at hg
  obtain ⟨l,hl,rfl⟩:=List.mem_map.mp hg
  obtain ⟨l0,l1⟩:=z50 hl
  obtain ⟨g0,g1⟩:=go l l0 l1
  exact (exA rfl ⟨z3o GA g0 g1,by rw [z3I];lia⟩)
 have hp:IsP n (row A 0).1:=GA.perm _ (z0k (Int.le_refl 0) (by lia))
 have hgl:gs.length=n:=by rw [hgs,zLm,z0z]
 have BI:=ze9 hp hgl n5 hd
 have GB:=z62 BI.p BI.len BI.good BI.few
 refine ⟨BI,?_⟩
 have h4:(brM (row A 0).1 gs).length*A.length≤4000:=Nat.le_trans (Nat.mul_le_mul BI.few h8) (by decide)
 have same:∀ r,LW n r→z1b (brM (row A 0).1 gs) 0 r=z1b A 0 r:=fun r hr=>by
  cases r with
  | nil=>rfl
  | cons l w =>
   obtain ⟨l0,l1⟩:=hr l List.mem_cons_self
   have hw:LW n w:=fun q hq=>hr q (List.mem_cons_of_mem _ hq)
   obtain ⟨g0,g1⟩:=go l l0 l1
   obtain ⟨i,rfl⟩:=z3l l0
   have eg:gs[i]?=some (shr (swM A (goW A 0 [(i:Int)]))):=by
    rw [hgs,zGm]
    have:=z1o (L:=n) l0 l1
    rw [Int.toNat_natCast] at this
    rw [this]
    rfl
   obtain ⟨o0,o1,eo⟩:=zev BI.p BI.len BI.good BI.few eg
   have Gg:=z3o GA g0 g1
   show (row (brM (row A 0).1 gs) 0).1.getD ((i:Int)).toNat 0::z1b (brM (row A 0).1 gs) (goW (brM (row A 0).1 gs) 0 [(i:Int)]) w=(row A 0).1.getD ((i:Int)).toNat 0::z1b A (goW A 0 [(i:Int)]) w
   rw [z8o,←zcX GB o0 o1 w hw,eo,zb3 Gg,zcX GA g0 g1 w hw]
 rw [zbX GB GA h4 same,hA]
theorem z4I {K:PySem.W.Frag} {a l:Addr} {ns:List Int} {ix:List (Option Nat)} {g:TG} {te:TE} {σ:St} {H1:Hp} {Qe:Hp→Prop} (f:Int→Int) (hl:H1 l=none) (ha:SqL K H1 a (ns.map V.int)) (hz:ns.length≤sizeLine)
  (hs:∀ x∈ns,∀ (H:Hp) (Q':V→Hp→Prop),z0f H1 H→Q' (.int (f x)) H→g (.int x) (z1l ix σ) H fun σ2 H2=>te σ2 H2 Q')
  (hd:∀ H,z0f H1 H→H l=some (.lst ((ns.map f).map V.int))→Qe H):z6y ix (Itl K a) g te σ l (upd H1 l (.lst [])) Qe:=by
 refine z2L (xs:=ns.map V.int) (fun i ys H=>ys=((ns.take i).map f).map V.int∧i≤ns.length∧z0f H1 H) ⟨rfl,Nat.zero_le _,z04 (z0f.refl H1) hl⟩ (fun i ys H _ h=>h.2.2.seq ha) (by rw [zLm];exact hz) (fun i ys H h=>by rw [h.1,zLm,zLm,List.length_take];have:=h.2.1;lia) (fun i x ys H ex h hy=>?_) (fun ys H h hy=>?_)
 ·obtain ⟨rfl,hi,s⟩:=h
  rw [zGm] at ex
  have hi':i < ns.length:=by
   rcases Nat.lt_or_ge i ns.length with z | z
   ·exact z
   ·rw [List.getElem?_eq_none z] at ex;cases ex
  rw [zGe hi'] at ex
  cases ex
  refine hs _ (List.getElem_mem hi') H _ s ⟨hy,?_,hi',z09 s hl⟩
  rw [List.take_add_one,zGe hi',List.map_append,List.map_append]
  rfl
 ·obtain ⟨rfl,_,s⟩:=h
  rw [zLm,List.take_length] at hy
  exact hd H s hy
end Gu
namespace Gu
open PySem L2
section
variable {P:Program} {w:World} {K:PySem.W.Frag} {mg:Str→Option Value} {base:Heap} {f g:Addr} {fd gd:FuncData} {CX:CXT} [NoE CX]
theorem zc2:z0p ["one","other"] ["one","other"] (z05 z54):={}
theorem z8y:z0Z ["one","other"] (z05 z54) ["letter","other"] [none,some 1] (csc [(".0",.local),("letter",.local),("other",.free)]):={}
theorem zaD (F:Fun K "turned" "turned" z54 f fd) (mt:mg "tuple"=none):z0v P w K mg base CX 1 f fd ["one","other"] (z6u K):=by
 refine F.okc zc2 (fun vs H Q E h=>?_) (fun cdv A outer s H vs Q E hr h=>?_)
 ·obtain ⟨a,b,p,q,rfl,_⟩:=h
  rfl
 obtain ⟨a,b,p,q,rfl,ha,hb,hp,hn,k⟩:=h
 refine ⟨_,z06 (z0x (z0q z0n rfl mt PyProof.Rows.boot_tuple (z00 (z0N rfl z8y (z23 (pv 0)) (fun _ _ _ _ _=>z0a (i:=0) z8y.nd rfl (Or.inl rfl)) (fun _ _ _ _ _=>z0R (ixT K rfl) (pv 1) (pv 0) (fun _ _=>rfl))) z03))),?_⟩
 simp only [Dr] at ha hb
 obtain ⟨a,vs,rfl,sa,da⟩:=ha
 obtain ⟨b,us,rfl,sb,db⟩:=hb
 replace sa:=SqT.of (K:=K) sa
 replace sb:=SqT.of (K:=K) sb
 have ea:=DrL.ints_inv da
 have eb:=DrL.ints_inv db
 subst ea eb
 refine (exA rfl ⟨a,rfl,⟨_,sa⟩,fun l hl0=>z1u (xs:=p.map V.int) (fun i ys H2=>i≤p.length∧ys=((p.take i).map fun x=>q.getD x.toNat 0).map V.int∧z0f H H2) ⟨Nat.zero_le _,rfl,z04 (z0f.refl H) hl0⟩ (fun i ys H2 _ h=>h.2.2.tupl sa) (by rw [zLm];exact z0G (by lia)) (fun i ys H2 h=>?_) (fun i x ys H2 hx h hy=>?_) (fun ys H2 h hy=>?_)⟩)
 ·obtain ⟨hi,rfl,_⟩:=h
  rw [zLm,zLm,List.length_take]
  lia
 ·obtain ⟨hi,rfl,s2⟩:=h
  have hil:i < p.length:=by have:=(zGs.mp hx).1;rwa [zLm] at this
  have epx:p[i]?=some p[i]:=zGe hil
  obtain ⟨h0,h1⟩:=hp _ (List.getElem_mem hil)
  generalize p[i]=px at epx h0 h1
  have ex:x=V.int px:=by rw [zGm,epx] at hx;exact (Option.some.inj hx).symm
  subst ex
  have eq:q[px.toNat]?=some (q.getD px.toNat 0):=by
   have:px.toNat < q.length:=by lia
   simp [this]
  refine (exA rfl (exA rfl ⟨b,_,px,V.int (q.getD px.toNat 0),rfl,rfl,s2.tupl sb,z1F h0 (by rw [zGm,eq];rfl),hy,hil,?_,z09 s2 hl0⟩))
  rw [z0K _ epx,List.map_append]
  rfl
 ·obtain ⟨_,rfl,s2⟩:=h
  refine ⟨l,exA rfl (.inl ⟨SqL.of hy,fun t ht=>?_⟩)⟩
  rw [zLm,List.take_length]
  exact k _ _ (z04 s2 ht) (Dr.tup z01 (DrL.ints _))
theorem z4c:z0p ["one","came_of","letter","becomes"] ["one"] (z05 z67):={}
theorem zas (F:Fun K "undone" "undone" z67 f fd) (mt:mg "tuple"=none) (ml:mg "len"=none) (me:mg "enumerate"=none):z0v P w K mg base CX 1 f fd ["one"] (z6A K):=by
 refine F.okc z4c (fun vs H Q E h=>?_) (fun cdv A outer s H vs Q E hr h=>?_)
 ·obtain ⟨a,p,n,rfl,_⟩:=h
  rfl
 obtain ⟨a,p,n,rfl,ha,hp,hn,k⟩:=h
 refine ⟨_,z02 (z0e (i:=1) z4c.nd rfl (Or.inl rfl) (z0A zcC (z1x (z00 z08 z03)) (z0m z0g rfl ml PySem.boot_len (z00 (pv 0) z03))))
  (z02 (z1R PassesOwn.never rfl (ze4 rfl me (z00 (pv 0) z03)) (z1S rfl (z0i (z0a (i:=2) z4c.nd rfl (Or.inl rfl)) (z0i (z0a (i:=3) z4c.nd rfl (Or.inl rfl)) z0Y)))
   (z06 (z2x (pv 2) (zf6 (pv 1) (pv 3) zbu))))
  (z06 (z0x (z0q z0n rfl mt PyProof.Rows.boot_tuple (z00 (pv 1) z03))))),?_⟩
 simp only [Dr] at ha
 obtain ⟨a,vs,rfl,sa,da⟩:=ha
 replace sa:=SqT.of (K:=K) sa
 have ea:=DrL.ints_inv da
 subst ea
 have hl:=hp.len
 refine ⟨by show 1≤sizeLine;decide,fun z hz=>(exA rfl ⟨a,exA rfl ⟨.inr ((z04 (z0f.refl H) hz).tupl sa),z,((p.map V.int).length:Int),exA rfl ⟨rfl,z01,by rw [zLm];lia,by rw [zLm];lia,?_,fun l hl0=>?_⟩⟩⟩)⟩
 ·rw [zLm]
  show 1*((p.length:Int)).toNat≤sizeLine
  exact z0G (by lia)
 have s1:z0f H (upd (upd H z (.lst [.int 0])) l (.lst (List.replicate ((p.map V.int).length:Int).toNat [V.int 0]).flatten)):=z04 (z04 (z0f.refl H) hz) hl0
 have hz0:H l=none:=(z04 (z0f.refl H) hz:z0f H (upd H z (.lst [.int 0]))).free hl0
 have hrep:(List.replicate ((p.map V.int).length:Int).toNat [V.int 0]).flatten=(List.replicate n (0:Int)).map V.int:=by
  rw [zLm,hl]
  simp
 rw [hrep] at s1 ⊢
 refine ⟨_,rfl,a,rfl,⟨_,s1.tupl sa⟩,zfC (xs:=p.map V.int) (fun i σ H2=>∃ (u v:Option V) (ys:List Int),σ=[some (.ref a),some (.ref l),u,v]∧z0f H H2∧H2 l=some (.lst (ys.map V.int))∧ys.length=n∧∀ (m:Nat) (x:Int),m < i→p[m]?=some x→ys[x.toNat]?=some (m:Int))
  ⟨none,none,_,rfl,s1,z01,List.length_replicate,fun m x hm _=>absurd hm (Nat.not_lt_zero _)⟩ (fun i σ H2 _ h=>by obtain ⟨_,_,_,_,s2,_⟩:=h;exact s2.tupl sa) (fun i x b σ H2 hx h hb Ed nx3=>?_) (fun σ H2 h=>?_)⟩
 ·obtain ⟨u,v,ys,rfl,s2,hy,hyl,hinv⟩:=h
  have hil:i < p.length:=by have:=(zGs.mp hx).1;rwa [zLm] at this
  obtain ⟨px,epx,h0,h1⟩:=hp.get (i:=i) (by lia)
  have ex:x=V.int px:=by rw [zGm,epx] at hx;exact (Option.some.inj hx).symm
  subst ex
  have hlb:l≠b:=z0c hy hb
  have hix:ixN (ys.map V.int).length px=some px.toNat:=by
   unfold ixN
   rw [zLm,if_pos h0,if_pos (by lia)]
  refine (exF b rfl (SqT.of z01) rfl (exB rfl (exC rfl rfl (exA rfl (exA rfl (exA rfl ⟨l,_,px,px.toNat,rfl,rfl,(by rw [z07 hlb];exact hy),hix,?_⟩))))))
  refine nx3 _ _ ⟨_,_,ys.set px.toNat i,rfl,z09 (z04 s2 hb) hz0,?_,by rw [List.length_set];exact hyl,fun m x hm e=>?_⟩
  ·rw [z01,List.map_set]
  ·by_cases hmi:m=i
   ·subst hmi
    rw [epx] at e
    cases e
    rw [List.getElem?_set_self (by lia)]
   ·have hxp:x.toNat≠px.toNat:=fun z=>by
     have hml:m < p.length:=by lia
     have e1:p[m]=x:=by rw [zGe hml] at e;exact Option.some.inj e
     have e2:p[i]=px:=by rw [zGe hil] at epx;exact Option.some.inj epx
     have hx0:=(hp.mem.mp (e1 ▸ List.getElem_mem hml)).1
     have:p[m]=p[i]:=by rw [e1,e2];lia
     exact hmi ((List.getElem_inj hp.nodup).mp this)
    rw [List.getElem?_set_ne (Ne.symm hxp)]
    exact hinv m x (by lia) e
 ·obtain ⟨u,v,ys,rfl,s2,hy,hyl,hinv⟩:=h
  refine (exA rfl ⟨l,exA rfl (.inl ⟨SqL.of hy,fun t ht=>?_⟩)⟩)
  have e:ys=z2A p:=zdV hp hyl fun m x e=>hinv m x (by rw [zLm];exact (zGs.mp e).1) e
  rw [e]
  exact k _ _ (z04 s2 ht) (Dr.tup z01 (DrL.ints _))
theorem z4H:z0p ["guise","rearranging","goings"] ["guise"] (z05 z4e):={}
theorem z9j (F:Fun K "breadth" "breadth" z4e f fd) (ml:mg "len"=none):z0v P w K mg base CX 1 f fd ["guise"] (z2I K):=by
 refine F.okc z4H (fun vs H Q E h=>?_) (fun cdv A outer s H vs Q E hr h=>?_)
 ·obtain ⟨a,r,z1A,rfl,_⟩:=h
  rfl
 obtain ⟨a,r,z1A,rfl,ha,hl,q⟩:=h
 refine ⟨_,z02 (z2x (z0R z1w (pv 0) z08 (fun _ _=>rfl)) (z1S rfl (z0i (z0a (i:=1) z4H.nd rfl (Or.inl rfl)) (z0i (z0a (i:=2) z4H.nd rfl (Or.inl rfl)) z0Y))))
  (z06 (z0x (z0m z0g rfl ml PySem.boot_len (z00 (pv 1) z03)))),?_⟩
 simp only [Dr,DrL] at ha
 obtain ⟨a,vs,rfl,ea,v,l,rfl,hv,_⟩:=ha
 obtain ⟨t,b,c,rfl,et,eb,ec⟩:=z0T hv
 refine (exA rfl (exD a _ _ (.ref t) rfl rfl (SqT.of ea) (z0y (j:=0) rfl) (exF t rfl (SqT.of et) rfl (exB rfl (exC rfl rfl (exA rfl (exG b rfl (.inr (SqT.of eb)) ?_)))))))
 rw [zLm]
 exact q _ (z0f.refl H)
abbrev nRB:List Str:=["row","rearranging","goings","came_of"]
theorem zfz:z0p nRB ["row"] (z05 z3t):={}
theorem zgx:z0Z nRB (z05 z3t) ["letter","goings"] [none,some 2] (csc [(".0",.local),("letter",.local),("goings",.free)]):={}
theorem z9E (F:Fun K "row_back" "row_back" z3t f fd) (mt:mg "tuple"=none)
  (U:z0v P w K mg base CX 1 g gd ["one"] (z6A K)) (bU:z0o K gd ["one"] []) (kU:PySem.W.keepIn K (.ref g)=true) (mU:mg "undone"=some (.ref g)):z0v P w K mg base CX 2 f fd ["row"] (z4i K):=by
 refine F.okc zfz (fun vs H Q E h=>?_) (fun cdv A outer s H vs Q E hr h=>?_)
 ·obtain ⟨v,r,n,rfl,_⟩:=h
  rfl
 obtain ⟨v,r,n,rfl,dv,hp,hl,hn,gq⟩:=h
 refine ⟨_,z02 (z2x (pv 0) (z1S rfl (z0i (z0a (i:=1) zfz.nd rfl (Or.inl rfl)) (z0i (z0a (i:=2) zfz.nd rfl (Or.inr rfl)) z0Y))))
  (z02 (z0e (i:=3) zfz.nd rfl (Or.inl rfl) (z0h U hr rfl mU kU bU .nil z0Q (z00 (pv 1) z03)))
  (z06 (z0x (z1I (z00 (pv 3) (z00 (z0q z0n rfl mt PyProof.Rows.boot_tuple (z00 (z0N rfl zgx (z23 (pv 3)) (fun _ _ _ _ _=>z0a (i:=0) zgx.nd rfl (Or.inl rfl)) (fun _ _ _ _ _=>z0R (ixT K rfl) (pv 1) (pv 0) (fun _ _=>rfl))) z03)) z03)))))),?_⟩
 obtain ⟨t,b,c,rfl,et,eb,ec⟩:=z0T dv
 refine (exA rfl (exF t rfl (SqT.of et) rfl (exB rfl (exC rfl rfl ?_))))
 refine (exA rfl ⟨.ref b,r.1,n,rfl,Dr.tup eb (DrL.ints _),hp,by lia,fun v H1 s1 d1=>?_⟩)
 obtain ⟨b1,rfl,eb1⟩:=Dr.its_inv d1
 have hbl:(z2A r.1).length=n:=by rw [z8b,hp.len]
 refine (exA rfl (exA rfl ⟨b1,rfl,⟨_,SqT.of eb1⟩,fun l4 hl4=>z1u (xs:=(z2A r.1).map V.int) (fun j zs H4=>j≤(z2A r.1).length∧zs=(((z2A r.1).take j).map fun l=>r.2.getD l.toNat 0).map V.int∧z0f H1 H4) ⟨Nat.zero_le _,rfl,z04 (z0f.refl H1) hl4⟩ (fun j zs H4 _ h=>SqT.of (h.2.2 _ _ eb1)) (by rw [zLm];exact z0G (by lia)) (fun j zs H4 h=>?_) (fun j x zs H4 hx h hy4=>?_) (fun zs H4 h hy4=>?_)⟩))
 ·obtain ⟨hj,rfl,_⟩:=h
  rw [zLm,zLm,List.length_take]
  lia
 ·obtain ⟨hj,rfl,s4⟩:=h
  have hjl:j < (z2A r.1).length:=by have:=(zGs.mp hx).1;rwa [zLm] at this
  obtain ⟨i,hi,e1,e2⟩:=zan hp (show j < n by lia)
  have ex:x=V.int i:=by rw [zGm,e1] at hx;exact (Option.some.inj hx).symm
  subst ex
  have e3:r.2[i]?=some r.2[i]:=zGe (by lia)
  refine (exA rfl (exA rfl (exD c _ _ (V.int r.2[i]) rfl rfl (SqT.of ((s1.trans s4) _ _ ec)) (z0y (by rw [zGm,e3];rfl)) ⟨hy4,hjl,?_,z09 s4 hl4⟩)))
  rw [z0K _ e1,List.map_append]
  show _=_++[V.int (r.2.getD ((i:Int)).toNat 0)]
  rw [Int.toNat_natCast,zGd,e3]
  rfl
 ·obtain ⟨_,rfl,s4⟩:=h
  rw [zLm,List.take_length] at hy4
  refine ⟨l4,exA rfl (.inl ⟨SqL.of hy4,fun t4 ht4=>⟨by show 2≤sizeLine;decide,fun t5 ht5=>?_⟩⟩)⟩
  have s5:=z04 (o:=HO.tup (((z2A r.1).map fun l=>r.2.getD l.toNat 0).map V.int)) s4 ht4
  have e5:upd H4 t4 (HO.tup (((z2A r.1).map fun l=>r.2.getD l.toNat 0).map V.int)) t4=some (.tup ((zaQ r).2.map V.int)):=z01
  generalize upd H4 t4 (HO.tup (((z2A r.1).map fun l=>r.2.getD l.toNat 0).map V.int))=H5 at s5 e5 ht5
  have s6:=z04 (o:=HO.tup [.ref b1,.ref t4]) (z0f.refl H5) ht5
  exact gq _ _ ((s1.trans s5).trans s6) (z2J (r:=zaQ r) (b:=b1) (c:=t4) z01 ((s5.trans s6) _ _ eb1) (s6 _ _ e5))
abbrev nBk:List Str:=["guise"]
theorem zgS:z0p nBk ["guise"] (z05 z5f):={}
abbrev zgp:Scope:=csc [("at",.local),("guise",.free),("row_back",.globalImplicit)]
theorem zhs:z0Z nBk (z05 z5f) ["at","guise"] [none,some 0] zgp:={}
theorem zhf:zeh ["at","guise"] ["at"] zgp:={}
theorem zc1 {k b Ct cc:Addr} {kd bd:FuncData} {Ts:List Tb} {T0:Tb} (F:Fun K "back" "back" z5f f fd) (hcd:fd.code=.ref cc) (hC:PySem.W.CodeHd base cc T0.at_) (hB:z41 base mg) (hT:T0∈Ts) (hTn:∀ T'∈Ts,T'.at_=T0.at_→T'=T0) (hTp:T0.pos=z3s (z0F z5f)) (hTq:T0.qual=("back.<locals>."++"<lambda>":Str))
  (J:z0v P w K mg base (CXx P w) 3 b bd ["row"] (z4i K)) (bJ:z0o K bd ["row"] []) (kJ:PySem.W.keepIn K (.ref b)=true) (mJ:mg "row_back"=some (.ref b))
  (T:z0v P w K mg base (CXx P w) 6 k kd ["first","row_at"] (z3v P w K mg base (CXx P w) 4 Ct)) (bT:z0o K kd ["first","row_at"] []) (kT:PySem.W.keepIn K (.ref k)=true) (mT:mg "least_form"=some (.ref k)):z0v P w K mg base (CXx P w) 7 f fd ["guise"] (zax Ts K Ct):=by
 refine F.okL hcd zgS (fun vs H Q E h=>?_) (fun A outer s H vs Q E hr h=>?_)
 ·obtain ⟨v,n,one,rfl,_⟩:=h
  rfl
 obtain ⟨v,n,one,rfl,hTb,dv,G1,hn,gv,gx⟩:=h
 refine ⟨_,z06 (z0x (z47 (Ts:=Ts) (T:=T0) T hr rfl mT kT bT (z6z fun _ _ _ z=>z) z08 (fun σ H Q Q' h q=>h _ _ q) zhs rfl hC hB (fun _=>rfl) hT hTn hTp hTq)),?_⟩
 have GC:=z2i G1
 refine ⟨hTb,fun fa H2 cs f1 f2 f3 C=>?_⟩
 have n1:z0X [] H H2:=⟨f1,fun _ _ h=>absurd h (by simp)⟩
 obtain ⟨av,us,rfl,eav,dus⟩:∃ (av:Addr) (us:List V),v=.ref av∧H2 av=some (.tup us)∧DrL K H2 (z0l one) us:=by
  have:=dv.monoL n1
  simp only [Dr] at this
  exact this
 refine ⟨fa,n,z37 one,fun i=>i,rfl,fun _ _ e=>e,?_,GC,hn,fun h6 v H3 s3 d=>gv h6 v _ (f2 _ s3) (d.nfr (NFr.utk f3 s3)),fun h6 e H3 s3=>gx h6 e _ (f2 _ s3)⟩
 refine z2Y.lam (k:=3) C zhf (fun _ _ _ _ us hl=>by obtain ⟨a9,rfl⟩:=zee hl;rfl) rfl (fun vs H Q h=>?_) (fun H' s' A outer s cd clos cs vs Q hr nf h=>?_)
 ·obtain ⟨i,rfl,_⟩:=h
  rfl
 obtain ⟨i,rfl,h0,h1,gq⟩:=h
 rw [z1L] at h1
 rw [z7M,z4h h0 h1] at gq
 have hr':=z0k h0 h1
 obtain ⟨v,ev,dv'⟩:=z1X dus (z2p h0 h1)
 refine ⟨_,z0h J hr rfl mJ kJ bJ .nil z0Q (z00 (z0R z1w (pv 1) (pv 0) (fun _ _=>rfl)) z03),?_⟩
 exact (exA rfl (exA rfl (exD av us i v rfl rfl (SqT.of (nf _ _ (fun _ z=>by cases z) (s' _ _ eav))) (z1F h0 ev) ⟨v,row one i,n,rfl,(dv'.mono s').nfr nf,G1.perm _ hr',G1.len _ hr',hn,fun v' H1' s1' d1' hc=>gq v' _ (z0f.rtk s1') (d1'.mono (z0f.rtk' hc))⟩)))
theorem zf2:z0p ["kinds","goings"] ["kinds","goings"] (z05 zay):={}
theorem zcR:z0Z ["kinds","goings"] (z05 zay) ["going","kinds"] [none,some 0] (csc [(".0",.local),("going",.local),("kinds",.free)]):={}
theorem zdU (F:Fun K "kinds_gone_to" "kinds_gone_to" zay f fd) (mt:mg "tuple"=none):z0v P w K mg base CX 1 f fd ["kinds","goings"] (z8X K):=by
 refine F.okc zf2 (fun vs H Q E h=>?_) (fun cdv A outer s H vs Q E hr h=>?_)
 ·obtain ⟨a,b,ks,gs,rfl,_⟩:=h
  rfl
 obtain ⟨a,b,ks,gs,rfl,ha,hb,hg,hl,q⟩:=h
 refine ⟨_,z06 (z0x (z0q z0n rfl mt PyProof.Rows.boot_tuple (z00 (z0N rfl zcR (z23 (pv 1)) (fun _ _ _ _ _=>z0a (i:=0) zcR.nd rfl (Or.inl rfl)) (fun _ _ _ _ _=>z0R (ixL K rfl) (pv 1) (pv 0) (fun _ _=>rfl))) z03))),?_⟩
 obtain ⟨b,rfl,eb⟩:=Dr.its_inv hb
 refine (exA rfl ⟨b,rfl,⟨_,SqT.of eb⟩,fun l hl0=>z1u (xs:=gs.map V.int) (fun i ys H2=>i≤gs.length∧ys=((gs.take i).map fun g=>ks.getD g.toNat 0).map V.int∧z0f H H2) ⟨Nat.zero_le _,rfl,z04 (z0f.refl H) hl0⟩ (fun i ys H2 _ h=>SqT.of (h.2.2 _ _ eb)) (by rw [zLm];exact z0G (by lia)) (fun i ys H2 h=>?_) (fun i x ys H2 hx h hy=>?_) (fun ys H2 h hy=>?_)⟩)
 ·obtain ⟨hi,rfl,_⟩:=h
  rw [zLm,zLm,List.length_take]
  lia
 ·obtain ⟨hi,rfl,s2⟩:=h
  have hil:i < gs.length:=by have:=(zGs.mp hx).1;rwa [zLm] at this
  have eg:gs[i]?=some gs[i]:=zGe hil
  obtain ⟨h0,h1⟩:=hg _ (List.getElem_mem hil)
  generalize gs[i]=gi at eg h0 h1
  have ex:x=V.int gi:=by rw [zGm,eg] at hx;exact (Option.some.inj hx).symm
  subst ex
  have hk:gi.toNat < ks.length:=by lia
  refine (exA rfl (exA rfl (exD a _ gi (V.int (ks.getD gi.toNat 0)) rfl rfl (SqL.of (s2 _ _ ha)) (z1F h0 (by simp [hk])) ⟨hy,hil,?_,z09 s2 hl0⟩)))
  rw [z0K _ eg,List.map_append]
  rfl
 ·obtain ⟨_,rfl,s2⟩:=h
  refine ⟨l,exA rfl (.inl ⟨SqL.of hy,fun t ht=>?_⟩)⟩
  rw [zLm,List.take_length]
  exact q _ _ (z04 s2 ht) (Dr.tup z01 (DrL.ints _))
abbrev nBo:List Str:=["_law_one","_law_other","_law_told"]
theorem zfA:z0p nBo ["_law_one","_law_other"] (z05 zbY):={}
theorem zd7 {Ct:Addr} {bmB:List Value} {newId:String} {Ts:List Tb} (mC:mg "TooMany"=some (.ref Ct)) (xC:PySem.W.excIn K Ct bmB newId=true) (hB:bmB.contains (.type "BaseException")=true) (F:Fun K "_law_both" "_law_both" zbY f fd)
  {aW:Addr} {dW:FuncData} (W:z0v P w K mg base (CXx P w) 7 aW dW ["one","other"] (z6d Ts K Ct)) (bW:z0o K dW ["one","other"] []) (kW:PySem.W.keepIn K (.ref aW)=true) (mW:mg "joined"=some (.ref aW)):z0v P w K mg base (CXx P w) 8 f fd ["_law_one","_law_other"] (za3 Ts K):=by
 refine F.okc zfA (fun vs H Q E h=>?_) (fun cdv A outer s H vs Q E hr h=>?_)
 ·obtain ⟨v,a,n,first,gs,rfl,_⟩:=h
  rfl
 obtain ⟨v1,v2,n,one,other,rfl,hTb,d1,d2,G1,G2,hn,h4,gv⟩:=h
 refine ⟨_,z02 (z0e (i:=2) zfA.nd rfl (Or.inl rfl) zac)
  (z02 (zf0 rfl rfl mC rfl xC hB (fun pn E1 D pass=>(z06 (z0e (i:=2) zfA.nd rfl (Or.inl rfl) (z0h W hr rfl mW kW bW .nil pass (z00 (pv 0) (z00 (pv 1) z03)))))) (fun e=>(z06 (z0e (i:=2) zfA.nd rfl (Or.inl rfl) zac))))
  (z06 (z0x (pv 2)))),?_⟩
 refine (exA rfl (exA rfl ⟨v1,v2,n,one,other,rfl,hTb,d1,d2,G1,G2,hn,h4,fun h0 x H1 s1 dx=>(exA rfl (gv x H1 s1 (by rw [z8L h0];exact dx))),fun h0 ea H1 s1=>⟨rfl,fun σ hσ=>⟨.non,?_,gv .non H1 s1 (by rw [z8x h0];simp only [Dr])⟩⟩⟩))
 have hσ3:σ.length=3:=hσ
 show (σ.set 2 (some V.non))[2]?=_
 rw [List.getElem?_set_self (by lia)]
abbrev zf3:List Str:=["_law_script","_law_letters_here","_law_one","_law_other","_law_many","_law_left","_law_right","_law_back_table","_law_both_here","_law_lower","_law_again"]
theorem z4X:z0p zf3 ["_law_script"] (z05 z8R):={}
theorem zfi:z0Z zf3 (z05 z8R) ["_law_letter","_law_one"] [none,some 2] (csc [(".0",.local),("_law_letter",.local),("behind",.globalImplicit),("_law_one",.free)]):={}
theorem zcT:z0Z zf3 (z05 z8R) ["_law_number","_law_letters_here"] [none,some 1] (csc [(".0",.local),("_law_number",.local),("_law_letters_here",.free)]):={}
theorem zcK:z0Z zf3 (z05 z8R) ["_law_number","_law_right"] [none,some 6] (csc [(".0",.local),("_law_number",.local),("_law_right",.free)]):={}
theorem zd6:z0Z zf3 (z05 z8R) ["_law_number","_law_back_table"] [none,some 7] (csc [(".0",.local),("_law_number",.local),("_law_back_table",.free)]):={}
abbrev gD (g:List Row):D:=D.tup (z0l g)
theorem z4s {ns:List Int} {x:Int} (x0:0≤x) (x1:x < (ns.length:Int)):atI (ns.map V.int) x=some (V.int (ns.getD x.toNat 0)):=by
 obtain ⟨j,rfl⟩:=z3l x0
 refine z0y ?_
 rw [zGm,zGd,Int.toNat_natCast,zGe (by lia)]
 rfl
theorem zfd {Ct Cb Cw:Addr} {Ts:List Tb} (ml:mg "len"=none) (mr:mg "range"=none) (mli:mg "list"=none) (mso:mg "sorted"=none) (F:Fun K "law" "law" z8R f fd)
  {aC:Addr} {dC:FuncData} (C:z0v P w K mg base (CXx P w) 9 aC dC ["_law_script","_law_at"] (z96 K)) (bC:z0o K dC ["_law_script","_law_at"] []) (kC:PySem.W.keepIn K (.ref aC)=true) (mC:mg "_law_cell"=some (.ref aC))
  {aL:Addr} {dL:FuncData} (L:z0v P w K mg base (CXx P w) 9 aL dL ["_law_script","_law_at"] (z4U K)) (bL:z0o K dL ["_law_script","_law_at"] []) (kL:PySem.W.keepIn K (.ref aL)=true) (mL:mg "_law_letters"=some (.ref aL))
  {aG:Addr} {dG:FuncData} (G:z0v P w K mg base (CXx P w) 9 aG dG ["_law_letters_here","_law_cell_here"] (z87 K)) (bG:z0o K dG ["_law_letters_here","_law_cell_here"] []) (kG:PySem.W.keepIn K (.ref aG)=true) (mG:mg "_law_guise"=some (.ref aG))
  {aS:Addr} {dS:FuncData} (S:z0v P w K mg base (CXx P w) 9 aS dS ["_law_letters_here"] (z4t K)) (bS:z0o K dS ["_law_letters_here"] []) (kS:PySem.W.keepIn K (.ref aS)=true) (mS:mg "_law_stories"=some (.ref aS))
  {aF0:Addr} {dF0:FuncData} (F0:z0v P w K mg base (CXx P w) 9 aF0 dF0 ["guise","many"] (z7I K Ct Cb)) (bF0:z0o K dF0 ["guise","many"] []) (kF0:PySem.W.keepIn K (.ref aF0)=true) (mF0:mg "floor"=some (.ref aF0))
  {aBk:Addr} {dBk:FuncData} (Bk:z0v P w K mg base (CXx P w) 9 aBk dBk ["guise"] (zax Ts K Ct)) (bBk:z0o K dBk ["guise"] []) (kBk:PySem.W.keepIn K (.ref aBk)=true) (mBk:mg "back"=some (.ref aBk))
  {aBo:Addr} {dBo:FuncData} (Bo:z0v P w K mg base (CXx P w) 9 aBo dBo ["_law_one","_law_other"] (za3 Ts K)) (bBo:z0o K dBo ["_law_one","_law_other"] []) (kBo:PySem.W.keepIn K (.ref aBo)=true) (mBo:mg "_law_both"=some (.ref aBo))
  {aBh:Addr} {dBh:FuncData} (Bh:z0v P w K mg base (CXx P w) 9 aBh dBh ["guise","word"] (z6l Ts K Cw)) (bBh:z0o K dBh ["guise","word"] []) (kBh:PySem.W.keepIn K (.ref aBh)=true) (mBh:mg "behind"=some (.ref aBh))
  {aBr:Addr} {dBr:FuncData} (Br:z0v P w K mg base (CXx P w) 9 aBr dBr ["first","guises"] (z3M Ts K Ct)) (bBr:z0o K dBr ["first","guises"] []) (kBr:PySem.W.keepIn K (.ref aBr)=true) (mBr:mg "branched"=some (.ref aBr)):z0v P w K mg base (CXx P w) 10 f fd ["_law_script"] (z95 Ts K):=by
 refine F.okc z4X (fun vs H Q E h=>?_) (fun cdv A' outer s H vs Q E' hr h=>?_)
 ·obtain ⟨a,ns,rfl,_⟩:=h
  rfl
 obtain ⟨a,ns,rfl,hS,h63,hTb,q⟩:=h
 have hu:=hr.units
 refine ⟨_,z02 (z0e (i:=1) z4X.nd rfl (Or.inr rfl) (z0h L hr rfl mL kL bL .nil z0Q (z00 (pv 0) (z00 z08 z03))))
  (z02 (z0e (i:=2) z4X.nd rfl (Or.inr rfl) (z0h G hr rfl mG kG bG .nil z0Q (z00 (pv 1) (z00 (z0h C hr rfl mC kC bC .nil z0Q (z00 (pv 0) (z00 z08 z03))) z03))))
  (z02 (z0e (i:=3) z4X.nd rfl (Or.inl rfl) (z0h G hr rfl mG kG bG .nil z0Q (z00 (pv 1) (z00 (z0h C hr rfl mC kC bC .nil z0Q (z00 (pv 0) (z00 z08 z03))) z03))))
  (z02 (z0e (i:=4) z4X.nd rfl (Or.inl rfl) (z0A z1Q (z0h C hr rfl mC kC bC .nil z0Q (z00 (pv 0) (z00 z08 z03))) (z0A z1p (z0h S hr rfl mS kS bS .nil z0Q (z00 (pv 1) z03)) z08)))
  (z02 (z0e (i:=5) z4X.nd rfl (Or.inl rfl) (z0h F0 hr rfl mF0 kF0 bF0 .nil z0Q (z00 (pv 2) (z00 (pv 4) z03))))
  (z02 (z0e (i:=6) z4X.nd rfl (Or.inr rfl) (z0h F0 hr rfl mF0 kF0 bF0 .nil z0Q (z00 (pv 3) (z00 (pv 4) z03))))
  (z02 (z1V (z18 (z6r K rfl hu) (z0m (zfb K rfl) rfl mso PyProof.Rows.boot_sorted (z00 (pv 5) z03)) (z0q (z2v rfl) rfl mli PyProof.Rows.boot_list (z00 (z0q z4d rfl mr PyProof.Rows.boot_range (z00 (z0m z0g rfl ml PySem.boot_len (z00 (pv 5) z03)) z03)) z03)) (z1e _)) (z06 (z0x z9K)) z0L)
  (z02 (z0e (i:=7) z4X.nd rfl (Or.inr rfl) (z0h F0 hr rfl mF0 kF0 bF0 .nil z0Q (z00 (z0h Bk hr rfl mBk kBk bBk .nil z0Q (z00 (pv 2) z03)) (z00 (pv 4) z03))))
  (z02 (z1V (z18 (z6r K rfl hu) (z0N rfl zd6 (z1Y (pv 5)) (fun _ _ _ _ _=>z0a (i:=0) zd6.nd rfl (Or.inl rfl)) (fun _ _ _ _ _=>z0R (ixL K rfl) (pv 1) (pv 0) (fun _ _=>rfl))) (z0q (z2v rfl) rfl mli PyProof.Rows.boot_list (z00 (z0q z4d rfl mr PyProof.Rows.boot_range (z00 (z0m z0g rfl ml PySem.boot_len (z00 (pv 5) z03)) z03)) z03)) (z1e _)) (z06 (z0x z9K)) z0L)
  (z02 (z0e (i:=8) z4X.nd rfl (Or.inl rfl) (z0h Bo hr rfl mBo kBo bBo .nil z0Q (z00 (pv 2) (z00 (pv 3) z03))))
  (z02 (z1V (PW.pt (z6J (z18 zdN (pv 8) zac (z1e _)) (z4Q (z18 (z6r K rfl hu) (z0h F0 hr rfl mF0 kF0 bF0 .nil z0Q (z00 (pv 8) (z00 (pv 4) z03))) (z0N rfl zcK (z1Y (pv 5)) (fun _ _ _ _ _=>z0a (i:=0) zcK.nd rfl (Or.inl rfl)) (fun _ _ _ _ _=>z0R (ixL K rfl) (pv 1) (pv 0) (fun _ _=>rfl))) (z1e _))))) (z06 (z0x z9K)) z0L)
  (z02 (z1V (z18 zbb (pv 4) z08 (z1e _)) (z02 (z0e (i:=9) z4X.nd rfl (Or.inl rfl) (z0h F0 hr rfl mF0 kF0 bF0 .nil z0Q (z00 (pv 2) (z00 (z0A z56 (pv 4) z08) z03))))
   (z06 (z1V (z18 (z6r K rfl hu) (z0N rfl zcT (z1Y (zcn (pv 5) (pv 1))) (fun _ _ _ _ _=>z0a (i:=0) zcT.nd rfl (Or.inl rfl)) (fun _ _ _ _ _=>z0A z4D (pv 0) (pv 1))) (pv 9) (z1e _)) (z06 (z0x z9K)) z0L))) z0L)
  (z02 (z0e (i:=10) z4X.nd rfl (Or.inl rfl) (z0h Br hr rfl mBr kBr bBr .nil z0Q (z00 (z0R z1w (z0R z1w (pv 2) z08 (fun _ _=>rfl)) z08 (fun _ _=>rfl)) (z00 (z0N rfl zfi (z1z rfl mr (z00 (pv 1) z03)) (fun _ _ _ _ _=>z0a (i:=0) zfi.nd rfl (Or.inl rfl)) (fun _ _ _ _ _=>z0h Bh hr rfl mBh kBh bBh .nil z0Q (z00 (pv 1) (z00 (z1I (z00 (pv 0) z03)) z03)))) z03))))
  (z06 (z0x (zeN (z7w (zf5 K rfl hu) (pv 10) (pv 2) (z1e _)) (zfk (z7w (zf5 K rfl hu) (z0h F0 hr rfl mF0 kF0 bF0 .nil z0Q (z00 (pv 10) (z00 (pv 4) z03))) (pv 5) (z1e _)))))))))))))))))),?_⟩
 have n2:=zdC ns 0
 have n5:=zdc ns 0
 generalize hn:zcF ns 0=n at *
 refine (exA rfl ⟨a,ns,0,rfl,hS,h63,by lia,?_⟩)
 rw [hn]
 refine (exA rfl (exA rfl ⟨a,ns,1,rfl,hS,h63,by lia,n,exA rfl ⟨n2,n5,fun v1 H1 r1 s1 G1 l1 d1=>?_⟩⟩))
 refine (exA rfl (exA rfl ⟨a,ns,2,rfl,s1.seq hS,h63,by lia,n,exA rfl ⟨n2,n5,fun v2 H2 r2 s2 G2 l2 d2=>?_⟩⟩))
 have GA:=z26 G1
 have GB:=z26 G2
 have hA:(shr r1).length≤8:=by have:=z4T G1;lia
 have hB:(shr r2).length≤8:=by have:=z4T G2;lia
 have eA:=zb3 G1
 generalize shr r1=RA at *
 generalize shr r2=RB at *
 have hs:0 < z9o n+1∧z9o n≤10:=by
  unfold z9o
  split
  ·lia
  ·split
   ·lia
   ·split<;>lia
 replace d1:=d1.mono s2
 refine (exA rfl ⟨a,ns,3,rfl,(s1.trans s2).seq hS,h63,by lia,exA rfl ⟨n,rfl,n2,n5,fun H3 s3=>(exC rfl rfl (exC rfl rfl ⟨hs.1,?_⟩))⟩⟩)
 have m0:=Int.emod_nonneg (cell ns 3) (show z9o n+1≠0 by lia)
 have m1:=Int.emod_lt_of_pos (cell ns 3) hs.1
 obtain ⟨m,hm⟩:=z3l m0
 have hmt:(cell ns 3 % (z9o n+1)).toNat=m:=by rw [hm];exact Int.toNat_natCast m
 have hmp:n ^ m≤1024:=Nat.le_of_not_lt fun z=>absurd ((zci n2 n5 m).mpr z) (by lia)
 have n0:0 < n:=by lia
 have hp63:(n ^ m:Nat)≤1000000:=by lia
 have s03:=s1.trans (s2.trans s3)
 replace d1:=d1.mono s3
 replace d2:=d2.mono s3
 refine (exA rfl (exA rfl ⟨v1,RA,n,exA rfl ⟨d1,GA,n2,n5,by lia,fun z=>absurd z (by lia),fun _ z=>absurd z (by rw [hmt];lia),fun _ _ lf H4 s4 f4 e4=>?_⟩⟩))
 rw [hmt] at e4
 refine (exA rfl (exA rfl ⟨v2,RB,n,exA rfl ⟨d2.mono s4,GB,n2,n5,by lia,fun z=>absurd z (by lia),fun _ z=>absurd z (by rw [hmt];lia),fun _ _ rg H5 s5 f5 e5=>?_⟩⟩))
 rw [hmt] at e5
 have tlen:=z2r n RA m
 refine (exA rfl ⟨lf,z20 n RA m,rfl,SqL.of (s5 _ _ e4),fun ns' hperm hsort l hl=>?_⟩)
 have e:=z7F (zcd GA hA n0) hperm hsort
 subst e
 refine (exA rfl (exG lf rfl (.inl (SqL.of ((z04 (z0f.refl _) hl) _ _ (s5 _ _ e4)))) ⟨(n ^ m:Nat),by rw [zLm,tlen],by lia,by lia,fun r hr0=>⟨r,0,((n ^ m:Nat):Int),rfl,z01,⟨by decide,by decide,by lia,by lia⟩,by lia,fun l2 hl2=>?_⟩⟩))
 have en:(((n ^ m:Nat):Int) - 0).toNat=n ^ m:=by lia
 rw [en,z3w]
 have s6:=z04 (o:=HO.lst ((z0r (n ^ m)).map V.int)) (z04 (o:=HO.rng 0 ((n ^ m:Nat):Int)) (z04 (o:=HO.lst ((z0r (n ^ m)).map V.int)) (z0f.refl H5) hl) hr0) hl2
 have el:(upd (upd (upd H5 l (HO.lst ((z0r (n ^ m)).map V.int))) r (HO.rng 0 ((n ^ m:Nat):Int))) l2 (HO.lst ((z0r (n ^ m)).map V.int))) l=some (.lst ((z0r (n ^ m)).map V.int)):=(z04 (z04 (z0f.refl _) hr0) hl2) _ _ z01
 refine ⟨(z0r (n ^ m)).map D.int,(z0r (n ^ m)).map D.int,Dr.lst el (DrL.ints _),Dr.lst z01 (DrL.ints _),rfl,z25 _ _,by rw [D.depL_ints];decide,?_⟩
 rw [D.eq_refl]
 refine (exA rfl (z85 ?_))
 clear el
 generalize (upd (upd (upd H5 l (HO.lst ((z0r (n ^ m)).map V.int))) r (HO.rng 0 ((n ^ m:Nat):Int))) l2 (HO.lst ((z0r (n ^ m)).map V.int)))=H6 at *
 have s36:=s4.trans (s5.trans s6)
 have t6:z0X Ts H H6:=z0f.l (s03.trans s36)
 replace d1:=d1.mono s36
 replace d2:=d2.mono s36
 replace e4:=(s5.trans s6) _ _ e4
 replace e5:=s6 _ _ e5
 have GC:=z26 (z2i GA)
 have hC:(shr (z37 RA)).length≤8:=by have:=z4T (z2i GA);rw [z1L] at this;lia
 refine (exA rfl ⟨v1,n,RA,rfl,t6.tabs hTb,d1,GA,by lia,fun _ y H7 s7 dy=>?_,fun z=>absurd z (by lia)⟩)
 refine (exA rfl ⟨y,_,n,exA rfl ⟨dy,GC,n2,n5,by lia,fun z=>absurd z (by lia),fun _ z=>absurd z (by rw [hmt];lia),fun _ _ bt H8 s8 f8 e8=>?_⟩⟩)
 rw [hmt] at e8
 have s68:=s7.trans (z0f.l s8)
 have t8:=t6.trans s68
 replace d1:=d1.monoL s68
 replace d2:=d2.monoL s68
 replace e4:=s68.g e4
 replace e5:=s68.g e5
 refine (exA rfl ⟨lf,rfl,⟨_,SqL.of e4⟩,fun lc hlc=>z4I (ns:=z20 n RA m) (fun x=>(z20 n (shr (z37 RA)) m).getD x.toNat 0) hlc (SqL.of e4) (by rw [tlen];exact Nat.le_trans hmp (by decide)) (fun x hx Hx Q' sx qx=>?_) (fun H9 s9 e9=>?_)⟩)
 ·obtain ⟨x0,x1⟩:=zaj GA n0 x hx
  exact (exA rfl (exA rfl (exD bt _ _ _ rfl rfl (SqL.of (sx _ _ e8)) (z4s x0 (by rw [z2r];exact x1)) qx)))
 have eb:(z20 n RA m).map (fun x=>(z20 n (shr (z37 RA)) m).getD x.toNat 0)=z0r (n ^ m):=z6T GA hA n0
 rw [eb] at e9
 refine (exA rfl (exG lf rfl (.inl (SqL.of (s9 _ _ e4))) ⟨(n ^ m:Nat),by rw [zLm,tlen],by lia,by lia,fun r hr0=>⟨r,0,((n ^ m:Nat):Int),rfl,z01,⟨by decide,by decide,by lia,by lia⟩,by lia,fun l2 hl2=>?_⟩⟩))
 rw [en,z3w]
 have sx:=z04 (o:=HO.lst ((z0r (n ^ m)).map V.int)) (z04 (o:=HO.rng 0 ((n ^ m:Nat):Int)) (z0f.refl H9) hr0) hl2
 refine ⟨(z0r (n ^ m)).map D.int,(z0r (n ^ m)).map D.int,Dr.lst (sx _ _ e9) (DrL.ints _),Dr.lst z01 (DrL.ints _),rfl,z25 _ _,by rw [D.depL_ints];decide,?_⟩
 rw [D.eq_refl]
 refine (exA rfl (z85 ?_))
 generalize (upd (upd H9 r (HO.rng 0 ((n ^ m:Nat):Int))) l2 (HO.lst ((z0r (n ^ m)).map V.int)))=Ha at *
 have s8a:=s9.trans sx
 have ta:=t8.trans (z0f.l s8a)
 replace d1:=d1.mono s8a
 replace d2:=d2.mono s8a
 replace e4:=s8a _ _ e4
 replace e5:=s8a _ _ e5
 have hAB:RA.length*RB.length≤64:=Nat.le_trans (Nat.mul_le_mul hA hB) (by decide)
 have GP:=z2W GA GB (by lia)
 have GX:=z26 GP
 refine (exA rfl (exA rfl ⟨v1,v2,n,RA,RB,rfl,ta.tabs hTb,d1,d2,GA,GB,by lia,by lia,fun vb Hb sb db=>?_⟩))
 have tb:=ta.trans sb
 replace d1:=d1.monoL sb
 replace d2:=d2.monoL sb
 replace e4:=sb.g e4
 replace e5:=sb.g e5
 refine zfv (fun σ' H'=>σ'=[some (.ref a),some (.int n),some v1,some v2,some (.int (cell ns 3 % (z9o n+1))),some (.ref lf),some (.ref rg),some (.ref bt),some vb,none,none]∧H'=Hb) (fun Ed nx=>nx _ _ ⟨rfl,rfl⟩) (fun σ' Hc h=>?_)
 obtain ⟨rfl,rfl⟩:=h
 refine zfv (fun σ' H'=>σ'=[some (.ref a),some (.int n),some v1,some v2,some (.int (cell ns 3 % (z9o n+1))),some (.ref lf),some (.ref rg),some (.ref bt),some vb,none,none]∧z0X Ts Hc H') (fun Ed nx=>?_) (fun σ' Hd h=>?_)
 ·by_cases c:(shr (z1j RA RB)).length≤60
  rotate_left
  ·rw [z8x (by lia)] at db
   cases zeX db
   exact (exA rfl ⟨rfl,exA rfl (z85 (nx _ _ ⟨rfl,z0X.refl _⟩))⟩)
  rw [z8L c] at db
  obtain ⟨ab,rfl⟩:=zam db
  refine (exA rfl ⟨rfl,exA rfl (zda ?_)⟩)
  refine (exA rfl (exA rfl ⟨_,_,n,exA rfl ⟨db,GX,n2,n5,by lia,fun z=>absurd z (by lia),fun _ z=>absurd z (by rw [hmt];lia),fun _ _ bf H8' s8' f8' e8'=>?_⟩⟩))
  rw [hmt] at e8'
  refine (exA rfl ⟨lf,rfl,⟨_,SqL.of (s8' _ _ e4)⟩,fun lc hlc=>z4I (ns:=z20 n RA m) (fun x=>(z20 n RB m).getD x.toNat 0) hlc (SqL.of (s8' _ _ e4)) (by rw [tlen];exact Nat.le_trans hmp (by decide)) (fun x hx Hx Q' sx qx=>?_) (fun H9' s9' e9'=>?_)⟩)
  ·obtain ⟨x0,x1⟩:=zaj GA n0 x hx
   exact (exA rfl (exA rfl (exD rg _ _ _ rfl rfl (SqL.of (sx _ _ (s8' _ _ e5))) (z4s x0 (by rw [z2r];exact x1)) qx)))
  have eb2:(z20 n RA m).map (fun x=>(z20 n RB m).getD x.toNat 0)=z20 n (shr (z1j RA RB)) m:=zb6 GA GB (by lia) n0
  rw [eb2] at e9'
  refine ⟨(z20 n (shr (z1j RA RB)) m).map D.int,(z20 n (shr (z1j RA RB)) m).map D.int,Dr.lst (s9' _ _ e8') (DrL.ints _),Dr.lst e9' (DrL.ints _),rfl,z25 _ _,by rw [D.depL_ints];decide,?_⟩
  rw [D.eq_refl]
  exact (exA rfl (z85 (nx _ _ ⟨rfl,z0f.l (s8'.trans s9')⟩)))
 obtain ⟨rfl,sd⟩:=h
 have td:=tb.trans sd
 replace d1:=d1.monoL sd
 replace e4:=sd.g e4
 clear d2 e5 db e8 e9
 refine zfv (fun σ' H'=>∃ u9:Option V,σ'=[some (.ref a),some (.int n),some v1,some v2,some (.int (cell ns 3 % (z9o n+1))),some (.ref lf),some (.ref rg),some (.ref bt),some vb,u9,none]∧z0X Ts Hd H') (fun Ed nx=>?_) (fun σ' He h=>?_)
 ·refine (exA rfl (exC rfl rfl (exA rfl (z34 (fun z=>?_) (fun _=>nx _ _ ⟨none,rfl,z0X.refl _⟩)))))
  have hm1:0 < m:=by have:=of_decide_eq_true z;lia
  obtain ⟨k,rfl⟩:∃ k,m=k+1:=⟨m - 1,by lia⟩
  have hkt:(cell ns 3 % (z9o n+1) - 1).toNat=k:=by lia
  have hkp:n ^ k≤1024:=Nat.le_trans (Nat.pow_le_pow_right n0 (Nat.le_succ k)) hmp
  refine (exA rfl (exA rfl (exC rfl rfl ⟨v1,RA,n,exA rfl ⟨d1,GA,n2,n5,by lia,fun z=>absurd z (by lia),fun _ z=>absurd z (by rw [hkt];lia),fun _ _ lw Hf sf ff ef=>?_⟩⟩)))
  rw [hkt] at ef
  refine (exA rfl (exA rfl ⟨n,rfl,n0,lf,exA rfl ⟨SqL.of (sf _ _ e4),fun p hp=>?_⟩⟩))
  have sfp:=z04 (o:=HO.lst (stp n ((z20 n RA (k+1)).map V.int))) sf hp
  have ep:upd Hf p (HO.lst (stp n ((z20 n RA (k+1)).map V.int))) p=some (.lst ((stp n (z20 n RA (k+1))).map V.int)):=by rw [←zd8];exact z01
  have efp:upd Hf p (HO.lst (stp n ((z20 n RA (k+1)).map V.int))) lw=some (.lst ((z20 n RA k).map V.int)):=(z04 (z0f.refl _) hp) _ _ ef
  generalize upd Hf p (HO.lst (stp n ((z20 n RA (k+1)).map V.int)))=Hg at *
  refine ⟨p,rfl,⟨_,SqL.of ep⟩,fun lc hlc=>z4I (ns:=stp n (z20 n RA (k+1))) (fun x=>x / (n:Int)) hlc (SqL.of ep) (Nat.le_trans (zcW _ _) (by rw [tlen];exact Nat.le_trans hmp (by decide))) (fun x hx Hx Q' sx qx=>(exA rfl (exA rfl (exC rfl rfl ⟨⟨by lia,by lia⟩,qx⟩)))) (fun H9' s9' e9'=>?_)⟩
  rw [zbv GA n0] at e9'
  refine (exA rfl ⟨(z20 n RA k).map D.int,(z20 n RA k).map D.int,Dr.lst e9' (DrL.ints _),Dr.lst (s9' _ _ efp) (DrL.ints _),rfl,z25 _ _,by rw [D.depL_ints];decide,?_⟩)
  rw [D.eq_refl]
  exact (exA rfl (z85 (nx _ _ (exA rfl (z0f.l (sfp.trans s9'))))))
 obtain ⟨u9,rfl,se⟩:=h
 have te:=td.trans se
 replace d1:=d1.monoL se
 replace e4:=se.g e4
 obtain ⟨a1,us1,rfl,eu,du⟩:∃ (a1:Addr) (us1:List V),v1=.ref a1∧He a1=some (.tup us1)∧DrL K He (z0l RA) us1:=by
  simp only [Dr] at d1
  exact d1
 obtain ⟨w0,wr,ewv,dw0⟩:∃ w0 wr,us1=w0::wr∧Dr K He (z5i (row RA 0)) w0:=by
  cases RA with
  | nil=>exact absurd GA.some (by simp)
  | cons r0 rt =>
   unfold z0l at du
   simp only [List.map_cons,DrL] at du
   obtain ⟨w0,wr,e,d,_⟩:=du
   exact ⟨w0,wr,e,d⟩
 obtain ⟨t0,b0,c0,rfl,et0,eb0,ec0⟩:=z0T dw0
 obtain ⟨BI,hbr⟩:=zdg GA eA hA n5 (gs:=(z0r n).map fun l=>shr (swM RA (goW RA 0 [l]))) rfl
 generalize hgs:((z0r n).map fun l=>shr (swM RA (goW RA 0 [l])))=gs at BI hbr
 have hgl:gs.length=n:=BI.len
 refine (exA rfl (exD a1 us1 _ (.ref t0) rfl rfl (SqT.of eu) (z0y (j:=0) (by rw [ewv];rfl)) (exD t0 _ _ (.ref b0) rfl rfl (SqT.of et0) (z0y (j:=0) rfl) ?_)))
 refine (exA rfl ⟨(n:Int),rfl,by lia,by lia,fun l9 hl9=>z2P (n:=(n:Int).toNat) (fun i ys H9=>ys.length=i∧z0X Ts He H9∧DrL K H9 ((gs.take i).map gD) ys) ⟨rfl,z0X.up (z0X.refl He) hl9,DrL.nil⟩ (z0G (by lia)) (fun i ys H9 h=>h.1) (fun i ys H9 hi h hy9=>?_) (fun ys H9 h hy9=>?_)⟩)
 ·obtain ⟨hyl9,s9,d9⟩:=h
  have e0:(0:Int)+(i:Int)=(i:Int):=by lia
  rw [e0]
  have hi':i < n:=by lia
  have eg:gs[i]?=some (shr (swM RA (goW RA 0 [(i:Int)]))):=by
   rw [←hgs,zGm]
   have:=z1o (L:=n) (i:=(i:Int)) (by lia) (by lia)
   rw [Int.toNat_natCast] at this
   rw [this]
   rfl
  have esn:(gs.take (i+1)).map gD=(gs.take i).map gD++[gD (shr (swM RA (goW RA 0 [(i:Int)])))]:=z0K _ eg
  refine (exA rfl (exA rfl ⟨by show 1≤sizeLine;decide,fun t ht=>?_⟩))
  have s10:=z0X.up (o:=HO.tup [V.int (i:Int)]) (z0X.refl (Ts:=Ts) H9) ht
  have e10:upd H9 t (HO.tup [V.int (i:Int)]) t=some (.tup (([(i:Int)]:List Int).map V.int)):=z01
  have s910:=s9.trans s10
  refine ⟨.ref a1,.ref t,RA,n,[(i:Int)],rfl,(te.trans s910).tabs hTb,d1.monoL s910,Dr.tup e10 (DrL.ints _),GA,by lia,by lia,by simp,fun _ v11 H11 s11 d11=>?_,fun z=>absurd (fun l hl=>by rw [List.mem_singleton.mp hl];lia) z⟩
  have s911:=s10.trans s11
  have hy11:=s911.g hy9
  have kk:z0P H11 (upd H11 l9 (.lst (ys++[v11]))):=z0P.up (z0P.refl _) hy11 (fun _ z=>by cases z)
  refine ⟨hy11,by rw [List.length_append,hyl9];rfl,z0X.over (s9.trans s911) hl9 hy11,?_⟩
  rw [esn]
  exact DrL.append ((d9.monoL s911).keyed kk (zbh _)) (DrL.one (d11.keyed kk (by have:=zbh [shr (swM RA (goW RA 0 [(i:Int)]))];simp only [List.map_cons,List.map_nil,D.keyL] at this;exact this.1)))
 obtain ⟨_,s9,d9⟩:=h
 rw [Int.toNat_natCast,←hgl,List.take_length] at d9
 refine ⟨.ref b0,l9,n,(row RA 0).1,gs,rfl,(te.trans s9).tabs hTb,Dr.tup (s9.g eb0) (DrL.ints _),⟨ys,hy9,d9⟩,BI,by lia,fun _ v11 H11 s11 d11=>?_,fun h60=>absurd h60 (by rw [hbr];lia)⟩
 rw [hbr] at d11
 obtain ⟨a2,rfl⟩:=zam d11
 have s911:=s9.trans s11
 have dpA:=z8w RA
 refine (exA rfl (exA rfl ⟨a2,a1,exC rfl rfl ⟨d11,d1.monoL s911,by simp only [D.ok];exact z8l _ _,by simp only [D.dep];lia,?_⟩⟩))
 rw [D.eq_refl]
 refine (exA rfl (zda ?_))
 refine (exA rfl (exA rfl ⟨_,RA,n,exA rfl ⟨d11,GA,n2,n5,by lia,fun z=>absurd z (by lia),fun _ z=>absurd z (by rw [hmt];lia),fun _ _ lz Hz sz fz ez=>?_⟩⟩))
 rw [hmt] at ez
 refine (exA rfl ⟨lz,lf,D.lst ((z20 n RA m).map D.int),D.lst ((z20 n RA m).map D.int),rfl,rfl,Dr.lst ez (DrL.ints _),Dr.lst (sz _ _ (s911.g e4)) (DrL.ints _),by simp only [D.ok];exact z25 _ _,by simp only [D.dep,D.depL_ints];decide,?_⟩)
 rw [D.eq_refl]
 exact q _
theorem z3F:z0p ["things","numbers","thing"] ["things"] (z05 z2k):={}
theorem z5r:z0Z ["things","numbers","thing"] (z05 z2k) ["thing","numbers"] [none,some 1] (csc [(".0",.local),("thing",.local),("numbers",.free)]):={}
theorem z7y (F:Fun K "numbered" "numbered" z2k f fd) (ml:mg "len"=none):z0v P w K mg base CX 1 f fd ["things"] (z3H K):=by
 refine F.okc z3F (fun vs H Q E h=>?_) (fun cdv A outer s H vs Q E hr h=>?_)
 ·obtain ⟨a,us,ds,rfl,_⟩:=h
  rfl
 obtain ⟨a,us,ds,rfl,ha,hd,hT,hlen,q⟩:=h
 have hu9:(A.deeper (PyProof.Rows.envOfC "numbered" (z05 z2k) s.heap.objs.size f cdv)).units+9 < cLine:=by have:=hr.units;lia
 refine ⟨_,z02 (z0e (i:=1) z3F.nd rfl (Or.inr rfl) (zaS (K:=K)))
  (z02 (z1R PassesOwn.never rfl (z1Y (pv 0)) (z0a (i:=2) z3F.nd rfl (Or.inl rfl))
   (z06 (z1V (z21 (z7h (K:=K) hu9 (pv 2) (pv 1))) (z06 (z7r (K:=K) hu9 (pv 1) (pv 2) (z0m (zce K) rfl ml PySem.boot_len (z00 (pv 1) z03)))) z0L)))
  (z06 (z0x (z0N rfl z5r (z1Y (pv 0)) (fun _ _ _ _ _=>z0a (i:=0) z5r.nd rfl (Or.inl rfl)) (fun _ _ _ _ _=>zcM P w K rfl rfl hu9 (pv 1) (pv 0) (fun _ _=>rfl)))))),?_⟩
 intro d hd0 ob0 g0
 have hul:ds.length=us.length:=hd.length
 have s0:z0f H (upd H d ob0):=z04 (z0f.refl H) hd0
 refine ⟨_,rfl,a,rfl,⟨_,SqL.of (s0 _ _ ha)⟩,ze1 (xs:=us) (fun i σ H2=>∃ v:Option V,σ=[some (.ref a),some (.ref d),v]∧z0f H H2∧DD P w K H2 d (prs id (z0D (ds.take i))))
  ⟨none,rfl,s0,g0⟩ (fun i σ H2 _ h=>by obtain ⟨_,_,s2,_⟩:=h;exact SqL.of (s2 _ _ ha)) (fun i x σ H2 hx h Ed nx3=>?_) (fun σ H2 h=>?_)⟩
 ·obtain ⟨v,rfl,s2,g⟩:=h
  have hiu:i < us.length:=(zGs.mp hx).1
  have ed:ds[i]?=some ds[i]:=zGe (by lia)
  obtain ⟨x',ex,dx⟩:=hd.get ed
  rw [hx] at ex
  cases ex
  have hk:=hT _ (List.getElem_mem (show i < ds.length by lia))
  generalize ds[i]=di at ed dx hk
  have et:z0D (ds.take (i+1))=z2d (z0D (ds.take i)) di:=by
   unfold z0D
   rw [List.take_add_one,ed]
   exact z1r _ _ _
  have hlu:(z0D (ds.take i)).length≤4900:=by
   have:=z1M (ds.take i) []
   rw [List.length_take] at this
   unfold z0D
   simp at this
   lia
  refine (exA rfl (exA rfl ⟨d,_,di,rfl,g,zbs hk (dx.mono s2),exA rfl ?_⟩))
  have hv:z3d (prs id (z0D (ds.take i))) di=_:=z1W id (fun _ _ e=>e) (z0D (ds.take i)) di
  by_cases hm:di∈z0D (ds.take i)
  ·rw [hv,if_pos hm]
   refine z85 (nx3 _ _ (exA rfl ⟨s2,?_⟩))
   rw [et,z0t hm]
   exact g
  ·rw [hv,if_neg hm]
   refine zda (exA rfl ⟨d,exA rfl ⟨g,exA rfl (exA rfl ⟨d,_,di,rfl,g,zbs hk (dx.mono s2),by rw [z1K];exact z1G hlu,fun ob g2=>nx3 _ _ (exA rfl ⟨z09 s2 hd0,?_⟩)⟩)⟩⟩)
   rw [et,z0u hm,←z4J id (fun _ _ e=>e) hm]
   rw [z1K] at g2
   exact g2
 ·obtain ⟨v,rfl,s2,g⟩:=h
  rw [List.take_of_length_le (by lia)] at g
  refine (exA rfl ⟨a,rfl,⟨_,SqL.of (s2 _ _ ha)⟩,fun l hl0=>z2L (xs:=us) (fun i ys H3=>i≤ds.length∧ys=((z2a ds).take i).map V.int∧z0f H2 H3) ⟨Nat.zero_le _,rfl,z04 (z0f.refl H2) hl0⟩ (fun i ys H3 _ h=>SqL.of (h.2.2 _ _ (s2 _ _ ha))) (z0G (by lia)) (fun i ys H3 h=>?_) (fun i x ys H3 hx h hy=>?_) (fun ys H3 h hy=>?_)⟩)
  ·obtain ⟨hi,rfl,_⟩:=h
   unfold z2a
   rw [zLm,List.length_take,zLm]
   lia
  ·obtain ⟨_,rfl,s3⟩:=h
   have hiu:i < us.length:=(zGs.mp hx).1
   have ed:ds[i]?=some ds[i]:=zGe (by lia)
   obtain ⟨x',ex,dx⟩:=hd.get ed
   rw [hx] at ex
   cases ex
   have hmem:ds[i]∈ds:=List.getElem_mem (show i < ds.length by lia)
   have hk:=hT _ hmem
   generalize ds[i]=di at ed dx hk hmem
   have hm:di∈z0D ds:=z0E.mpr (.inr hmem)
   have hv:z3d (prs id (z0D ds)) di=_:=z1W id (fun _ _ e=>e) (z0D ds) di
   rw [if_pos hm] at hv
   refine (exA rfl (exA rfl ⟨d,_,di,exA rfl ⟨g.mono s3,zbs hk (dx.mono (s2.trans s3)),hv,hy,by lia,?_,z09 s3 hl0⟩⟩))
   have en:(z2a ds)[i]?=some (((z0D ds).idxOf di:Nat):Int):=by unfold z2a;rw [zGm,ed];rfl
   rw [z0K _ en]
  ·obtain ⟨_,rfl,s3⟩:=h
   have e:((z2a ds).take us.length)=z2a ds:=List.take_of_length_le (by unfold z2a;rw [zLm];lia)
   rw [e] at hy
   exact q l H3 (s2.trans s3) hy
theorem zep:z0p ["_law_script","_law_at"] ["_law_script","_law_at"] (z05 zcz):={}
theorem zdj (F:Fun K "_law_cell" "_law_cell" zcz f fd) (ml:mg "len"=none):z0v P w K mg base CX 1 f fd ["_law_script","_law_at"] (z96 K):=by
 refine F.okc zep (fun vs H Q E h=>?_) (fun cdv A outer s H vs Q E hr h=>?_)
 ·obtain ⟨a,ns,i,rfl,_⟩:=h
  rfl
 obtain ⟨a,ns,i,rfl,hS,h63,hi,q⟩:=h
 refine ⟨_,z02 (z1V (z18 z5U (pv 1) (z0m z0g rfl ml PySem.boot_len (z00 (pv 0) z03)) (z1e _)) (z06 (z0x (z0R z1C (pv 0) (pv 1) (fun _ _=>rfl)))) z0L)
  (z02 (z1V (z18 zfL (z0m z0g rfl ml PySem.boot_len (z00 (pv 0) z03)) z08 (z1e _)) (z06 (z0x (z0A z1p (z0A z3Z z08 (pv 1)) z08))) z0L)
  (z06 (z0x (z0A z1p (z0A z1Q (z0R z1C (pv 0) (z0A z1Q (pv 1) (z0m z0g rfl ml PySem.boot_len (z00 (pv 0) z03))) (fun _ _=>rfl)) z08) (z0A z3Z z08 (pv 1)))))),?_⟩
 have hl:(ns.map V.int).length=ns.length:=zLm _
 refine (exA rfl (exA rfl ⟨a,exA rfl ⟨.inl hS,exC rfl rfl (exA rfl ?_)⟩⟩))
 refine z34 (fun c=>?_) (fun c=>?_)
 ·have c':(i:Int) < (((ns.map V.int).length:Nat):Int):=of_decide_eq_true c
  rw [hl] at c'
  have hin:i < ns.length:=by lia
  refine (exA rfl (exA rfl ⟨a,_,_,V.int (ns.getD i 0),rfl,rfl,hS,z0y (by simp [hin]),?_⟩))
  have e:cell ns i=ns.getD i 0:=by unfold cell;rw [if_pos hin]
  rw [e] at q
  exact q
 ·have c':¬ (i:Int) < (((ns.map V.int).length:Nat):Int):=of_decide_eq_false (Bool.eq_false_iff.mpr c)
  rw [hl] at c'
  have hin:¬ i < ns.length:=by lia
  refine (exA rfl ⟨a,exA rfl ⟨.inl hS,rfl,exA rfl ?_⟩⟩)
  refine z34 (fun c=>?_) (fun c=>?_)
  ·have c2:=of_decide_eq_true c
   rw [hl] at c2
   have hz:ns.length=0:=by injection c2 with c2;lia
   refine (exA rfl (exC rfl rfl ⟨.inl ⟨by decide,by decide⟩,exC rfl rfl ?_⟩))
   have e:cell ns i=29*i+5:=by unfold cell;rw [if_neg hin,if_pos hz]
   rw [e] at q
   exact q
  ·have c2:=of_decide_eq_false (Bool.eq_false_iff.mpr c)
   rw [hl] at c2
   have hz:¬ ns.length=0:=fun z=>c2 (congrArg V.int (by lia))
   have hpos:(0:Int) < ns.length:=by lia
   have hm:i % ns.length < ns.length:=Nat.mod_lt _ (by lia)
   have em:(i:Int) % (((ns.map V.int).length:Nat):Int)=((i % ns.length:Nat):Int):=by rw [hl];exact (Int.natCast_emod i ns.length).symm
   refine (exA rfl (exA rfl (exA rfl ⟨a,exA rfl ⟨.inl hS,exC rfl rfl ⟨by rw [hl];exact hpos,a,_,_,V.int (ns.getD (i % ns.length) 0),rfl,rfl,hS,(by rw [em];exact z0y (by simp [hm])),exC rfl rfl ⟨(by show (0:Int) < 1000003;decide),exA rfl (exC rfl rfl ⟨.inl ⟨by decide,by decide⟩,exC rfl rfl ?_⟩)⟩⟩⟩⟩)))
   have e:cell ns i=ns.getD (i % ns.length) 0 % 1000003+103*i:=by unfold cell;rw [if_neg hin,if_neg hz]
   rw [e] at q
   exact q
theorem zbi:z0p ["_law_script","_law_at"] ["_law_script","_law_at"] (z05 z45):={}
theorem z9p (F:Fun K "_law_letters" "_law_letters" z45 f fd) (G:z0v P w K mg base CX 1 g gd ["_law_script","_law_at"] (z96 K)) (bG:z0o K gd ["_law_script","_law_at"] []) (kG:PySem.W.keepIn K (.ref g)=true) (mG:mg "_law_cell"=some (.ref g)) :
  z0v P w K mg base CX 2 f fd ["_law_script","_law_at"] (z4U K):=by
 refine F.okc zbi (fun vs H Q E h=>?_) (fun cdv A outer s H vs Q E hr h=>?_)
 ·obtain ⟨a,ns,i,rfl,_⟩:=h
  rfl
 obtain ⟨a,ns,i,rfl,hS,h63,hi,q⟩:=h
 refine ⟨_,z06 (z0x (z0A z1p z08 (z0A z1Q (z0h G hr rfl mG kG bG .nil z0Q (z00 (pv 0) (z00 (pv 1) z03))) z08))),?_⟩
 rw [zcg] at q
 exact (exA rfl (exA rfl ⟨a,ns,i,rfl,hS,h63,hi,exC rfl rfl ⟨(by show (0:Int) < 4;decide),exC rfl rfl q⟩⟩))
theorem z5M:z0p ["_law_pick","_law_letters_here","_law_left","_law_made","_law_k","_law_many"] ["_law_pick","_law_letters_here"] (z05 zbt):={}
theorem ze3 (F:Fun K "_law_rearranged" "_law_rearranged" zbt f fd) (ml:mg "len"=none) (mt:mg "tuple"=none) (mr:mg "range"=none) (mls:mg "list"=none):z0v P w K mg base CX 1 f fd ["_law_pick","_law_letters_here"] (zaP K):=by
 refine F.okc z5M (fun vs H Q E h=>?_) (fun cdv A outer s H vs Q E hr h=>?_)
 ·obtain ⟨pick,n,rfl,_⟩:=h
  rfl
 obtain ⟨pick,n,rfl,hn,k⟩:=h
 refine ⟨_,z02 (z0e (i:=2) z5M.nd rfl (Or.inl rfl) (z0q (z2v rfl) rfl mls PyProof.Rows.boot_list (z00 (z0q z4d rfl mr PyProof.Rows.boot_range (z00 (pv 1) z03)) z03)))
  (z02 (z0e (i:=3) z5M.nd rfl (Or.inl rfl) (z1x z03))
  (z02 (z1R PassesOwn.never rfl (z1z rfl mr (z00 (pv 1) z03)) (z0a (i:=4) z5M.nd rfl (Or.inl rfl))
   (z02 (z0e (i:=5) z5M.nd rfl (Or.inl rfl) (z0m z0g rfl ml PySem.boot_len (z00 (pv 2) z03)))
   (z02 (z19 (z2X PySem.F.plainAttrs_list PySem.F.slot_list_append PySem.F.type_list_append z0J (pv 3) (z00 (z2X PySem.F.plainAttrs_list PySem.F.slot_list_pop PySem.F.type_list_pop zc9 (pv 2) (z00 (z0A z1Q (pv 0) (pv 5)) z03)) z03)))
   (z06 (z0e (i:=0) z5M.nd rfl (Or.inl rfl) (z0A z4D (pv 0) (pv 5)))))))
  (z06 (z0x (z0q z0n rfl mt PyProof.Rows.boot_tuple (z00 (pv 3) z03)))))),?_⟩
 refine (exA rfl ⟨(n:Int),rfl,by lia,by lia,fun p hp=>⟨p,0,(n:Int),rfl,z01,⟨by decide,by decide,by lia,by lia⟩,by lia,fun l hl=>⟨by show 0≤sizeLine;decide,fun m hm=>?_⟩⟩⟩)
 have e:((n:Int) - 0).toNat=n:=by lia
 rw [e,z3w] at hm ⊢
 have s1:z0f H (upd H p (.rng 0 n)):=z04 (z0f.refl H) hp
 have s2:z0f H (upd (upd H p (.rng 0 n)) l (.lst ((z0r n).map V.int))):=z04 s1 hl
 have hl0:H l=none:=s1.free hl
 have hm0:H m=none:=s2.free hm
 have hlm:l≠m:=z0c z01 hm
 have s3:z0f H (upd (upd (upd H p (.rng 0 n)) l (.lst ((z0r n).map V.int))) m (.lst [])):=z04 s2 hm
 refine ⟨_,rfl,(n:Int),rfl,by lia,by lia,zcS (n:=(n:Int).toNat) (fun i σ H2=>∃ (u v:Option V) (pk:Int) (left made:List Int),σ=[some (.int pk),some (.int n),some (.ref l),some (.ref m),u,v]∧z0f H H2∧H2 l=some (.lst (left.map V.int))∧H2 m=some (.lst (made.map V.int)) ∧
   left.length+i=n∧made.length=i∧zbD pick n=made++zcQ left.length pk left)
  ⟨none,none,pick,z0r n,[],rfl,s3,(by rw [z07 hlm,z01]),z01,z0z n,rfl,by rw [z0z];rfl⟩ (fun i σ H2 hi h Ed nx3=>?_) (fun σ H2 h=>?_)⟩
 ·obtain ⟨u,v,pk,left,made,rfl,t2,gl,gm,e1,e2,e3⟩:=h
  have hin:i < n:=by simpa using hi
  have hpos:0 < left.length:=by lia
  have hL:(left.map V.int).length=left.length:=zLm _
  obtain ⟨ix,hixe,hix⟩:∃ ix:Nat,pk % (((left.map V.int).length:Nat):Int)=(ix:Int)∧ix < left.length:=by
   rw [hL]
   have h0:=Int.emod_nonneg pk (show (left.length:Int)≠0 by lia)
   have h1:=Int.emod_lt_of_pos pk (show (0:Int) < left.length by lia)
   exact ⟨(pk % (left.length:Int)).toNat,by lia,by lia⟩
  have hsq:PySem.seqIndex? (pk % (((left.map V.int).length:Nat):Int)) (left.map V.int).length=some ix:=by
   rw [hixe,hL,PySem.seqIndex_of (by lia) (by lia)]
   simp
  refine (exA rfl (exG l rfl (.inl (SqL.of gl)) (exA rfl ⟨.inl ⟨rfl,_,SqL.of gm⟩,exA rfl ⟨.inl ⟨rfl,_,SqL.of gl⟩,exA rfl (exA rfl (exC rfl rfl ⟨by rw [hL];lia,?_⟩))⟩⟩)))
  refine ⟨l,_,_,ix,V.int (left.getD ix 0),rfl,rfl,gl,by rw [hixe];lia,by rw [hixe];lia,hsq,by simp [hix],m,exC rfl rfl ⟨by rw [z07 (Ne.symm hlm)];exact gm,by rw [zLm];exact z2E (by lia),?_⟩⟩
  refine (exA rfl (exA rfl (exC rfl rfl ⟨⟨by rw [hL];lia,by rw [hL];lia⟩,?_⟩)))
  refine nx3 _ _ ⟨_,_,pk / (((left.map V.int).length:Nat):Int),left.eraseIdx ix,made++[left.getD ix 0],rfl,z09 (z09 t2 hl0) hm0,?_,?_,?_,by simp [e2],?_⟩
  ·rw [z07 hlm,z01]
   congr 2
   exact z6M V.int left ix
  ·rw [z01,List.map_append];rfl
  ·rw [List.length_eraseIdx_of_lt hix];lia
  ·rw [e3,List.append_assoc]
   congr 1
   obtain ⟨q,hq⟩:∃ q,left.length=q+1:=⟨left.length - 1,by lia⟩
   have e5:(left.eraseIdx ix).length=q:=by rw [List.length_eraseIdx_of_lt hix];lia
   rw [e5,hL]
   rw [hL] at hixe
   have e6:(pk % (left.length:Int)).toNat=ix:=by lia
   have e7:zcQ (q+1) pk left=left.getD (pk % (left.length:Int)).toNat 0::zcQ q (pk / (left.length:Int)) (left.eraseIdx (pk % (left.length:Int)).toNat):=rfl
   rw [hq,e7,e6]
   rw [hq]
   rfl
 ·obtain ⟨u,v,pk,left,made,rfl,t2,gl,gm,e1,e2,e3⟩:=h
  refine (exA rfl ⟨m,exA rfl (.inl ⟨SqL.of gm,fun t ht=>?_⟩)⟩)
  have e9:(n:Int).toNat=n:=by lia
  have e4:left.length=0:=by lia
  rw [e4] at e3
  have e5:zbD pick n=made:=by rw [e3];unfold zcQ;simp
  rw [←e5]
  exact k _ _ (z04 t2 ht) (Dr.tup z01 (DrL.ints _))
abbrev nNO:List Str:=["letters","word","number","letter"]
theorem zfy:z0p nNO ["letters","word"] (z05 z3m):={}
theorem z89 {Ct aCk:Addr} {dCk:FuncData} (F:Fun K "number_of" "number_of" z3m f fd)
  (Ck:z0v P w K mg base (CXx P w) 1 aCk dCk ["letters","word"] (z3g K Ct)) (bCk:z0o K dCk ["letters","word"] []) (kCk:PySem.W.keepIn K (.ref aCk)=true) (mCk:mg "check_word"=some (.ref aCk)):z0v P w K mg base (CXx P w) 2 f fd ["letters","word"] (z7L K Ct):=by
 refine F.okx zfy (fun vs H Q E h=>?_) (fun cdv A outer s H vs Q E hr h=>?_)
 ·obtain ⟨n,u,wd,rfl,_⟩:=h
  rfl
 obtain ⟨n,u,wd,rfl,dw,hn,h5,gv,gx⟩:=h
 refine ⟨_,z02 (z19 (z0h Ck hr rfl mCk kCk bCk .nil (z6z fun _ _ _ z=>z) (z00 (pv 0) (z00 (pv 1) z03))))
  (z02 (z0e (i:=2) zfy.nd rfl (Or.inl rfl) z08)
  (z02 (z1R PassesOwn.leaving rfl (z23 (pv 1)) (z0a (i:=3) zfy.nd rfl (Or.inl rfl))
   (z06 (z0e (i:=2) zfy.nd rfl (Or.inl rfl) (z0A z1p (z0A z3Z (pv 2) (pv 0)) (pv 3)))))
  (z06 (z0x (pv 2))))),?_⟩
 refine (exA rfl (exA rfl ⟨n,u,wd,rfl,dw,by lia,fun hw H2 s2=>?_,fun hw ea H2 s2=>gx hw ea H2 s2⟩))
 obtain ⟨aw,rfl,eaw⟩:=Dr.its_inv dw
 refine ⟨_,rfl,aw,rfl,⟨_,SqT.of (s2 _ _ eaw)⟩,z82 (xs:=wd.map V.int) (fun i σ H3=>∃ (u3:Option V),σ=[some (.int n),some (.ref aw),some (.int (z31 n (wd.take i))),u3]∧z0f H H3)
  ⟨_,rfl,s2⟩ (fun i σ H3 _ h=>by obtain ⟨_,_,t3⟩:=h;exact SqT.of (t3 _ _ eaw)) (fun i x σ H3 hx h=>?_) (fun σ H3 h=>?_)⟩
 ·obtain ⟨u3,rfl,t3⟩:=h
  have hil:i < wd.length:=by have:=(zGs.mp hx).1;rwa [zLm] at this
  have eg:wd[i]?=some wd[i]:=zGe hil
  generalize wd[i]=l at eg
  have ex:x=V.int l:=by rw [zGm,eg] at hx;exact (Option.some.inj hx).symm
  subst ex
  have est:z31 n (wd.take (i+1))=z31 n (wd.take i)*(n:Int)+l:=by
   rw [List.take_add_one,eg,Option.toList,z3r]
  rw [est]
  exact (exA rfl (exA rfl (exC rfl rfl ⟨Or.inr ⟨by lia,by lia⟩,exA rfl (exC rfl rfl (exA rfl t3))⟩)))
 ·obtain ⟨u3,rfl,t3⟩:=h
  rw [zLm,List.take_length]
  exact (exA rfl (gv hw H3 t3))
abbrev nWO:List Str:=["letters","many","number","lightest_first","left","place","letter"]
theorem zeb:z0p nWO ["letters","many","number"] (z05 z6k):={}
theorem zb7 {Cb:Addr} {bmB:List Value} {B newId initId:String} {tm:Tok} (mC:mg "BadCount"=some (.ref Cb)) (xC:PySem.W.excIn K Cb bmB newId=true) (hB:ExcBaseFacts B newId initId bmB) (m_MOST_LETTERS_TOLD:mg "MOST_LETTERS_TOLD"=some (.int 1000 tm)) (mr:mg "range"=none) (mdm:mg "divmod"=none) (mt:mg "tuple"=none) (F:Fun K "word_of" "word_of" z6k f fd):z0v P w K mg base (CXx P w) 1 f fd ["letters","many","number"] (z6f K Cb):=by
 refine F.okx zeb (fun vs H Q E h=>?_) (fun cdv A outer s H vs Q E hr h=>?_)
 ·obtain ⟨n,many,x,rfl,_⟩:=h
  rfl
 obtain ⟨n,many,x,rfl,n0,hn,gv,gb⟩:=h
 refine ⟨_,z02 (z1V (zeI (z6C z83 z83 z08 (pv 1) (z81 (v:=.int 1000) rfl m_MOST_LETTERS_TOLD ⟨_,rfl⟩))) (z06 (z2S mC rfl xC hB z5o)) z0L)
  (z02 (z0e (i:=3) zeb.nd rfl (Or.inl rfl) (z1x z03))
  (z02 (z0e (i:=4) zeb.nd rfl (Or.inl rfl) (pv 2))
  (z02 (z1R PassesOwn.leaving rfl (z1z rfl mr (z00 (pv 1) z03)) (z0a (i:=5) zeb.nd rfl (Or.inl rfl))
   (z02 (z2x (z0m z7q rfl mdm PyProof.Rows.boot_divmod (z00 (pv 4) (z00 (pv 0) z03))) (z1S rfl (z0i (z0a (i:=4) zeb.nd rfl (Or.inl rfl)) (z0i (z0a (i:=6) zeb.nd rfl (Or.inl rfl)) z0Y))))
   (z06 (z19 (z2X PySem.F.plainAttrs_list PySem.F.slot_list_append PySem.F.type_list_append z0J (pv 3) (z00 (pv 6) z03))))))
  (z02 (z1V (z21 (zfh (pv 4) z08)) (z06 (z2S mC rfl xC hB z5o)) z0L)
  (z06 (z0x (z0q z0n rfl mt PyProof.Rows.boot_tuple (z00 (zdX (pv 3) (zg5 zf4 z08)) z03)))))))),?_⟩
 have bad:¬ (0≤many∧many≤1000)→∀ ea:Addr,E (.ref ea) (some Cb) H:=fun z ea=>gb (fun y=>z ⟨y.1,y.2.1⟩) ea H (z0f.refl _)
 refine (exA rfl (exC rfl rfl (exA rfl (z34 (fun c1=>(exC rfl rfl (exA rfl ?_))) (fun c1=>?_)))))
 rotate_left
 ·have c1':=of_decide_eq_false (Bool.eq_false_iff.mpr c1)
  refine (exA rfl (z34 (fun _=>bad (by lia)) (fun z=>absurd rfl z)))
 have c1':=of_decide_eq_true c1
 refine z34 (fun z=>bad (fun y=>by rw [decide_eq_true y.2] at z;cases z)) (fun z=>?_)
 have c2':many≤1000:=by
  by_cases y:many≤1000
  ·exact y
  ·exact absurd (by rw [decide_eq_false y];rfl) z
 obtain ⟨m,rfl⟩:=z3l c1'
 have hgx:zb9 n m x↔dvn n m x=0:=by
  rw [z8Y (by lia)]
  unfold zb9
  rw [Int.toNat_natCast]
  constructor
  ·exact fun h=>h.2.2
  ·exact fun h=>⟨by lia,c2',h⟩
 refine ⟨by show 0≤sizeLine;decide,fun lm hlm=>?_⟩
 have s1:=z04 (o:=HO.lst []) (z0f.refl H) hlm
 refine (exA rfl (exA rfl ⟨(m:Int),rfl,by lia,by lia,z4x (n:=(m:Int).toNat) (fun i σ H3=>∃ (u5 u6:Option V),σ=[some (.int n),some (.int m),some (.int x),some (.ref lm),some (.int (dvn n i x)),u5,u6]∧z0f H H3∧H3 lm=some (.lst ((lit n i x).map V.int))) (exB rfl ⟨s1,z01⟩) (fun i σ H3 hi h=>?_) (fun σ H3 h=>?_)⟩))
 ·obtain ⟨u5,u6,rfl,s3,e3⟩:=h
  refine (exA rfl (exA rfl (exB rfl ⟨⟨by lia,by lia⟩,fun p hp=>?_⟩)))
  have s4:=z04 (o:=HO.tup [V.int (dvn n i x / (n:Int)),V.int (dvn n i x % (n:Int))]) (z0f.refl H3) hp
  refine (exF p rfl (SqT.of z01) rfl (exB rfl (exC rfl rfl ?_)))
  refine (exA rfl ⟨.inl ⟨rfl,_,SqL.of (s4 _ _ e3)⟩,exA rfl ⟨lm,exC rfl rfl ⟨s4 _ _ e3,z1G (by rw [zLm,z86];lia),?_⟩⟩⟩)
  rw [z8r,z8W,List.map_append]
  exact (exB rfl ⟨z09 (s3.trans s4) hlm,z01⟩)
 ·obtain ⟨u5,u6,rfl,s3,e3⟩:=h
  rw [Int.toNat_natCast] at *
  refine (exA rfl (exC rfl rfl (exA rfl (z34 (fun c=>?_) (fun c=>?_)))))
  ·exact fun ea=>gb (fun y=>by have:=hgx.mp y;simp [this] at c) ea H3 s3
  ·have c':dvn n m x=0:=Classical.byContradiction fun y=>c (by simp [y])
   refine (exA rfl (exA rfl ⟨rfl,lm,exA rfl ⟨SqL.of e3,fun p hp=>?_⟩⟩))
   have s4:=z04 (o:=HO.lst ((lit n m x).map V.int).reverse) (z0f.refl H3) hp
   refine ⟨p,exA rfl (.inl ⟨SqL.of z01,fun l hl=>?_⟩)⟩
   refine gv (hgx.mpr c') l _ ((s3.trans s4).trans (z04 (z0f.refl _) hl)) ?_
   show upd _ l _ l=some (.tup ((lit n m x).reverse.map V.int))
   rw [←List.map_reverse]
   exact z01
abbrev nOF:List Str:=["letters","many","count","place"]
theorem zfu:z0p nOF ["letters","many"] (z05 z4b):={}
theorem z99 {Ct Cb:Addr} {bmB bmB2:List Value} {B newId initId B2 newId2 initId2:String} {tm:Tok} (mC:mg "BadCount"=some (.ref Cb)) (xC:PySem.W.excIn K Cb bmB newId=true) (hB:ExcBaseFacts B newId initId bmB) (mC2:mg "TooMany"=some (.ref Ct)) (xC2:PySem.W.excIn K Ct bmB2 newId2=true) (hB2:ExcBaseFacts B2 newId2 initId2 bmB2) (m_MOST_WORDS:mg "MOST_WORDS"=some (.int 1024 tm)) (mr:mg "range"=none) (F:Fun K "words_on_floor" "words_on_floor" z4b f fd):z0v P w K mg base (CXx P w) 1 f fd ["letters","many"] (z57 K Ct Cb):=by
 refine F.okx zfu (fun vs H Q E h=>?_) (fun cdv A outer s H vs Q E hr h=>?_)
 ·obtain ⟨n,many,rfl,_⟩:=h
  rfl
 obtain ⟨n,many,rfl,n2,n5,hm,gb,gx,gv⟩:=h
 refine ⟨_,z02 (z1V (z18 z5U (pv 1) z08 (z1e _)) (z06 (z2S mC rfl xC hB z5o)) z0L)
  (z02 (z0e (i:=2) zfu.nd rfl (Or.inl rfl) z08)
  (z02 (z1R PassesOwn.leaving rfl (z1z rfl mr (z00 (pv 1) z03)) (z0a (i:=3) zfu.nd rfl (Or.inl rfl))
   (z02 (z0e (i:=2) zfu.nd rfl (Or.inl rfl) (z0A z3Z (pv 2) (pv 0)))
   (z06 (z1V (z18 zbb (pv 2) (z81 (v:=.int 1024) rfl m_MOST_WORDS ⟨_,rfl⟩) (z1e _)) (z06 (z2S mC2 rfl xC2 hB2 z5o)) z0L))))
  (z06 (z0x (pv 2))))),?_⟩
 refine (exA rfl (exC rfl rfl (exA rfl (z34 (fun c=>?_) (fun c=>?_)))))
 ·exact fun ea=>gb (of_decide_eq_true c) ea H (z0f.refl _)
 have c':=of_decide_eq_false (Bool.eq_false_iff.mpr c)
 obtain ⟨m,rfl⟩:=z3l (x:=many) (by lia)
 rw [Int.toNat_natCast] at gx gv
 refine (exA rfl ⟨(m:Int),rfl,by lia,by lia,z4x (n:=(m:Int).toNat) (fun i σ H3=>∃ (u3:Option V),σ=[some (.int n),some (.int m),some (.int ((n ^ i:Nat):Int)),u3]∧H3=H∧n ^ i≤1024) (exA rfl ⟨rfl,by simp⟩) (fun i σ H3 hi h=>?_) (fun σ H3 h=>?_)⟩)
 ·obtain ⟨u3,rfl,rfl,h4⟩:=h
  refine (exA rfl (exA rfl (exC rfl rfl ⟨Or.inr ⟨by lia,by lia⟩,?_⟩)))
  have ep:((n ^ i:Nat):Int)*(n:Int)=((n ^ (i+1):Nat):Int):=by rw [Nat.pow_succ,Int.natCast_mul]
  refine (exA rfl (exC rfl rfl (exA rfl (z34 (fun c2=>?_) (fun c2=>?_)))))
  ·have c2':=of_decide_eq_true c2
   rw [ep] at c2'
   have him:i+1≤m:=by lia
   have:=Nat.pow_le_pow_right (show 1≤n by lia) him
   exact fun ea=>gx (by lia) (by lia) ea _ (z0f.refl _)
  ·have c2':=of_decide_eq_false (Bool.eq_false_iff.mpr c2)
   rw [ep] at c2'
   refine ⟨some (V.int (0+(i:Int))),?_,rfl,by lia⟩
   show [some (V.int n),some (V.int m),some (V.int (((n ^ i:Nat):Int)*(n:Int))),some (V.int (0+(i:Int)))]=_
   rw [ep]
 ·obtain ⟨u3,rfl,rfl,h4⟩:=h
  rw [Int.toNat_natCast] at *
  exact (exA rfl (gv (by lia) h4))
abbrev nFl:List Str:=["guise","many","letters","count"]
theorem zgf:z0p nFl ["guise","many"] (z05 z7k):={}
theorem zgu:z0Z nFl (z05 z7k) ["number","guise","letters","many"] [none,some 0,some 2,some 1] (csc [(".0",.local),("number",.local),("number_of",.globalImplicit),("worn",.globalImplicit),("word_of",.globalImplicit),("guise",.free),("letters",.free),("many",.free)]):={}
theorem zcl {Ct Cb Cw aR aO aN aW aV:Addr} {dR dO dN dW dV:FuncData} (mr:mg "range"=none) (F:Fun K "floor" "floor" z7k f fd)
  (R:z0v P w K mg base (CXx P w) 2 aR dR ["guise"] (z2I K)) (bR:z0o K dR ["guise"] []) (kR:PySem.W.keepIn K (.ref aR)=true) (mR:mg "breadth"=some (.ref aR))
  (O:z0v P w K mg base (CXx P w) 2 aO dO ["letters","many"] (z57 K Ct Cb)) (bO:z0o K dO ["letters","many"] []) (kO:PySem.W.keepIn K (.ref aO)=true) (mO:mg "words_on_floor"=some (.ref aO))
  (N:z0v P w K mg base (CXx P w) 2 aN dN ["letters","word"] (z7L K Cw)) (bN:z0o K dN ["letters","word"] []) (kN:PySem.W.keepIn K (.ref aN)=true) (mN:mg "number_of"=some (.ref aN))
  (W:z0v P w K mg base (CXx P w) 2 aW dW ["guise","word"] (z9V K Cw)) (bW:z0o K dW ["guise","word"] []) (kW:PySem.W.keepIn K (.ref aW)=true) (mW:mg "worn"=some (.ref aW))
  (Vo:z0v P w K mg base (CXx P w) 2 aV dV ["letters","many","number"] (z6f K Cb)) (bV:z0o K dV ["letters","many","number"] []) (kV:PySem.W.keepIn K (.ref aV)=true) (mV:mg "word_of"=some (.ref aV)):z0v P w K mg base (CXx P w) 3 f fd ["guise","many"] (z7I K Ct Cb):=by
 refine F.okx zgf (fun vs H Q E h=>?_) (fun cdv A outer s H vs Q E hr h=>?_)
 ·obtain ⟨v,one,n,many,rfl,_⟩:=h
  rfl
 obtain ⟨v,one,n,many,rfl,dv,GM,n2,n5,hm,gb,gx,gv⟩:=h
 refine ⟨_,z02 (z0e (i:=2) zgf.nd rfl (Or.inr rfl) (z0h R hr rfl mR kR bR .nil z0Q (z00 (pv 0) z03)))
  (z02 (z0e (i:=3) zgf.nd rfl (Or.inl rfl) (z0h O hr rfl mO kO bO .nil (z6z fun _ _ _ z=>z) (z00 (pv 2) (z00 (pv 1) z03))))
  (z06 (z0x (z0N rfl zgu (z1z rfl mr (z00 (pv 3) z03)) (fun _ _ _ _ _=>z0a (i:=0) zgu.nd rfl (Or.inl rfl)) (fun _ _ _ _ _=>z0h N hr rfl mN kN bN .nil z0Q (z00 (pv 2) (z00 (z0h W hr rfl mW kW bW .nil z0Q (z00 (pv 1) (z00 (z0h Vo hr rfl mV kV bV .nil z0Q (z00 (pv 2) (z00 (pv 3) (z00 (pv 0) z03)))) z03))) z03))))))),?_⟩
 have h1:=GM.some
 obtain ⟨r0,rt,er⟩:∃ r0 rt,one=r0::rt:=by
  cases one with
  | nil=>simp at h1
  | cons r0 rt=>exact ⟨r0,rt,rfl⟩
 have hl0:=(GM.perm r0 (by rw [er];simp)).len
 refine (exA rfl ⟨v,r0,z0l rt,rfl,(by rw [er] at dv;exact dv),by lia,fun H1 s1=>?_⟩)
 refine (exA rfl (exA rfl ⟨n,many,(by rw [hl0];rfl),n2,n5,hm,fun z ea H2 s2=>gb z ea H2 (s1.trans s2),fun z y ea H2 s2=>gx z y ea H2 (s1.trans s2),fun m0 hf=>?_⟩))
 replace gv:=gv m0 hf
 obtain ⟨m,rfl⟩:=z3l m0
 rw [Int.toNat_natCast] at hf gv
 have hm10:=z9Z n2 hf
 refine (exA rfl ⟨((n ^ m:Nat):Int),rfl,by lia,by lia,fun l hl0'=>z2P (n:=((n ^ m:Nat):Int).toNat) (fun i ys H3=>i≤n ^ m∧ys=((z20 n one m).take i).map V.int∧z0f H1 H3) ⟨Nat.zero_le _,rfl,z04 (z0f.refl H1) hl0'⟩ (by rw [Int.toNat_natCast];exact z0G (by lia)) (fun i ys H3 h=>?_) (fun i ys H3 hi h hy=>?_) (fun ys H3 h hy=>?_)⟩)
 ·obtain ⟨_,rfl,_⟩:=h
  rw [zLm,List.length_take,z2r]
  lia
 ·obtain ⟨_,rfl,s3⟩:=h
  have hi':i < n ^ m:=by lia
  have gx:zb9 n m (i:Int):=⟨by lia,by lia,by lia,by rw [Int.toNat_natCast,←Int.natCast_pow];lia⟩
  have lf:=z6c (n:=n) (by lia) m (i:Int)
  have ll:=z8E (n:Int) m (i:Int)
  refine (exA rfl (exA rfl (exA rfl (exA rfl (exA rfl ⟨n,m,(i:Int),(by rw [hl0,Int.zero_add];rfl),by lia,by lia,fun _ t H4 s4 e4=>?_,fun z=>absurd gx z⟩)))))
  rw [Int.toNat_natCast] at e4
  refine ⟨v,.ref t,one,n,exA rfl ⟨dv.mono (s1.trans (s3.trans s4)),Dr.tup e4 (DrL.ints _),GM,by lia,by lia,fun _ t5 H5 s5 e5=>?_,fun z=>absurd lf z⟩⟩
  have lo:=z7u GM _ 0 lf (Int.le_refl 0) (by lia)
  refine ⟨n,.ref t5,_,(by rw [hl0];rfl),Dr.tup e5 (DrL.ints _),by lia,by rw [z4g];lia,fun _ H6 s6=>?_,fun z=>absurd lo z⟩
  have s36:=s4.trans (s5.trans s6)
  refine ⟨s36 _ _ hy,by lia,?_,z09 (s3.trans s36) hl0'⟩
  unfold z20
  rw [z69 _ _ _ hi',List.map_append]
  rfl
 ·obtain ⟨_,rfl,s3⟩:=h
  rw [Int.toNat_natCast,List.take_of_length_le (by rw [z2r];exact Nat.le_refl _)] at hy
  exact gv l H3 (s1.trans s3) (Decidable.byContradiction fun z=>by
   cases e:H l with
   | none=>exact z e
   | some o=>have:=s1 l o e;rw [hl0'] at this;cases this) hy
abbrev nSt:List Str:=["_law_letters_here"]
theorem zhp:z0p nSt ["_law_letters_here"] (z05 z44):={}
theorem z9b (F:Fun K "_law_stories" "_law_stories" z44 f fd):z0v P w K mg base CX 1 f fd ["_law_letters_here"] (z4t K):=by
 refine F.okc zhp (fun vs H Q E h=>?_) (fun cdv A outer s H vs Q E hr h=>?_)
 ·obtain ⟨n,rfl,_⟩:=h
  rfl
 obtain ⟨n,rfl,n2,n5,q⟩:=h
 refine ⟨_,z06 (z0x (z0R z1w (z1I (z00 z08 (z00 z08 (z00 z08 (z00 z08 z03))))) (z0A z56 (pv 0) z08) (fun _ _=>rfl))),?_⟩
 refine ⟨by show 4≤sizeLine;decide,fun tq htq=>?_⟩
 exact (exA rfl (exC rfl rfl ⟨tq,_,_,V.int (z9o n),rfl,rfl,SqT.of z01,zdY n2 n5,q _ (z04 (z0f.refl H) htq)⟩))
abbrev zcU:List Str:=["first","row_at","order","places","found","rearranging","goings","going"]
theorem z3b:z0p zcU ["first","row_at"] (z05 z6i):={}
theorem zb8:z0Z zcU (z05 z6i) ["going","places"] [none,some 3] (csc [(".0",.local),("going",.local),("places",.free)]):={}
theorem zbK (F:Fun K "rows_come_to" "rows_come_to" z6i f fd) (ml:mg "len"=none) (mt:mg "tuple"=none):z0v P w K mg base CX 5 f fd ["first","row_at"] (z84 P w K mg base CX 4):=by
 refine F.okc z3b (fun vs H Q E h=>?_) (fun cdv A outer s H vs Q E hr h=>?_)
 ·obtain ⟨a,v0,n,rows,m,rfl,_⟩:=h
  rfl
 obtain ⟨fa,v0,n,rows,mm,rfl,dv0,hV,G,hn,q⟩:=h
 obtain ⟨a0,rfl,ea0⟩:=zd2 dv0
 have hu:=zcv hr
 have hu9:(A.deeper (PyProof.Rows.envOfC "rows_come_to" (z05 z6i) s.heap.objs.size f cdv)).units+9 < cLine:=by have:=hr.units;lia
 refine ⟨_,z02 (z0e (i:=2) z3b.nd rfl (Or.inl rfl) (z1x (z00 (pv 0) z03)))
  (z02 (z0e (i:=3) z3b.nd rfl (Or.inr rfl) (zck (K:=K) hu9 (pv 0) z08))
  (z02 (z0e (i:=4) z3b.nd rfl (Or.inl rfl) (z1x z03))
  (z02 (z2t PassesOwn.never (z18 z5U (z0m z0g rfl ml PySem.boot_len (z00 (pv 4) z03)) (z0m z0g rfl ml PySem.boot_len (z00 (pv 2) z03)) (z1e _))
   (z02 (z2x (z8u (CX:=CX) 1 hr (z00 (z0R z1C (pv 2) (z0m z0g rfl ml PySem.boot_len (z00 (pv 4) z03)) (fun _ _=>rfl)) z03)) (z1S rfl (z0i (z0a (i:=5) z3b.nd rfl (Or.inl rfl)) (z0i (z0a (i:=6) z3b.nd rfl (Or.inl rfl)) z0Y))))
   (z02 (z1R PassesOwn.never rfl (z23 (pv 6)) (z0a (i:=7) z3b.nd rfl (Or.inl rfl))
    (z06 (z1V (z21 (z7h (K:=K) hu9 (pv 7) (pv 3)))
     (z02 (z7r (K:=K) hu9 (pv 3) (pv 7) (z0m z0g rfl ml PySem.boot_len (z00 (pv 2) z03)))
     (z06 (z19 (z2X PySem.F.plainAttrs_list PySem.F.slot_list_append PySem.F.type_list_append z0J (pv 2) (z00 (pv 7) z03))))) z0L)))
   (z06 (z19 (z2X PySem.F.plainAttrs_list PySem.F.slot_list_append PySem.F.type_list_append z0J (pv 4) (z00 (z1I (z00 (pv 5) (z00 (z0q z0n rfl mt PyProof.Rows.boot_tuple
    (z00 (z0N rfl zb8 (z23 (pv 6)) (fun _ _ _ _ _=>z0a (i:=0) zb8.nd rfl (Or.inl rfl)) (fun _ _ _ _ _=>zcM P w K rfl rfl hu9 (pv 1) (pv 0) (fun _ _=>rfl))) z03)) z03))) z03)))))))
  (z06 (z0x (pv 4)))))),?_⟩
 refine (exA rfl ⟨by show 1≤sizeLine;decide,fun lo hlo=>?_⟩)
 have s1:=z04 (o:=HO.lst [.ref a0]) (z0f.refl H) hlo
 have elo1:upd H lo (.lst [.ref a0]) lo=some (.lst [.ref a0]):=z01
 generalize upd H lo (.lst [.ref a0])=H1 at s1 elo1
 refine fun lp hlp ob0 g0=>(exA rfl ?_)
 have hlp0:H lp=none:=s1.free hlp
 have nlo:lo≠lp:=z0c elo1 hlp
 have s2:=z04 (o:=ob0) s1 hlp
 refine ⟨pr mm 0,g0,zbs (z3O mm 0) (dv0.mono s2),fun ob g2=>⟨by show 0≤sizeLine;decide,fun lf hlf=>?_⟩⟩
 have s3:z0f H (upd (upd H1 lp ob0) lp ob):=z09 s2 hlp0
 have elo3:upd (upd H1 lp ob0) lp ob lo=some (.lst [.ref a0]):=by rw [z07 nlo,z07 nlo];exact elo1
 generalize upd (upd H1 lp ob0) lp ob=H2' at s3 elo3 g2 hlf
 have hlf0:H lf=none:=s3.free hlf
 have nlf:lo≠lf:=z0c elo3 hlf
 have nlpf:lp≠lf:=by obtain ⟨xs,e0,_⟩:=id g2;exact z0c e0 hlf
 have s4:=z04 (o:=HO.lst []) s3 hlf
 have s24:=z04 (o:=HO.lst []) (z0f.refl H2') hlf
 have OL:=z0s G
 have hol:=OL.1.len
 have h400:=G.few
 refine ⟨fun m σ H2=>∃ (i:Nat) (o:List Int) (os:List V) (u1 u2 u3:Option V) (fs:List V),m=rows.length+1 - i∧σ=[some (.ref a0),some (.ref fa),some (.ref lo),some (.ref lp),some (.ref lf),u1,u2,u3]∧z0f H H2∧H2 lo=some (.lst os)∧DrL K H2 (o.map (pr mm)) os∧DD P w K H2 lp (prs (pr mm) o)∧H2 lf=some (.lst fs) ∧
   DrL K H2 (z0l ((z0C rows).take i)) fs∧z6D rows o∧i≤o.length∧bfs rows (rows.length+1 - i) i o=z0d rows,⟨_,0,[0],[.ref a0],none,none,none,[],rfl,rfl,s4,s24 _ _ elo3,?_,g2.mono s24,z01,DrL.nil,za1 G,by simp,rfl⟩,?_⟩
 ·exact DrL.one (dv0.mono s4)
 rintro m σ H2 ⟨i,o,os,u1,u2,u3,fs,rfl,rfl,t2,glo,dos,glp,glf,df,L,hi,hb⟩
 have hfl:fs.length=i:=by
  have:=df.length
  unfold z0l at this
  rw [zLm,List.length_take] at this
  obtain ⟨m0,em⟩:=z3K rows (rows.length+1 - i) i o
  rw [hb] at em
  have:(z0C rows).length=(z0d rows).length:=by unfold z0C z1s;rw [zLm]
  have:o.length≤(z0d rows).length:=by rw [em,List.length_append];lia
  lia
 refine (exA rfl (exG lf rfl (.inl (SqL.of glf)) (exA rfl (exG lo rfl (.inl (SqL.of glo)) (exC rfl rfl (exA rfl ?_))))))
 have hol2:os.length=o.length:=by have:=dos.length;rw [zLm] at this;lia
 refine z34 (fun c=>?_) (fun c=>?_)
 ·have c':=of_decide_eq_true c
  rw [hfl,hol2] at c'
  have hio:i < o.length:=by lia
  have eo:o[i]?=some o[i]:=zGe hio
  have hro:o[i]∈o:=List.getElem_mem hio
  generalize o[i]=r at eo hro
  obtain ⟨r0,r1⟩:=L.rg r hro
  have hrow:=z0k r0 r1
  have hgl:=G.len _ hrow
  have hgo:=G.go _ hrow
  have hlen:=L.len
  refine zdt fun N nx2=>?_
  obtain ⟨vo,evo,dvo⟩:=dos.get (show (o.map (pr mm))[i]?=some (pr mm r) by rw [zGm,eo];rfl)
  refine ⟨fa,z8i K rows mm,rfl,(hV.mono t2).1,exA rfl (exA rfl (exG lf rfl (.inl (SqL.of glf)) (exD lo _ _ vo rfl rfl (SqL.of glo) (z0y (by rw [hfl];exact evo)) ⟨hV.mono t2,r,vo,rfl,dvo,r0,r1,fun v Hc sc dv=>?_⟩)))⟩
  obtain ⟨t,b,cc,ws,rfl,et,eb,ec,dws⟩:=zcx dv
  have t2:=t2.trans sc
  have glo:=sc _ _ glo
  have glp:=glp.mono sc
  have dos:=dos.mono sc
  have glf:=sc _ _ glf
  have df:=df.mono sc
  refine (exF t rfl (SqT.of et) rfl (exB rfl (exC rfl rfl ?_)))
  generalize hgs:(row rows r).2=gs at *
  refine ⟨_,rfl,cc,rfl,⟨_,SqT.of ec⟩,zfY (xs:=ws) (fun j σ H3=>∃ (u:Option V) (oj:List V),σ=[some (.ref a0),some (.ref fa),some (.ref lo),some (.ref lp),some (.ref lf),some (.ref b),some (.ref cc),u]∧z0f H H3∧z0P Hc H3∧H3 lo=some (.lst oj)∧DrL K H3 ((z0b o (gs.take j)).map (pr mm)) oj∧DD P w K H3 lp (prs (pr mm) (z0b o (gs.take j)))∧H3 lf=some (.lst fs))
   ⟨_,os,rfl,t2,z0P.refl _,glo,dos,glp,glf⟩ (fun j σ H3 _ h=>by obtain ⟨_,_,_,_,k3,_⟩:=h;exact SqT.of (k3 _ _ ec)) (fun j x σ H3 hx h Ed nx3=>?_) (fun σ H3 h=>?_)⟩
  ·obtain ⟨u,oj,rfl,t3,k3,e1,doj,g3,e3⟩:=h
   have hwl:ws.length=gs.length:=by have:=dws.length;rw [zLm] at this;lia
   have hjl:j < gs.length:=by have:=(zGs.mp hx).1;lia
   have eg:gs[j]?=some gs[j]:=zGe hjl
   obtain ⟨x',ex,dx⟩:=dws.get (show (gs.map (pr mm))[j]?=some (pr mm gs[j]) by rw [zGm,eg];rfl)
   rw [hx] at ex
   cases ex
   generalize gs[j]=gj at eg dx
   have dx3:Dr K H3 (pr mm gj) x:=dx.keyed k3 (z3O mm gj).1
   have et':z0b o (gs.take (j+1))=z2d (z0b o (gs.take j)) gj:=by rw [List.take_add_one,eg];exact z1r _ _ _
   have hal:(z0b o (gs.take j)).length≤4500:=by
    have:=z1M (gs.take j) o
    rw [List.length_take] at this
    lia
   have hojl:oj.length=(z0b o (gs.take j)).length:=by have:=doj.length;rw [zLm] at this;lia
   generalize z0b o (gs.take j)=ol at *
   refine (exA rfl (exA rfl ⟨lp,_,pr mm gj,rfl,g3,zbs (z3O mm gj) dx3,exA rfl ?_⟩))
   have hv:=z1W (κ:=D) (pr mm) (zaa mm) ol gj
   by_cases hm:gj∈ol
   ·rw [hv,if_pos hm]
    refine z85 (nx3 _ _ ⟨_,oj,rfl,t3,k3,e1,?_,?_,e3⟩)
    ·rw [et',z0t hm];exact doj
    ·rw [et',z0t hm];exact g3
   ·rw [hv,if_neg hm]
    refine zda (exA rfl (exG lo rfl (.inl (SqL.of e1)) (exA rfl (exA rfl ⟨lp,_,pr mm gj,rfl,g3,zbs (z3O mm gj) dx3,by rw [z1K];exact z1G (by lia),fun ob g4=>?_⟩))))
    rw [hojl,z4J (pr mm) (zaa mm) hm] at g4
    have k4:z0P H3 (upd H3 lp ob):=by
     obtain ⟨xs,e0,_⟩:=g3
     exact z0P.up (z0P.refl _) e0 (fun _ z=>by unfold zaW at z;cases z)
    have e1':upd H3 lp ob lo=some (.lst oj):=by rw [z07 nlo];exact e1
    have k5:z0P (upd H3 lp ob) (upd (upd H3 lp ob) lo (.lst (oj++[x]))):=z0P.up (z0P.refl _) e1' (fun _ z=>by cases z)
    refine (exA rfl ⟨.inl ⟨rfl,_,SqL.of e1'⟩,exA rfl ⟨lo,exC rfl rfl ⟨e1',z1G (by lia),?_⟩⟩⟩)
    refine nx3 _ _ ⟨_,oj++[x],rfl,z09 (z09 t3 hlp0) hlo,k3.trans (k4.trans k5),z01,?_,?_,?_⟩
    ·rw [et',z0u hm,List.map_append]
     exact DrL.append (doj.keyed (k4.trans k5) (z6o mm _)) (DrL.one (dx3.keyed (k4.trans k5) (z3O mm gj).1))
    ·rw [et',z0u hm]
     exact DD.keyed g4 k5 (by rw [z07 nlo.symm])
    ·rw [z07 nlf.symm,z07 nlpf.symm];exact e3
  ·obtain ⟨u,oj,rfl,t3,k3,e1,doj,e2,e3⟩:=h
   have hwl:ws.length=gs.length:=by have:=dws.length;rw [zLm] at this;lia
   rw [hwl,List.take_length] at doj e2
   obtain ⟨m0,em⟩:=z3K rows (rows.length+1 - (i+1)) (i+1) (z0b o gs)
   have hb':bfs rows (rows.length+1 - (i+1)) (i+1) (z0b o gs)=z0d rows:=by
    rw [←hb,show rows.length+1 - i=(rows.length+1 - (i+1))+1 by lia,z2U eo,hgs]
   rw [hb'] at em
   have L':z6D rows (z0b o gs):=by rw [←hgs];exact L.add G hro
   obtain ⟨m1,em1⟩:=z0I gs o
   have hoi:(z0d rows)[i]?=some r:=by rw [em,em1,List.append_assoc,List.getElem?_append_left hio];exact eo
   have hi':i+1≤(z0b o gs).length:=by rw [em1,List.length_append];lia
   have hmem:∀ g∈gs,g∈z0b o gs:=fun g hg=>z0E.mpr (.inr hg)
   have efound:(z0C rows).take (i+1)=(z0C rows).take i++[((row rows r).1,gs.map fun g=>(((z0b o gs).idxOf g:Nat):Int))]:=by
    have e4:(z0C rows)[i]?=some ((row rows r).1,gs.map fun g=>(((z0b o gs).idxOf g:Nat):Int)):=by
     unfold z0C z1s
     rw [zGm,hoi]
     show some ((row rows r).1,(row rows r).2.map fun g=>(((z0d rows).idxOf g:Nat):Int))=_
     rw [hgs]
     congr 2
     refine List.map_congr_left fun g hg=>?_
     rw [em,z4j (hmem g hg)]
    rw [List.take_add_one,e4]
    rfl
   generalize z0b o gs=o' at *
   refine (exA rfl ⟨.inl ⟨rfl,_,SqL.of e3⟩,exA rfl (exA rfl ⟨cc,rfl,⟨_,SqT.of (k3 _ _ ec)⟩,fun l4 hl4=>z1u (xs:=ws) (fun j ys H4=>j≤gs.length∧ys=((gs.take j).map fun g=>((o'.idxOf g:Nat):Int)).map V.int∧z0f H3 H4) ⟨Nat.zero_le _,rfl,z04 (z0f.refl H3) hl4⟩ (fun j ys H4 _ h=>SqT.of (h.2.2 _ _ (k3 _ _ ec))) (by rw [hwl];exact z0G (by lia)) (fun j ys H4 h=>?_) (fun j x ys H4 hx h hy=>?_) (fun ys H4 h hy=>?_)⟩)⟩)
   ·obtain ⟨hj,rfl,_⟩:=h
    rw [zLm,zLm,List.length_take]
    lia
   ·obtain ⟨hj,rfl,s4⟩:=h
    have hjl:j < gs.length:=by have:=(zGs.mp hx).1;lia
    have eg:gs[j]?=some gs[j]:=zGe hjl
    have hgm:=hmem _ (List.getElem_mem hjl)
    obtain ⟨x',ex,dx⟩:=dws.get (show (gs.map (pr mm))[j]?=some (pr mm gs[j]) by rw [zGm,eg];rfl)
    rw [hx] at ex
    cases ex
    generalize gs[j]=gj at eg hgm dx
    have dx4:Dr K H4 (pr mm gj) x:=(dx.keyed k3 (z3O mm gj).1).mono s4
    have hv:=z1W (κ:=D) (pr mm) (zaa mm) o' gj
    rw [if_pos hgm] at hv
    refine (exA rfl (exA rfl ⟨lp,_,pr mm gj,exA rfl ⟨e2.mono s4,zbs (z3O mm gj) dx4,hv,hy,hjl,?_,z09 s4 hl4⟩⟩))
    rw [z0K _ eg,List.map_append]
    rfl
   ·obtain ⟨_,rfl,s4⟩:=h
    rw [hwl,List.take_length] at hy
    refine ⟨l4,exA rfl (.inl ⟨SqL.of hy,fun t4 ht4=>⟨by show 2≤sizeLine;decide,fun t5 ht5=>?_⟩⟩)⟩
    have s5:=z04 (o:=HO.tup ((gs.map fun g=>((o'.idxOf g:Nat):Int)).map V.int)) s4 ht4
    have s6:=z04 (o:=HO.tup [.ref b,.ref t4]) s5 ht5
    have e3':=s6 _ _ e3
    refine ⟨lf,fs,.ref t5,rfl,rfl,e3',by rw [hfl];exact z1G (by lia),?_⟩
    have kk:z0P Hc (upd (upd (upd H4 t4 (.tup ((gs.map fun g=>((o'.idxOf g:Nat):Int)).map V.int))) t5 (.tup [.ref b,.ref t4])) lf (.lst (fs++[.ref t5]))):=z0P.up (k3.trans (z0P.of s6)) e3' (fun _ z=>by cases z)
    have kk':=z0P.up (u:=HO.lst (fs++[.ref t5])) (z0P.refl (upd (upd H4 t4 (.tup ((gs.map fun g=>((o'.idxOf g:Nat):Int)).map V.int))) t5 (.tup [.ref b,.ref t4]))) e3' (fun _ z=>by cases z)
    have nt5:t5≠lf:=z36 z01 e3' (by intro z;cases z)
    have nt4:t4≠t5:=z0c z01 ht5
    have nt4f:t4≠lf:=z36 (show upd (upd H4 t4 (.tup ((gs.map fun g=>((o'.idxOf g:Nat):Int)).map V.int))) t5 (.tup [.ref b,.ref t4]) t4=some (.tup ((gs.map fun g=>((o'.idxOf g:Nat):Int)).map V.int)) by rw [z07 nt4];exact z01) e3' (by intro z;cases z)
    refine nx2 (rows.length+1 - (i+1)) _ _ (by lia) ⟨i+1,o',oj,_,_,_,fs++[.ref t5],rfl,rfl,z09 (t3.trans s6) hlf0,?_,?_,?_,z01,?_,L',hi',hb'⟩
    ·rw [z07 nlf];exact s6 _ _ e1
    ·exact (doj.mono s6).keyed kk' (z6o mm _)
    ·exact DD.keyed (e2.mono s6) kk' (by rw [z07 nlpf])
    ·rw [efound]
     unfold z0l
     rw [List.map_append]
     refine DrL.append (df.keyed kk (z1m _)) (DrL.one (z2J (b:=b) (c:=t4) ?_ (kk _ _ eb) ?_))
     ·rw [z07 nt5];exact z01
     ·rw [z07 nt4f,z07 nt4];exact z01
 ·have c':=of_decide_eq_false (Bool.eq_false_iff.mpr c)
  rw [hfl,hol2] at c'
  have e:z0d rows=o:=by rw [←hb];exact z2Q (by lia)
  have e2:(z0C rows).take i=z0C rows:=List.take_of_length_le (by unfold z0C z1s;rw [zLm,e];lia)
  rw [e2] at df
  exact (exA rfl (q lf H2 t2 ⟨fs,glf,df⟩))
abbrev zd3:List Str:=["first","row_at","order","places","found","rearranging","goings","going"]
theorem z3f:z0p zd3 ["first","row_at"] (z05 z6i):={}
theorem za0:z0Z zd3 (z05 z6i) ["going","places"] [none,some 3] (csc [(".0",.local),("going",.local),("places",.free)]):={}
theorem zbV (F:Fun K "rows_come_to" "rows_come_to" z6i f fd) (ml:mg "len"=none) (mt:mg "tuple"=none):z0v P w K mg base CX 5 f fd ["first","row_at"] (z7s P w K mg base CX 4):=by
 refine F.okc z3f (fun vs H Q E h=>?_) (fun cdv A outer s H vs Q E hr h=>?_)
 ·obtain ⟨a,n,rows,nm,rfl,_⟩:=h
  rfl
 obtain ⟨fa,n,rows,nm,rfl,ni,hV,G,hn,q⟩:=h
 have hu:=zcv hr
 refine ⟨_,z02 (z0e (i:=2) z3f.nd rfl (Or.inl rfl) (z1x (z00 (pv 0) z03)))
  (z02 (z0e (i:=3) z3f.nd rfl (Or.inr rfl) (zaL (z66 (pv 0) z08 z7Z) rfl rfl (by simp) (by decide)))
  (z02 (z0e (i:=4) z3f.nd rfl (Or.inl rfl) (z1x z03))
  (z02 (z2t PassesOwn.never (z18 z5U (z0m z0g rfl ml PySem.boot_len (z00 (pv 4) z03)) (z0m z0g rfl ml PySem.boot_len (z00 (pv 2) z03)) (z1e _))
   (z02 (z2x (z8u (CX:=CX) 1 hr (z00 (z0R z1C (pv 2) (z0m z0g rfl ml PySem.boot_len (z00 (pv 4) z03)) (fun _ _=>rfl)) z03)) (z1S rfl (z0i (z0a (i:=5) z3f.nd rfl (Or.inl rfl)) (z0i (z0a (i:=6) z3f.nd rfl (Or.inl rfl)) z0Y))))
   (z02 (z1R PassesOwn.never rfl (z23 (pv 6)) (z0a (i:=7) z3f.nd rfl (Or.inl rfl))
    (z06 (z1V (z21 (z4n hu (pv 7) (pv 3)))
     (z02 (z6g hu (pv 3) (pv 7) (z0m z0g rfl ml PySem.boot_len (z00 (pv 2) z03)) rfl)
     (z06 (z19 (z2X PySem.F.plainAttrs_list PySem.F.slot_list_append PySem.F.type_list_append z0J (pv 2) (z00 (pv 7) z03))))) z0L)))
   (z06 (z19 (z2X PySem.F.plainAttrs_list PySem.F.slot_list_append PySem.F.type_list_append z0J (pv 4) (z00 (z1I (z00 (pv 5) (z00 (z0q z0n rfl mt PyProof.Rows.boot_tuple
    (z00 (z0N rfl za0 (z23 (pv 6)) (fun _ _ _ _ _=>z0a (i:=0) za0.nd rfl (Or.inl rfl)) (fun _ _ _ _ _=>z3c hu (pv 1) (pv 0) (fun _ _=>rfl))) z03)) z03))) z03)))))))
  (z06 (z0x (pv 4)))))),?_⟩
 refine (exA rfl ⟨by show 1≤sizeLine;decide,fun lo hlo=>fun lp hlp=>(exA rfl ⟨z01,[(Sum.inl (nm 0),V.int 0)],rfl,by simp,by show 0≤sizeLine;decide,fun lf hlf=>?_⟩)⟩)
 have s1:z0f H (upd H lo (.lst [.int (nm 0)])):=z04 (z0f.refl H) hlo
 have hlp0:H lp=none:=s1.free hlp
 have nlo:lo≠lp:=z0c z01 hlp
 have s2:z0f H (upd (upd (upd H lo (.lst [.int (nm 0)])) lp (.dK [])) lp (.dK (z3S [] [(Sum.inl (nm 0),V.int 0)]))):=z09 (z04 s1 hlp) hlp0
 have hlf0:H lf=none:=s2.free hlf
 have nlf:lo≠lf:=z0c (show upd (upd (upd H lo (.lst [.int (nm 0)])) lp (.dK [])) lp (.dK (z3S [] [(Sum.inl (nm 0),V.int 0)])) lo=_ by rw [z07 nlo,z07 nlo];exact z01) hlf
 have nlpf:lp≠lf:=z0c z01 hlf
 have s3:=z04 (o:=HO.lst []) s2 hlf
 have OL:=z0s G
 have hol:=OL.1.len
 have h400:=G.few
 refine ⟨fun m σ H2=>∃ (i:Nat) (o:List Int) (u1 u2 u3:Option V) (fs:List V),m=rows.length+1 - i∧σ=[some (.int (nm 0)),some (.ref fa),some (.ref lo),some (.ref lp),some (.ref lf),u1,u2,u3]∧z0f H H2∧H2 lo=some (.lst (o.map (nV nm)))∧H2 lp=some (.dK (prs (kN nm) o))∧H2 lf=some (.lst fs) ∧
   DrL K H2 (z0l ((z0C rows).take i)) fs∧z6D rows o∧i≤o.length∧bfs rows (rows.length+1 - i) i o=z0d rows,⟨_,0,[0],none,none,none,[],rfl,rfl,s3,?_,?_,z01,DrL.nil,za1 G,by simp,rfl⟩,?_⟩
 ·rw [z07 nlf,z07 nlo,z07 nlo];exact z01
 ·rw [z07 nlpf];exact z01
 rintro m σ H2 ⟨i,o,u1,u2,u3,fs,rfl,rfl,t2,glo,glp,glf,df,L,hi,hb⟩
 have hfl:fs.length=i:=by
  have:=df.length
  unfold z0l at this
  rw [zLm,List.length_take] at this
  obtain ⟨mm,em⟩:=z3K rows (rows.length+1 - i) i o
  rw [hb] at em
  have:(z0C rows).length=(z0d rows).length:=by unfold z0C z1s;rw [zLm]
  have:o.length≤(z0d rows).length:=by rw [em,List.length_append];lia
  lia
 refine (exA rfl (exG lf rfl (.inl (SqL.of glf)) (exA rfl (exG lo rfl (.inl (SqL.of glo)) (exC rfl rfl (exA rfl ?_))))))
 have hol2:(o.map (nV nm)).length=o.length:=zLm _
 refine z34 (fun c=>?_) (fun c=>?_)
 ·have c':=of_decide_eq_true c
  rw [hfl,hol2] at c'
  have hio:i < o.length:=by lia
  have eo:o[i]?=some o[i]:=zGe hio
  have hro:o[i]∈o:=List.getElem_mem hio
  generalize o[i]=r at eo hro
  obtain ⟨r0,r1⟩:=L.rg r hro
  have hrow:=z0k r0 r1
  have hgl:=G.len _ hrow
  have hgo:=G.go _ hrow
  have hlen:=L.len
  refine zdt fun N nx2=>?_
  refine ⟨fa,zct K rows nm,rfl,(hV.mono t2).1,exA rfl (exA rfl (exG lf rfl (.inl (SqL.of glf)) (exD lo _ _ (V.int (nm r)) rfl rfl (SqL.of glo) (z0y (by rw [zGm,hfl,eo];rfl)) ⟨hV.mono t2,r,rfl,r0,r1,fun v Hc sc dv=>?_⟩)))⟩
  obtain ⟨t,b,cc,rfl,et,eb,ec⟩:=z0T dv
  have t2:=t2.trans sc
  have glo:=sc _ _ glo
  have glp:=sc _ _ glp
  have glf:=sc _ _ glf
  have df:=df.mono sc
  refine (exF t rfl (SqT.of et) rfl (exB rfl (exC rfl rfl ?_)))
  unfold z42 at eb ec
  simp only at eb ec
  generalize hgs:(row rows r).2=gs at *
  refine ⟨_,rfl,cc,rfl,⟨_,SqT.of ec⟩,zfY (xs:=(gs.map nm).map V.int) (fun j σ H3=>∃ u:Option V,σ=[some (.int (nm 0)),some (.ref fa),some (.ref lo),some (.ref lp),some (.ref lf),some (.ref b),some (.ref cc),u]∧z0f H H3∧z0P Hc H3∧H3 lo=some (.lst ((z0b o (gs.take j)).map (nV nm)))∧H3 lp=some (.dK (prs (kN nm) (z0b o (gs.take j))))∧H3 lf=some (.lst fs))
   ⟨_,rfl,t2,z0P.refl _,glo,glp,glf⟩ (fun j σ H3 _ h=>by obtain ⟨_,_,_,k3,_⟩:=h;exact SqT.of (k3 _ _ ec)) (fun j x σ H3 hx h Ed nx3=>?_) (fun σ H3 h=>?_)⟩
  ·obtain ⟨u,rfl,t3,k3,e1,e2,e3⟩:=h
   have hjl:j < gs.length:=by have:=(zGs.mp hx).1;rwa [zLm,zLm] at this
   have eg:gs[j]?=some gs[j]:=zGe hjl
   generalize gs[j]=gj at eg
   have ex:x=V.int (nm gj):=by rw [zGm,zGm,eg] at hx;exact (Option.some.inj hx).symm
   subst ex
   have et':z0b o (gs.take (j+1))=z2d (z0b o (gs.take j)) gj:=by rw [List.take_add_one,eg];exact z1r _ _ _
   have hal:(z0b o (gs.take j)).length≤4500:=by
    have:=z1M (gs.take j) o
    rw [List.length_take] at this
    lia
   generalize z0b o (gs.take j)=oj at *
   refine (exA rfl (exA rfl ⟨lp,exA rfl ⟨z5G.k (k:=kN nm gj) e2,exA rfl ?_⟩⟩))
   have hv:=z1W (κ:=Key) (kN nm) (zaI ni) oj gj
   by_cases hm:gj∈oj
   ·rw [hv,if_pos hm]
    refine z85 (nx3 _ _ (exA rfl ⟨t3,k3,?_,?_,e3⟩))
    ·rw [et',z0t hm];exact e1
    ·rw [et',z0t hm];exact e2
   ·rw [hv,if_neg hm]
    have nlop:lo≠lp:=z36 e1 e2 (by intro z;cases z)
    refine zda (exA rfl (exG lo rfl (.inl (SqL.of e1)) (exA rfl (exA rfl ⟨lp,exA rfl ⟨zcD.k (k:=kN nm gj) e2 (by rw [z1K];exact z1G (by lia)),?_⟩⟩))))
    have e1':upd H3 lp (.dK (z2Z (prs (kN nm) oj) (kN nm gj) (V.int ((oj.map (nV nm)).length:Nat)))) lo=some (.lst (oj.map (nV nm))):=by rw [z07 nlop];exact e1
    refine (exA rfl ⟨.inl ⟨rfl,_,SqL.of e1'⟩,exA rfl ⟨lo,exC rfl rfl ⟨e1',by rw [zLm];exact z1G (by lia),?_⟩⟩⟩)
    refine nx3 _ _ (exA rfl ⟨z09 (z09 t3 hlp0) hlo,z0P.up (z0P.up k3 e2 (fun _ z=>by cases z)) e1' (fun _ z=>by cases z),?_,?_,?_⟩)
    ·rw [z01,et',z0u hm,List.map_append];rfl
    ·rw [z07 nlop.symm,z01,et',z0u hm,zLm,z4J (kN nm) (zaI ni) hm]
    ·rw [z07 nlf.symm,z07 nlpf.symm];exact e3
  ·obtain ⟨u,rfl,t3,k3,e1,e2,e3⟩:=h
   rw [zLm,zLm,List.take_length] at e1 e2
   obtain ⟨mm,em⟩:=z3K rows (rows.length+1 - (i+1)) (i+1) (z0b o gs)
   have hb':bfs rows (rows.length+1 - (i+1)) (i+1) (z0b o gs)=z0d rows:=by
    rw [←hb,show rows.length+1 - i=(rows.length+1 - (i+1))+1 by lia,z2U eo,hgs]
   rw [hb'] at em
   have L':z6D rows (z0b o gs):=by rw [←hgs];exact L.add G hro
   obtain ⟨m1,em1⟩:=z0I gs o
   have hoi:(z0d rows)[i]?=some r:=by rw [em,em1,List.append_assoc,List.getElem?_append_left hio];exact eo
   have hi':i+1≤(z0b o gs).length:=by rw [em1,List.length_append];lia
   have hmem:∀ g∈gs,g∈z0b o gs:=fun g hg=>z0E.mpr (.inr hg)
   have efound:(z0C rows).take (i+1)=(z0C rows).take i++[((row rows r).1,gs.map fun g=>(((z0b o gs).idxOf g:Nat):Int))]:=by
    have e4:(z0C rows)[i]?=some ((row rows r).1,gs.map fun g=>(((z0b o gs).idxOf g:Nat):Int)):=by
     unfold z0C z1s
     rw [zGm,hoi]
     show some ((row rows r).1,(row rows r).2.map fun g=>(((z0d rows).idxOf g:Nat):Int))=_
     rw [hgs]
     congr 2
     refine List.map_congr_left fun g hg=>?_
     rw [em,z4j (hmem g hg)]
    rw [List.take_add_one,e4]
    rfl
   generalize z0b o gs=o' at *
   refine (exA rfl ⟨.inl ⟨rfl,_,SqL.of e3⟩,exA rfl (exA rfl ⟨cc,rfl,⟨_,SqT.of (k3 _ _ ec)⟩,fun l4 hl4=>z1u (xs:=(gs.map nm).map V.int) (fun j ys H4=>j≤gs.length∧ys=((gs.take j).map fun g=>((o'.idxOf g:Nat):Int)).map V.int∧z0f H3 H4) ⟨Nat.zero_le _,rfl,z04 (z0f.refl H3) hl4⟩ (fun j ys H4 _ h=>SqT.of (h.2.2 _ _ (k3 _ _ ec))) (by rw [zLm,zLm];exact z0G (by lia)) (fun j ys H4 h=>?_) (fun j x ys H4 hx h hy=>?_) (fun ys H4 h hy=>?_)⟩)⟩)
   ·obtain ⟨hj,rfl,_⟩:=h
    rw [zLm,zLm,List.length_take]
    lia
   ·obtain ⟨hj,rfl,s4⟩:=h
    have hjl:j < gs.length:=by have:=(zGs.mp hx).1;rwa [zLm,zLm] at this
    have eg:gs[j]?=some gs[j]:=zGe hjl
    have hgm:=hmem _ (List.getElem_mem hjl)
    generalize gs[j]=gj at eg hgm
    have ex:x=V.int (nm gj):=by rw [zGm,zGm,eg] at hx;exact (Option.some.inj hx).symm
    subst ex
    have hv:=z1W (κ:=Key) (kN nm) (zaI ni) o' gj
    rw [if_pos hgm] at hv
    refine (exA rfl (exA rfl ⟨lp,exA rfl ⟨(by rw [←hv];exact z5G.k (k:=kN nm gj) (s4 _ _ e2)),hy,hjl,?_,z09 s4 hl4⟩⟩))
    rw [z0K _ eg,List.map_append]
    rfl
   ·obtain ⟨_,rfl,s4⟩:=h
    rw [zLm,zLm,List.take_length] at hy
    refine ⟨l4,exA rfl (.inl ⟨SqL.of hy,fun t4 ht4=>⟨by show 2≤sizeLine;decide,fun t5 ht5=>?_⟩⟩)⟩
    have s5:=z04 (o:=HO.tup ((gs.map fun g=>((o'.idxOf g:Nat):Int)).map V.int)) s4 ht4
    have s6:=z04 (o:=HO.tup [.ref b,.ref t4]) s5 ht5
    have e3':=s6 _ _ e3
    refine ⟨lf,fs,.ref t5,rfl,rfl,e3',by rw [hfl];exact z1G (by lia),?_⟩
    have kk:z0P Hc (upd (upd (upd H4 t4 (.tup ((gs.map fun g=>((o'.idxOf g:Nat):Int)).map V.int))) t5 (.tup [.ref b,.ref t4])) lf (.lst (fs++[.ref t5]))):=z0P.up (k3.trans (z0P.of s6)) e3' (fun _ z=>by cases z)
    have nt5:t5≠lf:=z36 z01 e3' (by intro z;cases z)
    have nt4:t4≠t5:=z0c z01 ht5
    have nt4f:t4≠lf:=z36 (show upd (upd H4 t4 (.tup ((gs.map fun g=>((o'.idxOf g:Nat):Int)).map V.int))) t5 (.tup [.ref b,.ref t4]) t4=some (.tup ((gs.map fun g=>((o'.idxOf g:Nat):Int)).map V.int)) by rw [z07 nt4];exact z01) e3' (by intro z;cases z)
    refine nx2 (rows.length+1 - (i+1)) _ _ (by lia) ⟨i+1,o',_,_,_,fs++[.ref t5],rfl,rfl,z09 (t3.trans s6) hlf0,?_,?_,z01,?_,L',hi',hb'⟩
    ·rw [z07 nlf];exact s6 _ _ e1
    ·rw [z07 nlpf];exact s6 _ _ e2
    ·rw [efound]
     unfold z0l
     rw [List.map_append]
     refine DrL.append (df.keyed kk (z1m _)) (DrL.one (z2J (b:=b) (c:=t4) ?_ (kk _ _ eb) ?_))
     ·rw [z07 nt5];exact z01
     ·rw [z07 nt4f,z07 nt4];exact z01
 ·have c':=of_decide_eq_false (Bool.eq_false_iff.mpr c)
  rw [hfl,hol2] at c'
  have e:z0d rows=o:=by rw [←hb];exact z2Q (by lia)
  have e2:(z0C rows).take i=z0C rows:=List.take_of_length_le (by unfold z0C z1s;rw [zLm,e];lia)
  rw [e2] at df
  exact (exA rfl (q lf H2 t2 ⟨fs,glf,df⟩))
theorem z4Y:z0p ["rows","kinds","count"] ["rows"] (z05 z5x):={}
theorem z6x:z0Z ["rows","kinds","count"] (z05 z5x) ["rearranging","goings"] [none,none] (csc [(".0",.local),("rearranging",.local),("goings",.local)]):={}
theorem z48:z0Z ["rows","kinds","count"] (z05 z5x) ["kind","rearranging","goings","kinds"] [none,none,none,some 1] (csc [(".0",.local),("kind",.local),("rearranging",.local),("goings",.local),("kinds_gone_to",.globalImplicit),("kinds",.free)]):={}
theorem zbm {k Ct:Addr} {kd:FuncData} {tm:Tok} {bmB:List Value} {B newId initId:String} (mC:mg "TooMany"=some (.ref Ct)) (xC:PySem.W.excIn K Ct bmB newId=true) (hB:ExcBaseFacts B newId initId bmB) (F:Fun K "kinds_of_rows" "kinds_of_rows" z5x f fd) (mz:mg "zip"=none) (mx:mg "max"=none) (mM:mg "MOST_FORM_ROWS"=some (.int 60 tm))
  (G:z0v P w K mg base (CXx P w) 1 g gd ["things"] (z3H K)) (bG:z0o K gd ["things"] []) (kG:PySem.W.keepIn K (.ref g)=true) (mG:mg "numbered"=some (.ref g))
  (T:z0v P w K mg base (CXx P w) 1 k kd ["kinds","goings"] (z8X K)) (bT:z0o K kd ["kinds","goings"] []) (kT:PySem.W.keepIn K (.ref k)=true) (mT:mg "kinds_gone_to"=some (.ref k)):z0v P w K mg base (CXx P w) 2 f fd ["rows"] (z6n K Ct):=by
 refine F.okx z4Y (fun vs H Q E h=>?_) (fun cdv A outer s H vs Q E hr h=>?_)
 ·obtain ⟨a,n,rows,rfl,_⟩:=h
  rfl
 obtain ⟨a,n,rows,rfl,⟨us,ea,da⟩,GF,hn,q,qx⟩:=h
 have h400:=GF.few
 refine ⟨_,z02 (z0e (i:=1) z4Y.nd rfl (Or.inr rfl) (z0h G hr rfl mG kG bG .nil z0Q (z00 (z0N rfl z6x (z1Y (pv 0)) (fun _ _ _ _ _=>pgT K (n:=2) rfl rfl (z0i (z0a (i:=0) z6x.nd rfl (Or.inl rfl)) (z0i (z0a (i:=1) z6x.nd rfl (Or.inl rfl)) z0Y))) (fun _ _ _ _ _=>pv 0)) z03)))
  (z02 (z0e (i:=2) z4Y.nd rfl (Or.inl rfl) z08)
  (z02 (z2t PassesOwn.leaving (z18 z5U (pv 2) (z0A z1p (z0m (zgw K rfl rfl) rfl mx PyProof.Rows.boot_max (z00 (pv 1) z03)) z08) (z1e _))
   (z02 (z0e (i:=2) z4Y.nd rfl (Or.inl rfl) (z0A z1p (z0m (zgw K rfl rfl) rfl mx PyProof.Rows.boot_max (z00 (pv 1) z03)) z08))
   (z02 (z1V (z18 zbb (pv 2) (z81 (v:=.int 60) rfl mM ⟨_,rfl⟩) (z1e _)) (z06 (z2S mC rfl xC hB z5o)) z0L)
   (z06 (z0e (i:=1) z4Y.nd rfl (Or.inr rfl) (z0h G hr rfl mG kG bG .nil z0Q (z00 (z0N rfl z48 (zfD K rfl rfl mz (z00 (pv 1) (z00 (pv 0) z03)))
    (fun _ _ _ _ _=>pgT K (n:=2) rfl rfl (z0i (z0a (i:=0) z48.nd rfl (Or.inl rfl)) (z0i (pgT K (n:=2) rfl rfl (z0i (z0a (i:=1) z48.nd rfl (Or.inl rfl)) (z0i (z0a (i:=2) z48.nd rfl (Or.inl rfl)) z0Y))) z0Y)))
    (fun _ _ _ _ _=>z1I (z00 (pv 0) (z00 (z0h T hr rfl mT kT bT .nil z0Q (z00 (pv 3) (z00 (pv 2) z03))) z03)))) z03)))))))
  (z06 (z0x (pv 1))))),?_⟩
 have hul:us.length=rows.length:=by have:=da.length;unfold z0l at this;rw [zLm] at this;exact this.symm
 have hrs:=GF.some
 refine (exA rfl ⟨a,rfl,⟨_,SqL.of ea⟩,fun l1 hl1=>z2L (xs:=us) (fun i ys H2=>i≤us.length∧ys.length=i∧z0f H H2∧DrL K H2 ((rows.take i).map fun r=>D.its r.1) ys) ⟨Nat.zero_le _,rfl,z04 (z0f.refl H) hl1,DrL.nil⟩ (fun i ys H2 _ h=>SqL.of (h.2.2.1 _ _ ea)) (z0G (by lia)) (fun i ys H2 h=>h.2.1) (fun i x ys H2 hx h hy=>?_) (fun ys H2 h hy=>?_)⟩)
 ·obtain ⟨hi,hyl,s2,d2⟩:=h
  have hil:i < us.length:=(zGs.mp hx).1
  have er:rows[i]?=some rows[i]:=zGe (by lia)
  obtain ⟨x',ex,dx⟩:=z1X da er
  rw [hx] at ex
  cases ex
  generalize rows[i]=ri at er dx
  obtain ⟨t,b,c,rfl,et,eb,ec⟩:=z0T (dx.mono s2)
  refine (exF t rfl (SqT.of et) rfl (exB rfl (exC rfl rfl (exA rfl ⟨hy,hil,by rw [List.length_append,hyl];rfl,z09 s2 hl1,?_⟩))))
  rw [z0K _ er]
  have kk:z0P H2 (upd H2 l1 (.lst (ys++[.ref b]))):=z0P.up (z0P.refl _) hy (fun _ z=>by cases z)
  exact DrL.append (d2.keyed kk (by have:=z8I ((rows.take i).map (·.1));rw [List.map_map] at this;exact this)) (DrL.one (Dr.tup (kk _ _ eb) (DrL.ints _)))
 obtain ⟨_,hyl,s2,d2⟩:=h
 rw [List.take_of_length_le (by lia)] at d2
 have e1:(rows.map fun r=>D.its r.1)=(rows.map (·.1)).map D.its:=by rw [List.map_map];rfl
 rw [e1] at d2
 refine ⟨l1,ys,exA rfl ⟨hy,d2,fun d hd=>?_,by rw [zLm,zLm];lia,fun l2 H3 s3 e3=>?_⟩⟩
 ·obtain ⟨p,_,rfl⟩:=List.mem_map.mp hd
  exact ⟨z35 p,by rw [zaN];decide,_,rfl⟩
 rw [z8F D.its (fun _ _=>z7H)] at e3
 have K0:=zcN GF
 refine ⟨fun m σ H4=>∃ (c:Int) (ks:List Int) (l:Addr),σ=[some (.ref a),some (.ref l),some (.int c)]∧z0f H H4∧H4 l=some (.lst (ks.map V.int))∧z5c rows ks∧zav rows ks∧(c=0∨c≤60)∧0≤c∧(rows.length:Int)+1≤m+c∧z4S rows m c ks=z2y rows,
  ⟨rows.length+1,0,_,l2,rfl,s2.trans s3,e3,K0,zeJ rows,.inl rfl,Int.le_refl _,by lia,rfl⟩,?_⟩
 rintro m σ H4 ⟨c,ks,l,rfl,t4,e4,GK,NK,hc6,hc0,hm,hk⟩
 obtain ⟨x1,x2⟩:=z7R (zfl GF GK) fun k hk=>(GK.rg k hk).1
 obtain ⟨c1,c2⟩:=zff (zfl GF GK) GK.rg
 have ec:cnt ks - 1+1=cnt ks:=by lia
 refine (exA rfl (exA rfl ⟨l,ks,cnt ks - 1,rfl,SqL.of e4,x1,x2,exC rfl rfl (exC rfl rfl (exA rfl ?_))⟩))
 refine z34 (fun cc=>?_) (fun cc=>?_)
 ·have c':=of_decide_eq_true cc
  rw [ec] at c'
  refine zdt fun N nx2=>?_
  refine (exA rfl ⟨l,ks,cnt ks - 1,rfl,SqL.of e4,x1,x2,exC rfl rfl (exA rfl (exC rfl rfl (exA rfl ?_)))⟩)
  have hmono:=z5I GF m c ks NK GK
  rw [hk] at hmono
  refine z34 (fun cc2=>?_) (fun cc2=>?_)
  ·have c'':=of_decide_eq_true cc2
   exact fun ea=>qx (by lia) ea H4 t4
  have c60:=of_decide_eq_false (Bool.eq_false_iff.mpr cc2)
  have hkl:=GK.len
  have hsl:=z78 GK
  have hn400:=GF.few
  refine (exA rfl (exA rfl ⟨l,a,rfl,⟨_,SqL.of e4⟩,⟨_,SqL.of (t4 _ _ ea)⟩,fun l5 hl5=>zc5 (xs:=ks.map V.int) (zs:=us) (by rw [zLm];lia) (fun i ys H5=>i≤rows.length∧ys.length=i∧z0f H4 H5∧DrL K H5 (((z30 ks rows).take i).map z5g) ys) ⟨Nat.zero_le _,rfl,z04 (z0f.refl H4) hl5,DrL.nil⟩ (fun i ys H5 _ h=>⟨SqL.of (h.2.2.1 _ _ e4),SqL.of (h.2.2.1 _ _ (t4 _ _ ea))⟩) (by rw [zLm];exact z0G (by lia)) (fun i ys H5 h=>h.2.1) (fun i x y p ys H5 hx hz h hy hp=>?_) (fun ys H5 h hy=>?_)⟩))
  ·obtain ⟨hi,hyl,s5,d5⟩:=h
   have hil:i < rows.length:=by have:=(zGs.mp hz).1;lia
   have er:rows[i]?=some rows[i]:=zGe hil
   have ek:ks[i]?=some ks[i]:=zGe (by lia)
   have hrm:rows[i]∈rows:=List.getElem_mem hil
   obtain ⟨y',ey,dy⟩:=z1X da er
   rw [hz] at ey
   cases ey
   have es:(z30 ks rows)[i]?=some (ks[i],rows[i].2.map fun g=>ks.getD g.toNat 0):=by
    unfold z30
    rw [zGm,List.getElem?_zip_eq_some (z:=(ks[i],rows[i])) |>.mpr ⟨ek,er⟩]
    rfl
   generalize rows[i]=ri at er dy es hrm
   generalize ks[i]=ki at ek es
   have ex:x=V.int ki:=by rw [zGm,ek] at hx;exact (Option.some.inj hx).symm
   subst ex
   have sp:z0f H (upd H5 p (.tup [V.int ki,y])):=(t4.trans s5).trans (z04 (z0f.refl H5) hp)
   have sp5:z0f H5 (upd H5 p (.tup [V.int ki,y])):=z04 (z0f.refl H5) hp
   obtain ⟨t,b,c,rfl,et,eb,ec⟩:=z0T (dy.mono sp)
   refine (exF p rfl (SqT.of z01) rfl (exB rfl (exB rfl (exF t rfl (SqT.of et) rfl (exB rfl (exC rfl rfl ⟨rfl,exA rfl (exA rfl (exA rfl ⟨l,.ref c,ks,ri.2,rfl,sp5 _ _ (s5 _ _ e4),Dr.tup ec (DrL.ints _),fun g hg=>by rw [hkl];exact GF.go ri hrm g hg,by rw [GF.len ri hrm];lia,fun v H6 s6 dv=>⟨by show 2≤sizeLine;decide,fun t7 ht7=>?_⟩⟩))⟩))))))
   have s67:=z04 (o:=HO.tup [V.int ki,v]) s6 ht7
   have hy7:=s67 _ _ (sp5 _ _ hy)
   refine ⟨hy7,hil,by rw [List.length_append,hyl];rfl,z09 (s5.trans (sp5.trans s67)) hl5,?_⟩
   rw [z0K _ es]
   have kk:z0P H5 (upd (upd H6 t7 (.tup [V.int ki,v])) l5 (.lst (ys++[.ref t7]))):=z0P.up (z0P.of (sp5.trans s67)) hy7 (fun _ z=>by cases z)
   have k6:z0P H6 (upd (upd H6 t7 (.tup [V.int ki,v])) l5 (.lst (ys++[.ref t7]))):=z0P.up (z0P.of (z04 (z0f.refl H6) ht7)) hy7 (fun _ z=>by cases z)
   have nt7:t7≠l5:=z36 z01 hy7 (by intro z;cases z)
   refine DrL.append (d5.keyed kk (z77 _)) (DrL.one ?_)
   exact Dr.tup (vs:=[V.int ki,v]) (by rw [z07 nt7];exact z01) (DrL.cons (Dr.int ki) (DrL.one (dv.keyed k6 (z35 _))))
  obtain ⟨_,hyl5,s5,d5⟩:=h
  rw [zLm,hkl,List.take_of_length_le (by lia)] at d5
  refine ⟨l5,ys,exA rfl ⟨hy,d5,fun d hd=>?_,by rw [zLm];lia,fun l6 H6 s6 e6=>?_⟩⟩
  ·obtain ⟨p,_,rfl⟩:=List.mem_map.mp hd
   exact ⟨z8k p,zbW p,_,rfl⟩
  rw [z8F z5g z9N] at e6
  cases m with
  | zero=>lia
  | succ m =>
   refine nx2 m _ _ (Nat.lt_succ_self m) ⟨cnt ks,_,l6,(by show [some (V.ref a),some (V.ref l6),some (V.int (cnt ks - 1+1))]=_;rw [ec]),(t4.trans s5).trans s6,e6,zaB GK,zcH hkl,.inr (by lia),by lia,by lia,?_⟩
   rw [←hk]
   exact (if_pos c').symm
 ·have c':=of_decide_eq_false (Bool.eq_false_iff.mpr cc)
  rw [ec] at c'
  have hkk:z2y rows=ks:=by
   rw [←hk]
   cases m with
   | zero=>rfl
   | succ m=>exact if_neg c'
  refine (exA rfl (q (by rw [hkk];lia) l H4 t4 ?_))
  rw [hkk]
  exact e4
abbrev zdK:List Str:=["first","row_at","found","kinds","least","rearranging","goings","kind"]
theorem z2s:z0p zdK ["first","row_at"] (z05 z8B):={}
theorem z71 {Cm:V→Addr→Hp→List Row→Prop} {k q Ct:Addr} {kd qd:FuncData} (F:Fun K "least_form" "least_form" z8B f fd) (ml:mg "len"=none) (mt:mg "tuple"=none) (mz:mg "zip"=none)
  (G:z0v P w K mg base (CXx P w) 5 g gd ["first","row_at"] (z7B K Cm)) (bG:z0o K gd ["first","row_at"] []) (kG:PySem.W.keepIn K (.ref g)=true) (mG:mg "rows_come_to"=some (.ref g))
  (T:z0v P w K mg base (CXx P w) 5 k kd ["rows"] (z6n K Ct)) (bT:z0o K kd ["rows"] []) (kT:PySem.W.keepIn K (.ref k)=true) (mT:mg "kinds_of_rows"=some (.ref k))
  (U:z0v P w K mg base (CXx P w) 5 q qd ["kinds","goings"] (z8X K)) (bU:z0o K qd ["kinds","goings"] []) (kU:PySem.W.keepIn K (.ref q)=true) (mU:mg "kinds_gone_to"=some (.ref q)):z0v P w K mg base (CXx P w) 6 f fd ["first","row_at"] (z5Z K Cm Ct):=by
 refine F.okx z2s (fun vs H Q E h=>?_) (fun cdv A outer s H vs Q E hr h=>?_)
 ·obtain ⟨a,v0,n,rows,rfl,_⟩:=h
  rfl
 obtain ⟨fa,v0,n,rows,rfl,hC,GM,hn,gv,gx⟩:=h
 have hsc:=zdf GM
 have h400:=GM.few
 refine ⟨_,z02 (z0e (i:=2) z2s.nd rfl (Or.inl rfl) (z0h G hr rfl mG kG bG .nil z0Q (z00 (pv 0) (z00 (pv 1) z03))))
  (z02 (z0e (i:=3) z2s.nd rfl (Or.inl rfl) (z0h T hr rfl mT kT bT .nil (z6z fun _ _ _ z=>z) (z00 (pv 2) z03)))
  (z02 (z0e (i:=4) z2s.nd rfl (Or.inl rfl) (z1x z03))
  (z02 (z1R PassesOwn.leaving rfl (zcJ rfl mz (z00 (pv 2) (z00 (pv 3) z03)))
   (z1S rfl (z0i (z1S rfl (z0i (z0a (i:=5) z2s.nd rfl (Or.inl rfl)) (z0i (z0a (i:=6) z2s.nd rfl (Or.inl rfl)) z0Y))) (z0i (z0a (i:=7) z2s.nd rfl (Or.inl rfl)) z0Y)))
   (z06 (z1V (z21 (z3X (pv 7) (z0m z0g rfl ml PySem.boot_len (z00 (pv 4) z03))))
    (z06 (z19 (z2X PySem.F.plainAttrs_list PySem.F.slot_list_append PySem.F.type_list_append z0J (pv 4) (z00 (z1I (z00 (pv 5) (z00 (z0h U hr rfl mU kU bU .nil z0Q (z00 (pv 3) (z00 (pv 6) z03))) z03))) z03)))) z0L)))
  (z06 (z0x (z0q z0n rfl mt PyProof.Rows.boot_tuple (z00 (pv 4) z03))))))),?_⟩
 have GF:=z2m GM
 have hfl:=zcq GM
 refine (exA rfl (exA rfl ⟨fa,v0,n,rows,rfl,hC,GM,hn,fun lf H1 s1 rf=>?_⟩))
 refine (exA rfl ⟨lf,n,z0C rows,rfl,rf,GF,hn,fun h6 lk H2 s2 ek=>?_,fun h6 ea H' s'=>gx (by lia) ea H' (s1.trans s')⟩)
 have gv:=gv (by lia)
 rw [←z4R GM] at gv
 clear hsc h6
 have GK:=z3A GF
 have hkl:=GK.len
 unfold z9t at gv
 generalize z2y (z0C rows)=ks at *
 generalize z0C rows=fs at *
 obtain ⟨us,ef,df⟩:=rf.mono s2
 have hul:us.length=fs.length:=by have:=df.length;unfold z0l at this;rw [zLm] at this;exact this.symm
 have s12:=s1.trans s2
 refine ⟨by show 0≤sizeLine;decide,fun ll hll=>(exA rfl (exA rfl ⟨lf,lk,rfl,?_⟩))⟩
 have hll0:H2 ll=none:=hll
 have s3:z0f H2 (upd H2 ll (.lst [])):=z04 (z0f.refl H2) hll
 refine ⟨⟨_,SqL.of (s3 _ _ ef)⟩,⟨_,SqL.of (s3 _ _ ek)⟩,zhx (xs:=us) (ys:=ks.map V.int) (by rw [zLm];lia) (fun i σ H3=>∃ (u1 u2 u3:Option V) (ws:List V),σ=[some v0,some (.ref fa),some (.ref lf),some (.ref lk),some (.ref ll),u1,u2,u3]∧z0f H2 H3∧H3 ll=some (.lst ws)∧DrL K H3 (z0l (z2j fs ks i)) ws)
  ⟨_,_,_,[],rfl,s3,z01,DrL.nil⟩ (fun i σ H3 _ h=>by obtain ⟨_,_,_,_,_,t3,_,_⟩:=h;exact ⟨SqL.of (t3 _ _ ef),SqL.of (t3 _ _ ek)⟩) (fun i x y p σ H3 hx hy h hp Ed nx3=>?_) (fun σ H3 h=>?_)⟩
 ·obtain ⟨u1,u2,u3,ws,rfl,t3,e3,d3⟩:=h
  have hil:i < fs.length:=by have:=(zGs.mp hx).1;lia
  have er:fs[i]?=some fs[i]:=zGe hil
  have ek':ks[i]?=some ks[i]:=zGe (by lia)
  have hrm:fs[i]∈fs:=List.getElem_mem hil
  obtain ⟨x',ex,dx⟩:=z1X df er
  rw [hx] at ex
  cases ex
  generalize fs[i]=ri at er dx hrm
  generalize ks[i]=ki at ek'
  have ey:y=V.int ki:=by rw [zGm,ek'] at hy;exact (Option.some.inj hy).symm
  subst ey
  have hst:=z4q er ek'
  have hll2:=z9c fs ks i
  have hwl:ws.length=(z2j fs ks i).length:=by have:=d3.length;unfold z0l at this;rw [zLm] at this;exact this.symm
  generalize z2j fs ks i=lp at *
  have sp3:z0f H3 (upd H3 p (.tup [x,V.int ki])):=z04 (z0f.refl H3) hp
  have sp:z0f H2 (upd H3 p (.tup [x,V.int ki])):=t3.trans sp3
  obtain ⟨t,b,c,rfl,et,eb,ec⟩:=z0T (dx.mono sp)
  refine (exF p rfl (SqT.of z01) rfl (exB rfl (exF t rfl (SqT.of et) rfl (exB rfl (exC rfl rfl (exC rfl rfl (exA rfl (exA rfl (exG ll rfl (.inl (SqL.of (sp3 _ _ e3))) (exC rfl rfl (exA rfl ?_)))))))))))
  refine z34 (fun c'=>?_) (fun c'=>?_)
  ·have c'':=of_decide_eq_true c'
   have hst2:z2j fs ks (i+1)=lp++[(ri.1,ri.2.map fun g=>ks.getD g.toNat 0)]:=by
    rw [hst];unfold z5S
    exact if_pos (by rw [←hwl];exact c'')
   refine (exA rfl ⟨.inl ⟨rfl,_,SqL.of (sp3 _ _ e3)⟩,exA rfl (exA rfl (exA rfl ⟨lk,.ref c,ks,ri.2,rfl,sp _ _ ek,Dr.tup ec (DrL.ints _),fun g hg=>by rw [hkl];exact GF.go ri hrm g hg,by rw [GF.len ri hrm];lia,fun v H6 s6 dv=>⟨by show 2≤sizeLine;decide,fun t7 ht7=>?_⟩⟩))⟩)
   have s67:=z04 (o:=HO.tup [.ref b,v]) s6 ht7
   have e7:=s67 _ _ (sp3 _ _ e3)
   refine ⟨ll,ws,.ref t7,rfl,rfl,e7,z1G (by lia),?_⟩
   have kk:z0P H3 (upd (upd H6 t7 (.tup [.ref b,v])) ll (.lst (ws++[.ref t7]))):=z0P.up (z0P.of (sp3.trans s67)) e7 (fun _ z=>by cases z)
   have k6:z0P H6 (upd (upd H6 t7 (.tup [.ref b,v])) ll (.lst (ws++[.ref t7]))):=z0P.up (z0P.of (z04 (z0f.refl H6) ht7)) e7 (fun _ z=>by cases z)
   have nt7:t7≠ll:=z36 z01 e7 (by intro z;cases z)
   have eb':H6 b=some (.tup (ri.1.map V.int)):=s6 _ _ eb
   obtain ⟨c2,rfl,ec2⟩:=Dr.its_inv dv
   refine nx3 _ _ ⟨_,_,_,ws++[.ref t7],rfl,z09 (sp.trans s67) hll0,z01,?_⟩
   rw [hst2]
   unfold z0l
   rw [List.map_append]
   refine DrL.append (d3.keyed kk (z1m _)) (DrL.one (z2J (b:=b) (c:=c2) ?_ (k6 _ _ eb') (k6 _ _ ec2)))
   rw [z07 nt7];exact z01
  ·have c'':=of_decide_eq_false (Bool.eq_false_iff.mpr c')
   have hst2:z2j fs ks (i+1)=lp:=by
    rw [hst];unfold z5S
    exact if_neg (by rw [←hwl];exact c'')
   refine nx3 _ _ ⟨_,_,_,ws,rfl,sp,sp3 _ _ e3,?_⟩
   rw [hst2]
   exact d3.mono sp3
 ·obtain ⟨u1,u2,u3,ws,rfl,t3,e3,d3⟩:=h
  rw [hul,z5H hkl] at d3
  refine (exA rfl ⟨ll,exA rfl (.inl ⟨SqL.of e3,fun t ht=>?_⟩)⟩)
  exact gv _ _ ((s12.trans t3).trans (z04 (z0f.refl H3) ht)) (Dr.tup z01 (d3.mono (z04 (z0f.refl H3) ht)))
abbrev nJR:List Str:=["one","other","pair","row","beside","rearranging","goings","rearranging_then","goings_then","pairs"]
theorem zcL:z0p nJR ["one","other","pair"] (z05 z2f):={}
theorem zgo:z0Z nJR (z05 z2f) ["going","made","goings_then"] [none,none,some 8] (csc [(".0",.local),("going",.local),("made",.local),("goings_then",.free)]):={}
theorem zdG (F:Fun K "joined_row" "joined_row" z2f f fd) (mzip:mg "zip"=none) (mt:mg "tuple"=none)
  (G:z0v P w K mg base CX 1 g gd ["one","other"] (z6u K)) (bG:z0o K gd ["one","other"] []) (kG:PySem.W.keepIn K (.ref g)=true) (mG:mg "turned"=some (.ref g)):z0v P w K mg base CX 2 f fd ["one","other","pair"] (zaA K):=by
 refine F.okc zcL (fun vs H Q E h=>?_) (fun cdv A outer s H vs Q E hr h=>?_)
 ·obtain ⟨v1,v2,v3,n,one,other,i,rfl,_⟩:=h
  rfl
 obtain ⟨v1,v2,v3,n,one,other,ix,rfl,d1,d2,d3,G1,G2,hn,i0,i1,gq⟩:=h
 refine ⟨_,z02 (z2x (pv 2) (z1S rfl (z0i (z0a (i:=3) zcL.nd rfl (Or.inl rfl)) (z0i (z0a (i:=4) zcL.nd rfl (Or.inl rfl)) z0Y))))
  (z02 (z2x (z0R z1w (pv 0) (pv 3) (fun _ _=>rfl)) (z1S rfl (z0i (z0a (i:=5) zcL.nd rfl (Or.inl rfl)) (z0i (z0a (i:=6) zcL.nd rfl (Or.inl rfl)) z0Y))))
  (z02 (z2x (z0R z1w (pv 1) (pv 4) (fun _ _=>rfl)) (z1S rfl (z0i (z0a (i:=7) zcL.nd rfl (Or.inl rfl)) (z0i (z0a (i:=8) zcL.nd rfl (Or.inr rfl)) z0Y))))
  (z02 (zdJ (i:=9) rfl zgo (zdP rfl mzip (z00 (pv 6) (z00 (pv 5) z03))) (fun _ _ _ _ _=>pgT K (n:=2) rfl rfl (z0i (z0a (i:=0) zgo.nd rfl (Or.inl rfl)) (z0i (z0a (i:=1) zgo.nd rfl (Or.inl rfl)) z0Y))) (fun _ _ _ _ _=>z1I (z00 (pv 0) (z00 (z0R (ixT K rfl) (pv 2) (pv 1) (fun _ _=>rfl)) z03))) zcL.nd rfl rfl)
  (z06 (z0x (z1I (z00 (z0h G hr rfl mG kG bG .nil z0Q (z00 (pv 5) (z00 (pv 7) z03))) (z00 (z0q z0n rfl mt PyProof.Rows.boot_tuple (z00 (pv 9) z03)) z03)))))))),?_⟩
 obtain ⟨a1,us,rfl,e1,dus⟩:∃ (a:Addr) (us:List V),v1=.ref a∧H a=some (.tup us)∧DrL K H (z0l one) us:=by
  simp only [Dr] at d1
  exact d1
 obtain ⟨a2,vs,rfl,e2,dvs⟩:∃ (a:Addr) (us:List V),v2=.ref a∧H a=some (.tup us)∧DrL K H (z0l other) us:=by
  simp only [Dr] at d2
  exact d2
 obtain ⟨a3,rfl,e3⟩:=zd2 d3
 obtain ⟨⟨r0,r1⟩,s0,s1⟩:=pix (one:=one) (other:=other) i0 i1
 rw [z4B i0 i1] at gq
 obtain ⟨w1,ew1,dw1⟩:=z1X dus (z2p r0 r1)
 obtain ⟨w2,ew2,dw2⟩:=z1X dvs (z2p s0 s1)
 have hR:=z0k r0 r1
 have hS:=z0k s0 s1
 have pR:=G1.perm _ hR
 have lR:=G1.len _ hR
 have gR:=G1.go _ hR
 have pS:=G2.perm _ hS
 have lS:=G2.len _ hS
 have gS:=G2.go _ hS
 generalize ix / (other.length:Int)=r at *
 generalize ix % (other.length:Int)=b at *
 generalize row one r=R at *
 generalize row other b=S at *
 obtain ⟨t1,b1,c1,rfl,et1,eb1,ec1⟩:=z0T dw1
 obtain ⟨t2,b2,c2,rfl,et2,eb2,ec2⟩:=z0T dw2
 have hpl:=pR.len
 refine (exA rfl (exF a3 rfl (SqT.of e3) rfl (exB rfl (exC rfl rfl ?_))))
 refine (exA rfl (exA rfl (exD a1 _ r (.ref t1) rfl rfl (SqT.of e1) (z1F r0 ew1) (exF t1 rfl (SqT.of et1) rfl (exB rfl (exC rfl rfl ?_))))))
 refine (exA rfl (exA rfl (exD a2 _ b (.ref t2) rfl rfl (SqT.of e2) (z1F s0 ew2) (exF t2 rfl (SqT.of et2) rfl (exB rfl (exC rfl rfl ?_))))))
 refine (exA rfl (exA rfl ⟨c1,b1,rfl,⟨_,SqT.of ec1⟩,⟨_,SqT.of eb1⟩,fun l3 hl3=>zbn (xs:=R.2.map V.int) (zs:=R.1.map V.int) (by rw [zLm,zLm];lia) (fun k ys H3=>ys.length=k∧k≤n∧z0f H H3∧DrL K H3 (((List.range k).map fun k=>R.2.getD k 0*(other.length:Int)+S.2.getD (R.1.getD k 0).toNat 0).map (pr other.length)) ys) ⟨rfl,Nat.zero_le _,z04 (z0f.refl H) hl3,DrL.nil⟩ (fun k ys H3 _ h=>⟨SqT.of (h.2.2.1 _ _ ec1),SqT.of (h.2.2.1 _ _ eb1)⟩) (by rw [zLm];exact z0G (by lia)) (fun k ys H3 h=>h.1) (fun k x y p ys H3 hx hy0 h hy hp=>?_) (fun ys H3 h hy=>?_)⟩))
 ·obtain ⟨hyl,_,s3,d3'⟩:=h
  have hk:k < n:=by have:=(zGs.mp hx).1;rw [zLm] at this;lia
  obtain ⟨l,g',e,q1,q2,q3,q4,q5,q6,g0,g1',e0,e1'⟩:=z88 (m:=other.length) (N:=one.length) pR lR gR lS gS hk
  have ex:x=V.int g':=by rw [zGm,q3] at hx;exact (Option.some.inj hx).symm
  have ey:y=V.int l:=by rw [zGm,q1] at hy0;exact (Option.some.inj hy0).symm
  subst ex ey
  have s4:=z04 (o:=HO.tup [V.int g',V.int l]) (z0f.refl H3) hp
  have e4:upd H3 p (HO.tup [V.int g',V.int l]) p=some (.tup [V.int g',V.int l]):=z01
  generalize upd H3 p (HO.tup [V.int g',V.int l])=H4 at s4 e4
  refine (exF p rfl (SqT.of e4) rfl (exB rfl (exC rfl rfl ?_)))
  refine (exA rfl (exA rfl (exA rfl (exD c2 _ _ (V.int e) rfl rfl (SqT.of ((s3.trans s4) _ _ ec2)) (z0y (by rw [zGm,q4];rfl)) ⟨by show 2≤sizeLine;decide,fun t5 ht5=>?_⟩))))
  have s5:=z04 (o:=HO.tup [V.int g',V.int e]) (z0f.refl H4) ht5
  have e5:upd H4 t5 (HO.tup [V.int g',V.int e]) t5=some (.tup [V.int g',V.int e]):=z01
  generalize upd H4 t5 (HO.tup [V.int g',V.int e])=H5 at s5 e5
  have hy5:=s5 _ _ (s4 _ _ hy)
  have kk:z0P H5 (upd H5 l3 (.lst (ys++[.ref t5]))):=z0P.up (z0P.refl _) hy5 (fun _ z=>by cases z)
  refine ⟨hy5,by rw [List.length_append,hyl];rfl,by lia,z09 (s3.trans (s4.trans s5)) hl3,?_⟩
  rw [List.range_succ,List.map_append,List.map_append]
  refine DrL.append ((d3'.mono (s4.trans s5)).keyed kk (z6o _ _)) (DrL.one ?_)
  show Dr K _ (pr other.length (R.2.getD k 0*(other.length:Int)+S.2.getD (R.1.getD k 0).toNat 0)) (.ref t5)
  rw [q5,q6,zgg e0 e1']
  exact Dr.tup (kk _ _ e5) (DrL.cons (Dr.int _) (DrL.cons (Dr.int _) DrL.nil))
 obtain ⟨hyl,_,s3,d3'⟩:=h
 rw [zLm,lR] at d3'
 refine (exA rfl (exA rfl ⟨.ref b1,.ref b2,R.1,S.1,rfl,Dr.tup (s3 _ _ eb1) (DrL.ints _),Dr.tup (s3 _ _ eb2) (DrL.ints _),fun x hx=>?_,by lia,fun v H4 s4 d4=>?_⟩))
 ·have:=z0H.mp (pR.mem_iff.mp hx)
  rw [pS.len];exact this
 obtain ⟨b4,rfl,eb4⟩:=Dr.its_inv d4
 refine (exA rfl ⟨l3,exA rfl (.inl ⟨SqL.of (s4 _ _ hy),fun t5 ht5=>⟨by show 2≤sizeLine;decide,fun t6 ht6=>?_⟩⟩)⟩)
 have s5:=z04 (o:=HO.tup ys) (z0f.refl H4) ht5
 have e5:upd H4 t5 (HO.tup ys) t5=some (.tup ys):=z01
 generalize upd H4 t5 (HO.tup ys)=H5 at s5 e5 ht6
 have s6:=z04 (o:=HO.tup [.ref b4,.ref t5]) (z0f.refl H5) ht6
 refine gq _ _ ((s3.trans s4).trans (s5.trans s6)) ?_
 unfold zfm zdk
 refine Dr.tup z01 (DrL.cons (Dr.tup (s6 _ _ (s5 _ _ eb4)) (DrL.ints _)) (DrL.cons (Dr.tup (s6 _ _ e5) ?_) DrL.nil))
 rw [hpl]
 exact d3'.mono (s4.trans (s5.trans s6))
abbrev nJd:List Str:=["one","other"]
theorem zh8:z0p nJd ["one","other"] (z05 z2c):={}
abbrev zgK:Scope:=csc [("pair",.local),("one",.free),("other",.free),("joined_row",.globalImplicit)]
theorem zhy:z0Z nJd (z05 z2c) ["pair","one","other"] [none,some 0,some 1] zgK:={}
theorem zgW:zeh ["pair","one","other"] ["pair"] zgK:={}
theorem zaf {k b Ct cc:Addr} {kd bd:FuncData} {Ts:List Tb} {T0:Tb} (F:Fun K "joined" "joined" z2c f fd) (hcd:fd.code=.ref cc) (hC:PySem.W.CodeHd base cc T0.at_) (hB:z41 base mg) (hT:T0∈Ts) (hTn:∀ T'∈Ts,T'.at_=T0.at_→T'=T0) (hTp:T0.pos=z3s (z0F z2c)) (hTq:T0.qual=("joined.<locals>."++"<lambda>":Str))
  (J:z0v P w K mg base (CXx P w) 3 b bd ["one","other","pair"] (zaA K)) (bJ:z0o K bd ["one","other","pair"] []) (kJ:PySem.W.keepIn K (.ref b)=true) (mJ:mg "joined_row"=some (.ref b))
  (T:z0v P w K mg base (CXx P w) 6 k kd ["first","row_at"] (z6j P w K mg base (CXx P w) 4 Ct)) (bT:z0o K kd ["first","row_at"] []) (kT:PySem.W.keepIn K (.ref k)=true) (mT:mg "least_form"=some (.ref k)):z0v P w K mg base (CXx P w) 7 f fd ["one","other"] (z6d Ts K Ct):=by
 refine F.okL hcd zh8 (fun vs H Q E h=>?_) (fun A outer s H vs Q E hr h=>?_)
 ·obtain ⟨v1,v2,n,one,other,rfl,_⟩:=h
  rfl
 obtain ⟨v1,v2,n,one,other,rfl,hTb,d1,d2,G1,G2,hn,h4,gv,gx⟩:=h
 refine ⟨_,z06 (z0x (z47 (Ts:=Ts) (T:=T0) T hr rfl mT kT bT (z6z fun _ _ _ z=>z) (z1I (z00 z08 (z00 z08 z03))) (fun σ H Q Q' h ⟨a,b⟩=>⟨a,fun t ht=>h _ _ (b t ht)⟩) zhy rfl hC hB (fun _=>rfl) hT hTn hTp hTq)),?_⟩
 have GP:=z2W G1 G2 h4
 refine ⟨by show 2≤sizeLine;decide,fun t ht=>?_⟩
 have s1:=z04 (o:=HO.tup [V.int 0,V.int 0]) (z0f.refl H) ht
 have e1:upd H t (HO.tup [V.int 0,V.int 0]) t=some (.tup [V.int 0,V.int 0]):=z01
 generalize upd H t (HO.tup [V.int 0,V.int 0])=H1 at s1 e1
 refine ⟨z3R.mono hTb s1,fun fa H2 cs f1 f2 f3 C=>?_⟩
 have fin:∀ {H3:Hp},z0f H2 H3→z0X Ts H (utk H3 cs):=fun s3=>(z0f.l s1).trans (f2 _ s3)
 have n1:z0X [] H1 H2:=⟨f1,fun _ _ h=>absurd h (by simp)⟩
 have e2:=n1.g e1
 have d12:=(d1.mono s1).monoL n1
 have d22:=(d2.mono s1).monoL n1
 have hz:(0:Int) / (other.length:Int)=0∧(0:Int) % (other.length:Int)=0:=⟨Int.zero_ediv _,Int.zero_emod _⟩
 refine ⟨fa,.ref t,n,z1j one other,other.length,rfl,zfN (by rw [hz.1,hz.2];exact e2),?_,GP,hn,fun h6 v H3 s3 d=>gv h6 v _ (fin s3) (d.nfr (NFr.utk f3 s3)),fun h6 e H3 s3=>gx h6 e _ (fin s3)⟩
 refine z2Y.lam (k:=3) C zgW (fun _ _ _ _ us hl=>by obtain ⟨a9,rfl⟩:=zee hl;rfl) rfl (fun vs H Q h=>?_) (fun H' s' A outer s cd clos cs vs Q hr nf h=>?_)
 ·obtain ⟨i,v,rfl,_⟩:=h
  rfl
 obtain ⟨i,v,rfl,dv,h0,h1,gq⟩:=h
 rw [z3j] at h1
 refine ⟨_,z0h J hr rfl mJ kJ bJ .nil z0Q (z00 (pv 1) (z00 (pv 2) (z00 (pv 0) z03))),?_⟩
 exact (exA rfl (exA rfl (exA rfl ⟨v1,v2,v,n,one,other,i,rfl,(d12.mono s').nfr nf,(d22.mono s').nfr nf,dv.nfr nf,G1,G2,hn,h0,h1,fun v' H1' s1' d1' hc=>gq v' _ (z0f.rtk s1') (d1'.mono (z0f.rtk' hc))⟩)))
theorem z2g:z0p ["_law_cell_here","_law_many","_law_row","_law_rest","_law_seed"] ["_law_cell_here","_law_many"] (z05 z4f):={}
theorem z9l (F:Fun K "_law_numbers" "_law_numbers" z4f f fd) (ml:mg "len"=none):z0v P w K mg base CX 1 f fd ["_law_cell_here","_law_many"] (z4r K):=by
 refine F.okc z2g (fun vs H Q E h=>?_) (fun cdv A outer s H vs Q E hr h=>?_)
 ·obtain ⟨c,m,rfl,_⟩:=h
  rfl
 obtain ⟨c,m,rfl,hm,q⟩:=h
 refine ⟨_,z02 (z0e (i:=2) z2g.nd rfl (Or.inl rfl) (z1x z03))
  (z02 (z0e (i:=3) z2g.nd rfl (Or.inl rfl) (z0A z56 (pv 0) (z0A zeQ z08 z08)))
  (z02 (z2t PassesOwn.never (PW.pt (z6J (z18 zbb (pv 3) z08 (z1e _)) (z4Q (z18 z5U (z0m z0g rfl ml PySem.boot_len (z00 (pv 2) z03)) (pv 1) (z1e _)))))
   (z02 (z19 (z2X PySem.F.plainAttrs_list PySem.F.slot_list_append PySem.F.type_list_append z0J (pv 2) (z00 (z0A z1Q (pv 3) z08) z03)))
   (z06 (z0e (i:=3) z2g.nd rfl (Or.inl rfl) (z0A z4D (pv 3) z08)))))
  (z02 (z0e (i:=4) z2g.nd rfl (Or.inl rfl) (z0A z1Q (pv 0) z08))
  (z02 (z2t PassesOwn.never (z18 z5U (z0m z0g rfl ml PySem.boot_len (z00 (pv 2) z03)) (pv 1) (z1e _))
   (z02 (z0e (i:=4) z2g.nd rfl (Or.inl rfl) (z0A z1Q (z0A z1p (z0A z1p (z0A z3Z (pv 4) z08) z08) (z0m z0g rfl ml PySem.boot_len (z00 (pv 2) z03))) z08))
   (z06 (z19 (z2X PySem.F.plainAttrs_list PySem.F.slot_list_append PySem.F.type_list_append z0J (pv 2) (z00 (z0A z1Q (z0A z4D (z0A z1Q (z0A z3Z (pv 4) z08) z08) z08) z08) z03))))))
  (z06 (z0x (pv 2))))))),?_⟩
 refine ⟨by show 0≤sizeLine;decide,fun l hl=>(exA rfl (exC rfl rfl ⟨⟨by decide,by decide,by decide⟩,exC rfl rfl ?_⟩))⟩
 show z6I _ _ _ _ _
 refine zgI (fun σ' H'=>∃ (k:Nat) (r:Int) (ns:List Int),σ'=[some (.int c),some (.int m),some (.ref l),some (.int r),none]∧z0f H H'∧H' l=some (.lst (ns.map V.int))∧k+ns.length=m∧∀ x∈ns,0≤x∧x < 1009) (fun Ed nx=>?_) (fun σ' H' p=>?_)
 rotate_left
 ·obtain ⟨k,r,ns,rfl,s2,e2,hk,hns⟩:=p
  refine (exA rfl (exC rfl rfl ⟨zbr,?_⟩))
  refine ⟨fun k σ H2=>∃ (v:Int) (ns:List Int),σ=[some (.int c),some (.int m),some (.ref l),some (.int r),some (.int v)]∧z0f H H2∧H2 l=some (.lst (ns.map V.int))∧k+ns.length=m∧∀ x∈ns,0≤x∧x < 1009,
   ⟨k,_,ns,rfl,s2,e2,hk,hns⟩,?_⟩
  rintro k σ H2 ⟨v,ns,rfl,s2,e2,hk,hns⟩
  have hnl:(ns.map V.int).length=ns.length:=zLm _
  refine (exA rfl (exG l rfl (.inl (SqL.of e2)) (exA rfl (exC rfl rfl (exA rfl (z34 (fun c2=>?_) (fun c2=>?_)))))))
  ·have c2':=of_decide_eq_true c2
   rw [hnl] at c2'
   have hkp:ns.length < m:=by lia
   refine zdt fun N nx2=>?_
   refine (exA rfl (exC rfl rfl ⟨.inr ⟨by decide,by decide⟩,exC rfl rfl (exA rfl (exG l rfl (.inl (SqL.of e2)) (exC rfl rfl (exC rfl rfl ⟨zbr,?_⟩))))⟩))
   refine (exA rfl ⟨.inl ⟨rfl,_,SqL.of e2⟩,exA rfl (exC rfl rfl ⟨.inr ⟨by decide,by decide⟩,exC rfl rfl ⟨zbr,exC rfl rfl ⟨⟨by decide,by decide⟩,exC rfl rfl ⟨zbr,l,exC rfl rfl ⟨e2,by rw [hnl];exact z2E (by lia),?_⟩⟩⟩⟩⟩)⟩)
   refine nx2 (k - 1) _ _ (by lia) ⟨_,ns++[(v*48271+9973+((ns.map V.int).length:Nat)) % 2147483647*39373 % 2147483629 / 11 % 1009],rfl,z09 s2 hl,?_,?_,z76 hns (za7 _)⟩
   ·rw [z01,List.map_append];rfl
   ·rw [List.length_append];show k - 1+(ns.length+1)=m;lia
  ·have c2':=of_decide_eq_false (Bool.eq_false_iff.mpr c2)
   rw [hnl] at c2'
   exact (exA rfl (q l H2 ns s2 e2 ⟨by lia,hns⟩))
 refine ⟨fun k σ H2=>∃ (r:Int) (ns:List Int),σ=[some (.int c),some (.int m),some (.ref l),some (.int r),none]∧z0f H H2∧H2 l=some (.lst (ns.map V.int))∧k+ns.length=m∧∀ x∈ns,0≤x∧x < 1009,
  ⟨m,_,[],rfl,z04 (z0f.refl H) hl,z01,rfl,fun x hx=>by simp at hx⟩,?_⟩
 rintro k σ H2 ⟨r,ns,rfl,s2,e2,hk,hns⟩
 have hnl:(ns.map V.int).length=ns.length:=zLm _
 refine (exA rfl (exC rfl rfl (exA rfl (z34 (fun c1=>(exA rfl (exG l rfl (.inl (SqL.of e2)) (exA rfl (exC rfl rfl (exA rfl (z34 (fun c2=>?_) (fun c2=>?_)))))))) (fun c1=>z85 ?_)))))
 ·have c2':=of_decide_eq_true c2
  rw [hnl] at c2'
  have hkp:ns.length < m:=by lia
  refine zdt fun N nx2=>?_
  refine (exA rfl ⟨.inl ⟨rfl,_,SqL.of e2⟩,exA rfl (exC rfl rfl ⟨zbr,l,exC rfl rfl ⟨e2,by rw [hnl];exact z2E (by lia),?_⟩⟩)⟩)
  refine (exA rfl (exC rfl rfl ⟨⟨by decide,by decide⟩,nx2 (k - 1) _ _ (by lia) ⟨_,ns++[r % 1009],rfl,z09 s2 hl,?_,?_,z76 hns (za7 r)⟩⟩))
  ·rw [z01,List.map_append];rfl
  ·rw [List.length_append];show k - 1+(ns.length+1)=m;lia
 all_goals exact nx _ _ ⟨k,r,ns,rfl,s2,e2,hk,hns⟩
theorem zea:z0p ["_law_letters_here","_law_cell_here"] ["_law_letters_here","_law_cell_here"] (z05 z8J):={}
theorem zbJ {k:Addr} {kd:FuncData} (F:Fun K "_law_guise" "_law_guise" z8J f fd)
  (G:z0v P w K mg base CX 2 g gd ["_law_letters_here","_law_cell_here"] (za2 K)) (bG:z0o K gd ["_law_letters_here","_law_cell_here"] []) (kG:PySem.W.keepIn K (.ref g)=true) (mG:mg "_law_rows"=some (.ref g))
  (T:z0v P w K mg base CX 2 k kd ["_law_rows_here","_law_start"] (z8t K)) (bT:z0o K kd ["_law_rows_here","_law_start"] []) (kT:PySem.W.keepIn K (.ref k)=true) (mT:mg "_law_shrunk"=some (.ref k)):z0v P w K mg base CX 3 f fd ["_law_letters_here","_law_cell_here"] (z87 K):=by
 refine F.okc zea (fun vs H Q E h=>?_) (fun cdv A outer s H vs Q E hr h=>?_)
 ·obtain ⟨n,c,rfl,_⟩:=h
  rfl
 obtain ⟨n,c,rfl,h2,h5,q⟩:=h
 refine ⟨_,z06 (z0x (z0h T hr rfl mT kT bT .nil z0Q (z00 (z0h G hr rfl mG kG bG .nil z0Q (z00 (pv 0) (z00 (pv 1) z03))) (z00 z08 z03)))),?_⟩
 refine (exA rfl (exA rfl ⟨n,c,rfl,h2,h5,fun r H1 rows s1 hr1 G1 h8=>⟨r,n,rows,rfl,hr1,G1,by lia,fun v H2 s2 d=>q v H2 rows (s1.trans s2) G1 h8 d⟩⟩))
abbrev zcp:List Str:=["_law_letters_here","_law_cell_here","_law_nums","_law_many","_law_kind","_law_rows_here","_law_at","_law_pick","_law_first","_law_goings"]
theorem z2e:z0p zcp ["_law_letters_here","_law_cell_here"] (z05 z7J):={}
theorem z9L:z0Z zcp (z05 z7J) ["_law_k","_law_many","_law_pick"] [none,some 3,some 7] (csc [(".0",.local),("_law_k",.local),("_law_many",.free),("_law_pick",.free)]):={}
theorem z9H:z0Z zcp (z05 z7J) ["_law_to","_law_at","_law_many"] [none,some 6,some 3] (csc [(".0",.local),("_law_to",.local),("min",.globalImplicit),("_law_at",.free),("_law_many",.free)]):={}
theorem zbg:z0Z zcp (z05 z7J) ["_law_k","_law_goings","_law_letters_here","_law_many","_law_pick"] [none,some 9,some 0,some 3,some 7] (csc [(".0",.local),("_law_k",.local),("_law_goings",.free),("_law_letters_here",.free),("_law_many",.free),("_law_pick",.free)]):={}
theorem zds {k:Addr} {kd:FuncData} (F:Fun K "_law_rows" "_law_rows" z7J f fd) (mr:mg "range"=none) (mt:mg "tuple"=none) (mm:mg "min"=none)
  (G:z0v P w K mg base CX 1 g gd ["_law_cell_here","_law_many"] (z4r K)) (bG:z0o K gd ["_law_cell_here","_law_many"] []) (kG:PySem.W.keepIn K (.ref g)=true) (mG:mg "_law_numbers"=some (.ref g))
  (T:z0v P w K mg base CX 1 k kd ["_law_pick","_law_letters_here"] (zaP K)) (bT:z0o K kd ["_law_pick","_law_letters_here"] []) (kT:PySem.W.keepIn K (.ref k)=true) (mT:mg "_law_rearranged"=some (.ref k)):z0v P w K mg base CX 2 f fd ["_law_letters_here","_law_cell_here"] (za2 K):=by
 refine F.okc z2e (fun vs H Q E h=>?_) (fun cdv A outer s H vs Q E hr h=>?_)
 ·obtain ⟨n,c,rfl,_⟩:=h
  rfl
 obtain ⟨n,c,rfl,hn2,hn5,q⟩:=h
 refine ⟨_,z02 (z0e (i:=2) z2e.nd rfl (Or.inl rfl) (z0h G hr rfl mG kG bG .nil z0Q (z00 (pv 1) (z00 z08 z03))))
  (z02 (z0e (i:=3) z2e.nd rfl (Or.inr rfl) (z0A z1p z08 (z0A z1Q (z0R z1C (pv 2) z08 (fun _ _=>rfl)) z08)))
  (z02 (z0e (i:=4) z2e.nd rfl (Or.inl rfl) (z0A z1Q (z0R z1C (pv 2) z08 (fun _ _=>rfl)) z08))
  (z02 (z0e (i:=5) z2e.nd rfl (Or.inl rfl) (z1x z03))
  (z02 (z1R PassesOwn.never rfl (z1z rfl mr (z00 (pv 3) z03)) (z0a (i:=6) z2e.nd rfl (Or.inr rfl))
   (z02 (z0e (i:=7) z2e.nd rfl (Or.inr rfl) (zcy zdr (pv 2) (zaq (z0A z1p z08 (z0A z3Z z08 (pv 6)))) (zaq (z0A z1p z08 (z0A z3Z z08 (pv 6))))))
   (z02 (z0e (i:=8) z2e.nd rfl (Or.inl rfl) (z0h T hr rfl mT kT bT .nil z0Q (z00 (z0R z1C (pv 7) z08 (fun _ _=>rfl)) (z00 (pv 0) z03))))
   (z02 (z0e (i:=9) z2e.nd rfl (Or.inr rfl) (z0N rfl z9L (z1z rfl mr (z00 (pv 0) z03)) (fun _ _ _ _ _=>z0a (i:=0) z9L.nd rfl (Or.inl rfl)) (fun _ _ _ _ _=>z0A z1Q (z0R (ixL K rfl) (pv 2) (z0A z1p z08 (pv 0)) (fun _ _=>rfl)) (pv 1))))
   (z02 (PS.weak (tRI K) (z1V (z21 (z3X (pv 4) z08)) (z06 (z0e (i:=9) z2e.nd rfl (Or.inr rfl) (z0N rfl z9H (z1Y (pv 9)) (fun _ _ _ _ _=>z0a (i:=0) z9H.nd rfl (Or.inl rfl)) (fun _ _ _ _ _=>z0m (zae rfl) rfl mm PyProof.Rows.boot_min (z00 (z0A z56 (pv 2) z08) (z00 (z0A z1p (z0A z1p (pv 1) z08) (pv 0)) z03)))))) z0L) ?_)
   (z02 (PS.weak (tRI K) (z1V (z21 (z3X (pv 4) z08)) (z06 (z0e (i:=9) z2e.nd rfl (Or.inr rfl) (z0N rfl zbg (z1z rfl mr (z00 (pv 0) z03)) (fun _ _ _ _ _=>z0a (i:=0) zbg.nd rfl (Or.inl rfl)) (fun _ _ _ _ _=>zbN (z21 (z3X (pv 0) (z0A z1Q (z0A z4D (z0R (ixL K rfl) (pv 4) z08 (fun _ _=>rfl)) z08) (pv 2)))) (z0R (ixL K rfl) (pv 1) (pv 0) (fun _ _=>rfl)) (z0A z56 (pv 3) z08))))) z0L) ?_)
   (z02 (PS.weak (tRI K) (z1V (PT.weak (zgq (zeF K)) (PW.pt (zfQ (PW.pt (z6J (z6C z83 z83 z08 (pv 4) z08) (z4Q (z21 (z3X (pv 6) (z0A z56 (pv 3) z08)))))) (zel (PW.pt (z6J (z21 (z3X (pv 4) z08)) (z4Q (z21 (z3X (z0A z1Q (z0R z1C (pv 7) z08 (fun _ _=>rfl)) z08) z08)))))))) ?_)
    (z06 (z0e (i:=8) z2e.nd rfl (Or.inl rfl) (z0q (z5b rfl) rfl mt PyProof.Rows.boot_tuple (z00 (z0q z4d rfl mr PyProof.Rows.boot_range (z00 (pv 0) z03)) z03)))) z0L) ?_)
   (z02 (PS.weak (tRI K) (z1V (PT.weak (zgq (zeF K)) (PW.pt (z6J (z6C z83 z83 z08 (pv 4) z08) (z4Q (z21 (z3X (pv 6) (z0A z56 (pv 3) z08)))))) ?_)
    (z06 (z0e (i:=9) z2e.nd rfl (Or.inr rfl) (z0A zcC (z1x (z00 (pv 6) z03)) (pv 0)))) z0L) ?_)
   (z06 (z19 (z2X PySem.F.plainAttrs_list PySem.F.slot_list_append PySem.F.type_list_append z0J (pv 5) (z00 (z1I (z00 (pv 8) (z00 (z0q z0n rfl mt PyProof.Rows.boot_tuple (z00 (pv 9) z03)) z03))) z03))))))))))))
  (z06 (z0x (pv 5))))))),?_⟩
 ·intro D σ H h
  obtain ⟨n,m,c,kd,j,ln,lr,lp,ps,H0,rf,ri,nx⟩:=h
  obtain ⟨b,lg,p,gs,rfl,s0,db,hp,eg,hgl,hgr⟩:=ri.ex
  have h5:=rf.n5
  have hjm:=rf.jm
  refine (exA rfl (exC rfl rfl (exA rfl (z34 (fun _=>?_) (fun _=>nx _ _ ri)))))
  refine ⟨_,rfl,lg,rfl,⟨_,SqL.of eg⟩,fun l hl=>z2L (xs:=gs.map V.int) (GI m H) (GI.nil hl) (fun i ys H2 _ h=>by obtain ⟨_,_,_,_,s⟩:=h;exact SqL.of (s _ _ eg)) (by rw [zLm];exact z0G (by lia)) (fun i ys H2 h=>h.len) (fun i x ys H2 hx h hy=>?_) (fun ys H2 h hy=>?_)⟩
  ·have hil:i < gs.length:=by have:=(zGs.mp hx).1;rwa [zLm] at this
   have eg':gs[i]?=some gs[i]:=zGe hil
   obtain ⟨h0,h1⟩:=hgr _ (List.getElem_mem hil)
   generalize gs[i]=gi at eg' h0 h1
   have ex:x=V.int gi:=by rw [zGm,eg'] at hx;exact (Option.some.inj hx).symm
   subst ex
   exact (exA rfl (exC rfl rfl (exA rfl (exC rfl rfl (exA rfl (exC rfl rfl (exB rfl ⟨hy,h.snoc hl ⟨by split<;>lia,by split<;>lia⟩⟩)))))))
  ·obtain ⟨gs',rfl,el,r',s'⟩:=h
   rw [zLm] at el
   exact nx _ _ ⟨b,l,p,gs',rfl,s0.trans s',db.mono s',hp,hy,by lia,r'⟩
 ·intro D σ H h
  obtain ⟨n,m,c,kd,j,ln,lr,lp,ps,H0,rf,ri,nx⟩:=h
  obtain ⟨b,lg,p,gs,rfl,s0,db,hp,eg,hgl,hgr⟩:=ri.ex
  have h5:=rf.n5
  have h2:=rf.n2
  have hjm:=rf.jm
  have elp:=s0 _ _ rf.lp
  have h6:=rf.len
  have ep:ps[0]?=some ps[0]:=zGe (by lia)
  refine (exA rfl (exC rfl rfl (exA rfl (z34 (fun _=>?_) (fun _=>nx _ _ ri)))))
  refine (exA rfl ⟨(n:Int),rfl,by lia,by lia,fun l hl=>z2P (n:=(n:Int).toNat) (GI m H) (GI.nil hl) (z0G (by lia)) (fun i ys H2 h=>h.len) (fun i ys H2 hi h hy=>?_) (fun ys H2 h hy=>?_)⟩)
  ·have e0:(0:Int)+(i:Int)=(i:Int):=by lia
   rw [e0]
   have hil:i < gs.length:=by lia
   have eg':gs[i]?=some gs[i]:=zGe hil
   obtain ⟨h0,h1⟩:=hgr _ (List.getElem_mem hil)
   generalize gs[i]=gi at eg' h0 h1
   obtain ⟨_,_,_,_,s2⟩:=id h
   refine (exA rfl (exA rfl (exD lp _ _ (V.int ps[0]) rfl rfl (SqL.of (s2 _ _ elp)) (z0y (j:=0) (by rw [zGm,ep];rfl)) (exC rfl rfl ⟨⟨by decide,by decide⟩,exA rfl (exC rfl rfl ⟨zbr (by lia),exC rfl rfl (exA rfl (z34 (fun _=>?_) (fun _=>?_)))⟩)⟩))))
   ·exact (exA rfl (exA rfl (exD lg _ _ (V.int gi) rfl rfl (SqL.of (s2 _ _ eg)) (z0y (by rw [zGm,eg'];rfl)) ⟨hy,h.snoc hl ⟨h0,h1⟩⟩)))
   ·exact (exA rfl (exC rfl rfl ⟨hy,h.snoc hl ⟨by lia,by lia⟩⟩))
  ·obtain ⟨gs',rfl,el,r',s'⟩:=h
   exact nx _ _ ⟨b,l,p,gs',rfl,s0.trans s',db.mono s',hp,hy,by lia,r'⟩
 ·intro σ H Q h
  obtain ⟨⟨n,m,c,kd,j,ln,lr,lp,ps,H0,rf,ri⟩,q⟩:=h
  obtain ⟨b,lg,p,gs,rfl,s0,db,hp,eg,hgl,hgr⟩:=ri.ex
  have elp:=s0 _ _ rf.lp
  have h6:=rf.len
  have ep:ps[0]?=some ps[0]:=zGe (by lia)
  refine (exA rfl (exC rfl rfl (exA rfl (z34 (fun _=>(exC rfl rfl (exA rfl (z34 (fun _=>(exA rfl (exA rfl (exC rfl rfl (exC rfl rfl (exA rfl (z34 (fun _=>q _) (fun _=>?_)))))))) (fun _=>z85 ?_))))) (fun _=>(exA rfl (z85 (z85 ?_))))))))
  all_goals exact (exA rfl (exC rfl rfl (exA rfl (z34 (fun _=>(exA rfl (exD lp _ _ (V.int ps[0]) rfl rfl (SqL.of elp) (z0y (j:=0) (by rw [zGm,ep];rfl)) (exC rfl rfl ⟨zbr,exC rfl rfl (exA rfl (q _))⟩)))) (fun _=>q _)))))
 ·intro D σ H h
  obtain ⟨n,m,c,kd,j,ln,lr,lp,ps,H0,rf,ri,nx⟩:=h
  obtain ⟨b,lg,p,gs,rfl,s0,db,hp,eg,hgl,hgr⟩:=ri.ex
  have h5:=rf.n5
  refine ⟨⟨n,m,c,kd,j,ln,lr,lp,ps,H0,rf,ri⟩,fun cc=>z34 (fun _=>?_) (fun _=>nx _ _ ri)⟩
  refine (exA rfl ⟨(n:Int),rfl,by lia,by lia,fun r hr0=>⟨r,0,(n:Int),rfl,z01,⟨by decide,by decide,by lia,by lia⟩,by lia,fun l hl=>?_⟩⟩)
  have e:((n:Int) - 0).toNat=n:=by lia
  rw [e,z3w]
  have s':=z04 (o:=HO.tup ((z0r n).map V.int)) (z04 (o:=HO.rng 0 n) (z0f.refl H) hr0) hl
  exact nx _ _ ⟨.ref l,lg,z0r n,gs,rfl,s0.trans s',Dr.tup z01 (DrL.ints _),z8h n,s' _ _ eg,hgl,hgr⟩
 ·intro σ H Q h
  obtain ⟨⟨n,m,c,kd,j,ln,lr,lp,ps,H0,rf,ri⟩,q⟩:=h
  obtain ⟨b,lg,p,gs,rfl,s0,db,hp,eg,hgl,hgr⟩:=ri.ex
  exact (exA rfl (exC rfl rfl (exA rfl (z34 (fun _=>(exC rfl rfl (exA rfl (z34 (fun _=>(exA rfl (exA rfl (exC rfl rfl (exC rfl rfl (exA rfl (q _))))))) (fun _=>q _))))) (fun _=>(exA rfl (z85 (q _))))))))
 ·intro D σ H h
  obtain ⟨n,m,c,kd,j,ln,lr,lp,ps,H0,rf,ri,nx⟩:=h
  obtain ⟨b,lg,p,gs,rfl,s0,db,hp,eg,hgl,hgr⟩:=ri.ex
  have h5:=rf.n5
  have hjm:=rf.jm
  refine ⟨⟨n,m,c,kd,j,ln,lr,lp,ps,H0,rf,ri⟩,fun cc=>z34 (fun _=>?_) (fun _=>nx _ _ ri)⟩
  refine (exA rfl ⟨by show 1≤sizeLine;decide,fun l0 hl0=>(exA rfl ⟨l0,(n:Int),exA rfl ⟨rfl,z01,by lia,by lia,?_,fun l hl=>?_⟩⟩)⟩)
  ·show 1*(n:Int).toNat≤sizeLine
   exact z0G (by lia)
  have e:((n:Int)).toNat=n:=by lia
  rw [e,zfU]
  have s':=z04 (o:=HO.lst ((List.replicate n (j:Int)).map V.int)) (z04 (o:=HO.lst [V.int (j:Int)]) (z0f.refl H) hl0) hl
  exact nx _ _ ⟨b,l,p,List.replicate n (j:Int),rfl,s0.trans s',db.mono s',hp,z01,List.length_replicate,fun g hg=>by rw [(List.mem_replicate.mp hg).2];lia⟩
 refine (exA rfl ⟨c,64,rfl,by lia,fun ln H1 ns s1 e1 hns=>?_⟩)
 have hnl:=hns.1
 have en0:ns[0]?=some ns[0]:=zGe (by lia)
 have en1:ns[1]?=some ns[1]:=zGe (by lia)
 obtain ⟨m,hm⟩:=z3l (x:=(1:Int)+ns[0] % 8) (by lia)
 have hm1:1≤m:=by lia
 have hm8:m≤8:=by lia
 refine (exA rfl (exD ln _ _ (V.int ns[0]) rfl rfl (SqL.of e1) (z0y (j:=0) (by rw [zGm,en0];rfl)) (exC rfl rfl ⟨zbr,exC rfl rfl ?_⟩)))
 generalize ns[1]=n1 at en1
 refine (exA rfl (exD ln _ _ (V.int n1) rfl rfl (SqL.of e1) (z0y (j:=1) (by rw [zGm,en1];rfl)) (exC rfl rfl ⟨zbr,by show 0≤sizeLine;decide,fun lr hlr=>?_⟩)))
 obtain ⟨kd,hkd⟩:∃ kd,kd=n1 % 6:=⟨_,rfl⟩
 have s2:=z04 (o:=HO.lst []) (z0f.refl H1) hlr
 refine ⟨_,rfl,(m:Int),(by rw [←hm]),by lia,by lia,zcS (n:=(m:Int).toNat) (fun i σ H2=>∃ (u6 u7 u8 u9:Option V) (us:List V) (rs:List Row),σ=[some (.int n),some (.int c),some (.ref ln),some (.int m),some (.int kd),some (.ref lr),u6,u7,u8,u9]∧z0f H1 H2∧H2 lr=some (.lst us)∧DrL K H2 (z0l rs) us∧rs.length=i∧GR n m rs)
  ⟨_,_,_,_,[],[],(by rw [←hm,hkd];rfl),s2,z01,DrL.nil,rfl,fun r hr=>by simp at hr⟩ (fun i σ H2 hi h Ed nx3=>?_) (fun σ H2 h=>?_)⟩
 ·obtain ⟨u6,u7,u8,u9,us,rs,rfl,t2,elr,drs,hrl,gr⟩:=h
  have e0:(0:Int)+(i:Int)=(i:Int):=by lia
  rw [e0]
  have him:i < m:=by lia
  obtain ⟨ps,ecut,hp6,hpr⟩:=zh2 (i:=i) hns (by lia)
  have ep:ps[0]?=some ps[0]:=zGe (by lia)
  refine (exA rfl (exA rfl (exC rfl rfl ⟨.inl ⟨by decide,by decide⟩,exC rfl rfl (exA rfl (exA rfl (exC rfl rfl ⟨.inl ⟨by decide,by decide⟩,exC rfl rfl (exA rfl ⟨ln,exA rfl ⟨SqL.of (t2 _ _ e1),fun lp hlp=>?_⟩⟩)⟩)))⟩)))
  rw [ecut]
  have s3:=z04 (o:=HO.lst (ps.map V.int)) (z0f.refl H2) hlp
  refine (exA rfl (exD lp _ _ (V.int ps[0]) rfl rfl (SqL.of z01) (z0y (j:=0) (by rw [zGm,ep];rfl)) (exA rfl ⟨ps[0],n,rfl,by lia,fun b H3 s4 d3=>?_⟩)))
  have elp3:H3 lp=some (.lst (ps.map V.int)):=s4 _ _ z01
  refine (exA rfl ⟨(n:Int),rfl,by lia,by lia,fun lg hlg=>z2P (n:=(n:Int).toNat) (GI m H3) (GI.nil hlg) (z0G (by lia)) (fun i ys H h=>h.len) (fun k ys H4 hk h hy=>?_) (fun ys H4 h hy=>?_)⟩)
  ·have ek:(1:Int)+(0+(k:Int))=((1+k:Nat):Int):=by lia
   have ek':ps[1+k]?=some (ps[1+k]'(by lia)):=zGe (by lia)
   generalize ps[1+k]'(by lia)=pk at ek'
   obtain ⟨_,_,_,_,s5⟩:=id h
   refine (exA rfl (exA rfl (exC rfl rfl (exD lp _ _ (V.int pk) rfl rfl (SqL.of (s5 _ _ elp3)) ((by rw [ek];exact z0y (by rw [zGm,ek'];rfl))) (exA rfl (exC rfl rfl ⟨zbr (by lia),hy,h.snoc hlg ⟨?_,?_⟩⟩))))))
   ·exact Int.emod_nonneg _ (by lia)
   ·exact Int.emod_lt_of_pos _ (by lia)
  obtain ⟨gs,rfl,hgl,hgr,s5⟩:=h
  have rf:RF n m i ps lp H3:=⟨hn2,hn5,him,hm8,elp3,hp6,hpr⟩
  refine ⟨n,m,c,kd,i,ln,lr,lp,ps,H3,rf,⟨b,lg,_,gs,rfl,s5,d3.mono s5,z9x _ _,hy,by lia,hgr⟩,fun σ1 H5 r1=>⟨n,m,c,kd,i,ln,lr,lp,ps,H3,rf,r1,fun σ2 H6 r2=>⟨n,m,c,kd,i,ln,lr,lp,ps,H3,rf,r2,fun σ3 H7 r3=>⟨n,m,c,kd,i,ln,lr,lp,ps,H3,rf,r3,fun σ4 H8 r4=>?_⟩⟩⟩⟩
  clear hgl hgr hy
  obtain ⟨b,lg,p,gs,rfl,s0,db,hp,eg,hgl,hgr⟩:=r4.ex
  have s28:z0f H2 H8:=(s3.trans s4).trans s0
  refine (exA rfl ⟨.inl ⟨rfl,_,SqL.of (s28 _ _ elr)⟩,exA rfl (exA rfl ⟨lg,exA rfl (.inl ⟨SqL.of eg,fun t4 ht4=>⟨by show 2≤sizeLine;decide,fun t5 ht5=>?_⟩⟩)⟩)⟩)
  have s9:=z04 (o:=HO.tup (gs.map V.int)) (z0f.refl H8) ht4
  have s10:=z04 (o:=HO.tup [b,.ref t4]) s9 ht5
  have elr':=s10 _ _ (s28 _ _ elr)
  have hul:us.length=i:=by have:=drs.length;unfold z0l at this;rw [zLm] at this;lia
  refine ⟨lr,us,.ref t5,rfl,rfl,elr',z2E (by lia),?_⟩
  obtain ⟨b0,rfl,eb⟩:=Dr.its_inv db
  have kk:z0P H8 (upd (upd (upd H8 t4 (.tup (gs.map V.int))) t5 (.tup [.ref b0,.ref t4])) lr (.lst (us++[.ref t5]))):=z0P.up (z0P.of s10) elr' (fun _ z=>by cases z)
  have nt5:t5≠lr:=z36 z01 elr' (by intro z;cases z)
  have nt4:t4≠t5:=z0c z01 ht5
  have nt4f:t4≠lr:=z36 (show upd (upd H8 t4 (.tup (gs.map V.int))) t5 (.tup [.ref b0,.ref t4]) t4=some (.tup (gs.map V.int)) by rw [z07 nt4];exact z01) elr' (by intro z;cases z)
  refine nx3 _ _ ⟨_,_,_,_,us++[.ref t5],rs++[(p,gs)],rfl,z09 (t2.trans (s28.trans s10)) hlr,z01,?_,by rw [List.length_append,hrl];rfl,gr.snoc ⟨hp,hgl,hgr⟩⟩
  unfold z0l
  rw [List.map_append]
  refine DrL.append ((drs.mono s28).keyed kk (z1m _)) (DrL.one (z2J (r:=(p,gs)) (b:=b0) (c:=t4) ?_ (kk _ _ eb) ?_))
  ·rw [z07 nt5];exact z01
  ·rw [z07 nt4f,z07 nt4];exact z01
 ·obtain ⟨u6,u7,u8,u9,us,rs,rfl,t2,elr,drs,hrl,gr⟩:=h
  exact (exA rfl (q lr H2 rs (s1.trans t2) ⟨us,elr,drs⟩ (gr.good (by lia) hm1 (by lia)) (by lia)))
abbrev zgt:List Str:=["_law_rows_here","_law_line","_law_marks","_law_place","_law_heads","_law_row"]
abbrev zfn:List Str:=["_law_row","_law_marks","_law_place","_law_rows_here"]
abbrev zgd:Scope:=csc [(".0",.local),("_law_row",.local),("tuple",.globalImplicit),("_law_marks",.free),("_law_place",.free),("_law_rows_here",.free)]
theorem zc3:z0p zgt ["_law_rows_here","_law_line","_law_marks"] (z05 z51):={}
theorem zcZ:z0Z zgt (z05 z51) zfn [none,some 2,some 3,some 0] zgd:={}
abbrev zfS:Scope:=csc [(".0",.local),("_law_row",.local),("tuple",.globalImplicit),("_law_marks",.cell),("_law_place",.cell),("_law_rows_here",.cell)]
theorem zd5:z0Z zfn zfS ["_law_to","_law_marks","_law_place"] [none,some 1,some 2] (csc [(".0",.local),("_law_to",.local),("_law_marks",.free),("_law_place",.free)]):={}
theorem z9n (F:Fun K "_law_in_line" "_law_in_line" z51 f fd) (ml:mg "len"=none) (mt:mg "tuple"=none):z0v P w K mg base CX 1 f fd ["_law_rows_here","_law_line","_law_marks"] (z4p K):=by
 refine F.okc zc3 (fun vs H Q E h=>?_) (fun cdv A outer s H vs Q E hr h=>?_)
 ·obtain ⟨a,l,m,n,rows,nm,us,o,k,kvs,rfl,_⟩:=h
  rfl
 obtain ⟨a,l,m,n,rows,nm,us,o,k,kvs,rfl,Sa,da,ni,GM,hn,el,em,mk,L,cl,q⟩:=h
 have hu:=zcv hr
 refine ⟨_,z02 (z0e (i:=3) zc3.nd rfl (Or.inr rfl) z8M)
  (z02 (z0e (i:=4) zc3.nd rfl (Or.inl rfl) (z1x z03))
  (z02 (z1R PassesOwn.never rfl (z1Y (pv 1)) (z0a (i:=5) zc3.nd rfl (Or.inl rfl))
   (z06 (z1V (z21 (z4n hu (z3c hu (pv 2) (pv 5) (fun _ _=>rfl)) (pv 3)))
    (z02 (z6g hu (pv 3) (z3c hu (pv 2) (pv 5) (fun _ _=>rfl)) (z0m z0g rfl ml PySem.boot_len (z00 (pv 4) z03)) rfl)
    (z06 (z19 (z2X PySem.F.plainAttrs_list PySem.F.slot_list_append PySem.F.type_list_append z0J (pv 4) (z00 (pv 5) z03))))) z0L)))
  (z06 (z0x (z0q z0n rfl mt PyProof.Rows.boot_tuple (z00 (z0N rfl zcZ (z1Y (pv 4)) (fun _ _ _ _ _=>z0a (i:=0) zcZ.nd rfl (Or.inl rfl))
   (fun _ _ _ _ _=>z1I (z00 (z0q (zg9 K rfl) rfl mt PyProof.Rows.boot_tuple (z00 (z0R (ixT K rfl) (z0R (ixQ K rfl) (pv 3) (pv 0) (fun _ _=>rfl)) z08 (fun _ _=>rfl)) z03))
    (z00 (z0q (zg9 K rfl) rfl mt PyProof.Rows.boot_tuple (z00 (z0N rfl zd5 (piT K rfl (z0R (ixT K rfl) (z0R (ixQ K rfl) (pv 3) (pv 0) (fun _ _=>rfl)) z08 (fun _ _=>rfl))) (fun _ _ _ _ _=>z0a (i:=0) zd5.nd rfl (Or.inl rfl))
     (fun _ _ _ _ _=>z3c hu (pv 2) (z3c hu (pv 1) (pv 0) (fun _ _=>rfl)) (fun _ _=>rfl))) z03)) z03)))) z03)))))),?_⟩
 have hol:=L.len
 have h400:=GM.few
 have gk:∀ r∈o,z3d kvs (kN nm r)=some (V.int (k r)):=fun r hr=>by
  obtain ⟨v,hv,d⟩:=mk.get ni hr
  simp only [Dr] at d
  rw [hv,d]
 refine fun lp hlp=>⟨by show 0≤sizeLine;decide,fun lh hlh=>?_⟩
 have s1:=z04 (o:=HO.dK []) (z0f.refl H) hlp
 have hlh0:H lh=none:=s1.free hlh
 have nph:lp≠lh:=z0c z01 hlh
 have s2:=z04 (o:=HO.lst []) s1 hlh
 refine ⟨_,rfl,l,rfl,⟨_,SqL.of (s2 _ _ el)⟩,ze1 (xs:=o.map (nV nm)) (fun i σ H2=>∃ (u:Option V),σ=[some (.ref a),some (.ref l),some (.ref m),some (.ref lp),some (.ref lh),u]∧z0f H H2∧H2 lh=some (.lst ((z0w k (o.take i)).map (nV nm)))∧H2 lp=some (.dK (prs Sum.inl ((z0w k (o.take i)).map k))))
  ⟨_,rfl,s2,z01,by rw [z07 nph];exact z01⟩ (fun i σ H2 _ h=>by obtain ⟨_,_,t2,_⟩:=h;exact SqL.of (t2 _ _ el)) (fun i x σ H2 hx h Ed nx3=>?_) (fun σ H2 h=>?_)⟩
 ·obtain ⟨u,rfl,t2,e1,e2⟩:=h
  have hil:i < o.length:=by have:=(zGs.mp hx).1;rwa [zLm] at this
  have eo:o[i]?=some o[i]:=zGe hil
  have hro:o[i]∈o:=List.getElem_mem hil
  generalize o[i]=r at eo hro
  have ex:x=V.int (nm r):=by rw [zGm,eo] at hx;exact (Option.some.inj hx).symm
  subst ex
  have et:z0w k (o.take (i+1))=z0O k (z0w k (o.take i)) r:=by rw [List.take_add_one,eo];exact z1t k _ _
  have hhl:=(z1g k (o.take i)).2.2
  rw [List.length_take] at hhl
  generalize z0w k (o.take i)=hs at *
  have gm:z5G H2 m (V.int (nm r)) (some (V.int (k r))):=by rw [←gk r hro];exact z5G.k (k:=kN nm r) (t2 _ _ em)
  refine (exA rfl (exA rfl ⟨m,exA rfl ⟨gm,exA rfl ⟨lp,exA rfl ⟨z5G.k (k:=Sum.inl (k r)) e2,exA rfl ?_⟩⟩⟩⟩))
  have hv:=z1W (κ:=Key) Sum.inl z7A (hs.map k) (k r)
  by_cases hm:k r∈hs.map k
  ·rw [hv,if_pos hm]
   refine z85 (nx3 _ _ (exA rfl ⟨t2,?_,?_⟩))
   ·rw [et,z0O,if_pos hm];exact e1
   ·rw [et,z0O,if_pos hm];exact e2
  ·rw [hv,if_neg hm]
   have nlop:lh≠lp:=Ne.symm nph
   refine zda (exA rfl (exG lh rfl (.inl (SqL.of e1)) (exA rfl (exA rfl (exA rfl ⟨m,exA rfl ⟨gm,lp,exA rfl ⟨zcD.k (k:=Sum.inl (k r)) e2 (by rw [z1K,zLm];exact z1G (by lia)),?_⟩⟩⟩)))))
   have e1':upd H2 lp (.dK (z2Z (prs Sum.inl (hs.map k)) (Sum.inl (k r):Key) (V.int ((hs.map (nV nm)).length:Nat)))) lh=some (.lst (hs.map (nV nm))):=by rw [z07 nlop];exact e1
   refine (exA rfl ⟨.inl ⟨rfl,_,SqL.of e1'⟩,exA rfl ⟨lh,exC rfl rfl ⟨e1',by rw [zLm];exact z1G (by lia),?_⟩⟩⟩)
   refine nx3 _ _ (exA rfl ⟨z09 (z09 t2 hlp) hlh0,?_,?_⟩)
   ·rw [z01,et,z0O,if_neg hm,List.map_append];rfl
   ·rw [z07 nph,z01,et,z0O,if_neg hm,List.map_append]
    have:=z4J (κ:=Key) Sum.inl z7A hm
    rw [zLm] at this ⊢
    rw [this];rfl
 ·obtain ⟨u,rfl,t2,e1,e2⟩:=h
  rw [zLm,List.take_length] at e1 e2
  obtain ⟨hh1,hh2,hh3⟩:=z1g k o
  unfold z1P at q
  generalize z0w k o=hs at *
  refine (exA rfl ⟨lh,rfl,⟨_,SqL.of e1⟩,fun l3 hl3=>z2L (xs:=hs.map (nV nm)) (fun i ys H3=>i≤hs.length∧ys.length=i∧z0f H2 H3∧DrL K H3 (((hs.take i).map fun r=>z5i ((row rows r).1,(row rows r).2.map fun g=>(((hs.map k).idxOf (k g):Nat):Int)))) ys) ⟨Nat.zero_le _,rfl,z04 (z0f.refl H2) hl3,DrL.nil⟩ (fun i ys H3 _ h=>SqL.of (h.2.2.1 _ _ e1)) (by rw [zLm];exact z0G (by lia)) (fun i ys H3 h=>h.2.1) (fun i x ys H3 hx h hy=>?_) (fun ys H3 h hy=>?_)⟩)
  ·obtain ⟨_,hyl,s3,d3⟩:=h
   have hil:i < hs.length:=by have:=(zGs.mp hx).1;rwa [zLm] at this
   have eo:hs[i]?=some hs[i]:=zGe hil
   have hrh:hs[i]∈hs:=List.getElem_mem hil
   generalize hs[i]=r at eo hrh
   have hro:=hh2 r hrh
   have ex:x=V.int (nm r):=by rw [zGm,eo] at hx;exact (Option.some.inj hx).symm
   subst ex
   obtain ⟨r0,r1⟩:=L.rg r hro
   obtain ⟨nr0,v,ev,dv⟩:=da r r0 r1
   have t3:=t2.trans s3
   obtain ⟨t,b,cc,rfl,et,eb,ec⟩:=z0T (dv.mono t3)
   dsimp only [z42] at eb ec
   have hgl:=GM.len _ (z0k r0 r1)
   have hgo:=cl r hro
   have esn:=z0K (fun r=>z5i ((row rows r).1,(row rows r).2.map fun g=>(((hs.map k).idxOf (k g):Nat):Int))) eo
   generalize hrr:(row rows r).2=gs at *
   refine (exA rfl (exA rfl ⟨a,_,nm r,.ref t,rfl,rfl,Sa.mono t3,z1F nr0 ev,exD t _ _ (.ref b) rfl rfl (SqT.of et) (z0y (j:=0) rfl) ⟨b,exA rfl (.inr ⟨SqT.of eb,?_⟩)⟩⟩))
   refine (exA rfl (exA rfl ⟨a,_,nm r,.ref t,rfl,rfl,Sa.mono t3,z1F nr0 ev,exD t _ _ (.ref cc) rfl rfl (SqT.of et) (z0y (j:=1) rfl) ⟨cc,rfl,⟨_,SqT.of ec⟩,fun l4 hl4=>z1u (xs:=(gs.map nm).map V.int) (fun j zs H4=>j≤gs.length∧zs=((gs.take j).map fun g=>(((hs.map k).idxOf (k g):Nat):Int)).map V.int∧z0f H3 H4) ⟨Nat.zero_le _,rfl,z04 (z0f.refl H3) hl4⟩ (fun j zs H4 _ h=>SqT.of (h.2.2 _ _ ec)) (by rw [zLm,zLm];exact z0G (by lia)) (fun j zs H4 h=>?_) (fun j x zs H4 hx h hy4=>?_) (fun zs H4 h hy4=>?_)⟩⟩))
   ·obtain ⟨hj,rfl,_⟩:=h
    rw [zLm,zLm,List.length_take]
    lia
   ·obtain ⟨hj,rfl,s4⟩:=h
    have hjl:j < gs.length:=by have:=(zGs.mp hx).1;rwa [zLm,zLm] at this
    have eg:gs[j]?=some gs[j]:=zGe hjl
    have hgm:=hgo _ (List.getElem_mem hjl)
    generalize gs[j]=gj at eg hgm
    have ex:x=V.int (nm gj):=by rw [zGm,zGm,eg] at hx;exact (Option.some.inj hx).symm
    subst ex
    have t4:=t3.trans s4
    have gm:z5G H4 m (V.int (nm gj)) (some (V.int (k gj))):=by rw [←gk gj hgm];exact z5G.k (k:=kN nm gj) (t4 _ _ em)
    have hv:=z1W (κ:=Key) Sum.inl z7A (hs.map k) (k gj)
    rw [if_pos (hh1 gj hgm)] at hv
    refine (exA rfl (exA rfl (exA rfl ⟨m,exA rfl ⟨gm,lp,exA rfl ⟨(by rw [←hv];exact z5G.k (k:=Sum.inl (k gj)) (s4 _ _ (s3 _ _ e2))),hy4,hjl,?_,z09 s4 hl4⟩⟩⟩)))
    rw [z0K _ eg,List.map_append]
    rfl
   ·obtain ⟨_,rfl,s4⟩:=h
    rw [zLm,zLm,List.take_length] at hy4
    refine ⟨l4,exA rfl (.inl ⟨SqL.of hy4,fun t4 ht4=>⟨by show 2≤sizeLine;decide,fun t5 ht5=>?_⟩⟩)⟩
    have s5:=z04 (o:=HO.tup ((gs.map fun g=>(((hs.map k).idxOf (k g):Nat):Int)).map V.int)) s4 ht4
    have s6:=z04 (o:=HO.tup [.ref b,.ref t4]) s5 ht5
    have hy6:=s6 _ _ hy
    refine ⟨hy6,hil,by rw [List.length_append,hyl];rfl,z09 (s3.trans s6) hl3,?_⟩
    have kk:z0P H3 (upd (upd (upd H4 t4 (.tup ((gs.map fun g=>(((hs.map k).idxOf (k g):Nat):Int)).map V.int))) t5 (.tup [.ref b,.ref t4])) l3 (.lst (ys++[.ref t5]))):=z0P.up (z0P.of s6) hy6 (fun _ z=>by cases z)
    have nt5:t5≠l3:=z36 z01 hy6 (by intro z;cases z)
    have nt4:t4≠t5:=z0c z01 ht5
    have nt4f:t4≠l3:=z36 (show upd (upd H4 t4 (.tup ((gs.map fun g=>(((hs.map k).idxOf (k g):Nat):Int)).map V.int))) t5 (.tup [.ref b,.ref t4]) t4=_ by rw [z07 nt4];exact z01) hy6 (by intro z;cases z)
    rw [esn]
    refine DrL.append (d3.keyed kk (by have:=z1m ((hs.take i).map fun r=>((row rows r).1,(row rows r).2.map fun g=>(((hs.map k).idxOf (k g):Nat):Int)));unfold z0l at this;rw [List.map_map] at this;exact this)) (DrL.one (z2J (b:=b) (c:=t4) ?_ (kk _ _ eb) ?_))
    ·rw [z07 nt5];exact z01
    ·rw [z07 nt4f,z07 nt4];exact z01
  ·obtain ⟨_,_,s3,d3⟩:=h
   rw [zLm,List.take_length] at d3
   refine ⟨l3,exA rfl (.inl ⟨SqL.of hy,fun t ht=>?_⟩)⟩
   refine q _ _ ((t2.trans s3).trans (z04 (z0f.refl H3) ht)) (Dr.tup z01 ?_)
   unfold z0l
   rw [List.map_map]
   exact d3.mono (z04 (z0f.refl H3) ht)
abbrev zgB:List Str:=["_law_rows_here","_law_start","_law_line","_law_marks","_law_at","_law_to","_law_many","_law_grown","_law_known","_law_fresh","_law_row","_law_key"]
theorem z38:z0p zgB ["_law_rows_here","_law_start"] (z05 z3J):={}
theorem zen:z0Z zgB (z05 z3J) ["_law_to","_law_marks"] [none,some 3] (csc [(".0",.local),("_law_to",.local),("_law_marks",.free)]):={}
theorem z9O (u:List D) (d:D) (hn:u.Nodup):z2Z (prs id u) d ((z3d (prs id u) d).getD (V.int ((prs id u).length:Nat)))=prs id (z2d u d):=by
 have hv:z3d (prs id u) d=_:=z1W id (fun _ _ e=>e) u d
 by_cases hm:d∈u
 ·rw [hv,if_pos hm,z0t hm]
  have:=z6O 0 u d hm hn
  rw [Nat.zero_add] at this
  exact this
 ·rw [hv,if_neg hm,z0u hm,←z4J id (fun _ _ e=>e) hm]
  rw [z1K]
  rfl
theorem z9m (F:Fun K "_law_shrunk" "_law_shrunk" z3J f fd) (ml:mg "len"=none) (mt:mg "tuple"=none)
  (G:z0v P w K mg base CX 1 g gd ["_law_rows_here","_law_line","_law_marks"] (z4p K)) (bG:z0o K gd ["_law_rows_here","_law_line","_law_marks"] []) (kG:PySem.W.keepIn K (.ref g)=true) (mG:mg "_law_in_line"=some (.ref g)):z0v P w K mg base CX 2 f fd ["_law_rows_here","_law_start"] (z4O K):=by
 refine F.okc z38 (fun vs H Q E h=>?_) (fun cdv A outer s H vs Q E hr h=>?_)
 ·obtain ⟨a,n,rows,nm,us,rfl,_⟩:=h
  rfl
 obtain ⟨a,n,rows,nm,us,rfl,Sa,da,ni,GM,hn,q⟩:=h
 have hu:=zcv hr
 have hu9:(A.deeper (PyProof.Rows.envOfC "_law_shrunk" (z05 z3J) s.heap.objs.size f cdv)).units+9 < cLine:=by have:=hr.units;lia
 refine ⟨_,z02 (z0e (i:=2) z38.nd rfl (Or.inl rfl) (z1x (z00 (pv 1) z03)))
  (z02 (z0e (i:=3) z38.nd rfl (Or.inr rfl) (zaL (z66 (pv 1) (z0R z1w (z0R (ixQ K rfl) (pv 0) (pv 1) (fun _ _=>rfl)) z08 (fun _ _=>rfl)) z7Z) rfl rfl (by simp) (by decide)))
  (z02 (z0e (i:=4) z38.nd rfl (Or.inl rfl) z08)
  (z02 (z2t PassesOwn.never (z18 z5U (pv 4) (z0m z0g rfl ml PySem.boot_len (z00 (pv 2) z03)) (z1e _))
   (z02 (z1R PassesOwn.never rfl (z23 (z0R z1w (z0R (ixQ K rfl) (pv 0) (z0R z1C (pv 2) (pv 4) (fun _ _=>rfl)) (fun _ _=>rfl)) z08 (fun _ _=>rfl))) (z0a (i:=5) z38.nd rfl (Or.inl rfl))
    (z06 (z1V (z21 (z4n hu (pv 5) (pv 3)))
     (z02 (z6g hu (pv 3) (pv 5) (z0R z1w (z0R (ixQ K rfl) (pv 0) (pv 5) (fun _ _=>rfl)) z08 (fun _ _=>rfl)) rfl)
     (z06 (z19 (z2X PySem.F.plainAttrs_list PySem.F.slot_list_append PySem.F.type_list_append z0J (pv 2) (z00 (pv 5) z03))))) z0L)))
   (z06 (zeT (i:=4) z38.nd rfl (Or.inl rfl) z08 zeP))))
  (z02 (z0e (i:=6) z38.nd rfl (Or.inl rfl) z08)
  (z02 (z0e (i:=7) z38.nd rfl (Or.inl rfl) z9K)
  (z02 (z2t PassesOwn.never (zcE (pv 7))
   (z02 (z0e (i:=8) z38.nd rfl (Or.inl rfl) (zaS (K:=K)))
   (z02 (z0e (i:=9) z38.nd rfl (Or.inl rfl) z8M)
   (z02 (z1R PassesOwn.never rfl (z1Y (pv 2)) (z0a (i:=10) z38.nd rfl (Or.inl rfl))
    (z02 (z0e (i:=11) z38.nd rfl (Or.inl rfl) (z1I (z00 (z3c hu (pv 3) (pv 10) (fun _ _=>rfl)) (z00 (z0q z0n rfl mt PyProof.Rows.boot_tuple (z00
     (z0N rfl zen (z23 (z0R z1w (z0R (ixQ K rfl) (pv 0) (pv 10) (fun _ _=>rfl)) z08 (fun _ _=>rfl))) (fun _ _ _ _ _=>z0a (i:=0) zen.nd rfl (Or.inl rfl)) (fun _ _ _ _ _=>z3c hu (pv 1) (pv 0) (fun _ _=>rfl))) z03)) z03))))
    (z02 (z7r (K:=K) hu9 (pv 8) (pv 11) (zby (K:=K) hu9 (pv 8) (pv 11) (z0m (zce K) rfl ml PySem.boot_len (z00 (pv 8) z03)) ⟨rfl,rfl,rfl,rfl⟩))
    (z06 (z6g hu (pv 9) (pv 10) (zbf (K:=K) hu9 (pv 8) (pv 11) (fun _ _=>rfl)) rfl)))))
   (z02 (z0e (i:=7) z38.nd rfl (Or.inl rfl) (z7w zbb (z0m (zce K) rfl ml PySem.boot_len (z00 (pv 8) z03)) (pv 6) (z1e _)))
   (z02 (z0e (i:=6) z38.nd rfl (Or.inl rfl) (z0m (zce K) rfl ml PySem.boot_len (z00 (pv 8) z03)))
   (z06 (z0e (i:=3) z38.nd rfl (Or.inr rfl) (pv 9)))))))))
  (z06 (z0x (z0h G hr rfl mG kG bG .nil z0Q (z00 (pv 0) (z00 (pv 2) (z00 (pv 3) z03)))))))))))),?_⟩
 have h400:=GM.few
 have h1:=GM.some
 have hz1:(0:Int) < (rows.length:Int):=by lia
 refine (exA rfl ⟨by show 1≤sizeLine;decide,fun lo hlo=>?_⟩)
 refine fun lm hlm=>(exA rfl ?_)
 have s1:=z04 (o:=HO.lst [V.int (nm 0)]) (z0f.refl H) hlo
 have s2:=z04 (o:=HO.dK []) s1 hlm
 have nlo:lo≠lm:=z0c z01 hlm
 have hlm0:H lm=none:=s1.free hlm
 obtain ⟨nz0,v0,ev0,dv0⟩:=da 0 (Int.le_refl 0) hz1
 obtain ⟨t0,b0,c0,rfl,et0,eb0,ec0⟩:=z0T (dv0.mono s2)
 refine (exA rfl (exA rfl ⟨a,_,nm 0,.ref t0,rfl,rfl,Sa.mono s2,z1F nz0 ev0,exD t0 _ _ (.ref b0) rfl rfl (SqT.of et0) (z0y (j:=0) rfl) ⟨z01,[(Sum.inl (nm 0),V.ref b0)],rfl,by simp,?_⟩⟩))
 have s3:z0f H (upd (upd (upd H lo (.lst [.int (nm 0)])) lm (.dK [])) lm (.dK (z3S [] [(Sum.inl (nm 0),V.ref b0)]))):=z09 s2 hlm0
 have hF0:=FK.its rows
 have L0:=za1 GM
 have OL:=z0s GM
 have hol:=OL.1.len
 show z6I _ _ _ _ _
 refine zgI (fun σ' H'=>∃ (i0:Int) (o:List Int) (u5:Option V) (kvs:List (Key × V)),σ'=[some (.ref a),some (.int (nm 0)),some (.ref lo),some (.ref lm),some (.int i0),u5,none,none,none,none,none,none]∧z0f H H'∧H' lo=some (.lst (o.map (nV nm)))∧H' lm=some (.dK kvs)∧MkN nm K H' o (fun r=>D.its (row rows r).1) kvs∧z6D rows o∧z0d rows=o) (fun Ed nx=>?_) (fun σ' H' p=>?_)
 rotate_left
 ·obtain ⟨i0,o,u5,kvs,rfl,t2,glo,glm,mk2,L,eoo⟩:=p
  have cl:∀ r∈o,∀ g∈(row rows r).2,g∈o:=by have:=OL.2;rwa [eoo] at this
  have hln:=L.len
  refine ⟨fun m σ H3=>∃ (f:Int→D) (many:Nat) (gr:Bool) (lm:Addr) (kvs:List (Key × V)) (u8 u9 u10 u11:Option V),σ=[some (.ref a),some (.int (nm 0)),some (.ref lo),some (.ref lm),some (.int i0),u5,some (.int many),some (.bl gr),u8,u9,u10,u11]∧z0f H H3∧H3 lo=some (.lst (o.map (nV nm)))∧H3 lm=some (.dK kvs)∧MkN nm K H3 o f kvs∧FK f ∧
    ((gr=true∧o.length+2≤m+many∧many≤o.length∧z55 rows o m many f=z5C rows)∨(gr=false∧f=z5C rows)),
   ⟨rows.length+2,_,0,true,lm,kvs,_,_,_,_,rfl,t2,glo,glm,mk2,hF0,.inl ⟨rfl,by lia,by lia,by unfold z5C;rw [eoo]⟩⟩,?_⟩
  clear glm mk2
  rintro m σ H3 ⟨f,many,gr,lm,kvs,u8,u9,u10,u11,rfl,t3,elo,elm,mk3,hf,alt⟩
  refine (exA rfl (exA rfl (z34 (fun c=>?_) (fun c=>?_))))
  ·obtain ⟨_,hm1,hm2,hsl⟩:=alt.resolve_right fun z=>by rw [z.1] at c;cases c
   clear alt
   refine zdt fun N nx2=>?_
   intro lk hlk ob0 g0 lf hlf
   have s4:=z04 (o:=ob0) (z0f.refl H3) hlk
   have hlf0:H3 lf=none:=s4.free hlf
   have nkf:lk≠lf:=z0c z01 hlf
   have s5:=z04 (o:=HO.dK []) s4 hlf
   refine ⟨_,rfl,lo,rfl,⟨_,SqL.of (s5 _ _ elo)⟩,ze1 (xs:=o.map (nV nm)) (fun i σ H4=>∃ (u10 u11:Option V) (kv4:List (Key × V)),σ=[some (.ref a),some (.int (nm 0)),some (.ref lo),some (.ref lm),some (.int i0),u5,some (.int many),some (.bl gr),some (.ref lk),some (.ref lf),u10,u11]∧z0f H3 H4∧DD P w K H4 lk (prs id (z0D ((z2b rows o f).take i)))∧H4 lf=some (.dK kv4)∧MkN nm K H4 (o.take i) (z33 rows o f) kv4)
    ⟨_,_,[],rfl,s5,?_,z01,MkN.nil⟩ (fun i σ H4 _ h=>by obtain ⟨_,_,_,_,t4,_⟩:=h;exact SqL.of (t4 _ _ elo)) (fun i x σ H4 hx h Ed nx3=>?_) (fun σ H4 h=>?_)⟩
   ·exact g0.mono (z04 (z0f.refl _) hlf)
   ·obtain ⟨u10,u11,kv4,rfl,t4,g4,elf,mk4⟩:=h
    have hil:i < o.length:=by have:=(zGs.mp hx).1;rwa [zLm] at this
    have eo:o[i]?=some o[i]:=zGe hil
    have hro:o[i]∈o:=List.getElem_mem hil
    have hnew:o[i]∉o.take i:=zdv L.nd eo
    generalize o[i]=r at eo hro hnew
    have ex:x=V.int (nm r):=by rw [zGm,eo] at hx;exact (Option.some.inj hx).symm
    subst ex
    obtain ⟨r0,r1⟩:=L.rg r hro
    have t34:=t3.trans t4
    obtain ⟨nr0,vr,evr,dvr⟩:=da r r0 r1
    obtain ⟨t,b,cc,rfl,et,eb,ec⟩:=z0T (dvr.mono t34)
    dsimp only [z42] at eb ec
    have hgl:=GM.len _ (z0k r0 r1)
    have hgo:=cl r hro
    obtain ⟨v,hv,dv⟩:=mk3.get ni hro
    have gm:z5G H4 lm (V.int (nm r)) (some v):=by rw [←hv];exact z5G.k (k:=kN nm r) (t4 _ _ elm)
    have ekey:z1D rows f r=D.tup [f r,D.tup ((row rows r).2.map f)]:=rfl
    have ks:=hf.key (rows:=rows) r
    have esk:(z2b rows o f)[i]?=some (z1D rows f r):=by unfold z2b;rw [zGm,eo];rfl
    have hidx:(((z0D ((z2b rows o f).take (i+1))).idxOf (z1D rows f r):Nat):Int)=z2D rows o f r:=by
     unfold z2D
     obtain ⟨m2,e2⟩:=z0I ((z2b rows o f).drop (i+1)) (z0D ((z2b rows o f).take (i+1)))
     have e3:z0D (z2b rows o f)=z0D ((z2b rows o f).take (i+1))++m2:=by
      rw [←e2]
      unfold z0D z0b
      rw [←List.foldl_append,List.take_append_drop]
     rw [e3,z4j]
     refine z0E.mpr (.inr ?_)
     rw [List.take_add_one,esk]
     simp
    have hun:z0D ((z2b rows o f).take (i+1))=z2d (z0D ((z2b rows o f).take i)) (z1D rows f r):=by
     unfold z0D
     rw [List.take_add_one,esk]
     exact z1r _ _ _
    have hund:(z0D ((z2b rows o f).take i)).Nodup:=z27 _ _ List.nodup_nil
    have hunl:(z0D ((z2b rows o f).take i)).length≤4000:=by
     have:=z4L ((z2b rows o f).take i)
     rw [List.length_take] at this
     lia
    rw [hun] at hidx
    generalize z0D ((z2b rows o f).take i)=un at *
    generalize hgs:(row rows r).2=gs at *
    dsimp only [zcA]
    refine zfv (fun σ' H'=>∃ t7:Addr,σ'=[some (.ref a),some (.int (nm 0)),some (.ref lo),some (.ref lm),some (.int i0),u5,some (.int many),some (.bl gr),some (.ref lk),some (.ref lf),some (.int (nm r)),some (.ref t7)]∧z0f H4 H'∧Dr K H' (z1D rows f r) (.ref t7)) (fun Eq nxq=>?_) (fun σ' H7 p=>?_)
    rotate_left
    ·obtain ⟨t7,rfl,s47,dk⟩:=p
     have g7:=g4.mono s47
     have e7f:=s47 _ _ elf
     have t7':=t4.trans s47
     refine (exA rfl ⟨lk,exA rfl ⟨g7,exA rfl (exA rfl ⟨lk,exA rfl ⟨g7,_,_,g7,zbs ks dk,exA rfl (exA rfl ⟨lk,exB rfl ⟨g7,zbs ks dk,by rw [z1K];exact z1G (by lia),fun ob g8=>?_⟩⟩)⟩⟩)⟩⟩)
     rw [z9O un _ hund] at g8
     have k8:z0P H7 (upd H7 lk ob):=by
      obtain ⟨xs,e0,_⟩:=g7
      exact z0P.up (z0P.refl _) e0 (fun _ z=>by unfold zaW at z;cases z)
     have dk8:=dk.keyed k8 ks.1
     have hval:z3d (prs id (z2d un (z1D rows f r))) (z1D rows f r)=some (V.int (z2D rows o f r)):=by
      have:=z1W (κ:=D) id (fun _ _ e=>e) (z2d un (z1D rows f r)) (z1D rows f r)
      rw [if_pos (zcr _ _),hidx] at this
      exact this
     have e8f:upd H7 lk ob lf=some (.dK kv4):=by rw [z07 nkf.symm];exact e7f
     refine (exA rfl (exA rfl ⟨lk,_,exB rfl ⟨g8,zbs ks dk8,hval,exA rfl (exA rfl ⟨lf,exA rfl ⟨zcD.k (k:=kN nm r) e8f (by rw [mk4.len,List.length_take];exact z1G (by lia)),?_⟩⟩)⟩⟩))
     have k9:z0P (upd H7 lk ob) (upd (upd H7 lk ob) lf (.dK (z2Z kv4 (kN nm r) (V.int (z2D rows o f r))))):=z0P.up (z0P.refl _) e8f (fun _ z=>by cases z)
     refine nx3 _ _ ⟨_,exB rfl ⟨z09 (z09 t7' hlk) hlf0,?_,z01,?_⟩⟩
     ·rw [hun]
      exact DD.keyed g8 k9 (by rw [z07 nkf])
     ·rw [List.take_add_one,eo]
      exact (mk4.mono s47).put ni hnew (((mk4.mono s47).keyed k8 (FK.int _)).keyed k9 (FK.int _)) (Dr.int _)
    refine (exA rfl (exA rfl ⟨lm,v,rfl,gm,exA rfl (exA rfl ⟨a,_,nm r,.ref t,rfl,rfl,Sa.mono t34,z1F nr0 evr,exD t _ _ (.ref cc) rfl rfl (SqT.of et) (z0y (j:=1) rfl) ⟨cc,rfl,⟨_,SqT.of ec⟩,fun l5 hl5=>z1u (xs:=(gs.map nm).map V.int) (fun j zs H5=>j≤gs.length∧zs.length=j∧z0f H4 H5∧DrL K H5 ((gs.take j).map f) zs) ⟨Nat.zero_le _,rfl,z04 (z0f.refl H4) hl5,DrL.nil⟩ (fun j zs H5 _ h=>SqT.of (h.2.2.1 _ _ ec)) (by rw [zLm,zLm];exact z0G (by lia)) (fun j zs H5 h=>h.2.1) (fun j x zs H5 hx h hy5=>?_) (fun zs H5 h hy5=>?_)⟩⟩)⟩))
    ·obtain ⟨hj,hzl,s5',d5⟩:=h
     have hjl:j < gs.length:=by have:=(zGs.mp hx).1;rwa [zLm,zLm] at this
     have eg:gs[j]?=some gs[j]:=zGe hjl
     have hgm:=hgo _ (List.getElem_mem hjl)
     generalize gs[j]=gj at eg hgm
     have ex:x=V.int (nm gj):=by rw [zGm,zGm,eg] at hx;exact (Option.some.inj hx).symm
     subst ex
     obtain ⟨vg,hvg,dvg⟩:=mk3.get ni hgm
     have gmg:z5G H5 lm (V.int (nm gj)) (some vg):=by rw [←hvg];exact z5G.k (k:=kN nm gj) (s5' _ _ (t4 _ _ elm))
     have kk:z0P H5 (upd H5 l5 (.lst (zs++[vg]))):=z0P.up (z0P.refl _) hy5 (fun _ z=>by cases z)
     refine (exA rfl (exA rfl ⟨lm,vg,rfl,gmg,hy5,hjl,by rw [List.length_append,hzl];rfl,z09 s5' hl5,?_⟩))
     rw [z0K _ eg]
     exact DrL.append (d5.keyed kk (hf.keyL _)) (DrL.one ((dvg.mono (t4.trans s5')).keyed kk (hf gj).1))
    ·obtain ⟨_,hzl,s5',d5⟩:=h
     rw [zLm,zLm,List.take_length] at d5
     refine ⟨l5,exA rfl (.inl ⟨SqL.of hy5,fun t6 ht6=>⟨by show 2≤sizeLine;decide,fun t7 ht7=>?_⟩⟩)⟩
     have s6:=z04 (o:=HO.tup zs) (z0f.refl H5) ht6
     have s7:=z04 (o:=HO.tup [v,.ref t6]) s6 ht7
     have s47:=s5'.trans s7
     have nt6:t6≠t7:=z0c z01 ht7
     have dk:Dr K (upd (upd H5 t6 (.tup zs)) t7 (.tup [v,.ref t6])) (z1D rows f r) (.ref t7):=by
      rw [ekey]
      exact Dr.tup z01 (DrL.cons (dv.mono (t4.trans s47)) (DrL.one (Dr.tup (by rw [z07 nt6];exact z01) (d5.mono s7))))
     exact nxq _ _ ⟨t7,rfl,s47,dk⟩
   ·obtain ⟨u10,u11,kv4,rfl,t4,g4,elf,mk4⟩:=h
    rw [zLm] at g4 mk4
    rw [List.take_length] at mk4
    rw [List.take_of_length_le (by unfold z2b;rw [zLm];lia)] at g4
    have hcl:=z6X rows o f
    refine (exA rfl ⟨lk,exA rfl ⟨g4,exA rfl (exC rfl rfl (exA rfl ⟨lk,exA rfl ⟨g4,exA rfl ?_⟩⟩))⟩⟩)
    have hpl:(prs id (z0D (z2b rows o f))).length=z2w rows o f:=z1K _ _ _
    cases m with
    | zero=>lia
    | succ m =>
     refine nx2 m _ _ (Nat.lt_succ_self m) ⟨z33 rows o f,z2w rows o f,decide ((many:Int) < (z2w rows o f:Nat)),lf,kv4,_,_,_,_,(by rw [←hpl];rfl),t3.trans t4,t4 _ _ elo,elf,mk4,FK.int _,?_⟩
     unfold z55 at hsl
     by_cases hc:many < z2w rows o f
     ·rw [if_pos hc] at hsl
      exact .inl ⟨decide_eq_true (by lia),by lia,hcl,hsl⟩
     ·rw [if_neg hc] at hsl
      exact .inr ⟨decide_eq_false (by lia),hsl⟩
  ·rcases alt with ⟨hg,_⟩ | ⟨_,hfs⟩
   ·exact absurd hg c
   refine (exA rfl (exA rfl (exA rfl ⟨a,lo,lm,n,rows,nm,us,o,kOf rows,kvs,rfl,Sa.mono t3,da.mono t3,ni,GM,hn,elo,elm,?_,L,cl,fun v H4 s4 d4=>?_⟩)))
   ·rw [hfs,z5m rows] at mk3;exact mk3
   ·refine q v H4 (t3.trans s4) ?_
    unfold shr
    rw [eoo]
    exact d4
 refine ⟨fun m σ H2=>∃ (i:Nat) (o:List Int) (u5:Option V) (kvs:List (Key × V)),m=rows.length+1 - i∧σ=[some (.ref a),some (.int (nm 0)),some (.ref lo),some (.ref lm),some (.int i),u5,none,none,none,none,none,none]∧z0f H H2∧H2 lo=some (.lst (o.map (nV nm)))∧H2 lm=some (.dK kvs) ∧
   MkN nm K H2 o (fun r=>D.its (row rows r).1) kvs∧z6D rows o∧i≤o.length∧bfs rows (rows.length+1 - i) i o=z0d rows,
  ⟨_,0,[0],none,_,rfl,rfl,s3,?_,z01,?_,L0,by simp,rfl⟩,?_⟩
 ·rw [z07 nlo,z07 nlo];exact z01
 ·refine ⟨[.ref b0],rfl,?_⟩
  show DrL K _ [D.its (row rows 0).1] [.ref b0]
  exact DrL.one (Dr.tup (by rw [z07 (z36 eb0 z01 (by intro z;cases z))];exact eb0) (DrL.ints _))
 rintro m σ H2 ⟨i,o,u5,kvs,rfl,rfl,t2,glo,glm,mk2,L,hi,hb⟩
 have hol2:(o.map (nV nm)).length=o.length:=zLm _
 refine (exA rfl (exA rfl (exG lo rfl (.inl (SqL.of glo)) (exC rfl rfl (exA rfl (z34 (fun c=>?_) (fun c=>?_)))))))
 ·have c':=of_decide_eq_true c
  rw [hol2] at c'
  have hio:i < o.length:=by lia
  have eo:o[i]?=some o[i]:=zGe hio
  have hro:o[i]∈o:=List.getElem_mem hio
  generalize o[i]=r at eo hro
  obtain ⟨r0,r1⟩:=L.rg r hro
  obtain ⟨nr0,v,ev,dv⟩:=da r r0 r1
  obtain ⟨t,b,cc,rfl,et,eb,ec⟩:=z0T (dv.mono t2)
  dsimp only [z42] at eb ec
  have hrow:=z0k r0 r1
  have hgl:=GM.len _ hrow
  have hgo:=GM.go _ hrow
  have hlen:=L.len
  refine zdt fun N nx2=>?_
  refine (exA rfl (exA rfl (exA rfl (exD lo _ _ (V.int (nm r)) rfl rfl (SqL.of glo) (z0y (by rw [zGm,eo];rfl)) ⟨a,_,nm r,.ref t,rfl,rfl,Sa.mono t2,z1F nr0 ev,exD t _ _ (.ref cc) rfl rfl (SqT.of et) (z0y (j:=1) rfl) ⟨cc,rfl,⟨_,SqT.of ec⟩,?_⟩⟩))))
  generalize hgs:(row rows r).2=gs at *
  refine zfY (xs:=(gs.map nm).map V.int) (fun j σ H3=>∃ (u:Option V) (kv3:List (Key × V)),σ=[some (.ref a),some (.int (nm 0)),some (.ref lo),some (.ref lm),some (.int i),u,none,none,none,none,none,none]∧z0f H H3∧z0P H2 H3∧H3 lo=some (.lst ((z0b o (gs.take j)).map (nV nm)))∧H3 lm=some (.dK kv3)∧MkN nm K H3 (z0b o (gs.take j)) (fun r=>D.its (row rows r).1) kv3)
   ⟨_,kvs,rfl,t2,z0P.refl _,glo,glm,mk2⟩ (fun j σ H3 _ h=>by obtain ⟨_,_,_,_,k3,_⟩:=h;exact SqT.of (k3 _ _ ec)) (fun j x σ H3 hx h Ed nx3=>?_) (fun σ H3 h=>?_)
  ·obtain ⟨u,kv3,rfl,t3,k3,e1,e2,mk3⟩:=h
   have hjl:j < gs.length:=by have:=(zGs.mp hx).1;rwa [zLm,zLm] at this
   have eg:gs[j]?=some gs[j]:=zGe hjl
   obtain ⟨g0,g1⟩:=hgo _ (List.getElem_mem hjl)
   generalize gs[j]=gj at eg g0 g1
   have ex:x=V.int (nm gj):=by rw [zGm,zGm,eg] at hx;exact (Option.some.inj hx).symm
   subst ex
   have et':z0b o (gs.take (j+1))=z2d (z0b o (gs.take j)) gj:=by rw [List.take_add_one,eg];exact z1r _ _ _
   have hal:(z0b o (gs.take j)).length≤4500:=by
    have:=z1M (gs.take j) o
    rw [List.length_take] at this
    lia
   generalize z0b o (gs.take j)=oj at *
   refine (exA rfl (exA rfl ⟨lm,exA rfl ⟨z5G.k (k:=kN nm gj) e2,exA rfl ?_⟩⟩))
   by_cases hm:gj∈oj
   ·obtain ⟨v',hv',_⟩:=mk3.get ni hm
    rw [hv']
    refine z85 (nx3 _ _ ⟨_,kv3,rfl,t3,k3,?_,e2,?_⟩)
    ·rw [et',z0t hm];exact e1
    ·rw [et',z0t hm];exact mk3
   ·rw [mk3.no ni hm]
    have nlop:lo≠lm:=nlo
    obtain ⟨ng0,v',ev',dv'⟩:=da gj g0 g1
    obtain ⟨t',b',c'',rfl,et'',eb'',ec''⟩:=z0T (dv'.mono t3)
    refine zda (exA rfl (exA rfl ⟨a,_,nm gj,.ref t',rfl,rfl,Sa.mono t3,z1F ng0 ev',exD t' _ _ (.ref b') rfl rfl (SqT.of et'') (z0y (j:=0) rfl) (exA rfl (exA rfl ⟨lm,exA rfl ⟨zcD.k (k:=kN nm gj) e2 (by rw [mk3.len];exact z1G (by lia)),?_⟩⟩))⟩))
    have e1':upd H3 lm (.dK (z2Z kv3 (kN nm gj) (V.ref b'))) lo=some (.lst (oj.map (nV nm))):=by rw [z07 nlop];exact e1
    refine (exA rfl ⟨.inl ⟨rfl,_,SqL.of e1'⟩,exA rfl ⟨lo,exC rfl rfl ⟨e1',by rw [zLm];exact z1G (by lia),?_⟩⟩⟩)
    have kk:z0P H3 (upd (upd H3 lm (.dK (z2Z kv3 (kN nm gj) (V.ref b')))) lo (.lst (oj.map (nV nm)++[V.int (nm gj)]))):=z0P.up (z0P.up (z0P.refl _) e2 (fun _ z=>by cases z)) e1' (fun _ z=>by cases z)
    refine nx3 _ _ (exB rfl ⟨z09 (z09 t3 hlm0) hlo,k3.trans kk,?_,(by rw [z07 nlo.symm];exact z01),?_⟩)
    ·rw [z01,et',z0u hm,List.map_append];rfl
    ·rw [et',z0u hm]
     exact mk3.put ni hm (mk3.keyed kk hF0) (Dr.tup (kk _ _ eb'') (DrL.ints _))
  ·obtain ⟨u,kv3,rfl,t3,k3,e1,e2,mk3⟩:=h
   rw [zLm,zLm,List.take_length] at e1 mk3
   obtain ⟨mm,em⟩:=z3K rows (rows.length+1 - (i+1)) (i+1) (z0b o gs)
   have hb':bfs rows (rows.length+1 - (i+1)) (i+1) (z0b o gs)=z0d rows:=by
    rw [←hb,show rows.length+1 - i=(rows.length+1 - (i+1))+1 by lia,z2U eo,hgs]
   have L':z6D rows (z0b o gs):=by rw [←hgs];exact L.add GM hro
   obtain ⟨m1,em1⟩:=z0I gs o
   have hi':i+1≤(z0b o gs).length:=by rw [em1,List.length_append];lia
   exact (exA rfl (exC rfl rfl (nx2 (rows.length+1 - (i+1)) _ _ (by lia) ⟨i+1,z0b o gs,_,kv3,rfl,rfl,t3,e1,e2,mk3,L',hi',hb'⟩)))
 have c':=of_decide_eq_false (Bool.eq_false_iff.mpr c)
 rw [hol2] at c'
 have eoo:z0d rows=o:=by rw [←hb];exact z2Q (by lia)
 exact nx _ _ ⟨_,o,u5,kvs,rfl,t2,glo,glm,mk2,L,eoo⟩
abbrev nMv:List Str:=["guise","many"]
theorem zhc:z0p nMv ["guise","many"] (z05 z7n):={}
abbrev zgJ:List Str:=["rearranging","goings","many"]
theorem zfI:z0Z nMv (z05 z7n) zgJ [none,none,some 1] (csc [(".0",.local),("rearranging",.local),("goings",.local),("tuple",.globalImplicit),("many",.free)]):={}
abbrev zhn:Scope:=csc [(".0",.local),("rearranging",.local),("goings",.local),("tuple",.globalImplicit),("many",.cell)]
theorem zeE:z0Z zgJ zhn ["going","many"] [none,some 2] (csc [(".0",.local),("going",.local),("many",.free)]):={}
theorem zbB (F:Fun K "rows_moved" "rows_moved" z7n f fd) (mt:mg "tuple"=none):z0v P w K mg base CX 1 f fd ["guise","many"] (z7C K):=by
 refine F.okc zhc (fun vs H Q E h=>?_) (fun cdv A outer s H vs Q E hr h=>?_)
 ·obtain ⟨v,o,g,rfl,_⟩:=h
  rfl
 obtain ⟨v,o,gr,rfl,dv,h400,h60,q⟩:=h
 obtain ⟨av,us,rfl,eav,dus⟩:∃ (av:Addr) (us:List V),v=.ref av∧H av=some (.tup us)∧DrL K H (z0l gr) us:=by
  simp only [Dr] at dv
  exact dv
 have hul:us.length=gr.length:=by have:=dus.length;unfold z0l at this;rw [zLm] at this;lia
 refine ⟨_,z06 (z0x (z0N rfl zfI (z23 (pv 0)) (fun _ _ _ _ _=>pgT K (n:=2) rfl rfl (z0i (z0a (i:=0) zfI.nd rfl (Or.inl rfl)) (z0i (z0a (i:=1) zfI.nd rfl (Or.inl rfl)) z0Y))) (fun _ _ _ _ _=>z1I (z00 (pv 0) (z00 (z0q (zg9 K rfl) rfl mt PyProof.Rows.boot_tuple (z00 (z0N rfl zeE (piT K rfl (pv 1)) (fun _ _ _ _ _=>z0a (i:=0) zeE.nd rfl (Or.inl rfl)) (fun _ _ _ _ _=>z0A z1p (pv 0) (pv 1))) z03)) z03))))),?_⟩
 refine (exA rfl ⟨av,rfl,⟨_,SqT.of eav⟩,fun l3 hl3=>z1u (xs:=us) (fun i ys H3=>i≤gr.length∧ys.length=i∧z0f H H3∧DrL K H3 ((gr.take i).map fun r=>z5i (z42 (fun x=>x+(o:Int)) r)) ys) ⟨Nat.zero_le _,rfl,z04 (z0f.refl H) hl3,DrL.nil⟩ (fun i ys H3 _ h=>SqT.of (h.2.2.1 _ _ eav)) (by rw [hul];exact z0G (by lia)) (fun i ys H3 h=>h.2.1) (fun i x ys H3 hx h hy=>?_) (fun ys H3 h hy=>?_)⟩)
 ·obtain ⟨_,hyl,s3,d3⟩:=h
  have hil:i < gr.length:=by have:=(zGs.mp hx).1;lia
  have er:gr[i]?=some gr[i]:=zGe hil
  have hrm:=h60 _ (List.getElem_mem hil)
  obtain ⟨x',ex,dx⟩:=z1X dus er
  rw [hx] at ex
  cases ex
  generalize gr[i]=ri at er dx hrm
  obtain ⟨t,b,cc,rfl,et,eb,ec⟩:=z0T (dx.mono s3)
  have esn:=z0K (fun r=>z5i (z42 (fun x=>x+(o:Int)) r)) er
  have eR:z42 (fun x=>x+(o:Int)) ri=(ri.1,ri.2.map fun x=>x+(o:Int)):=rfl
  rw [eR] at esn
  generalize ri.1=fs at *
  generalize ri.2=gs at *
  refine (exF t rfl (SqT.of et) rfl (exB rfl (exC rfl rfl ?_)))
  refine (exA rfl (exA rfl ⟨cc,rfl,⟨_,SqT.of ec⟩,fun l4 hl4=>z1u (xs:=gs.map V.int) (fun j zs H4=>j≤gs.length∧zs=((gs.take j).map fun x=>x+(o:Int)).map V.int∧z0f H3 H4) ⟨Nat.zero_le _,rfl,z04 (z0f.refl H3) hl4⟩ (fun j zs H4 _ h=>SqT.of (h.2.2 _ _ ec)) (by rw [zLm];exact z0G (by lia)) (fun j zs H4 h=>?_) (fun j x zs H4 hx h hy4=>?_) (fun zs H4 h hy4=>?_)⟩))
  ·obtain ⟨hj,rfl,_⟩:=h
   rw [zLm,zLm,List.length_take]
   lia
  ·obtain ⟨hj,rfl,s4⟩:=h
   have hjl:j < gs.length:=by have:=(zGs.mp hx).1;rwa [zLm] at this
   have eg:gs[j]?=some gs[j]:=zGe hjl
   generalize gs[j]=gj at eg
   have ex:x=V.int gj:=by rw [zGm,eg] at hx;exact (Option.some.inj hx).symm
   subst ex
   refine (exA rfl (exA rfl (exC rfl rfl ⟨hy4,hjl,?_,z09 s4 hl4⟩)))
   rw [z0K _ eg,List.map_append]
   rfl
  ·obtain ⟨_,rfl,s4⟩:=h
   rw [zLm,List.take_length] at hy4
   refine ⟨l4,exA rfl (.inl ⟨SqL.of hy4,fun t4 ht4=>⟨by show 2≤sizeLine;decide,fun t5 ht5=>?_⟩⟩)⟩
   have s5:=z04 (o:=HO.tup ((gs.map fun x=>x+(o:Int)).map V.int)) s4 ht4
   have s6:=z04 (o:=HO.tup [.ref b,.ref t4]) s5 ht5
   have hy6:=s6 _ _ hy
   refine ⟨hy6,hil,by rw [List.length_append,hyl];rfl,z09 (s3.trans s6) hl3,?_⟩
   have kk:z0P H3 (upd (upd (upd H4 t4 (.tup ((gs.map fun x=>x+(o:Int)).map V.int))) t5 (.tup [.ref b,.ref t4])) l3 (.lst (ys++[.ref t5]))):=z0P.up (z0P.of s6) hy6 (fun _ z=>by cases z)
   have nt5:t5≠l3:=z36 z01 hy6 (by intro z;cases z)
   have nt4:t4≠t5:=z0c z01 ht5
   have nt4f:t4≠l3:=z36 (show upd (upd H4 t4 (.tup ((gs.map fun x=>x+(o:Int)).map V.int))) t5 (.tup [.ref b,.ref t4]) t4=_ by rw [z07 nt4];exact z01) hy6 (by intro z;cases z)
   rw [esn]
   refine DrL.append (d3.keyed kk (by have:=z1m ((gr.take i).map (z42 fun x=>x+(o:Int)));unfold z0l at this;rw [List.map_map] at this;exact this)) (DrL.one (z2J (r:=(fs,gs.map fun x=>x+(o:Int))) (b:=b) (c:=t4) ?_ (kk _ _ eb) ?_))
   ·rw [z07 nt5];exact z01
   ·rw [z07 nt4f,z07 nt4];exact z01
 ·obtain ⟨_,_,s3,d3⟩:=h
  rw [hul,List.take_length] at d3
  refine q l3 H3 s3 ⟨ys,hy,?_⟩
  unfold z0l mvR
  rw [List.map_map]
  exact d3
abbrev nBr:List Str:=["first","guises","branches","begun_at","guise","rows"]
theorem zf8:z0p nBr ["first","guises"] (z05 z1h):={}
abbrev zgE:Scope:=csc [("at",.local),("rows",.free)]
theorem zho:z0Z nBr (z05 z1h) ["at","rows"] [none,some 5] zgE:={}
theorem zh9:zeh ["at","rows"] ["at"] zgE:={}
theorem z7v {k b Ct cc:Addr} {kd bd:FuncData} {Ts:List Tb} {T0:Tb} (F:Fun K "branched" "branched" z1h f fd) (hcd:fd.code=.ref cc) (hC:PySem.W.CodeHd base cc T0.at_) (hB:z41 base mg) (hT:T0∈Ts) (hTn:∀ T'∈Ts,T'.at_=T0.at_→T'=T0) (hTp:T0.pos=z3s (z0F z1h)) (hTq:T0.qual=("branched.<locals>."++"<lambda>":Str)) (ml:mg "len"=none) (mt:mg "tuple"=none)
  (M:z0v P w K mg base (CXx P w) 6 b bd ["guise","many"] (z7C K)) (bM:z0o K bd ["guise","many"] []) (kM:PySem.W.keepIn K (.ref b)=true) (mM:mg "rows_moved"=some (.ref b))
  (T:z0v P w K mg base (CXx P w) 6 k kd ["first","row_at"] (z3v P w K mg base (CXx P w) 4 Ct)) (bT:z0o K kd ["first","row_at"] []) (kT:PySem.W.keepIn K (.ref k)=true) (mT:mg "least_form"=some (.ref k)):z0v P w K mg base (CXx P w) 7 f fd ["first","guises"] (z3M Ts K Ct):=by
 refine F.okL hcd zf8 (fun vs H Q E h=>?_) (fun A outer s H vs Q E hr h=>?_)
 ·obtain ⟨v,a,n,first,gs,rfl,_⟩:=h
  rfl
 obtain ⟨v,a,n,first,gs,rfl,hTb,dv,⟨us,ea,dus⟩,BI,hn,gv,gx⟩:=h
 refine ⟨_,z02 (z0e (i:=2) zf8.nd rfl (Or.inl rfl) (z1x z03))
  (z02 (z0e (i:=3) zf8.nd rfl (Or.inl rfl) (z1x z03))
  (z02 (z1R PassesOwn.leaving rfl (z1Y (pv 1)) (z0a (i:=4) zf8.nd rfl (Or.inl rfl))
   (z02 (z19 (z2X PySem.F.plainAttrs_list PySem.F.slot_list_append PySem.F.type_list_append z0J (pv 3) (z00 (z0A z1p z08 (z0m z0g rfl ml PySem.boot_len (z00 (pv 2) z03))) z03)))
   (z06 (z19 (z2X PySem.F.plainAttrs_list PySem.F.slot_list_extend PySem.F.type_list_extend zag (pv 2) (z00 (z0h M hr rfl mM kM bM .nil z0Q (z00 (pv 4) (z00 (z0A z1p z08 (z0m z0g rfl ml PySem.boot_len (z00 (pv 2) z03))) z03))) z03))))))
  (z02 (z0e (i:=5) zf8.nd rfl (Or.inr rfl) (z0A zeU (z1x (z00 (z1I (z00 (pv 0) (z00 (z0q z0n rfl mt PyProof.Rows.boot_tuple (z00 (pv 3) z03)) z03))) z03)) (pv 2)))
  (z06 (z0x (z47 (Ts:=Ts) (T:=T0) T hr rfl mT kT bT (z6z fun _ _ _ z=>z) z08 (fun σ H Q Q' h q=>h _ _ q) zho rfl hC hB (fun _=>rfl) hT hTn hTp hTq)))))),?_⟩
 obtain ⟨af,rfl,eaf⟩:=Dr.its_inv dv
 have hul:us.length=gs.length:=by have:=dus.length;rw [zLm] at this;lia
 have hgl:=BI.len
 refine ⟨by show 0≤sizeLine;decide,fun lb hlb=>⟨by show 0≤sizeLine;decide,fun lh hlh=>?_⟩⟩
 have s1:=z04 (o:=HO.lst []) (z0f.refl H) hlb
 have hlh0:H lh=none:=s1.free hlh
 have nbh:lb≠lh:=z0c z01 hlh
 have s2:=z04 (o:=HO.lst []) s1 hlh
 refine ⟨_,rfl,a,rfl,⟨_,SqL.of (s2 _ _ ea)⟩,z8H (xs:=us) (fun i σ H3=>∃ (u4:Option V) (bs:List V),σ=[some (.ref af),some (.ref a),some (.ref lb),some (.ref lh),u4,none]∧z0f H H3∧H3 lb=some (.lst bs)∧H3 lh=some (.lst ((hds 1 (gs.take i)).map V.int))∧DrL K H3 (z0l (blk 1 (gs.take i))) bs)
  ⟨_,[],rfl,s2,(by rw [z07 nbh];exact z01),z01,DrL.nil⟩ (fun i σ H3 _ h=>by obtain ⟨_,_,_,t3,_⟩:=h;exact SqL.of (t3 _ _ ea)) (fun i x σ H3 hx h=>?_) (fun σ H3 h=>?_)⟩
 ·obtain ⟨u4,bs,rfl,t3,eb,eh,db⟩:=h
  have hil:i < gs.length:=by have:=(zGs.mp hx).1;lia
  have eg:gs[i]?=some gs[i]:=zGe hil
  have Gg:=BI.good _ (List.getElem_mem hil)
  have hfew:=zaH BI i (by lia)
  have hfew1:=zaH BI (i+1) (by lia)
  obtain ⟨x',ex,dx⟩:=dus.get (show (gs.map fun g=>D.tup (z0l g))[i]?=some (D.tup (z0l gs[i])) by rw [zGm,eg];rfl)
  rw [hx] at ex
  cases ex
  generalize gs[i]=gi at eg Gg dx
  have est:gs.take (i+1)=gs.take i++[gi]:=by rw [List.take_add_one,eg];rfl
  rw [est,z65,List.length_append,z1E] at hfew1
  have hbl:bs.length=(blk 1 (gs.take i)).length:=by have:=db.length;unfold z0l at this;rw [zLm] at this;lia
  have hhl:(hds 1 (gs.take i)).length≤60:=by rw [z4w,List.length_take];lia
  rw [est,z65,z90]
  have e1:(1:Int)+((bs.length:Nat):Int)=((1+(blk 1 (gs.take i)).length:Nat):Int):=by lia
  generalize blk 1 (gs.take i)=B at *
  generalize hds 1 (gs.take i)=Hd at *
  refine (exA rfl ⟨.inl ⟨rfl,_,SqL.of eh⟩,exA rfl (exG lb rfl (.inl (SqL.of eb)) (exC rfl rfl ⟨lh,exC rfl rfl ⟨eh,z2E (by rw [zLm];lia),?_⟩⟩))⟩)
  have kk:z0P H3 (upd H3 lh (.lst (Hd.map V.int++[V.int (1+((bs.length:Nat):Int))]))):=z0P.up (z0P.refl _) eh (fun _ z=>by cases z)
  have t4:z0f H (upd H3 lh (.lst (Hd.map V.int++[V.int (1+((bs.length:Nat):Int))]))):=z09 t3 hlh0
  have eb4:upd H3 lh (.lst (Hd.map V.int++[V.int (1+((bs.length:Nat):Int))])) lb=some (.lst bs):=by rw [z07 nbh];exact eb
  have eh4:upd H3 lh (.lst (Hd.map V.int++[V.int (1+((bs.length:Nat):Int))])) lh=some (.lst ((Hd++[((1+B.length:Nat):Int)]).map V.int)):=by rw [z01,e1,List.map_append];rfl
  have db4:=db.keyed kk (z1m _)
  generalize upd H3 lh (.lst (Hd.map V.int++[V.int (1+((bs.length:Nat):Int))]))=H4 at t4 eb4 eh4 db4
  refine (exA rfl ⟨.inl ⟨rfl,_,SqL.of eb4⟩,exA rfl (exA rfl (exG lb rfl (.inl (SqL.of eb4)) (exC rfl rfl ⟨x,1+B.length,gi,(by rw [←e1];rfl),dx.mono t4,by lia,fun r hr=>by rw [Gg.len r hr];lia,fun r H5 s5 hz8=>?_⟩)))⟩)
  obtain ⟨zs,er,dz⟩:=hz8
  have hzl:zs.length=gi.length:=by have:=dz.length;unfold z0l at this;rw [zLm,z1E] at this;lia
  refine ⟨lb,r,bs,zs,rfl,rfl,s5 _ _ eb4,er,z0G (by lia),?_⟩
  have k5:z0P H5 (upd H5 lb (.lst (bs++zs))):=z0P.up (z0P.refl _) (s5 _ _ eb4) (fun _ z=>by cases z)
  refine ⟨_,bs++zs,rfl,z09 (t4.trans s5) hlb,z01,?_,?_⟩
  ·rw [z07 nbh.symm];exact s5 _ _ eh4
  ·unfold z0l
   rw [List.map_append]
   exact DrL.append ((db4.mono s5).keyed k5 (z1m _)) (dz.keyed k5 (z1m _))
 ·obtain ⟨u4,bs,rfl,t3,eb,eh,db⟩:=h
  rw [hul,List.take_length] at eh db
  have GB:=z62 BI.p BI.len BI.good BI.few
  have hbl:bs.length=(blk 1 gs).length:=by have:=db.length;unfold z0l at this;rw [zLm] at this;lia
  have hB400:=BI.few
  rw [z4l] at hB400
  refine (exA rfl (exA rfl ⟨lh,exA rfl (.inl ⟨SqL.of eh,fun t1 ht1=>⟨by show 2≤sizeLine;decide,fun t2 ht2=>⟨by show 1≤sizeLine;decide,fun l5 hl5=>?_⟩⟩⟩)⟩))
  have s4:=z04 (o:=HO.tup ((hds 1 gs).map V.int)) (z0f.refl H3) ht1
  have s5:=z04 (o:=HO.tup [.ref af,.ref t1]) (z0f.refl _) ht2
  have s6:=z04 (o:=HO.lst [.ref t2]) (z0f.refl _) hl5
  have e1:=s6 _ _ (s5 _ _ (show upd H3 t1 (HO.tup ((hds 1 gs).map V.int)) t1=_ from z01))
  have e2:=s6 _ _ (show upd (upd H3 t1 (HO.tup ((hds 1 gs).map V.int))) t2 (HO.tup [.ref af,.ref t1]) t2=_ from z01)
  have e3:upd (upd (upd H3 t1 (HO.tup ((hds 1 gs).map V.int))) t2 (HO.tup [.ref af,.ref t1])) l5 (HO.lst [.ref t2]) l5=some (.lst [.ref t2]):=z01
  have s36:=s4.trans (s5.trans s6)
  generalize upd (upd (upd H3 t1 (HO.tup ((hds 1 gs).map V.int))) t2 (HO.tup [.ref af,.ref t1])) l5 (HO.lst [.ref t2])=H6 at s36 e1 e2 e3
  refine (exA rfl ⟨l5,lb,exC rfl rfl ⟨e3,s36 _ _ eb,z0G (by simp only [List.length_cons,List.length_nil];lia),fun l7 hl7=>?_⟩⟩)
  have s7:=z04 (o:=HO.lst ([V.ref t2]++bs)) (z0f.refl H6) hl7
  have e7:upd H6 l7 (HO.lst ([V.ref t2]++bs)) l7=some (.lst (V.ref t2::bs)):=z01
  generalize upd H6 l7 (HO.lst ([V.ref t2]++bs))=H7 at s7 e7
  have s37:=s36.trans s7
  have d7:DrL K H7 (z0l (brM first gs)) (V.ref t2::bs):=by
   unfold brM z0l
   rw [List.map_cons]
   refine DrL.cons (z2J (r:=(first,hds 1 gs)) (s7 _ _ e2) ((t3.trans s37) _ _ eaf) (s7 _ _ e1)) (db.mono s37)
  have t7:=t3.trans s37
  refine ⟨z3R.mono hTb t7,fun fa H8 cs f1 f2 f3 C=>?_⟩
  have fin:∀ {H9:Hp},z0f H8 H9→z0X Ts H (utk H9 cs):=fun s9=>(z0f.l t7).trans (f2 _ s9)
  have e8:=f1 _ _ (fun _ z=>by cases z) e7
  have d8:DrL K H8 (z0l (brM first gs)) (V.ref t2::bs):=d7.monoL (Ts:=[]) ⟨f1,fun _ _ h=>absurd h (by simp)⟩
  refine ⟨fa,n,brM first gs,fun i=>i,rfl,fun _ _ e=>e,?_,GB,hn,fun h6 v H9 s9 d=>gv h6 v _ (fin s9) (d.nfr (NFr.utk f3 s9)),fun h6 e H9 s9=>gx h6 e _ (fin s9)⟩
  refine z2Y.lam (k:=3) C zh9 (fun _ _ _ _ us hl=>match us,hl with | [_],_=>rfl) rfl (fun vs H Q h=>?_) (fun H' s' A outer s cd clos cs vs Q hr nf h=>?_)
  ·obtain ⟨i,rfl,_⟩:=h
   rfl
  obtain ⟨i,rfl,h0,h1,gq⟩:=h
  refine ⟨_,z0R z1C (pv 1) (pv 0) (fun _ _=>rfl),?_⟩
  obtain ⟨v,ev,dv⟩:=z1X d8 (z2p h0 h1)
  refine (exA rfl (exA rfl ⟨l7,_,i,v,rfl,rfl,nf.seq (SqL.of (s' _ _ e8)),z1F h0 ev,fun hc=>?_⟩))
  have sr:=z0f.rtk (H:=H') (H1:=utk H' cs) (cs:=cs) (z0f.refl _)
  refine gq v _ sr ?_
  rw [z7M]
  exact (dv.mono s').mono sr
abbrev zgM:List Str:=["letters","word"]
theorem zg0:z0p zgM ["letters","word"] (z05 z4C):={}
theorem zek:z0Z zgM (z05 z4C) ["letter","letters"] [none,some 0] (csc [(".0",.local),("letter",.local),("letters",.free)]):={}
def zd1 (n:Nat) (l:Int):Bool:=!(decide (0≤l) && decide (l < (n:Int)))
theorem z8v {n:Nat} {w:List Int}:((w.map (zd1 n)).any _root_.id=true)↔¬ LW n w:=by
 unfold LW zd1
 rw [List.any_map]
 simp only [List.any_eq_true,Function.comp,_root_.id,Bool.not_eq_true',Bool.and_eq_false_iff,decide_eq_false_iff_not]
 constructor
 ·rintro ⟨x,hx,h⟩ z
  have:=z x hx
  lia
 ·intro h
  apply Classical.byContradiction
  intro h2
  exact h fun l hl=>Classical.byContradiction fun h3=>h2 ⟨l,hl,by lia⟩
theorem zaU {Ct:Addr} {bmB:List Value} {B newId initId:String} (mC:mg "BadWord"=some (.ref Ct)) (xC:PySem.W.excIn K Ct bmB newId=true) (hB:ExcBaseFacts B newId initId bmB) (F:Fun K "check_word" "check_word" z4C f fd) (many:mg "any"=none):z0v P w K mg base (CXx P w) 1 f fd ["letters","word"] (z3g K Ct):=by
 refine F.okx zg0 (fun vs H Q E h=>?_) (fun cdv A outer s H vs Q E hr h=>?_)
 ·obtain ⟨n,u,w,rfl,_⟩:=h
  rfl
 obtain ⟨n,u,w,rfl,dw,h5,q,qx⟩:=h
 obtain ⟨a,rfl,ea⟩:=Dr.its_inv dw
 refine ⟨_,z06 (z1V (zcE (z0m (zhr K rfl rfl) rfl many PyProof.Rows.boot_any (z00 (z0N rfl zek (z23 (pv 1)) (fun _ _ _ _ _=>z0a (i:=0) zek.nd rfl (Or.inl rfl)) (fun _ _ _ _ _=>zeS (zbL z83 z5U z08 (pv 0) (pv 1)))) z03))) (z06 (z2S mC rfl xC hB z5o)) z0L),?_⟩
 refine (exA rfl ⟨a,rfl,⟨_,SqT.of ea⟩,fun l hl0=>z1u (xs:=w.map V.int) (fun i ys H4=>i≤w.length∧ys=((w.take i).map (zd1 n)).map V.bl∧z0f H H4) ⟨Nat.zero_le _,rfl,z04 (z0f.refl H) hl0⟩ (fun i ys H4 _ h=>SqT.of (h.2.2 _ _ ea)) (by rw [zLm];exact z0G (by lia)) (fun i ys H4 h=>?_) (fun i x ys H4 hx h hy=>?_) (fun ys H4 h hy=>?_)⟩)
 ·obtain ⟨_,rfl,_⟩:=h
  rw [zLm,zLm,List.length_take];lia
 ·obtain ⟨_,rfl,s4⟩:=h
  have hil:i < w.length:=by have:=(zGs.mp hx).1;rwa [zLm] at this
  have eg:w[i]?=some w[i]:=zGe hil
  generalize w[i]=gi at eg
  have ex:x=V.int gi:=by rw [zGm,eg] at hx;exact (Option.some.inj hx).symm
  subst ex
  have et:(w.take (i+1)).map (zd1 n)=(w.take i).map (zd1 n)++[zd1 n gi]:=z0K _ eg
  refine (exA rfl (exC rfl rfl (exA rfl (z34 (fun c=>(exA rfl (exC rfl rfl (exA rfl ⟨hy,hil,?_,z09 s4 hl0⟩)))) (fun c=>(exA rfl ⟨hy,hil,?_,z09 s4 hl0⟩))))))
  ·rw [et,List.map_append]
   have c':=of_decide_eq_true c
   unfold zd1
   rw [decide_eq_true c',Bool.true_and]
   rfl
  ·rw [et,List.map_append]
   have c':=of_decide_eq_false (Bool.eq_false_iff.mpr c)
   unfold zd1
   rw [decide_eq_false c',Bool.false_and]
   rfl
 ·obtain ⟨_,rfl,s4⟩:=h
  refine ⟨l,exA rfl ⟨SqL.of hy,exA rfl (z34 (fun c=>?_) (fun c=>?_))⟩⟩
  ·rw [zLm,List.take_length] at c
   exact fun e=>qx (z8v.mp c) e H4 s4
  ·rw [zLm,List.take_length] at c
   exact q (Decidable.byContradiction fun z=>c (z8v.mpr z)) H4 s4
abbrev nRf:List Str:=["guise","row","word","made","at","letter","rearranging","goings"]
theorem zdm:z0p nRf ["guise","row","word"] (z05 z8Q):={}
theorem zbF (F:Fun K "read_from" "read_from" z8Q f fd) (mt:mg "tuple"=none):z0v P w K mg base CX 1 f fd ["guise","row","word"] (z5Y K):=by
 refine F.okc zdm (fun vs H Q E h=>?_) (fun cdv A outer s H vs Q E hr h=>?_)
 ·obtain ⟨v,u,rows,n,wd,s0,rfl,_⟩:=h
  rfl
 obtain ⟨v,u,rows,n,wd,s0,rfl,dv,dw,GM,hn,h5,hw,h0,h1,q⟩:=h
 obtain ⟨av,us,rfl,eav,dus⟩:∃ (av:Addr) (us:List V),v=.ref av∧H av=some (.tup us)∧DrL K H (z0l rows) us:=by
  simp only [Dr] at dv
  exact dv
 obtain ⟨aw,rfl,eaw⟩:=Dr.its_inv dw
 refine ⟨_,z02 (z0e (i:=3) zdm.nd rfl (Or.inl rfl) (z1x z03))
  (z02 (z0e (i:=4) zdm.nd rfl (Or.inl rfl) (pv 1))
  (z02 (z1R PassesOwn.never rfl (z23 (pv 2)) (z0a (i:=5) zdm.nd rfl (Or.inl rfl))
   (z02 (z2x (z0R z1w (pv 0) (pv 4) (fun _ _=>rfl)) (z1S rfl (z0i (z0a (i:=6) zdm.nd rfl (Or.inl rfl)) (z0i (z0a (i:=7) zdm.nd rfl (Or.inl rfl)) z0Y))))
   (z02 (z19 (z2X PySem.F.plainAttrs_list PySem.F.slot_list_append PySem.F.type_list_append z0J (pv 3) (z00 (z0R z1w (pv 6) (pv 5) (fun _ _=>rfl)) z03)))
   (z06 (z0e (i:=4) zdm.nd rfl (Or.inl rfl) (z0R z1w (pv 7) (pv 5) (fun _ _=>rfl)))))))
  (z06 (z0x (z1I (z00 (z0q z0n rfl mt PyProof.Rows.boot_tuple (z00 (pv 3) z03)) (z00 (pv 4) z03))))))),?_⟩
 refine ⟨by show 0≤sizeLine;decide,fun lm hlm=>?_⟩
 have s1:=z04 (o:=HO.lst []) (z0f.refl H) hlm
 refine ⟨_,rfl,_,rfl,aw,rfl,⟨_,SqT.of (s1 _ _ eaw)⟩,z82 (xs:=wd.map V.int) (fun i σ H3=>∃ (u5 u6 u7:Option V),σ=[some (.ref av),some (.int s0),some (.ref aw),some (.ref lm),some (.int (goW rows s0 (wd.take i))),u5,u6,u7]∧z0f H H3∧H3 lm=some (.lst ((z1b rows s0 (wd.take i)).map V.int)))
  ⟨_,_,_,rfl,s1,z01⟩ (fun i σ H3 _ h=>by obtain ⟨_,_,_,_,t3,_⟩:=h;exact SqT.of (t3 _ _ eaw)) (fun i x σ H3 hx h=>?_) (fun σ H3 h=>?_)⟩
 ·obtain ⟨u5,u6,u7,rfl,t3,em⟩:=h
  have hil:i < wd.length:=by have:=(zGs.mp hx).1;rwa [zLm] at this
  have eg:wd[i]?=some wd[i]:=zGe hil
  obtain ⟨l0,l1⟩:=hw _ (List.getElem_mem hil)
  generalize wd[i]=l at eg l0 l1
  have ex:x=V.int l:=by rw [zGm,eg] at hx;exact (Option.some.inj hx).symm
  subst ex
  have hwt:LW n (wd.take i):=fun x hx=>hw x (List.mem_of_mem_take hx)
  obtain ⟨g0,g1⟩:=za4 GM hwt h0 h1
  have est:goW rows s0 (wd.take (i+1))=(row rows (goW rows s0 (wd.take i))).2.getD l.toNat 0:=by
   rw [List.take_add_one,eg,Option.toList,zbj]
   rfl
  have eot:z1b rows s0 (wd.take (i+1))=z1b rows s0 (wd.take i)++[(row rows (goW rows s0 (wd.take i))).1.getD l.toNat 0]:=by
   rw [List.take_add_one,eg,Option.toList,z6t]
   rfl
  have hol:(z1b rows s0 (wd.take i)).length=i:=by rw [z4g,List.length_take];lia
  rw [est,eot]
  generalize z1b rows s0 (wd.take i)=ms at em hol
  generalize goW rows s0 (wd.take i)=g at g0 g1
  obtain ⟨vr,evr,dvr⟩:=z1X dus (z2p g0 g1)
  obtain ⟨t,b',c',rfl,et,eb,ec⟩:=z0T (dvr.mono t3)
  have hgl:=GM.len _ (z0k g0 g1)
  have hpl:=(GM.perm _ (z0k g0 g1)).len
  have hll:l.toNat < (row rows g).2.length:=by lia
  have hl1:l.toNat < (row rows g).1.length:=by lia
  refine (exA rfl (exA rfl (exD av _ g (.ref t) rfl rfl (SqT.of (t3 _ _ eav)) (z1F g0 evr) (exF t rfl (SqT.of et) rfl (exB rfl (exC rfl rfl ?_))))))
  refine (exA rfl ⟨.inl ⟨rfl,_,SqL.of em⟩,exA rfl (exA rfl (exD b' _ l (V.int ((row rows g).1.getD l.toNat 0)) rfl rfl (SqT.of eb) (z1F l0 ?_) ⟨lm,exC rfl rfl ⟨em,z1G (by rw [zLm];lia),?_⟩⟩))⟩)
  ·rw [zGm,zGd,zGe hl1]
   rfl
  have kk:z0P H3 (upd H3 lm (.lst (ms.map V.int++[V.int ((row rows g).1.getD l.toNat 0)]))):=z0P.up (z0P.refl _) em (fun _ z=>by cases z)
  have t4:z0f H (upd H3 lm (.lst (ms.map V.int++[V.int ((row rows g).1.getD l.toNat 0)]))):=z09 t3 hlm
  refine (exA rfl (exA rfl (exD c' _ l (V.int ((row rows g).2.getD l.toNat 0)) rfl rfl (SqT.of (kk _ _ ec)) (z1F l0 ?_) ⟨_,exB rfl ⟨t4,?_⟩⟩)))
  ·rw [zGm,zGd,zGe hll]
   rfl
  ·rw [List.map_append]
   exact z01
 ·obtain ⟨u5,u6,u7,rfl,t3,em⟩:=h
  rw [zLm,List.take_length] at *
  refine (exA rfl ⟨lm,exA rfl (.inl ⟨SqL.of em,fun t ht=>(exA rfl ⟨by show 2≤sizeLine;decide,fun r hr'=>?_⟩)⟩)⟩)
  exact q r t _ (z04 (z04 t3 ht) hr') z01 (z04 (z0f.refl _) hr' _ _ z01)
abbrev zeo:Scope:=csc [("at",.local),("guise",.free)]
theorem zg3:z0p ["guise","row"] ["guise","row"] (z05 z5d):={}
theorem zfR:z0Z ["guise","row"] (z05 z5d) ["at","guise"] [none,some 0] zeo:={}
theorem zgh:zeh ["at","guise"] ["at"] zeo:={}
theorem zdq {k Ct cc:Addr} {kd:FuncData} {Ts:List Tb} {T0:Tb} (F:Fun K "section_at" "section_at" z5d f fd) (hcd:fd.code=.ref cc) (hC:PySem.W.CodeHd base cc T0.at_) (hB:z41 base mg) (hT:T0∈Ts) (hTn:∀ T'∈Ts,T'.at_=T0.at_→T'=T0) (hTp:T0.pos=z3s (z0F z5d)) (hTq:T0.qual=("section_at.<locals>."++"<lambda>":Str))
  (T:z0v P w K mg base (CXx P w) 6 k kd ["first","row_at"] (z3v P w K mg base (CXx P w) 4 Ct)) (bT:z0o K kd ["first","row_at"] []) (kT:PySem.W.keepIn K (.ref k)=true) (mT:mg "least_form"=some (.ref k)):z0v P w K mg base (CXx P w) 7 f fd ["guise","row"] (z9I Ts K):=by
 refine F.okL hcd zg3 (fun vs H Q E h=>?_) (fun A outer s H vs Q E hr h=>?_)
 ·obtain ⟨v,rows,n,g,rfl,_⟩:=h
  rfl
 obtain ⟨v,rows,n,g,rfl,hTb,dv,GM,hn,h60,g0,g1,gv⟩:=h
 refine ⟨_,z06 (z0x (z47 (Ts:=Ts) (T:=T0) T hr rfl mT kT bT (z6z fun _ _ _ z=>z) (pv 1) (fun σ H Q Q' h ⟨v,e,q⟩=>⟨v,e,h _ _ q⟩) zfR rfl hC hB (fun _=>rfl) hT hTn hTp hTq)),?_⟩
 obtain ⟨av,us,rfl,eav,dus⟩:∃ (av:Addr) (us:List V),v=.ref av∧H av=some (.tup us)∧DrL K H (z0l rows) us:=by
  simp only [Dr] at dv
  exact dv
 have G2:=z3o GM g0 g1
 refine (exA rfl ⟨hTb,fun fa H4 cs f1 f2 f3 C=>?_⟩)
 have fin:∀ {H5:Hp},z0f H4 H5→z0X Ts H (utk H5 cs):=fun s5=>(z0f.l (z0f.refl H)).trans (f2 _ s5)
 have eav4:=f1 _ _ (fun _ z=>by cases z) ((z0f.refl H) _ _ eav)
 have dus4:DrL K H4 (z0l rows) us:=(dus.mono (z0f.refl H)).monoL (Ts:=[]) ⟨f1,fun _ _ h=>absurd h (by simp)⟩
 have RN:=za8 (s:=g) g0 g1 dus4
 refine ⟨fa,n,swM rows g,sw g,(by rw [z7E]),zfg g,?_,G2,hn,fun h6 v H5 s5 d=>gv v _ (fin s5) (d.nfr (NFr.utk f3 s5)),fun h6=>absurd h6 (by have:=z4T G2;rw [z3I] at this;lia)⟩
 refine z2Y.lam (k:=3) C zgh (fun _ _ _ _ us hl=>by obtain ⟨a9,rfl⟩:=zee hl;rfl) rfl (fun vs H Q h=>?_) (fun H' s' A outer s cd clos cs vs Q hr nf h=>?_)
 ·obtain ⟨i,rfl,_⟩:=h
  rfl
 obtain ⟨i,rfl,h0,h1',gq⟩:=h
 obtain ⟨j0,v,ev,dv'⟩:=RN i h0 h1'
 refine ⟨_,z0R z1w (pv 1) (pv 0) (fun _ _=>rfl),?_⟩
 refine (exA rfl (exA rfl (exD av us (sw g i) v rfl rfl (SqT.of (nf _ _ (fun _ z=>by cases z) (s' _ _ eav4))) (z1F j0 ev) (fun hc=>?_))))
 have sr:=z0f.rtk (H:=H') (H1:=utk H' cs) (cs:=cs) (z0f.refl _)
 exact gq v _ sr ((dv'.mono s').mono sr)
abbrev nWr:List Str:=["guise","word","made","at"]
theorem zgl:z0p nWr ["guise","word"] (z05 zcs):={}
theorem ze0 {b c Cw:Addr} {bd cd:FuncData} (F:Fun K "worn" "worn" zcs f fd)
  (G:z0v P w K mg base (CXx P w) 1 g gd ["letters","word"] (z3g K Cw)) (bG:z0o K gd ["letters","word"] []) (kG:PySem.W.keepIn K (.ref g)=true) (mG:mg "check_word"=some (.ref g))
  (R:z0v P w K mg base (CXx P w) 1 b bd ["guise"] (z2I K)) (bR:z0o K bd ["guise"] []) (kR:PySem.W.keepIn K (.ref b)=true) (mR:mg "breadth"=some (.ref b))
  (U:z0v P w K mg base (CXx P w) 1 c cd ["guise","row","word"] (z5Y K)) (bU:z0o K cd ["guise","row","word"] []) (kU:PySem.W.keepIn K (.ref c)=true) (mU:mg "read_from"=some (.ref c)):z0v P w K mg base (CXx P w) 2 f fd ["guise","word"] (z9V K Cw):=by
 refine F.okx zgl (fun vs H Q E h=>?_) (fun cdv A outer s H vs Q E hr h=>?_)
 ·obtain ⟨v,u,rows,n,w,rfl,_⟩:=h
  rfl
 obtain ⟨v,u,rows,n,wd,rfl,dv,dw,GM,hn,h5,gv,gx⟩:=h
 refine ⟨_,z02 (z19 (z0h G hr rfl mG kG bG .nil (z6z fun _ _ _ z=>z) (z00 (z0h R hr rfl mR kR bR .nil z0Q (z00 (pv 0) z03)) (z00 (pv 1) z03))))
  (z02 (z2x (z0h U hr rfl mU kU bU .nil z0Q (z00 (pv 0) (z00 z08 (z00 (pv 1) z03)))) (z1S rfl (z0i (z0a (i:=2) zgl.nd rfl (Or.inl rfl)) (z0i (z0a (i:=3) zgl.nd rfl (Or.inl rfl)) z0Y))))
  (z06 (z0x (pv 2)))),?_⟩
 have h1:=GM.some
 obtain ⟨r0,rt,er⟩:∃ r0 rt,rows=r0::rt:=by
  cases rows with
  | nil=>simp at h1
  | cons r0 rt=>exact ⟨r0,rt,rfl⟩
 have hp0:=GM.perm r0 (by rw [er];simp)
 have hl0:=hp0.len
 refine (exA rfl ⟨v,r0,z0l rt,rfl,(by rw [er] at dv;exact dv),by lia,fun H1 s1=>(exA rfl ⟨n,u,wd,(by rw [hl0];rfl),dw.mono s1,by lia,fun hw H2 s2=>?_,fun hw ea H2 s2=>gx hw ea H2 (s1.trans s2)⟩)⟩)
 have s02:=s1.trans s2
 refine (exA rfl (exA rfl ⟨v,u,rows,n,wd,0,rfl,dv.mono s02,dw.mono s02,GM,hn,h5,hw,Int.le_refl 0,by lia,fun r t H3 s3 er' et=>?_⟩))
 exact (exF r rfl (SqT.of er') rfl (exB rfl (exC rfl rfl (exA rfl (gv hw t H3 (s02.trans s3) et)))))
abbrev zhw:List Str:=["guise","word","made","at"]
theorem zdH:z0p zhw ["guise","word"] (z05 z61):={}
theorem z9G {k b c Cw:Addr} {kd bd cd:FuncData} {Ts:List Tb} (F:Fun K "behind" "behind" z61 f fd)
  (G:z0v P w K mg base (CXx P w) 7 g gd ["letters","word"] (z3g K Cw)) (bG:z0o K gd ["letters","word"] []) (kG:PySem.W.keepIn K (.ref g)=true) (mG:mg "check_word"=some (.ref g))
  (R:z0v P w K mg base (CXx P w) 7 b bd ["guise"] (z2I K)) (bR:z0o K bd ["guise"] []) (kR:PySem.W.keepIn K (.ref b)=true) (mR:mg "breadth"=some (.ref b))
  (U:z0v P w K mg base (CXx P w) 7 c cd ["guise","row","word"] (z5Y K)) (bU:z0o K cd ["guise","row","word"] []) (kU:PySem.W.keepIn K (.ref c)=true) (mU:mg "read_from"=some (.ref c))
  (T:z0v P w K mg base (CXx P w) 7 k kd ["guise","row"] (z9I Ts K)) (bT:z0o K kd ["guise","row"] []) (kT:PySem.W.keepIn K (.ref k)=true) (mT:mg "section_at"=some (.ref k)):z0v P w K mg base (CXx P w) 8 f fd ["guise","word"] (z6l Ts K Cw):=by
 refine F.okx zdH (fun vs H Q E h=>?_) (fun cdv A outer s H vs Q E hr h=>?_)
 ·obtain ⟨v,u,rows,n,w,rfl,_⟩:=h
  rfl
 obtain ⟨v,u,rows,n,wd,rfl,hTb,dv,dw,GM,hn,h60,h5,gv,gx⟩:=h
 refine ⟨_,z02 (z19 (z0h G hr rfl mG kG bG .nil (z6z fun _ _ _ z=>z) (z00 (z0h R hr rfl mR kR bR .nil z0Q (z00 (pv 0) z03)) (z00 (pv 1) z03))))
  (z02 (z2x (z0h U hr rfl mU kU bU .nil z0Q (z00 (pv 0) (z00 z08 (z00 (pv 1) z03)))) (z1S rfl (z0i (z0a (i:=2) zdH.nd rfl (Or.inl rfl)) (z0i (z0a (i:=3) zdH.nd rfl (Or.inl rfl)) z0Y))))
  (z06 (z0x (z0h T hr rfl mT kT bT .nil z0Q (z00 (pv 0) (z00 (pv 3) z03)))))),?_⟩
 have h1:=GM.some
 obtain ⟨r0,rt,er⟩:∃ r0 rt,rows=r0::rt:=by
  cases rows with
  | nil=>simp at h1
  | cons r0 rt=>exact ⟨r0,rt,rfl⟩
 have hp0:=GM.perm r0 (by rw [er];simp)
 have hl0:=hp0.len
 refine (exA rfl ⟨v,r0,z0l rt,rfl,(by rw [er] at dv;exact dv),by lia,fun H1 s1=>(exA rfl ⟨n,u,wd,(by rw [hl0];rfl),dw.mono s1,by lia,fun hw H2 s2=>?_,fun hw ea H2 s2=>gx hw ea H2 (z0f.l (s1.trans s2))⟩)⟩)
 have s02:=s1.trans s2
 obtain ⟨g0,g1⟩:=za4 GM hw (Int.le_refl 0) (by lia)
 refine (exA rfl (exA rfl ⟨v,u,rows,n,wd,0,rfl,dv.mono s02,dw.mono s02,GM,hn,by lia,hw,Int.le_refl 0,by lia,fun r t H3 s3 er' et=>?_⟩))
 refine (exF r rfl (SqT.of er') rfl (exB rfl (exC rfl rfl ?_)))
 have s03:=s02.trans s3
 exact (exA rfl (exA rfl ⟨v,rows,n,exA rfl ⟨z3R.mono hTb s03,dv.mono s03,GM,hn,h60,g0,g1,fun x H4 s4 d4=>gv hw x H4 ((z0f.l s03).trans s4) d4⟩⟩))
end
end Gu
namespace Gu
open PySem L2
structure FA (K:PySem.W.Frag) (f:Addr) (x:Str) (st:Stmt):Prop where
 a:PySem.W.nsIn K mainGlobals x=some (some (.ref f))
 l:∃ oc od kV dc pm an cd ct sl,K.lookup f=some ⟨oc,od,.func (PySem.W.fnOf x x (z1n st) (z0F st) (z05 st) .none kV dc pm an cd ct),sl⟩∧PySem.W.codeIn K cd x=true
 k:PySem.W.keepIn K (.ref f)=true
theorem FA.of {K:PySem.W.Frag} {f:Addr} {x:Str} {st:Stmt} {oc kV dc pm cd ct:Value} {od an:Option Addr} {sl:Array (Option Value)} (a:PySem.W.nsIn K mainGlobals x=some (some (.ref f))) (l:K.lookup f=some ⟨oc,od,.func (PySem.W.fnOf x x (z1n st) (z0F st) (z05 st) .none kV dc pm an cd ct),sl⟩) (c:PySem.W.codeIn K cd x=true) (k:PySem.W.keepIn K (.ref f)=true):FA K f x st:=⟨a,⟨_,_,_,_,_,_,_,_,_,l,c⟩,k⟩
theorem FA.go {K:PySem.W.Frag} {f:Addr} {x:Str} {st:Stmt} {h:Heap} {mg:Str→Option Value} (A:FA K f x st) (X:K.In h) (G:h.Ns mainGlobals mg):∃ fd,Fun K x x st f fd∧mg x=some (.ref f)∧PySem.W.keepIn K (.ref f)=true:=by
 obtain ⟨a,⟨_,_,_,_,_,_,_,_,_,l,c⟩,k⟩:=A
 exact ⟨_,z5J l c k,PySem.W.mg_of X G a,k⟩
abbrev fnY (x:Str) (st:Stmt) (kV dc pm:Value) (an:Option Addr) (cd ct:Value):=PySem.W.fnOf x x (z1n st) (z0F st) (z05 st) .none kV dc pm an cd ct
section
variable {K:PySem.W.Frag} {x:Str} {st:Stmt} {f:Addr} {fd:FuncData}
theorem zec {a:Str} (F:Fun K x x st f fd) (h:∀ (kV dc pm:Value) (an:Option Addr) (cd ct u:Value),bindArgs (fnY x st kV dc pm an cd ct) ⟨[u],[]⟩=pure [(a,u)]):z0o K fd [a] []:=F.binds fun _ _ _ _ _ _ us hl=>by obtain ⟨_,rfl⟩:=zee hl;exact h _ _ _ _ _ _ _
theorem z6e {a b:Str} (F:Fun K x x st f fd) (h:∀ (kV dc pm:Value) (an:Option Addr) (cd ct u v:Value),bindArgs (fnY x st kV dc pm an cd ct) ⟨[u,v],[]⟩=pure [(a,u),(b,v)]):z0o K fd [a,b] []:=F.binds fun _ _ _ _ _ _ us hl=>by obtain ⟨_,_,rfl⟩:=zez hl;exact h _ _ _ _ _ _ _ _
theorem zft {a b c:Str} (F:Fun K x x st f fd) (h:∀ (kV dc pm:Value) (an:Option Addr) (cd ct u v w:Value),bindArgs (fnY x st kV dc pm an cd ct) ⟨[u,v,w],[]⟩=pure [(a,u),(b,v),(c,w)]):z0o K fd [a,b,c] []:=F.binds fun _ _ _ _ _ _ us hl=>by obtain ⟨_,_,_,rfl⟩:=zgT hl;exact h _ _ _ _ _ _ _ _ _
end
abbrev z9q (P4 P19 P17 P22:Addr):List Tb:=[⟨P4,z3s (z0F z5d),("section_at.<locals>."++"<lambda>":Str)⟩,⟨P19,z3s (z0F z5f),("back.<locals>."++"<lambda>":Str)⟩,⟨P17,z3s (z0F z2c),("joined.<locals>."++"<lambda>":Str)⟩,⟨P22,z3s (z0F z1h),("branched.<locals>."++"<lambda>":Str)⟩]
theorem all_mk {l:PySem.W.OpenLaw} {w:World} {K:PySem.W.Frag} {h:Heap} {mg:Str→Option Value} {fa f1 f2 f3 f4 f5 f6 f7 f8 f9 f10 f11 f12 f13 f14 f15 f16 f17 f18 f19 f20 f21 f22 f23 f24 f25 f26 f27 f28 f29 f30 f31 f32 f33 f34:Addr} (X:K.In h) (G:h.Ns mainGlobals mg) (hfa:mg "law"=some (.ref fa))
  {od4 an4 od17 an17 od19 an19 od22 an22 od34 an34:Option Addr} {sl4 sl17 sl19 sl22 sl34:Array (Option Value)} {tk1 tk2 tk3:Tok}
  {oc4 kV4 dc4 pm4 ct4 oc17 kV17 dc17 pm17 ct17 oc19 kV19 dc19 pm19 ct19 oc22 kV22 dc22 pm22 ct22 oc34 kV34 dc34 pm34 ct34 cd34:Value}
  {cc4 P4 cc19 P19 cc17 P17 cc22 P22:Addr}
  (h1:FA K f1 "turned" z54)
  (h2:FA K f2 "undone" z67)
  (h3:FA K f3 "breadth" z4e)
  (a4:PySem.W.nsIn K mainGlobals "section_at"=some (some (.ref f4))) (l4:K.lookup f4=some ⟨oc4,od4,.func (PySem.W.fnOf "section_at" "section_at" (z1n z5d) (z0F z5d) (z05 z5d) .none kV4 dc4 pm4 an4 (.ref cc4) ct4),sl4⟩) (c4:PySem.W.codeIn K (.ref cc4) "section_at"=true) (k4:PySem.W.keepIn K (.ref f4)=true)
  (h5:FA K f5 "read_from" z8Q)
  (h6:FA K f6 "least_form" z8B)
  (h7:FA K f7 "rows_come_to" z6i)
  (h8:FA K f8 "kinds_of_rows" z5x)
  (h9:FA K f9 "kinds_gone_to" zay)
  (h10:FA K f10 "numbered" z2k)
  (h11:FA K f11 "check_word" z4C)
  (h12:FA K f12 "worn" zcs)
  (h13:FA K f13 "number_of" z3m)
  (h14:FA K f14 "word_of" z6k)
  (h15:FA K f15 "words_on_floor" z4b)
  (h16:FA K f16 "floor" z7k)
  (a17:PySem.W.nsIn K mainGlobals "joined"=some (some (.ref f17))) (l17:K.lookup f17=some ⟨oc17,od17,.func (PySem.W.fnOf "joined" "joined" (z1n z2c) (z0F z2c) (z05 z2c) .none kV17 dc17 pm17 an17 (.ref cc17) ct17),sl17⟩) (c17:PySem.W.codeIn K (.ref cc17) "joined"=true) (k17:PySem.W.keepIn K (.ref f17)=true)
  (h18:FA K f18 "joined_row" z2f)
  (a19:PySem.W.nsIn K mainGlobals "back"=some (some (.ref f19))) (l19:K.lookup f19=some ⟨oc19,od19,.func (PySem.W.fnOf "back" "back" (z1n z5f) (z0F z5f) (z05 z5f) .none kV19 dc19 pm19 an19 (.ref cc19) ct19),sl19⟩) (c19:PySem.W.codeIn K (.ref cc19) "back"=true) (k19:PySem.W.keepIn K (.ref f19)=true)
  (h20:FA K f20 "row_back" z3t)
  (h21:FA K f21 "behind" z61)
  (a22:PySem.W.nsIn K mainGlobals "branched"=some (some (.ref f22))) (l22:K.lookup f22=some ⟨oc22,od22,.func (PySem.W.fnOf "branched" "branched" (z1n z1h) (z0F z1h) (z05 z1h) .none kV22 dc22 pm22 an22 (.ref cc22) ct22),sl22⟩) (c22:PySem.W.codeIn K (.ref cc22) "branched"=true) (k22:PySem.W.keepIn K (.ref f22)=true)
  (h23:FA K f23 "rows_moved" z7n)
  (h24:FA K f24 "_law_cell" zcz)
  (h25:FA K f25 "_law_letters" z45)
  (h26:FA K f26 "_law_in_line" z51)
  (h27:FA K f27 "_law_shrunk" z3J)
  (h28:FA K f28 "_law_numbers" z4f)
  (h29:FA K f29 "_law_rearranged" zbt)
  (h30:FA K f30 "_law_rows" z7J)
  (h31:FA K f31 "_law_guise" z8J)
  (h32:FA K f32 "_law_stories" z44)
  (h33:FA K f33 "_law_both" zbY)
  (a34:PySem.W.nsIn K mainGlobals "law"=some (some (.ref f34))) (l34:K.lookup f34=some ⟨oc34,od34,.func (PySem.W.fnOf "law" "law" (z1n z8R) (z0F z8R) (z05 z8R) .none kV34 dc34 pm34 an34 cd34 ct34),sl34⟩) (c34:PySem.W.codeIn K cd34 "law"=true) (k34:PySem.W.keepIn K (.ref f34)=true)
  (t4:PySem.W.codeHdIn K cc4 P4=true) (u4:K.lookup P4=none)
  (t19:PySem.W.codeHdIn K cc19 P19=true) (u19:K.lookup P19=none)
  (t17:PySem.W.codeHdIn K cc17 P17=true) (u17:K.lookup P17=none)
  (t22:PySem.W.codeHdIn K cc22 P22=true) (u22:K.lookup P22=none)
  (nP:([P4,P19,P17,P22]:List Addr).Nodup)
  (i1:PySem.W.nsIn K mainGlobals "MOST_FORM_ROWS"=some (some (.int 60 tk1)))
  (i2:PySem.W.nsIn K mainGlobals "MOST_WORDS"=some (some (.int 1024 tk2)))
  (i3:PySem.W.nsIn K mainGlobals "MOST_LETTERS_TOLD"=some (some (.int 1000 tk3)))
  (z1:PySem.W.nsIn K mainGlobals "len"=some none)
  (z2:PySem.W.nsIn K mainGlobals "tuple"=some none)
  (z3:PySem.W.nsIn K mainGlobals "list"=some none)
  (z4:PySem.W.nsIn K mainGlobals "range"=some none)
  (z5:PySem.W.nsIn K mainGlobals "isinstance"=some none)
  (z6:PySem.W.nsIn K mainGlobals "int"=some none)
  (z7:PySem.W.nsIn K mainGlobals "bool"=some none)
  (z8:PySem.W.nsIn K mainGlobals "str"=some none)
  (z9:PySem.W.nsIn K mainGlobals "all"=some none)
  (z10:PySem.W.nsIn K mainGlobals "any"=some none)
  (z11:PySem.W.nsIn K mainGlobals "sorted"=some none)
  (z12:PySem.W.nsIn K mainGlobals "zip"=some none)
  (z13:PySem.W.nsIn K mainGlobals "max"=some none)
  (z14:PySem.W.nsIn K mainGlobals "min"=some none)
  (z15:PySem.W.nsIn K mainGlobals "enumerate"=some none)
  (z16:PySem.W.nsIn K mainGlobals "abs"=some none)
  (z17:PySem.W.nsIn K mainGlobals "divmod"=some none)
  {CtTooMany:Addr} (yTooMany:PySem.W.nsIn K mainGlobals "TooMany"=some (some (.ref CtTooMany))) (xTooMany:PySem.W.excIn K CtTooMany [.type "ValueError",.type "Exception",.type "BaseException",.type "object"] "ValueError.__new__"=true)
  {CtBadWord:Addr} (yBadWord:PySem.W.nsIn K mainGlobals "BadWord"=some (some (.ref CtBadWord))) (xBadWord:PySem.W.excIn K CtBadWord [.type "ValueError",.type "Exception",.type "BaseException",.type "object"] "ValueError.__new__"=true)
  {CtBadCount:Addr} (yBadCount:PySem.W.nsIn K mainGlobals "BadCount"=some (some (.ref CtBadCount))) (xBadCount:PySem.W.excIn K CtBadCount [.type "ValueError",.type "Exception",.type "BaseException",.type "object"] "ValueError.__new__"=true)
  : ∃ fd:FuncData,(∀ (s:Shared) (v:Value),BindsTo s fd ⟨[v],[]⟩ [("_law_script",v)])∧(∀ T∈(z9q P4 P19 P17 P22),K.lookup T.at_=none∧∃ c,PySem.W.codeHdIn K c T.at_=true)∧∀ base:Heap,K.In base→base.Ns mainGlobals mg→z41 base mg→z0v l.prog w K mg base (CXx l.prog w) 10 fa fd ["_law_script"] (z95 (z9q P4 P19 P17 P22) K):=by
 have e:=hfa.symm.trans (PySem.W.mg_of X G a34)
 cases e
 obtain ⟨d1,F1,m1,k1⟩:=h1.go X G
 have b1:z0o K d1 ["one","other"] []:=z6e F1 fun _ _ _ _ _ _ _ _=>rfl
 obtain ⟨d2,F2,m2,k2⟩:=h2.go X G
 have b2:z0o K d2 ["one"] []:=zec F2 fun _ _ _ _ _ _ _=>rfl
 obtain ⟨d3,F3,m3,k3⟩:=h3.go X G
 have b3:z0o K d3 ["guise"] []:=zec F3 fun _ _ _ _ _ _ _=>rfl
 have F4:=z5J (st:=z5d) l4 c4 k4
 have b4:=F4.binds (ps:=["guise","row"]) fun _ _ _ _ _ _ us hl=>by obtain ⟨a0,a1,rfl⟩:=zez hl;rfl
 have m4:=PySem.W.mg_of X G a4
 obtain ⟨d5,F5,m5,k5⟩:=h5.go X G
 have b5:z0o K d5 ["guise","row","word"] []:=zft F5 fun _ _ _ _ _ _ _ _ _=>rfl
 obtain ⟨d6,F6,m6,k6⟩:=h6.go X G
 have b6:z0o K d6 ["first","row_at"] []:=z6e F6 fun _ _ _ _ _ _ _ _=>rfl
 obtain ⟨d7,F7,m7,k7⟩:=h7.go X G
 have b7:z0o K d7 ["first","row_at"] []:=z6e F7 fun _ _ _ _ _ _ _ _=>rfl
 obtain ⟨d8,F8,m8,k8⟩:=h8.go X G
 have b8:z0o K d8 ["rows"] []:=zec F8 fun _ _ _ _ _ _ _=>rfl
 obtain ⟨d9,F9,m9,k9⟩:=h9.go X G
 have b9:z0o K d9 ["kinds","goings"] []:=z6e F9 fun _ _ _ _ _ _ _ _=>rfl
 obtain ⟨d10,F10,m10,k10⟩:=h10.go X G
 have b10:z0o K d10 ["things"] []:=zec F10 fun _ _ _ _ _ _ _=>rfl
 obtain ⟨d11,F11,m11,k11⟩:=h11.go X G
 have b11:z0o K d11 ["letters","word"] []:=z6e F11 fun _ _ _ _ _ _ _ _=>rfl
 obtain ⟨d12,F12,m12,k12⟩:=h12.go X G
 have b12:z0o K d12 ["guise","word"] []:=z6e F12 fun _ _ _ _ _ _ _ _=>rfl
 obtain ⟨d13,F13,m13,k13⟩:=h13.go X G
 have b13:z0o K d13 ["letters","word"] []:=z6e F13 fun _ _ _ _ _ _ _ _=>rfl
 obtain ⟨d14,F14,m14,k14⟩:=h14.go X G
 have b14:z0o K d14 ["letters","many","number"] []:=zft F14 fun _ _ _ _ _ _ _ _ _=>rfl
 obtain ⟨d15,F15,m15,k15⟩:=h15.go X G
 have b15:z0o K d15 ["letters","many"] []:=z6e F15 fun _ _ _ _ _ _ _ _=>rfl
 obtain ⟨d16,F16,m16,k16⟩:=h16.go X G
 have b16:z0o K d16 ["guise","many"] []:=z6e F16 fun _ _ _ _ _ _ _ _=>rfl
 have F17:=z5J (st:=z2c) l17 c17 k17
 have b17:=F17.binds (ps:=["one","other"]) fun _ _ _ _ _ _ us hl=>by obtain ⟨a0,a1,rfl⟩:=zez hl;rfl
 have m17:=PySem.W.mg_of X G a17
 obtain ⟨d18,F18,m18,k18⟩:=h18.go X G
 have b18:z0o K d18 ["one","other","pair"] []:=zft F18 fun _ _ _ _ _ _ _ _ _=>rfl
 have F19:=z5J (st:=z5f) l19 c19 k19
 have b19:=F19.binds (ps:=["guise"]) fun _ _ _ _ _ _ us hl=>by obtain ⟨a0,rfl⟩:=zee hl;rfl
 have m19:=PySem.W.mg_of X G a19
 obtain ⟨d20,F20,m20,k20⟩:=h20.go X G
 have b20:z0o K d20 ["row"] []:=zec F20 fun _ _ _ _ _ _ _=>rfl
 obtain ⟨d21,F21,m21,k21⟩:=h21.go X G
 have b21:z0o K d21 ["guise","word"] []:=z6e F21 fun _ _ _ _ _ _ _ _=>rfl
 have F22:=z5J (st:=z1h) l22 c22 k22
 have b22:=F22.binds (ps:=["first","guises"]) fun _ _ _ _ _ _ us hl=>by obtain ⟨a0,a1,rfl⟩:=zez hl;rfl
 have m22:=PySem.W.mg_of X G a22
 obtain ⟨d23,F23,m23,k23⟩:=h23.go X G
 have b23:z0o K d23 ["guise","many"] []:=z6e F23 fun _ _ _ _ _ _ _ _=>rfl
 obtain ⟨d24,F24,m24,k24⟩:=h24.go X G
 have b24:z0o K d24 ["_law_script","_law_at"] []:=z6e F24 fun _ _ _ _ _ _ _ _=>rfl
 obtain ⟨d25,F25,m25,k25⟩:=h25.go X G
 have b25:z0o K d25 ["_law_script","_law_at"] []:=z6e F25 fun _ _ _ _ _ _ _ _=>rfl
 obtain ⟨d26,F26,m26,k26⟩:=h26.go X G
 have b26:z0o K d26 ["_law_rows_here","_law_line","_law_marks"] []:=zft F26 fun _ _ _ _ _ _ _ _ _=>rfl
 obtain ⟨d27,F27,m27,k27⟩:=h27.go X G
 have b27:z0o K d27 ["_law_rows_here","_law_start"] []:=z6e F27 fun _ _ _ _ _ _ _ _=>rfl
 obtain ⟨d28,F28,m28,k28⟩:=h28.go X G
 have b28:z0o K d28 ["_law_cell_here","_law_many"] []:=z6e F28 fun _ _ _ _ _ _ _ _=>rfl
 obtain ⟨d29,F29,m29,k29⟩:=h29.go X G
 have b29:z0o K d29 ["_law_pick","_law_letters_here"] []:=z6e F29 fun _ _ _ _ _ _ _ _=>rfl
 obtain ⟨d30,F30,m30,k30⟩:=h30.go X G
 have b30:z0o K d30 ["_law_letters_here","_law_cell_here"] []:=z6e F30 fun _ _ _ _ _ _ _ _=>rfl
 obtain ⟨d31,F31,m31,k31⟩:=h31.go X G
 have b31:z0o K d31 ["_law_letters_here","_law_cell_here"] []:=z6e F31 fun _ _ _ _ _ _ _ _=>rfl
 obtain ⟨d32,F32,m32,k32⟩:=h32.go X G
 have b32:z0o K d32 ["_law_letters_here"] []:=zec F32 fun _ _ _ _ _ _ _=>rfl
 obtain ⟨d33,F33,m33,k33⟩:=h33.go X G
 have b33:z0o K d33 ["_law_one","_law_other"] []:=z6e F33 fun _ _ _ _ _ _ _ _=>rfl
 have F34:=z5J (st:=z8R) l34 c34 k34
 have m34:=PySem.W.mg_of X G a34
 have mTooMany:=PySem.W.mg_of X G yTooMany
 have mBadWord:=PySem.W.mg_of X G yBadWord
 have mBadCount:=PySem.W.mg_of X G yBadCount
 have j1:=PySem.W.mg_of X G i1
 have j2:=PySem.W.mg_of X G i2
 have j3:=PySem.W.mg_of X G i3
 have n_len:=PySem.W.mg_none_of X G z1
 have n_tuple:=PySem.W.mg_none_of X G z2
 have n_list:=PySem.W.mg_none_of X G z3
 have n_range:=PySem.W.mg_none_of X G z4
 have n_isinstance:=PySem.W.mg_none_of X G z5
 have n_int:=PySem.W.mg_none_of X G z6
 have n_bool:=PySem.W.mg_none_of X G z7
 have n_str:=PySem.W.mg_none_of X G z8
 have n_all:=PySem.W.mg_none_of X G z9
 have n_any:=PySem.W.mg_none_of X G z10
 have n_sorted:=PySem.W.mg_none_of X G z11
 have n_zip:=PySem.W.mg_none_of X G z12
 have n_max:=PySem.W.mg_none_of X G z13
 have n_min:=PySem.W.mg_none_of X G z14
 have n_enumerate:=PySem.W.mg_none_of X G z15
 have n_abs:=PySem.W.mg_none_of X G z16
 have n_divmod:=PySem.W.mg_none_of X G z17
 have B:Blt mg:=⟨n_len,n_tuple,n_list,n_range,n_isinstance,n_int,n_bool,n_str,n_all⟩
 refine ⟨PySem.W.fnOf "law" "law" (z1n z8R) (z0F z8R) (z05 z8R) .none kV34 dc34 pm34 an34 cd34 ct34,fun s v=>.of_eq rfl,?_,fun base hK _ hBM=>?_⟩
 ·simp only [z9q,List.forall_mem_cons]
  exact ⟨⟨u4,cc4,t4⟩,⟨u19,cc19,t19⟩,⟨u17,cc17,t17⟩,⟨u22,cc22,t22⟩,fun _ h=>absurd h (by simp)⟩
 have O10:z0v l.prog w K mg base (CXx l.prog w) 1 f10 _ ["things"] (z3H K):=z7y F10 B.len
 have O9:z0v l.prog w K mg base (CXx l.prog w) 1 f9 _ ["kinds","goings"] (z8X K):=zdU F9 B.tup
 have O8:z0v l.prog w K mg base (CXx l.prog w) 2 f8 _ ["rows"] (z6n K CtTooMany):=zbm mTooMany xTooMany PySem.F.excBase_ValueError F8 n_zip n_max j1 O10 b10 k10 m10 O9 b9 k9 m9
 have O2:z0v l.prog w K mg base (CXx l.prog w) 1 f2 _ ["one"] (z6A K):=zas F2 B.tup B.len n_enumerate
 have O20:z0v l.prog w K mg base (CXx l.prog w) 2 f20 _ ["row"] (z4i K):=z9E F20 B.tup O2 b2 k2 m2
 have O3:z0v l.prog w K mg base (CXx l.prog w) 1 f3 _ ["guise"] (z2I K):=z9j F3 B.len
 have O7F:z0v l.prog w K mg base (CXx l.prog w) 5 f7 _ ["first","row_at"] (z7s l.prog w K mg base (CXx l.prog w) 4):=zbV F7 B.len B.tup
 have O7P:z0v l.prog w K mg base (CXx l.prog w) 5 f7 _ ["first","row_at"] (z84 l.prog w K mg base (CXx l.prog w) 4):=zbK F7 B.len B.tup
 have O6F:z0v l.prog w K mg base (CXx l.prog w) 6 f6 _ ["first","row_at"] (z3v l.prog w K mg base (CXx l.prog w) 4 CtTooMany):=((z71 F6 B.len B.tup n_zip (O7F.sub zeC) b7 k7 m7 (O8.mono (by decide)) b8 k8 m8 (O9.mono (by decide)) b9 k9 m9).sub zdw)
 have O6P:z0v l.prog w K mg base (CXx l.prog w) 6 f6 _ ["first","row_at"] (z6j l.prog w K mg base (CXx l.prog w) 4 CtTooMany):=((z71 F6 B.len B.tup n_zip (O7P.sub zeq) b7 k7 m7 (O8.mono (by decide)) b8 k8 m8 (O9.mono (by decide)) b9 k9 m9).sub zdz)
 have O19:z0v l.prog w K mg base (CXx l.prog w) 7 f19 _ ["guise"] (zax (z9q P4 P19 P17 P22) K CtTooMany):=zc1 F19 rfl (PySem.W.codeHd_of_K hK t19) hBM (List.mem_cons_of_mem _ List.mem_cons_self) (z6m nP (List.mem_cons_of_mem _ List.mem_cons_self)) rfl rfl (O20.mono (by decide)) b20 k20 m20 O6F b6 k6 m6
 have O1:z0v l.prog w K mg base (CXx l.prog w) 1 f1 _ ["one","other"] (z6u K):=zaD F1 B.tup
 have O18:z0v l.prog w K mg base (CXx l.prog w) 2 f18 _ ["one","other","pair"] (zaA K):=zdG F18 n_zip B.tup O1 b1 k1 m1
 have O17:z0v l.prog w K mg base (CXx l.prog w) 7 f17 _ ["one","other"] (z6d (z9q P4 P19 P17 P22) K CtTooMany):=zaf F17 rfl (PySem.W.codeHd_of_K hK t17) hBM (List.mem_cons_of_mem _ (List.mem_cons_of_mem _ List.mem_cons_self)) (z6m nP (List.mem_cons_of_mem _ (List.mem_cons_of_mem _ List.mem_cons_self))) rfl rfl (O18.mono (by decide)) b18 k18 m18 O6P b6 k6 m6
 have O11:z0v l.prog w K mg base (CXx l.prog w) 1 f11 _ ["letters","word"] (z3g K CtBadWord):=zaU mBadWord xBadWord PySem.F.excBase_ValueError F11 n_any
 have O5:z0v l.prog w K mg base (CXx l.prog w) 1 f5 _ ["guise","row","word"] (z5Y K):=zbF F5 B.tup
 have O4:z0v l.prog w K mg base (CXx l.prog w) 7 f4 _ ["guise","row"] (z9I (z9q P4 P19 P17 P22) K):=zdq F4 rfl (PySem.W.codeHd_of_K hK t4) hBM List.mem_cons_self (z6m nP List.mem_cons_self) rfl rfl O6F b6 k6 m6
 have O21:z0v l.prog w K mg base (CXx l.prog w) 8 f21 _ ["guise","word"] (z6l (z9q P4 P19 P17 P22) K CtBadWord):=z9G F21 (O11.mono (by decide)) b11 k11 m11 (O3.mono (by decide)) b3 k3 m3 (O5.mono (by decide)) b5 k5 m5 O4 b4 k4 m4
 have O23:z0v l.prog w K mg base (CXx l.prog w) 1 f23 _ ["guise","many"] (z7C K):=zbB F23 B.tup
 have O22:z0v l.prog w K mg base (CXx l.prog w) 7 f22 _ ["first","guises"] (z3M (z9q P4 P19 P17 P22) K CtTooMany):=z7v F22 rfl (PySem.W.codeHd_of_K hK t22) hBM (List.mem_cons_of_mem _ (List.mem_cons_of_mem _ (List.mem_cons_of_mem _ List.mem_cons_self))) (z6m nP (List.mem_cons_of_mem _ (List.mem_cons_of_mem _ (List.mem_cons_of_mem _ List.mem_cons_self)))) rfl rfl B.len B.tup (O23.mono (by decide)) b23 k23 m23 O6F b6 k6 m6
 have O12:z0v l.prog w K mg base (CXx l.prog w) 2 f12 _ ["guise","word"] (z9V K CtBadWord):=ze0 F12 O11 b11 k11 m11 O3 b3 k3 m3 O5 b5 k5 m5
 have O13:z0v l.prog w K mg base (CXx l.prog w) 2 f13 _ ["letters","word"] (z7L K CtBadWord):=z89 F13 O11 b11 k11 m11
 have O14:z0v l.prog w K mg base (CXx l.prog w) 1 f14 _ ["letters","many","number"] (z6f K CtBadCount):=zb7 mBadCount xBadCount PySem.F.excBase_ValueError j3 B.rng n_divmod B.tup F14
 have O15:z0v l.prog w K mg base (CXx l.prog w) 1 f15 _ ["letters","many"] (z57 K CtTooMany CtBadCount):=z99 mBadCount xBadCount PySem.F.excBase_ValueError mTooMany xTooMany PySem.F.excBase_ValueError j2 B.rng F15
 have O16:z0v l.prog w K mg base (CXx l.prog w) 3 f16 _ ["guise","many"] (z7I K CtTooMany CtBadCount):=zcl B.rng F16 (O3.mono (by decide)) b3 k3 m3 (O15.mono (by decide)) b15 k15 m15 O13 b13 k13 m13 O12 b12 k12 m12 (O14.mono (by decide)) b14 k14 m14
 have O24:z0v l.prog w K mg base (CXx l.prog w) 1 f24 _ ["_law_script","_law_at"] (z96 K):=zdj F24 B.len
 have O25:z0v l.prog w K mg base (CXx l.prog w) 2 f25 _ ["_law_script","_law_at"] (z4U K):=z9p F25 O24 b24 k24 m24
 have O28:z0v l.prog w K mg base (CXx l.prog w) 1 f28 _ ["_law_cell_here","_law_many"] (z4r K):=z9l F28 B.len
 have O29:z0v l.prog w K mg base (CXx l.prog w) 1 f29 _ ["_law_pick","_law_letters_here"] (zaP K):=ze3 F29 B.len B.tup B.rng B.lst
 have O30:z0v l.prog w K mg base (CXx l.prog w) 2 f30 _ ["_law_letters_here","_law_cell_here"] (za2 K):=zds F30 B.rng B.tup n_min O28 b28 k28 m28 O29 b29 k29 m29
 have O26:z0v l.prog w K mg base (CXx l.prog w) 1 f26 _ ["_law_rows_here","_law_line","_law_marks"] (z4p K):=z9n F26 B.len B.tup
 have O27:z0v l.prog w K mg base (CXx l.prog w) 2 f27 _ ["_law_rows_here","_law_start"] (z4O K):=z9m F27 B.len B.tup O26 b26 k26 m26
 have O31:z0v l.prog w K mg base (CXx l.prog w) 3 f31 _ ["_law_letters_here","_law_cell_here"] (z87 K):=zbJ F31 O30 b30 k30 m30 ((O27.mono (by decide)).sub z9z) b27 k27 m27
 have O32:z0v l.prog w K mg base (CXx l.prog w) 1 f32 _ ["_law_letters_here"] (z4t K):=z9b F32
 have O33:z0v l.prog w K mg base (CXx l.prog w) 8 f33 _ ["_law_one","_law_other"] (za3 (z9q P4 P19 P17 P22) K):=zd7 mTooMany xTooMany PySem.F.excBase_ValueError.hasBase F33 O17 b17 k17 m17
 exact zfd B.len B.rng B.lst n_sorted F34 (O24.mono (by decide)) b24 k24 m24 (O25.mono (by decide)) b25 k25 m25 (O31.mono (by decide)) b31 k31 m31 (O32.mono (by decide)) b32 k32 m32 (O16.mono (by decide)) b16 k16 m16 (O19.mono (by decide)) b19 k19 m19 (O33.mono (by decide)) b33 k33 m33 (O21.mono (by decide)) b21 k21 m21 (O22.mono (by decide)) b22 k22 m22
theorem walk {l:PySem.W.OpenLaw} {q:Program} {loose:List Str} {XP:(Str→Option Value)→Heap→Prop} {YP:World→Heap→Prop} {d:DefRec} {K:Params→PySem.W.Frag} {P4 P19 P17 P22:Addr} (hn:l.most=some 63) (hdf:d.params.defaults=[])
  (hY:∀ (w:World) (h:Heap),YP w h→(K w.params).In h∧∀ P∈([P4,P19,P17,P22]:List Addr),h.get? P=some (PySem.W.tabObj #[]))
  (F:∀ (w:World) (mg:Str→Option Value) (fa:Addr) (h:Heap),(K w.params).In h→h.Ns mainGlobals mg→mg d.name=some (.ref fa) →
   ∃ fd:FuncData,(∀ (s:Shared) (u:Value),BindsTo s fd ⟨[u],[]⟩ [("_law_script",u)])∧(∀ T∈(z9q P4 P19 P17 P22),(K w.params).lookup T.at_=none∧∃ c,PySem.W.codeHdIn (K w.params) c T.at_=true)∧∀ base:Heap,(K w.params).In base→base.Ns mainGlobals mg→z41 base mg→z0v l.prog w (K w.params) mg base (CXx l.prog w) 10 fa fd ["_law_script"] (z95 (z9q P4 P19 P17 P22) (K w.params))) :
  PySem.W.WalkO q loose XP YP l.row.toRowW d [] (fun f vs=>PySem.call f vs) :=
 L2.walk_of2 (Ts:=(z9q P4 P19 P17 P22)) (n:=63) (k:=10) (x:="_law_script") (CX:=fun w=>(CXx l.prog w)) (sp:=fun w=>z95 (z9q P4 P19 P17 P22) (K w.params)) hn (by decide) hdf ⟨rfl,by decide,by decide⟩ hY F (fun _ _ a ns hl hT hS=>⟨a,ns,rfl,hS,hl,hT,fun _=>rfl⟩) fun _ _ _ _ _ z=>(by obtain ⟨_,_,_,_,_,_,_,_,_,h⟩:=z;exact h)
end Gu
open PySem PySem.W PyProof.Rows
set_option maxRecDepth 100000 in
set_option maxHeartbeats 0 in
theorem PySem.Challenge.cw_guisery_k25_whole_floors_joined_holds : PySem.Challenge.rw_guisery_k25_whole_floors_joined.Holds := by
 w_on;o_law;refine holds_open (q:=Gu.viewOf Gu.pY) (loose:=[]) (Xt:=fun s=>xlAt (Gu.viewOf Gu.pY) [] s && recOk (RowW.records Gu.rY.toRowW) s) (XP:=XL (Gu.viewOf Gu.pY) []) (Yf:=Hook.obs Gu.HK) (Ya:=Hook.val Gu.HK) (YP:=Hook.says (PySem.W.kmHook Gu.KH Gu.KA (fun _=>by kernel_rfl) [84,175,163,194])) (N:=3986) Gu.left (Hook.of Gu.HK) (Hook.keeps Gu.HK) (fun s e=>xl_of s (Bool.and_eq_true_iff.mp e).1) XL.keeps (by rfl) (by rfl) (by rfl) (fun s e=>recFacts_of (Bool.and_eq_true_iff.mp e).2) (by rfl) (by first | assumption | decide +kernel) (by decide +kernel) ⟨rfl,rfl,rfl,rfl,rfl,by decide +kernel⟩ ?hw ?hc;(case hw=>w_witness2)
 k_fill
 refine Gu.walk (l:=PySem.Challenge.rw_guisery_k25_whole_floors_joined) rfl rfl (fun w h Y=>⟨PySem.W.km_in_of Y,PySem.W.km_tabs_of Y⟩) ?F
 case F =>
  intro w mg fa h KX G hmg
  refine' Gu.all_mk KX G hmg ?h1 ?h2 ?h3 ?a4 ?l4 ?c4 ?k4 ?h5 ?h6 ?h7 ?h8 ?h9 ?h10 ?h11 ?h12 ?h13 ?h14 ?h15 ?h16 ?a17 ?l17 ?c17 ?k17 ?h18 ?a19 ?l19 ?c19 ?k19 ?h20 ?h21 ?a22 ?l22 ?c22 ?k22 ?h23 ?h24 ?h25 ?h26 ?h27 ?h28 ?h29 ?h30 ?h31 ?h32 ?h33 ?a34 ?l34 ?c34 ?k34 ?t4 ?u4 ?t19 ?u19 ?t17 ?u17 ?t22 ?u22 ?nP ?i1 ?i2 ?i3 ?z1 ?z2 ?z3 ?z4 ?z5 ?z6 ?z7 ?z8 ?z9 ?z10 ?z11 ?z12 ?z13 ?z14 ?z15 ?z16 ?z17 ?yTooMany ?xTooMany ?yBadWord ?xBadWord ?yBadCount ?xBadCount
  all_goals try (refine' Gu.FA.of ?_ ?_ ?_ ?_<;>try k_is)
  (case a4=>k_is);(case l4=>k_is);(case c4=>k_is);(case k4=>k_is)
  (case a17=>k_is);(case l17=>k_is);(case c17=>k_is);(case k17=>k_is)
  (case a19=>k_is);(case l19=>k_is);(case c19=>k_is);(case k19=>k_is)
  (case a22=>k_is);(case l22=>k_is);(case c22=>k_is);(case k22=>k_is)
  (case a34=>k_is);(case l34=>k_is);(case c34=>k_is);(case k34=>k_is)
  (case t4=>(first | kernel_rfl | k_is))
  (case u4=>(first | kernel_rfl | k_is))
  (case t19=>(first | kernel_rfl | k_is))
  (case u19=>(first | kernel_rfl | k_is))
  (case t17=>(first | kernel_rfl | k_is))
  (case u17=>(first | kernel_rfl | k_is))
  (case t22=>(first | kernel_rfl | k_is))
  (case u22=>(first | kernel_rfl | k_is))
  (case nP=>decide)
  (case i1=>k_is)
  (case i2=>k_is)
  (case i3=>k_is)
  (case z1=>k_is)
  (case z2=>k_is)
  (case z3=>k_is)
  (case z4=>k_is)
  (case z5=>k_is)
  (case z6=>k_is)
  (case z7=>k_is)
  (case z8=>k_is)
  (case z9=>k_is)
  (case z10=>k_is)
  (case z11=>k_is)
  (case z12=>k_is)
  (case z13=>k_is)
  (case z14=>k_is)
  (case z15=>k_is)
  (case z16=>k_is)
  (case z17=>k_is)
  (case yTooMany=>k_is)
  (case xTooMany=>k_exc)
  (case yBadWord=>k_is)
  (case xBadWord=>k_exc)
  (case yBadCount=>k_is)
  (case xBadCount=>k_exc)
