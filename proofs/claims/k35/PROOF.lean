import PyProof.Rows.All
import Wide.All
import OpenK.AllK
import Wide.FinOn
import Lean
import PyProof.EqAt
import PyProof.EqKinds
import PyProof.TupleCall
import PyProof.ListRange
import PyProof.TupleOfSeq
import PyProof.ConsumeWalk
import PyProof.WalksMore
import PyProof.Draws
import PyProof.EnumMake
import PyProof.ZipIter
import PyProof.Rows.EnumRows
import PyProof.Rows.FactsT2
import PyProof.MeetsSeq3
import PyProof.DictRoadsH
import PyProof.Rows.TupTab
import PyProof.Rows.SortWalk
import PyProof.Rows.SeqCalls
import PyProof.ListMulRoad
import KE.KDictLaws
import OpenK.KRaise
import KE.KLam
import KE.KNestM
import PyProof.IsRules
import KE.KDictList
import PyProof.DictCompW
import PySem.Challenge.RW_guisery_k35_whole_depths
set_option Elab.async false
set_option linter.all false
set_option maxRecDepth 100000
set_option maxHeartbeats 4000000
namespace L2
open PySem PySem.Spec PyProof.Rows
abbrev Key:=Sum Int Str
def z9t:Key→Value→Bool
 | .inl k,v=>Value.isInt k v
 | .inr x,v=>Value.isStrOf x v
def zhj (w:World):Key→Int
 | .inl k=>hashInt k
 | .inr x=>hashStr w x
theorem z0V:∀ {k:Key} {v:Value},z9t k v=true→(∃ i t,k=Sum.inl i∧v=Value.int i t)∨(∃ x t,k=Sum.inr x∧v=Value.str x t)
 | .inl i,v,h=>by
  obtain ⟨t,e⟩:=Value.isInt_shape (k:=i) (v:=v) h
  exact .inl ⟨i,t,rfl,e⟩
 | .inr x,v,h=>by
  obtain ⟨t,e⟩:=Value.isStrOf_shape (x:=x) (v:=v) h
  exact .inr ⟨x,t,rfl,e⟩
theorem zb0 (i:Int) (t:Tok):z9t (.inl i) (.int i t)=true:=by simp [z9t,Value.isInt]
theorem zaO (x:Str) (t:Tok):z9t (.inr x) (.str x t)=true:=by simp [z9t,Value.isStrOf]
theorem zeH (a b:Int):decide ((Sum.inl a:Key)=Sum.inl b)=(a == b):=by
 by_cases e:a=b
 ·subst e;simp
 ·have h:¬ (Sum.inl a:Key)=Sum.inl b:=fun q=>e (Sum.inl.inj q)
  rw [decide_eq_false h]
  exact (beq_eq_false_iff_ne.mpr e).symm
theorem zeU (a b:Str):decide ((Sum.inr a:Key)=Sum.inr b)=decide (a=b):=by
 by_cases e:a=b
 ·subst e;simp
 ·have h:¬ (Sum.inr a:Key)=Sum.inr b:=fun q=>e (Sum.inr.inj q)
  rw [decide_eq_false h,decide_eq_false e]
theorem zeQ (a:Int) (b:Str):decide ((Sum.inl a:Key)=Sum.inr b)=false:=decide_eq_false (fun q=>nomatch q)
theorem zf5 (a:Str) (b:Int):decide ((Sum.inr a:Key)=Sum.inl b)=false:=decide_eq_false (fun q=>nomatch q)
def z1d (prog:Program) (w:World):PySem.KeyKind prog w Key where
 is:=z9t
 hash:=zhj w
 inj:=fun v a b ha hb=>by
  rcases z0V ha with ⟨i,t,rfl,rfl⟩ | ⟨x,t,rfl,rfl⟩
  ·rcases z0V hb with ⟨j,u,rfl,e⟩ | ⟨y,u,rfl,e⟩
   ·injection e with e1 _;rw [e1]
   ·exact nomatch e
  ·rcases z0V hb with ⟨j,u,rfl,e⟩ | ⟨y,u,rfl,e⟩
   ·exact nomatch e
   ·injection e with e1 _;rw [e1]
 byValue:=fun k v h=>by
  rcases z0V h with ⟨i,t,rfl,rfl⟩ | ⟨x,t,rfl,rfl⟩<;>rfl
 pyHash:=fun hv h=>by
  rcases z0V hv with ⟨i,t,rfl,rfl⟩ | ⟨x,t,rfl,rfl⟩
  ·exact wpAny_pyHash_int h
  ·exact wpAny_pyHash_str h
 eqBool:=fun hu hv h=>by
  rcases z0V hu with ⟨i,t,rfl,rfl⟩ | ⟨x,t,rfl,rfl⟩
  ·rcases z0V hv with ⟨j,u,rfl,rfl⟩ | ⟨y,u,rfl,rfl⟩
   ·rw [zeH] at h;exact wpAny_eqBool_int h
   ·rw [zeQ] at h;exact SeqAt.EqAt.int_str i t y u _ _ _ _ h
  ·rcases z0V hv with ⟨j,u,rfl,rfl⟩ | ⟨y,u,rfl,rfl⟩
   ·rw [zf5] at h;exact SeqAt.EqAt.str_int x t j u _ _ _ _ h
   ·rw [zeU] at h;exact wpAny_eqBool_str h
 «strs»:=fun k x t v h=>by
  rcases z0V h with ⟨i,u,rfl,e⟩ | ⟨y,u,rfl,e⟩
  ·exact nomatch e
  ·injection e with e1 _
   subst e1
   cases v<;>rfl
theorem z87 (prog:Program) (w:World) (i:Int) (t:Tok):(z1d prog w).is (.inl i) (.int i t)=true:=zb0 i t
theorem z8b (prog:Program) (w:World) (x:Str) (t:Tok):(z1d prog w).is (.inr x) (.str x t)=true:=zaO x t
inductive V where
 | non | bl (b:Bool) | int (i:Int) | str (x:Str) | byt (b:Array UInt8) | flt (b:UInt64) | ref (a:Addr) | ty (n:String)
 deriving DecidableEq
def z1g:V→Value→Prop
 | .non,u=>u=Value.none
 | .bl b,u=>u=Value.bool b
 | .int i,u=>∃ t,u=Value.int i t
 | .str x,u=>∃ t,u=Value.str x t
 | .byt b,u=>∃ t,u=Value.bytes b t
 | .flt b,u=>∃ t,u=Value.float b t
 | .ref a,u=>u=Value.ref a
 | .ty n,u=>u=Value.type n
abbrev z1e:List V→List Value→Prop:=Paired z1g
theorem z1e.length {xs:List V} {us:List Value} (r:z1e xs us):xs.length=us.length:=Paired.length r
theorem z1e.get:∀ {xs:List V} {us:List Value} {i:Nat} {x:V},z1e xs us→xs[i]?=some x→∃ u,us[i]?=some u∧z1g x u
 | _,_,_,_,.nil,e=>by simp at e
 | _,_,0,_,.cons r _,e=>by simp at e;subst e;exact ⟨_,rfl,r⟩
 | _,_,i+1,x,.cons _ t,e=>by
  obtain ⟨u,h1,h2⟩:=z1e.get (i:=i) (x:=x) t (by simpa using e)
  exact ⟨u,by simpa using h1,h2⟩
theorem z1e.append:∀ {xs ys:List V} {us ws:List Value},z1e xs us→z1e ys ws→z1e (xs++ys) (us++ws)
 | _,_,_,_,.nil,s=>s
 | _,_,_,_,.cons r t,s=>.cons r (z1e.append t s)
theorem z1e.take:∀ {xs:List V} {us:List Value} (n:Nat),z1e xs us→z1e (xs.take n) (us.take n)
 | _,_,0,_=>.nil
 | _,_,_+1,.nil=>.nil
 | _,_,n+1,.cons r t=>.cons r (z1e.take n t)
theorem z1e.drop:∀ {xs:List V} {us:List Value} (n:Nat),z1e xs us→z1e (xs.drop n) (us.drop n)
 | _,_,0,r=>r
 | _,_,_+1,.nil=>.nil
 | _,_,n+1,.cons _ t=>z1e.drop n t
def z8y:Option V→Option Value→Prop
 | some v,some u=>z1g v u
 | none,none=>True
 | _,_=>False
def KV {κ:Type}:List (κ × V)→List (κ × Value)→Prop:=Paired fun (p:κ × V) (q:κ × Value)=>p.1=q.1∧z1g p.2 q.2
def kV:Key→V
 | .inl i=>.int i
 | .inr x=>.str x
inductive HO where
  | lst (xs:List V)
  | tup (xs:List V)
  | dK (kvs:List (Key × V)) | dT (kvs:List (List Key × V))
  | set (S:Int→Bool) (n:Nat)
  | ins (C dx:Addr) (fs:List (Str × V))
  | own (x:Addr)
  | xd (fs:List (Str × V))
  | met (f x:Addr)
  | rng (lo hi:Int)
  | frz (o:Obj) (u:HO)
  | tbl (ps:Array Value)
  | ext (φ:Heap→Prop)
abbrev Hp:=Addr→Option HO
def upd (H:Hp) (a:Addr) (o:HO):Hp:=fun b=>if b=a then some o else H b
theorem z03 {H:Hp} {a:Addr} {o:HO}:upd H a o a=some o:=by unfold upd;rw [if_pos rfl]
theorem z0a {H:Hp} {a b:Addr} {o:HO} (h:b≠a):upd H a o b=H b:=by unfold upd;rw [if_neg h]
theorem z42 {H:Hp} {a b:Addr} {o u:HO} (h:H a=some o) (h':H b=some u) (d:o≠u):a≠b:=by
 intro e;subst e;rw [h] at h';exact d (Option.some.inj h')
theorem z0g {H:Hp} {a b:Addr} {o:HO} (h:H a=some o) (h':H b=none):a≠b:=by
 intro e;subst e;rw [h] at h';cases h'
section
variable (P:Program) (w:World)
def z1R (H:Hp) (h:Heap) (a:Addr):HO→Prop
 | .lst xs=>xs.length≤sizeLine∧∃ (its:List Value) (n:Nat),z1e xs its∧h.get? a=some { cls:=.type "list",data:=.seq its.toArray n }
 | .tup xs=>xs.length≤sizeLine∧∃ (its:List Value) (n:Nat),z1e xs its∧h.get? a=some { cls:=.type "tuple",data:=.seq its.toArray n }
 | .dK kvs=>kvs.length≤sizeLine∧(a == sysModules)=false∧∃ vs,KV kvs vs∧h.DictOf (z1d P w) a vs
 | .dT kvs=>kvs.length≤sizeLine∧(a == sysModules)=false∧∃ xs:List (List Key × Addr × Value),
   Paired (fun (p:List Key × V) (q:List Key × Addr × Value)=>p.1=q.1∧H q.2.1=some (.tup (p.1.map kV))∧z1g p.2 q.2.2) kvs xs ∧
   ∃ o es ep,h.get? a=some o∧o.ExactDict∧o.data=.dict es ep∧es.toList=xs.map (entryOfKey (tupleKind (z1d P w)))∧(xs.map (·.1)).Nodup
 | .set S n=>h.SetOf (intKind P w) a S n
 | .ins C dx fs=>H dx=some (.own a)∧fs.length≤1000∧dx≠a∧h.get? a=some (PySem.W.instObj C dx) ∧
   ∃ mA,h.Ns1 dx mA∧(∀ f,z8y (fs.lookup f) (mA f))∧PySem.Within mA (fs.map (·.1))
 | .own _=>∃ o,h.get? a=some o
 | .xd fs=>∃ mA,h.Ns1 a mA∧∀ f,z8y (fs.lookup f) (mA f)
 | .rng lo hi=>∃ t u v,h.get? a=some { cls:=.type "range",data:=.fields #[.int lo t,.int hi u,.int 1 v] }
 | .frz o u=>h.get? a=some o∧z1R H h a u
 | .tbl ps=>h.get? a=some { cls:=.none,data:=.fields ps }
 | .met f x=>h.get? a=some (PySem.W.methodObj (.ref f) (.ref x))
 | .ext φ=>φ h∧(∃ o,h.get? a=some o)∧∀ h1 h2:Heap,φ h1→(∀ o,h1.get? a=some o→h2.get? a=some o)→φ h2
def HOk (H:Hp) (h:Heap):Prop:=∀ a o,H a=some o→z1R P w H h a o
end
section
variable {P:Program} {w:World} {H H':Hp} {h h':Heap} {a:Addr} {o:HO}
theorem z1R.lt (x:z1R P w H h a o):a < h.objs.size:=by
 cases o with
 | lst xs=>obtain ⟨_,_,_,_,e⟩:=x;exact Heap.lt_size e
 | tup xs=>obtain ⟨_,_,_,_,e⟩:=x;exact Heap.lt_size e
 | dK kvs=>obtain ⟨_,_,_,_,o,_,_,e,_⟩:=x;exact Heap.lt_size e
 | dT kvs=>obtain ⟨_,_,_,_,o,_,_,e,_⟩:=x;exact Heap.lt_size e
 | set S n=>obtain ⟨o,_,_,_,e,_⟩:=x;exact Heap.lt_size e
 | ins C dx fs=>obtain ⟨_,_,_,e,_⟩:=x;exact Heap.lt_size e
 | own y=>obtain ⟨_,e⟩:=x;exact Heap.lt_size e
 | xd fs=>obtain ⟨_,⟨_,_,_,e,_⟩,_⟩:=x;exact Heap.lt_size e
 | rng lo hi=>obtain ⟨_,_,_,e⟩:=x;exact Heap.lt_size e
 | frz ob u=>obtain ⟨e,_⟩:=x;exact Heap.lt_size e
 | tbl ps=>exact Heap.lt_size (show h.get? a=some _ from x)
 | met f y=>exact Heap.lt_size (show h.get? a=some _ from x)
 | ext φ=>obtain ⟨_,⟨_,e⟩,_⟩:=x;exact Heap.lt_size e
theorem Paired.mapP {α β:Type} {F G:α→β→Prop}:∀ {l₁:List α} {l₂:List β},Paired F l₁ l₂→(∀ a b,F a b→G a b)→Paired G l₁ l₂
 | _,_,.nil,_=>.nil
 | _,_,.cons r t,f=>.cons (f _ _ r) (Paired.mapP t f)
theorem z1R.stay (x:z1R P w H h a o) (k:∀ b u,(b=a∨H b=some (.own a))→h.get? b=some u→h'.get? b=some u)
  (ho:∀ b,H b=some (.own a)→H' b=some (.own a)) (ht:∀ b xs,H b=some (.tup xs)→H' b=some (.tup xs)):z1R P w H' h' a o:=by
 induction o with
 | lst xs=>obtain ⟨z,its,n,r,e⟩:=x;exact ⟨z,its,n,r,k _ _ (.inl rfl) e⟩
 | tup xs=>obtain ⟨z,its,n,r,e⟩:=x;exact ⟨z,its,n,r,k _ _ (.inl rfl) e⟩
 | dK kvs=>obtain ⟨z,y,vs,r,ob,es,ep,e,c⟩:=x;exact ⟨z,y,vs,r,ob,es,ep,k _ _ (.inl rfl) e,c⟩
 | dT kvs =>
  obtain ⟨z,y,xs,r,ob,es,ep,e,c⟩:=x
  exact ⟨z,y,xs,Paired.mapP r fun p q z=>⟨z.1,ht _ _ z.2.1,z.2.2⟩,ob,es,ep,k _ _ (.inl rfl) e,c⟩
 | set S n=>obtain ⟨ob,es,ep,t,e,c⟩:=x;exact ⟨ob,es,ep,t,k _ _ (.inl rfl) e,c⟩
 | ins C dx fs =>
  obtain ⟨d,z,ne,e,mA,⟨od,es,ep,e2,c⟩,r⟩:=x
  exact ⟨ho _ d,z,ne,k _ _ (.inl rfl) e,mA,⟨od,es,ep,k _ _ (.inr d) e2,c⟩,r⟩
 | own y=>obtain ⟨ob,e⟩:=x;exact ⟨ob,k _ _ (.inl rfl) e⟩
 | xd fs=>obtain ⟨mA,⟨od,es,ep,e,c⟩,r⟩:=x;exact ⟨mA,⟨od,es,ep,k _ _ (.inl rfl) e,c⟩,r⟩
 | rng lo hi=>obtain ⟨t,u,v,e⟩:=x;exact ⟨t,u,v,k _ _ (.inl rfl) e⟩
 | frz ob u ih=>obtain ⟨e,q⟩:=x;exact ⟨k _ _ (.inl rfl) e,ih q⟩
 | tbl ps =>
  have e:h.get? a=some { cls:=.none,data:=.fields ps }:=x
  show h'.get? a=some { cls:=.none,data:=.fields ps }
  exact k a _ (.inl rfl) e
 | met f y =>
  have e:h.get? a=some (PySem.W.methodObj (.ref f) (.ref y)):=x
  show h'.get? a=some (PySem.W.methodObj (.ref f) (.ref y))
  exact k a _ (.inl rfl) e
 | ext φ=>obtain ⟨p,⟨o,e⟩,st⟩:=x;exact ⟨st _ _ p fun o q=>k _ _ (.inl rfl) q,⟨o,k _ _ (.inl rfl) e⟩,st⟩
theorem HOk.lt (x:HOk P w H h) (e:H a=some o):a < h.objs.size:=(x a o e).lt
theorem HOk.fresh (x:HOk P w H h) (e:h.objs.size≤a):H a=none:=by
 cases q:H a with
 | none=>rfl
 | some u=>exact absurd (Nat.lt_of_lt_of_le (x.lt q) e) (Nat.lt_irrefl _)
theorem HOk.kept (x:HOk P w H h) (k:∀ b u,h.get? b=some u→h'.get? b=some u):HOk P w H h':=fun a o e =>
 (x a o e).stay (fun b u _ q=>k b u q) (fun _ q=>q) fun _ _ q=>q
theorem HOk.laid (x:HOk P w H h) (k:∀ b u,h.get? b=some u→h'.get? b=some u) (hp:h.objs.size≤a) (new:z1R P w (upd H a o) h' a o):HOk P w (upd H a o) h':=fun b u e=>by
 have hn:=x.fresh hp
 by_cases hb:b=a
 ·subst hb;rw [z03] at e;cases e;exact new
 ·rw [z0a hb] at e
  exact (x b u e).stay (fun c v _ q=>k c v q) (fun c q=>by rw [z0a (z0g q hn)];exact q) fun c xs q=>by rw [z0a (z0g q hn)];exact q
end
def Rd (H:Hp) (a:Addr) (u:HO):Prop:=H a=some u∨∃ o,H a=some (.frz o u)
theorem Rd.ok {P:Program} {w:World} {H:Hp} {h:Heap} {a:Addr} {u:HO} (r:Rd H a u) (x:HOk P w H h):z1R P w H h a u:=by
 rcases r with r | ⟨o,r⟩
 ·exact x a u r
 ·obtain ⟨_,q⟩:=x a _ r
  exact q
def Mut:Option HO→Prop
 | some (.lst _)=>True
 | some (.dK _)=>True
 | some (.dT _)=>True
 | some (.set _ _)=>True
 | some (.ins _ _ _)=>True
 | some (.ext _)=>True
 | _=>False
section
variable {P:Program} {w:World} {H:Hp} {h h':Heap} {x e:Addr} {o':HO}
theorem HOk.write (ok:HOk P w H h) (mu:Mut (H x)) (he:e=x∨H e=some (.own x)) (k:∀ b u,b≠e→h.get? b=some u→h'.get? b=some u) (heo:∃ u,h'.get? e=some u)
  (new:z1R P w (upd H x o') h' x o'):HOk P w (upd H x o') h':=fun b u q=>by
 have nown:∀ c y,H c=some (.own y)→c≠x:=fun c y r z=>by subst z;rw [r] at mu;exact mu
 have ntup:∀ c xs,H c=some (.tup xs)→c≠x:=fun c xs r z=>by subst z;rw [r] at mu;exact mu
 by_cases hb:b=x
 ·subst hb;rw [z03] at q;cases q;exact new
 ·rw [z0a hb] at q
  by_cases hbe:b=e
  ·have q':H b=some (.own x):=by
    rcases he with z | z
    ·exact absurd (hbe.trans z) hb
    ·rw [hbe];exact z
   rw [q] at q';cases q'
   obtain ⟨v,hv⟩:=heo
   exact ⟨v,by rw [hbe];exact hv⟩
  ·refine (ok b u q).stay (fun c v hc r=>k c v ?_ r) (fun c r=>by rw [z0a (nown c b r)];exact r) fun c xs r=>by rw [z0a (ntup c xs r)];exact r
   rcases hc with rfl | hc
   ·exact hbe
   ·rintro rfl
    rcases he with z | z
    ·exact nown c b hc z
    ·rw [hc] at z;cases z;exact hb rfl
end
structure Un (fs ex:List Addr) (H H':Hp) (h h':Heap):Prop where
 keep:∀ b o,h.get? b=some o→H b=none→b∉fs→b∉ex→h'.get? b=some o
 slot:∀ b o,h.get? b=some o→H b=none→b∈fs→b∉ex→∃ sl,h'.get? b=some { o with slots:=sl }
 free:∀ b o,h.get? b=some o→H b=none→b∉ex→H' b=none
 there:∀ b o,h.get? b=some o→b∉ex→∃ o',h'.get? b=some o'
 tups:∀ b xs,H b=some (.tup xs)→H' b=some (.tup xs)
 frzs:∀ b o u,H b=some (.frz o u)→H' b=some (.frz o u)
 tbls:∀ b ps,H b=some (.tbl ps)→∃ more,H' b=some (.tbl (ps++more))
section
variable {fs fs' ex ex':List Addr} {H H1 H2:Hp} {h h1 h2 h':Heap} {a x e:Addr} {o:HO}
theorem Un.any (u:Un fs ex H H1 h h1) {b:Addr} {ob:Obj} (q:h.get? b=some ob) (n:H b=none) (hx:b∉ex):∃ sl,h1.get? b=some { ob with slots:=sl }:=by
 by_cases hb:b∈fs
 ·exact u.slot b ob q n hb hx
 ·exact ⟨ob.slots,u.keep b ob q n hb hx⟩
theorem Un.kept (k:∀ b u,h.get? b=some u→h'.get? b=some u):Un fs ex H H h h' :=
 ⟨fun b ob q _ _ _=>k b ob q,fun b ob q _ _ _=>⟨ob.slots,k b ob q⟩,fun _ _ _ n _=>n,fun b ob q _=>⟨ob,k b ob q⟩,fun _ _ q=>q,fun _ _ _ q=>q,fun _ ps q=>⟨#[],by rw [q];simp⟩⟩
theorem Un.refl:Un fs ex H H h h:=Un.kept fun _ _ q=>q
theorem Un.laid (k:∀ b u,h.get? b=some u→h'.get? b=some u) (hp:h.objs.size≤a) (hn:H a=none):Un fs ex H (upd H a o) h h' where
 keep:=fun b u q _ _ _=>k b u q
 slot:=fun b u q _ _ _=>⟨u.slots,k b u q⟩
 free:=fun b u q n _=>by rw [z0a (Nat.ne_of_lt (Nat.lt_of_lt_of_le (Heap.lt_size q) hp))];exact n
 there:=fun b u q _=>⟨u,k b u q⟩
 tups:=fun b xs q=>by rw [z0a (z0g q hn)];exact q
 frzs:=fun b u xs q=>by rw [z0a (z0g q hn)];exact q
 tbls:=fun b ps q=>⟨#[],by rw [z0a (z0g q hn),q];simp⟩
theorem Un.write (mu:Mut (H x)) (he:e=x∨H e=some (.own x)) (k:∀ b u,b≠e→h.get? b=some u→h'.get? b=some u) (heo:∃ u,h'.get? e=some u):Un fs ex H (upd H x o) h h':=by
 have hx:∀ b,H b=none→b≠x:=fun b n z=>by subst z;rw [n] at mu;exact mu
 have hb:∀ b,H b=none→b≠e:=fun b n z=>by
  subst z
  rcases he with r | r
  ·exact hx b n r
  ·rw [n] at r;cases r
 have hm:∀ b u,H b=some u→¬ Mut (some u)→b≠x:=fun b u q nm z=>by subst z;rw [q] at mu;exact nm mu
 refine ⟨fun b u q n _ _=>k b u (hb b n) q,fun b u q n _ _=>⟨u.slots,k b u (hb b n) q⟩,fun b u q n _=>by rw [z0a (hx b n)];exact n,fun b u q _=>?_,
  fun b xs q=>by rw [z0a (hm b _ q fun z=>z)];exact q,fun b u xs q=>by rw [z0a (hm b _ q fun z=>z)];exact q,fun b ps q=>⟨#[],by rw [z0a (hm b _ q fun z=>z),q];simp⟩⟩
 by_cases hbe:b=e
 ·subst hbe;exact heo
 ·exact ⟨u,k b u hbe q⟩
end
def trk (h:Heap) (H:Hp):List Addr:=(List.range h.objs.size).filter fun a=>(H a).isSome
def zbJ (h:Heap) (H:Hp):Heap:=PySem.W.hideAll h (trk h H)
theorem z9X (h:Heap) (H:Hp):(zbJ h H).objs.size=h.objs.size:=PySem.W.hideAll_size _ _
theorem zcw {h:Heap} {H:Hp} {b:Addr} {o:Obj} (e:h.get? b=some o) (n:H b=none):(zbJ h H).get? b=some o :=
 PySem.W.hideAll_get _ e fun hm=>by
  have q:(H b).isSome=true:=(List.mem_filter.mp hm).2
  rw [n] at q;simp at q
theorem ze3 {h:Heap} {H:Hp} {b:Addr} {o:Obj} (e:(zbJ h H).get? b=some o):h.get? b=some o∧H b=none:=by
 have e':h.get? b=some o:=PySem.W.of_hideAll (trk h H) e
 refine ⟨e',?_⟩
 cases q:H b with
 | none=>rfl
 | some x =>
  have hm:b∈trk h H:=List.mem_filter.mpr ⟨List.mem_range.mpr (Heap.lt_size e'),by simp [q]⟩
  have z:(zbJ h H).get? b=none:=PySem.W.hideAll_none (trk h H) hm
  rw [z] at e;cases e
def zeg (g h:Heap) (L:Addr):List (Addr × Obj):=(List.range h.objs.size).filterMap fun a=>if a=L∨(g.get? a).isSome=true then none else (h.get? a).map fun o=>(a,o)
def z4P (g h:Heap) (L d:Addr):List (Addr × Obj):=(zeg g h L).filter fun p=>decide (p.1≠d)
structure Mod (K:PySem.W.Frag) (mg:Str→Option Value) (base:Heap):Prop where
 kin:K.In base
 glob:base.Ns mainGlobals mg
 blt:∃ mb,base.Ns builtinsNs mb∧∀ x:Str,x≠"__name__"→mb x=bootBuiltins x
 nolimit:base.NoLimit
structure Cx where
 prog:Program
 w:World
 K:PySem.W.Frag
 mg:Str→Option Value
 base:Heap
 A:Around
 N:List Str
 s₀:Shared
 H₀:Hp
 env:Env
 outer:List Env
 stack:List Env
 ex:List Addr
 fn:Str→Bool
 calm:Bool
 pn:List (Addr × Obj)
 xe:Value→Shared→Prop
def frs (l:List Env):List Addr:=l.filterMap (·.frame)
abbrev Cx.fs (X:Cx):List Addr:=frs X.outer
def Vis (sc:Scope) (x:Str):Prop:=sc.names.lookup x=some .local∨sc.names.lookup x=some .cell∨sc.names.lookup x=some .free
def Loc (sc:Scope) (x:Str):Prop:=sc.names.lookup x=some .local∨sc.names.lookup x=some .cell
def zhk (env:Env) (h:Heap) (m:Str→Option Value) (x:Str) (u:Value):Prop :=
 (env.kindOf x=some .local∧m x=some u)∨((env.kindOf x=some .cell∨env.kindOf x=some .free)∧∃ c,env.cells.lookup x=some c∧h.IsCell c (some u))
structure Cx.Ok (X:Cx):Prop where
 mod:Mod X.K X.mg X.base
 kind:X.env.scope.kind=.function
 glob:X.env.globals=mainGlobals
 blt:X.env.builtins=builtinsNs
 above:X.s₀.heap.objs.size≤X.env.locals
 inj:∀ x y c,X.env.cells.lookup x=some c→X.env.cells.lookup y=some c→x=y
 has:∀ x,(X.env.kindOf x=some .cell∨X.env.kindOf x=some .free)→∃ c,X.env.cells.lookup x=some c
 cab:∀ x c,X.fn x=true→X.env.cells.lookup x=some c→X.s₀.heap.objs.size≤c
 hd:X.calm=true→X.A.handled=none
 frames:X.A.frames=some X.stack
 stk:X.stack=X.outer∨(X.stack=X.env::X.outer∧X.env.frame=some X.env.locals)
 exf:∀ b∈X.ex,b≠X.env.locals∧∀ x c,X.env.cells.lookup x=some c→c≠b
 bs:∀ b o,X.base.get? b=some o→X.s₀.heap.get? b=some o∧X.H₀ b=none
 bsz:X.base.objs.size≤X.s₀.heap.objs.size
 noex:∀ b o,X.base.get? b=some o→b∉X.ex
 exfs:∀ b∈X.ex,b∉X.fs
 funs:X.s₀.heap.FunFrames X.base X.outer
 frf:∀ b∈X.fs,X.H₀ b=none
structure Inv (X:Cx) (pins:List (Addr × Obj)) (σ:List (Option V)) (H:Hp) (s:Shared):Prop where
 ok:X.Ok
 os:s.os=X.s₀.os
 bare:AllBare s.gens
 base:Un X.fs X.ex X.H₀ H X.s₀.heap s.heap
 loc:∃ m,s.heap.Ns X.env.locals m∧∀ (i:Nat) (x:Str) (v:V),X.N[i]?=some x→σ[i]?=some (some v)→Vis X.env.scope x→∃ u,z1g v u∧zhk X.env s.heap m x u
 cell:∀ x c,X.env.cells.lookup x=some c→∃ v,s.heap.IsCell c v
 free:H X.env.locals=none
 freeC:∀ x c,X.env.cells.lookup x=some c→H c=none
 pin:∀ p∈X.pn++pins,s.heap.get? p.1=some p.2∧H p.1=none∧p.1≠X.env.locals∧p.1∉X.fs∧∀ v,p.2.data≠.cell v
 hok:HOk X.prog X.w H s.heap
 len:σ.length=X.N.length
section
variable {X:Cx} {pins:List (Addr × Obj)} {σ:List (Option V)} {H H':Hp} {s:Shared} {h':Heap}
theorem Cx.Ok.nofr (ok:X.Ok) {b:Addr} {o:Obj} (e:X.base.get? b=some o):b∉X.fs:=fun hb=>by
 have:=(ok.funs.mem hb).1
 rw [e] at this;cases this
theorem Inv.bs (I:Inv X pins σ H s):∀ b o,X.base.get? b=some o→s.heap.get? b=some o∧H b=none:=fun b o e =>
 ⟨I.base.keep b o (I.ok.bs b o e).1 (I.ok.bs b o e).2 (I.ok.nofr e) (I.ok.noex b o e),I.base.free b o (I.ok.bs b o e).1 (I.ok.bs b o e).2 (I.ok.noex b o e)⟩
theorem Inv.bk (I:Inv X pins σ H s):∀ b o,X.base.get? b=some o→s.heap.get? b=some o:=fun b o e=>(I.bs b o e).1
theorem Inv.mod (I:Inv X pins σ H s):Mod X.K X.mg X.base:=I.ok.mod
theorem Inv.kIn (I:Inv X pins σ H s):X.K.In s.heap:=I.ok.mod.kin.keeps I.bk
theorem Inv.lt (I:Inv X pins σ H s):X.env.locals < s.heap.objs.size:=let ⟨_,hn,_⟩:=I.loc;hn.lt
theorem Inv.sz (I:Inv X pins σ H s):X.s₀.heap.objs.size≤s.heap.objs.size:=Nat.le_trans I.ok.above (Nat.le_of_lt I.lt)
theorem Inv.nofs (I:Inv X pins σ H s) {a:Addr} (h:s.heap.objs.size≤a):a∉X.fs:=fun hb=>by
 obtain ⟨_,o,ho,_⟩:=I.ok.funs.mem hb
 exact absurd (Nat.lt_of_lt_of_le (Heap.lt_size ho) (Nat.le_trans I.sz h)) (Nat.lt_irrefl _)
theorem Inv.cne (I:Inv X pins σ H s):∀ x c,X.env.cells.lookup x=some c→c≠X.env.locals:=fun x c e z=>by
 obtain ⟨v,o,ho,hd⟩:=I.cell x c e
 obtain ⟨m,⟨o',es,ep,ho',hd',_⟩,_⟩:=I.loc
 rw [z,ho'] at ho;cases ho;rw [hd'] at hd;cases hd
theorem Inv.funs (I:Inv X pins σ H s):s.heap.FunFrames X.base X.outer:=by
 have all:∀ (l:List Env),(∀ b∈frs l,b∈X.fs)→X.s₀.heap.FunFrames X.base l→s.heap.FunFrames X.base l:=by
  intro l
  induction l with
  | nil=>intro _ _;trivial
  | cons env r ih =>
   intro hs hl
   obtain ⟨hk,⟨L,o,hf,hn,ho,hd⟩,hr⟩:=hl
   have hL:L∈X.fs:=hs L (by unfold frs;rw [List.filterMap_cons,hf];exact List.mem_cons_self)
   obtain ⟨sl,e⟩:=I.base.slot L o ho (I.ok.frf L hL) hL fun z=>I.ok.exfs L z hL
   exact ⟨hk,⟨L,_,hf,hn,e,hd⟩,ih (fun b hb=>hs b (by unfold frs;rw [List.filterMap_cons,hf];exact List.mem_cons_of_mem _ hb)) hr⟩
 exact all X.outer (fun _ hb=>hb) I.ok.funs
theorem Inv.stack (I:Inv X pins σ H s):s.heap.FunFrames X.base X.stack:=by
 rcases I.ok.stk with e | ⟨e,hf⟩
 ·rw [e];exact I.funs
 ·rw [e]
  obtain ⟨m,hn,_⟩:=I.loc
  refine .cons (by rw [I.ok.kind];decide) hf hn ?_ I.funs
  exact Heap.get?_none_of_le (Nat.le_trans I.ok.bsz I.ok.above)
theorem Inv.stkSub (I:Inv X pins σ H s):∀ b∈frs X.stack,b∈X.env.locals::X.fs:=fun b hb=>by
 rcases I.ok.stk with e | ⟨e,hf⟩
 ·rw [e] at hb;exact List.mem_cons_of_mem _ hb
 ·rw [e] at hb
  unfold frs at hb
  rw [List.filterMap_cons,hf] at hb
  exact hb
theorem Inv.stkFree (I:Inv X pins σ H s):∀ b∈frs X.stack,H b=none:=fun b hb=>by
 rcases List.mem_cons.mp (I.stkSub b hb) with e | hb
 ·rw [e];exact I.free
 ·obtain ⟨_,o,ho,_⟩:=I.ok.funs.mem hb
  exact I.base.free b o ho (I.ok.frf b hb) fun z=>I.ok.exfs b z hb
theorem Inv.step {g':Array GenState} {t':Nat} {d':Drawn} {ch:List Addr} (I:Inv X pins σ H s)
  (hch:∀ b∈ch,(b∈X.ex∨X.s₀.heap.objs.size≤b)∧b≠X.env.locals∧(∀ x c,X.env.cells.lookup x=some c→c≠b)∧∀ p∈X.pn++pins,p.1≠b)
  (keep:∀ b o,b≠X.env.locals→b∉X.fs→b∉ch→s.heap.get? b=some o→H b=none→h'.get? b=some o)
  (slot:∀ b o,b≠X.env.locals→b∈X.fs→b∉ch→s.heap.get? b=some o→H b=none→∃ sl,h'.get? b=some { o with slots:=sl }) (free:∀ b o,b∉ch→s.heap.get? b=some o→H b=none→H' b=none)
  (there:∀ b o,b∉ch→s.heap.get? b=some o→∃ o',h'.get? b=some o')
  (tups:∀ b xs,H b=some (.tup xs)→H' b=some (.tup xs)) (frzs:∀ b o u,H b=some (.frz o u)→H' b=some (.frz o u)) (tbls:∀ b ps,H b=some (.tbl ps)→∃ more,H' b=some (.tbl (ps++more)))
  (ns:∀ m,s.heap.Ns X.env.locals m→h'.Ns X.env.locals m) (hok:HOk X.prog X.w H' h') (hg:AllBare g') :
  Inv X pins σ H' { s with heap:=h',gens:=g',drawn:=d',toks:=t' }:=by
 have neL:∀ b o,X.s₀.heap.get? b=some o→b≠X.env.locals:=fun b o e=>Nat.ne_of_lt (Nat.lt_of_lt_of_le (Heap.lt_size e) I.ok.above)
 have neC:∀ b o,X.s₀.heap.get? b=some o→b∉X.ex→b∉ch:=fun b o e hx hb=>by
  rcases (hch b hb).1 with z | z
  ·exact hx z
  ·exact absurd (Nat.lt_of_lt_of_le (Heap.lt_size e) z) (Nat.lt_irrefl _)
 have cellK:∀ x c,X.env.cells.lookup x=some c→∀ v,s.heap.IsCell c v→h'.IsCell c v:=fun x c e v ⟨o,ho,hd⟩=>by
  have nch:c∉ch:=fun z=>(hch c z).2.2.1 x c e rfl
  by_cases hc:c∈X.fs
  ·obtain ⟨sl,q⟩:=slot c o (I.cne x c e) hc nch ho (I.freeC x c e)
   exact ⟨_,q,hd⟩
  ·exact ⟨o,keep c o (I.cne x c e) hc nch ho (I.freeC x c e),hd⟩
 refine ⟨I.ok,I.os,hg,⟨fun b o e n hb hx=>?_,fun b o e n hb hx=>?_,fun b o e n hx=>?_,fun b o e hx=>?_,fun b xs e=>tups b xs (I.base.tups b xs e),fun b o xs e=>frzs b o xs (I.base.frzs b o xs e),fun b ps e=>?_⟩,?_,fun x c e=>?_,?_,fun x c e=>?_,fun p hp=>?_,hok,I.len⟩
 ·exact keep b o (neL b o e) hb (neC b o e hx) (I.base.keep b o e n hb hx) (I.base.free b o e n hx)
 ·obtain ⟨sl,e1⟩:=I.base.slot b o e n hb hx
  obtain ⟨sl',e2⟩:=slot b _ (neL b o e) hb (neC b o e hx) e1 (I.base.free b o e n hx)
  exact ⟨sl',e2⟩
 ·obtain ⟨o',e1⟩:=I.base.there b o e hx
  exact free b o' (neC b o e hx) e1 (I.base.free b o e n hx)
 ·obtain ⟨o',e1⟩:=I.base.there b o e hx
  exact there b o' (neC b o e hx) e1
 ·obtain ⟨m1,e1⟩:=I.base.tbls b ps e
  obtain ⟨m2,e2⟩:=tbls b _ e1
  exact ⟨m1++m2,by rw [e2,Array.append_assoc]⟩
 ·obtain ⟨m,hn,hl⟩:=I.loc
  refine ⟨m,ns m hn,fun i x v e1 e2 e3=>?_⟩
  obtain ⟨u,r,l⟩:=hl i x v e1 e2 e3
  refine ⟨u,r,?_⟩
  rcases l with l | ⟨k,c,e,z⟩
  ·exact .inl l
  ·exact .inr ⟨k,c,e,cellK x c e _ z⟩
 ·obtain ⟨v,z⟩:=I.cell x c e
  exact ⟨v,cellK x c e v z⟩
 ·obtain ⟨m,⟨o,_,_,ho,_⟩,_⟩:=I.loc
  exact free _ o (fun z=>(hch _ z).2.1 rfl) ho I.free
 ·obtain ⟨v,o,ho,hd⟩:=I.cell x c e
  exact free c o (fun z=>(hch c z).2.2.1 x c e rfl) ho (I.freeC x c e)
 ·obtain ⟨e,n,ne,nf,d⟩:=I.pin p hp
  have nch:p.1∉ch:=fun z=>(hch p.1 z).2.2.2 p hp rfl
  exact ⟨keep p.1 p.2 ne nf nch e n,free p.1 p.2 nch e n,ne,nf,d⟩
theorem Inv.un {t':Nat} (I:Inv X pins σ H s) (u:Un X.fs [] H H' s.heap h') (hok:HOk X.prog X.w H' h'):Inv X pins σ H' { s with heap:=h',toks:=t' }:=by
 obtain ⟨m,⟨o,es,ep,ho,r⟩,_⟩:=id I.loc
 obtain ⟨sl,hL⟩:=u.any ho I.free (by simp)
 exact I.step (g':=s.gens) (d':=s.drawn) (ch:=[]) (fun _ z=>nomatch z) (fun b o _ hb _ e n=>u.keep b o e n hb (by simp)) (fun b o _ hb _ e n=>u.slot b o e n hb (by simp)) (fun b o _ e n=>u.free b o e n (by simp)) (fun b o _ e=>u.there b o e (by simp)) u.tups u.frzs u.tbls (fun m' hm=>by
  obtain ⟨o',es',ep',ho',r'⟩:=hm
  rw [ho] at ho';cases ho'
  exact ⟨_,es',ep',hL,r'⟩) hok I.bare
theorem Inv.call {g':Array GenState} {t':Nat} {d':Drawn} {ch:List Addr} (I:Inv X pins σ H s) (u:Un (frs X.stack) ch H H' s.heap h') (hok:HOk X.prog X.w H' h') (hg:AllBare g')
  (hch:∀ b∈ch,(b∈X.ex∨X.s₀.heap.objs.size≤b)∧b≠X.env.locals∧(∀ x c,X.env.cells.lookup x=some c→c≠b)∧∀ p∈X.pn++pins,p.1≠b) :
  Inv X pins σ H' { s with heap:=h',gens:=g',drawn:=d',toks:=t' }:=by
 obtain ⟨m,⟨o,es,ep,ho,r⟩,_⟩:=id I.loc
 obtain ⟨sl,hL⟩:=u.any ho I.free fun z=>(hch _ z).2.1 rfl
 exact I.step (ch:=ch) hch (fun b o hL hb hc e n=>u.keep b o e n (fun z=>(List.mem_cons.mp (I.stkSub b z)).elim hL hb) hc) (fun b o _ _ hc e n=>u.any e n hc) (fun b o hc e n=>u.free b o e n hc) (fun b o hc e=>u.there b o e hc) u.tups u.frzs u.tbls (fun m' hm=>by
  obtain ⟨o',es',ep',ho',r'⟩:=hm
  rw [ho] at ho';cases ho'
  exact ⟨_,es',ep',hL,r'⟩) hok hg
theorem Inv.turned {t':Nat} {it:Addr} (I:Inv X pins σ H s) (k:∀ b o,b≠it→s.heap.get? b=some o→h'.get? b=some o) (hn:H it=none) (hL:it≠X.env.locals)
  (h1:it∈X.ex∨X.s₀.heap.objs.size≤it) (h2:∀ x c,X.env.cells.lookup x=some c→c≠it) (h3:∀ p∈X.pn++pins,p.1≠it):Inv X pins σ H { s with heap:=h',toks:=t' }:=by
 have nit:∀ b u,H b=some u→b≠it:=fun b u e z=>by rw [z,hn] at e;cases e
 refine I.step (g':=s.gens) (d':=s.drawn) (ch:=[it]) (fun b hb=>?_) (fun b o _ _ hc e _=>k b o (fun z=>hc (by simp [z])) e) (fun b o _ _ hc e _=>⟨o.slots,k b o (fun z=>hc (by simp [z])) e⟩) (fun _ _ _ _ n=>n)
  (fun b o hc e=>⟨o,k b o (fun z=>hc (by simp [z])) e⟩) (fun _ _ e=>e) (fun _ _ _ e=>e) (fun b ps e=>⟨#[],by rw [e];simp⟩) (fun m hm=>?_) (fun b u e=>?_) I.bare
 ·have e:b=it:=by simpa using hb
  subst e
  exact ⟨h1,hL,h2,h3⟩
 ·obtain ⟨o,es,ep,ho,r⟩:=hm
  exact ⟨o,es,ep,k _ o (Ne.symm hL) ho,r⟩
 ·refine (I.hok b u e).stay (fun c v hc q=>k c v ?_ q) (fun _ q=>q) fun _ _ q=>q
  rcases hc with z | z
  ·rw [z];exact nit b u e
  ·exact nit c _ z
theorem Inv.tok (I:Inv X pins σ H s) (t:Nat):Inv X pins σ H { s with toks:=t }:=I.un (h':=s.heap) (t':=t) Un.refl I.hok
theorem Inv.kept {t':Nat} (I:Inv X pins σ H s) (k:∀ b u,s.heap.get? b=some u→h'.get? b=some u):Inv X pins σ H { s with heap:=h',toks:=t' }:=I.un (Un.kept k) (I.hok.kept k)
theorem Inv.laid {a:Addr} {o:HO} {t':Nat} (I:Inv X pins σ H s) (k:∀ b u,s.heap.get? b=some u→h'.get? b=some u) (hp:s.heap.objs.size≤a) (new:z1R X.prog X.w (upd H a o) h' a o) :
  Inv X pins σ (upd H a o) { s with heap:=h',toks:=t' }:=I.un (Un.laid k hp (I.hok.fresh hp)) (I.hok.laid k hp new)
theorem Inv.write {x e:Addr} {o:HO} {t':Nat} (I:Inv X pins σ H s) (mu:Mut (H x)) (he:e=x∨H e=some (.own x)) (k:∀ b u,b≠e→s.heap.get? b=some u→h'.get? b=some u) (heo:∃ u,h'.get? e=some u)
  (new:z1R X.prog X.w (upd H x o) h' x o):Inv X pins σ (upd H x o) { s with heap:=h',toks:=t' }:=I.un (Un.write mu he k heo) (I.hok.write mu he k heo new)
theorem Inv.pins_of {pins':List (Addr × Obj)} (I:Inv X pins σ H s) (h:∀ p∈pins',s.heap.get? p.1=some p.2∧H p.1=none∧p.1≠X.env.locals∧p.1∉X.fs∧∀ v,p.2.data≠.cell v):Inv X pins' σ H s :=
 ⟨I.ok,I.os,I.bare,I.base,I.loc,I.cell,I.free,I.freeC,fun p hp=>(List.mem_append.mp hp).elim (fun z=>I.pin p (List.mem_append_left _ z)) (h p),I.hok,I.len⟩
theorem z6v {N:List Str} (hN:N.Nodup) {i j:Nat} {x:Str} (a:N[i]?=some x) (b:N[j]?=some x):i=j:=by
 obtain ⟨h1,e1⟩:=List.getElem?_eq_some_iff.mp a
 obtain ⟨h2,e2⟩:=List.getElem?_eq_some_iff.mp b
 exact (List.getElem_inj hN).mp (e1.trans e2.symm)
theorem z3r {M:Model} {A:Around} {E:Value→Shared→Prop} {i:Nat} {x:Str} {v:V} {u:Value} {Q:Unit→Shared→Prop} (I:Inv X pins σ H s) (hN:X.N.Nodup) (hi:X.N[i]?=some x) (hx:Loc X.env.scope x) (r:z1g v u)
  (h:∀ s',Inv X pins (σ.set i (some v)) H s'→(∃ a,Heap.SameBut a s.heap s'.heap∧(a=X.env.locals∨X.env.cells.lookup x=some a))→Q () s') (hf:X.fn x=true∨X.env.scope.names.lookup x=some .local:=by first | exact .inl rfl | exact .inr rfl | assumption):wpAny M A (storeName X.env x u) Q E s:=by
 obtain ⟨m,hn,hl⟩:=id I.loc
 have hcls:(X.env.scope.kind == .class || (X.env.scope.kind == .module && X.env.locals != X.env.globals))=false:=by rw [I.ok.kind];rfl
 have hiσ:i < σ.length:=by rw [I.len];exact (List.getElem?_eq_some_iff.mp hi).1
 have cne:=I.cne
 have tracked:∀ {a:Addr} {h':Heap},(∃ o,s.heap.get? a=some o∧H a=none)→Heap.SameBut a s.heap h'→HOk X.prog X.w H h':=fun {a h'} ha hs b ob e=>by
  obtain ⟨_,_,hfree⟩:=ha
  refine (I.hok b ob e).stay (fun c w' hc q=>(hs.2 c ?_).trans q) (fun _ q=>q) fun _ _ q=>q
  rintro rfl
  rcases hc with rfl | hc
  ·rw [hfree] at e;cases e
  ·rw [hfree] at hc;cases hc
 rcases hx with hk | hk
 ·refine wpAny_storeName_local hk hn (fun h' hn' hs=>?_) hcls
  obtain ⟨oL,_,_,hoL,_⟩:=id hn
  refine h _ ⟨I.ok,I.os,I.bare,⟨fun b o e n hb hx=>?_,fun b o e n hb hx=>?_,I.base.free,fun b o e hx=>?_,I.base.tups,I.base.frzs,I.base.tbls⟩,⟨_,hn',fun j y v' e1 e2 e3=>?_⟩,fun y c e=>?_,I.free,I.freeC,fun p hp=>?_,tracked ⟨oL,hoL,I.free⟩ hs,by simpa using I.len⟩ ⟨_,hs,.inl rfl⟩
  ·exact (hs.2 b (Nat.ne_of_lt (Nat.lt_of_lt_of_le (Heap.lt_size e) I.ok.above))).trans (I.base.keep b o e n hb hx)
  ·obtain ⟨sl,e1⟩:=I.base.slot b o e n hb hx
   exact ⟨sl,(hs.2 b (Nat.ne_of_lt (Nat.lt_of_lt_of_le (Heap.lt_size e) I.ok.above))).trans e1⟩
  ·obtain ⟨o',e1⟩:=I.base.there b o e hx
   exact ⟨o',(hs.2 b (Nat.ne_of_lt (Nat.lt_of_lt_of_le (Heap.lt_size e) I.ok.above))).trans e1⟩
  ·by_cases hj:j=i
   ·subst hj
    rw [hi] at e1;cases e1
    rw [List.getElem?_set_self hiσ] at e2
    cases e2
    exact ⟨u,r,.inl ⟨hk,by simp⟩⟩
   ·rw [List.getElem?_set_ne (Ne.symm hj)] at e2
    obtain ⟨u',r',q⟩:=hl j y v' e1 e2 e3
    refine ⟨u',r',?_⟩
    rcases q with ⟨k,e⟩ | ⟨k,c,e,z⟩
    ·refine .inl ⟨k,?_⟩
     have:y≠x:=fun e=>hj (z6v hN e1 (e ▸ hi))
     simp [this,e]
    ·exact .inr ⟨k,c,e,z.sameBut hs (cne y c e)⟩
  ·obtain ⟨w',z⟩:=I.cell y c e
   exact ⟨w',z.sameBut hs (cne y c e)⟩
  ·obtain ⟨e,n,ne,nf,d⟩:=I.pin p hp
   exact ⟨(hs.2 p.1 ne).trans e,n,ne,nf,d⟩
 ·have hfn:X.fn x=true:=by
   rcases hf with z | z
   ·exact z
   ·rw [z] at hk;cases hk
  obtain ⟨c,hc⟩:=I.ok.has x (.inl hk)
  obtain ⟨w',z⟩:=I.cell x c hc
  refine wpAny_storeName_cell I.ok.kind hk hc z (fun h' hc' hs=>?_)
  obtain ⟨oc,hoc,hocd⟩:=id z
  refine h { s with heap:=h' } ⟨I.ok,I.os,I.bare,⟨fun b o e n hb hx=>?_,fun b o e n hb hx=>?_,I.base.free,fun b o e hx=>?_,I.base.tups,I.base.frzs,I.base.tbls⟩,⟨m,hn.sameBut hs (Ne.symm (cne x c hc)),fun j y v' e1 e2 e3=>?_⟩,fun y c' e=>?_,I.free,I.freeC,fun p hp=>?_,tracked ⟨oc,hoc,I.freeC x c hc⟩ hs,by simpa using I.len⟩ ⟨c,hs,.inr hc⟩
  ·exact (hs.2 b (Nat.ne_of_lt (Nat.lt_of_lt_of_le (Heap.lt_size e) (I.ok.cab x c hfn hc)))).trans (I.base.keep b o e n hb hx)
  ·obtain ⟨sl,e1⟩:=I.base.slot b o e n hb hx
   exact ⟨sl,(hs.2 b (Nat.ne_of_lt (Nat.lt_of_lt_of_le (Heap.lt_size e) (I.ok.cab x c hfn hc)))).trans e1⟩
  ·obtain ⟨o',e1⟩:=I.base.there b o e hx
   exact ⟨o',(hs.2 b (Nat.ne_of_lt (Nat.lt_of_lt_of_le (Heap.lt_size e) (I.ok.cab x c hfn hc)))).trans e1⟩
  ·by_cases hj:j=i
   ·subst hj
    rw [hi] at e1;cases e1
    rw [List.getElem?_set_self hiσ] at e2
    cases e2
    exact ⟨u,r,.inr ⟨.inl hk,c,hc,hc'⟩⟩
   ·rw [List.getElem?_set_ne (Ne.symm hj)] at e2
    obtain ⟨u',r',q⟩:=hl j y v' e1 e2 e3
    refine ⟨u',r',?_⟩
    rcases q with q | ⟨k,c',e,z'⟩
    ·exact .inl q
    ·refine .inr ⟨k,c',e,z'.sameBut hs ?_⟩
     rintro rfl
     exact hj (z6v hN e1 (I.ok.inj _ _ _ e hc ▸ hi))
  ·by_cases hcc:c'=c
   ·subst hcc;exact ⟨_,hc'⟩
   ·obtain ⟨w2,z2⟩:=I.cell y c' e
    exact ⟨w2,z2.sameBut hs hcc⟩
  ·obtain ⟨e,n,ne,nf,d⟩:=I.pin p hp
   refine ⟨(hs.2 p.1 ?_).trans e,n,ne,nf,d⟩
   intro q
   rw [q,hoc] at e
   have q':oc=p.2:=Option.some.inj e
   exact d w' (by rw [←q'];exact hocd)
theorem z5R {M:Model} {A:Around} {E:Value→Shared→Prop} {i:Nat} {x:Str} {v:V} {u:Value} {Q:Unit→Shared→Prop} (I:Inv X pins σ H s) (hN:X.N.Nodup) (hi:X.N[i]?=some x) (hx:Loc X.env.scope x) (r:z1g v u)
  (h:∀ s',Inv X pins (σ.set i (some v)) H s'→Q () s') (hf:X.fn x=true∨X.env.scope.names.lookup x=some .local:=by first | exact .inl rfl | exact .inr rfl | assumption):wpAny M A (storeName X.env x u) Q E s :=
 z3r I hN hi hx r (fun s' I' _=>h s' I') hf
theorem Inv.call' {s':Shared} {ch:List Addr} (I:Inv X pins σ H s) (ho:s'.os=s.os) (u:Un (frs X.stack) ch H H' s.heap s'.heap) (hok:HOk X.prog X.w H' s'.heap) (hg:AllBare s'.gens)
  (hch:∀ b∈ch,(b∈X.ex∨X.s₀.heap.objs.size≤b)∧b≠X.env.locals∧(∀ x c,X.env.cells.lookup x=some c→c≠b)∧∀ p∈X.pn++pins,p.1≠b):Inv X pins σ H' s':=by
 obtain ⟨h',g',d',t',o'⟩:=s'
 have e:o'=s.os:=ho
 subst e
 exact I.call (g':=g') (t':=t') (d':=d') u hok hg hch
end
abbrev XK:=Value→Option Addr→Hp→Prop
abbrev St:=List (Option V)
abbrev VK:=V→Hp→Prop
abbrev TE:=St→Hp→VK→Prop
abbrev TT:=St→Hp→(Bool→Hp→Prop)→Prop
abbrev TA:=St→Hp→(List V→Hp→Prop)→Prop
structure z44 where
 nx:St→Hp→Prop
 rt:VK
 bk:St→Hp→Prop:=fun _ _=>False
 ct:St→Hp→Prop:=fun _ _=>False
abbrev TS:=z44→St→Hp→Prop
def EP (X:Cx) (pins:List (Addr × Obj)) (σ:St) (Q:VK) (u:Value) (s':Shared):Prop:=∃ v H',Inv X pins σ H' s'∧z1g v u∧Q v H'
def TP (X:Cx) (pins:List (Addr × Obj)) (σ:St) (Q:Bool→Hp→Prop) (b:Bool) (s':Shared):Prop:=∃ H',Inv X pins σ H' s'∧Q b H'
def AP (X:Cx) (pins:List (Addr × Obj)) (σ:St) (Q:List V→Hp→Prop) (us:List Value) (s':Shared):Prop:=∃ vs H',Inv X pins σ H' s'∧z1e vs us∧Q vs H'
def SP (X:Cx) (pins:List (Addr × Obj)) (D:z44) (f:Flow) (s':Shared):Prop :=
 match f with
 | .next=>∃ σ' H',Inv X pins σ' H' s'∧D.nx σ' H'
 | .brk=>∃ σ' H',Inv X pins σ' H' s'∧D.bk σ' H'
 | .cont=>∃ σ' H',Inv X pins σ' H' s'∧D.ct σ' H'
 | .ret u=>∃ v σ' H',Inv X pins σ' H' s'∧z1g v u∧D.rt v H'
def PE (X:Cx) (e:Expr) (t:TE):Prop :=
 ∀ (pins:List (Addr × Obj)) (s:Shared) (σ:St) (H:Hp) (Q:VK),Inv X pins σ H s→t σ H Q→wpAny (model X.prog X.w) X.A (eval e X.env) (EP X pins σ Q) X.xe s
def PT (X:Cx) (e:Expr) (t:TT):Prop :=
 ∀ (pins:List (Addr × Obj)) (s:Shared) (σ:St) (H:Hp) (Q:Bool→Hp→Prop),Inv X pins σ H s→t σ H Q→wpAny (model X.prog X.w) X.A (isTrue e X.env (eval e X.env)) (TP X pins σ Q) X.xe s
def PW (X:Cx) (e:Expr) (t:TT):Prop :=
 ∀ (whole:Sem Value) (pins:List (Addr × Obj)) (s:Shared) (σ:St) (H:Hp) (Q:Bool→Hp→Prop),Inv X pins σ H s→t σ H Q→wpAny (model X.prog X.w) X.A (isTrue e X.env whole) (TP X pins σ Q) X.xe s
theorem PW.pt {X:Cx} {e:Expr} {t:TT} (h:PW X e t):PT X e t:=h _
def PA (X:Cx) (es:List Expr) (t:TA):Prop :=
 ∀ (pos:Pos) (pins:List (Addr × Obj)) (s:Shared) (σ:St) (H:Hp) (Q:List V→Hp→Prop),Inv X pins σ H s→t σ H Q→wpAny (model X.prog X.w) X.A (spliced (backTo pos (starEach es X.env))) (AP X pins σ Q) X.xe s
def PS (X:Cx) (st:Stmt) (t:TS):Prop :=
 ∀ (pins:List (Addr × Obj)) (s:Shared) (σ:St) (H:Hp) (D:z44),Inv X pins σ H s→t D σ H→wpAny (model X.prog X.w) X.A (exec st X.env) (SP X pins D) X.xe s
def PSs (X:Cx) (st:List Stmt) (t:TS):Prop :=
 ∀ (pins:List (Addr × Obj)) (s:Shared) (σ:St) (H:Hp) (D:z44),Inv X pins σ H s→t D σ H→wpAny (model X.prog X.w) X.A (execs st X.env) (SP X pins D) X.xe s
theorem thn {α:Type} {t:Sem α} {Q Q':α→Shared→Prop} {M:Model} {A:Around} {E:Value→Shared→Prop} {s:Shared} (h:wpAny M A t Q E s) (hQ:∀ a s,Q a s→Q' a s):wpAny M A t Q' E s:=wpAny_mono h hQ fun _ _ x=>x
theorem exA {α:Sort _} {f g:α→Prop} {a:α} (h:f a) (k:g a):∃ x,f x∧g x:=⟨a,h,k⟩
theorem exB {α β:Sort _} {f g:α→β→Prop} {a:α} {b:β} (h:f a b) (k:g a b):∃ x y,f x y∧g x y:=⟨a,b,h,k⟩
theorem exC {α β:Sort _} {f f' g:α→β→Prop} {a:α} {b:β} (h:f a b) (h':f' a b) (k:g a b):∃ x y,f x y∧f' x y∧g x y:=⟨a,b,h,h',k⟩
theorem exD {α β γ δ:Sort _} {f1 f2 f3 f4 g:α→β→γ→δ→Prop} (a:α) (b:β) (c:γ) (d:δ) (h1:f1 a b c d) (h2:f2 a b c d) (h3:f3 a b c d) (h4:f4 a b c d) (k:g a b c d):∃ x y z w,f1 x y z w∧f2 x y z w∧f3 x y z w∧f4 x y z w∧g x y z w:=⟨a,b,c,d,h1,h2,h3,h4,k⟩
theorem exF {α β:Sort _} {f1 f2 f3 g:α→β→Prop} (a:α) {b:β} (h1:f1 a b) (h2:f2 a b) (h3:f3 a b) (k:g a b):∃ x y,f1 x y∧f2 x y∧f3 x y∧g x y:=⟨a,b,h1,h2,h3,k⟩
theorem exG {α β:Sort _} {f1 f2 g:α→β→Prop} (a:α) {b:β} (h1:f1 a b) (h2:f2 a b) (k:g a b):∃ x y,f1 x y∧f2 x y∧g x y:=⟨a,b,h1,h2,k⟩
theorem z1I {X:Cx} {pins:List (Addr × Obj)} {σ:St} {Q:VK} {t:Sem Value} {R:Value→Shared→Prop} {s:Shared} (h:wpAny (model X.prog X.w) X.A t (EP X pins σ Q) X.xe s) (k:∀ u s1 x H1,Inv X pins σ H1 s1→z1g x u→Q x H1→R u s1):wpAny (model X.prog X.w) X.A t R X.xe s:=thn h fun u s1 z=>by
 obtain ⟨x,H1,I1,r,q⟩:=z
 exact k u s1 x H1 I1 r q
end L2
namespace L2
open PySem PySem.Spec PyProof.Rows
section
variable {X:Cx}
theorem bin {a b:Expr} {ta tb:TE} (ha:PE X a ta) (hb:PE X b tb) {pins:List (Addr × Obj)} {s:Shared} {σ:St} {H:Hp} {R:V→V→Hp→Prop} (I:Inv X pins σ H s) (h:ta σ H fun x H1=>tb σ H1 fun y H2=>R x y H2)
  {α:Type} {Q:α→Shared→Prop} {f:Value→Value→Sem α}
  (hf:∀ v u s2 x y H2,Inv X pins σ H2 s2→z1g x v→z1g y u→R x y H2→wpAny (model X.prog X.w) X.A (f v u) Q X.xe s2) :
  wpAny (model X.prog X.w) X.A (eval a X.env) (fun v s₁=>wpAny (model X.prog X.w) X.A (eval b X.env) (fun u s₂=>wpAny (model X.prog X.w) X.A (f v u) Q X.xe s₂) X.xe s₁) X.xe s:=by
 refine z1I (ha pins s σ H _ I h) fun v s1 x H1 I1 r1 q1=>?_
 refine z1I (hb pins s1 σ H1 _ I1 q1) fun u s2 y H2 I2 r2 q2=>?_
 exact hf v u s2 x y H2 I2 r1 r2 q2
def zfK (i:Nat):TE:=fun σ H Q=>∃ v,σ[i]?=some (some v)∧Q v H
def tC (v:V):TE:=fun _ H Q=>Q v H
theorem zdh {i:Nat} {x:Str} {pos:Pos} (hN:X.N[i]?=some x) (hv:Vis X.env.scope x) (hd:(x == ("__debug__":Str))=false:=by decide) (hcd:(x == ("__classdict__":Str))=false:=by decide):PE X (.Name x pos) (zfK i):=by
 intro pins s σ H Q I h
 obtain ⟨v,e,h⟩:=h
 obtain ⟨m,hn,hl⟩:=I.loc
 obtain ⟨u,r,l⟩:=hl i x v hN e hv
 have fin:EP X pins σ Q u s:=⟨v,H,I,r,h⟩
 rcases l with ⟨hk,hm⟩ | ⟨hk,c,hc,hcell⟩
 ·exact wpAny_Name (wpAny_loadName_local I.ok.kind hk hn hm fin) hd
 ·rcases hk with hk | hk
  ·exact wpAny_Name (wpAny_loadName_cell I.ok.kind hk hc hcell fin) hd
  ·exact wpAny_Name (wpAny_loadName_free I.ok.kind hk hc hcell fin hcd) hd
theorem z07 {i j pos}:PE X (.Constant (.int i) j pos) (tC (.int i)):=fun _ _ _ H _ I h=>wpAny_Constant_int ⟨.int i,H,I.tok _,⟨_,rfl⟩,h⟩
theorem z9L {b j pos}:PE X (.Constant (.bool b) j pos) (tC (.bl b)):=fun _ _ _ H _ I h=>Constant_bool ⟨.bl b,H,I,rfl,h⟩
theorem zd8 {j pos}:PE X (.Constant .none j pos) (tC .non):=fun _ _ _ H _ I h=>Constant_none ⟨.non,H,I,rfl,h⟩
theorem z99 {x j pos}:PE X (.Constant (.str x) j pos) (tC (.str x)):=fun _ _ _ H _ I h=>Calls.Constant_str ⟨.str x,H,I.tok _,⟨_,rfl⟩,h⟩
def Gl (X:Cx) (x:Str):Prop:=X.env.kindOf x=some .globalImplicit
theorem z5T {E:Value→Shared→Prop} {pins:List (Addr × Obj)} {s:Shared} {σ:St} {H:Hp} {x:Str} {u:Value} {pos:Pos} {Q:Value→Shared→Prop} (I:Inv X pins σ H s) (hg:Gl X x) (hm:X.mg x=some u) (h:Q u s)
  (hd:(x == ("__debug__":Str))=false:=by decide):wpAny (model X.prog X.w) X.A (eval (.Name x pos) X.env) Q E s :=
 Calls.Name_function_global I.ok.kind hg (Calls.loadGlobal_global (by rw [I.ok.glob];exact I.mod.glob.keeps I.bk) hm h) hd
theorem z79 {E:Value→Shared→Prop} {pins:List (Addr × Obj)} {s:Shared} {σ:St} {H:Hp} {x:Str} {u:Value} {pos:Pos} {Q:Value→Shared→Prop} (I:Inv X pins σ H s) (hg:Gl X x) (hm:X.mg x=none) (hv:bootBuiltins x=some u) (h:Q u s)
  (hn:x≠"__name__":=by decide) (hd:(x == ("__debug__":Str))=false:=by decide):wpAny (model X.prog X.w) X.A (eval (.Name x pos) X.env) Q E s:=by
 obtain ⟨mb,h1,h2⟩:=I.mod.blt
 exact Calls.Name_function_global I.ok.kind hg (Calls.loadGlobal_builtin (by rw [I.ok.glob];exact I.mod.glob.keeps I.bk) hm (by rw [I.ok.blt];exact h1.keeps I.bk) ((h2 x hn).trans hv) h) hd
theorem zec {x:Str} {v:V} {u:Value} {pos:Pos} (hg:Gl X x) (hm:X.mg x=some u) (r:z1g v u) (hd:(x == ("__debug__":Str))=false:=by decide):PE X (.Name x pos) (tC v) :=
 fun _ _ _ H _ I h=>z5T I hg hm ⟨v,H,I,r,h⟩ hd
def t2I (ta tb:TE) (k:Int→Int→Hp→Prop):St→Hp→Prop:=fun σ H=>ta σ H fun x H1=>tb σ H1 fun y H2=>∃ i j,x=.int i∧y=.int j∧k i j H2
variable {a b:Expr} {ta tb:TE} {pos:Pos}
def PC (X:Cx) (op:CmpOp) (a b:Expr) (t:TE):Prop :=
 ∀ (pins:List (Addr × Obj)) (s:Shared) (σ:St) (H:Hp) (Q:VK),Inv X pins σ H s→t σ H Q →
  wpAny (model X.prog X.w) X.A (eval a X.env) (fun v s₁=>wpAny (model X.prog X.w) X.A (eval b X.env) (fun u s₂=>wpAny (model X.prog X.w) X.A (compareOp op v u) (EP X pins σ Q) X.xe s₂) X.xe s₁) X.xe s
theorem z8w (b:Expr) {op:CmpOp} (h:op≠.In) (h2:op≠.NotIn):behindInMarks op b=false:=by
 have e1:(op == CmpOp.In)=false:=by cases op<;>first | rfl | exact absurd rfl h
 have e2:(op == CmpOp.NotIn)=false:=by cases op<;>first | rfl | exact absurd rfl h2
 cases b<;>simp [behindInMarks,e1,e2]
def zgj (p:Int→Int→Bool) (ta tb:TE):TE:=fun σ H Q=>t2I ta tb (fun i j H2=>Q (.bl (p i j)) H2) σ H
abbrev zh9:TE→TE→TE:=zgj fun i j=>decide (i=j)
abbrev zh8:TE→TE→TE:=zgj fun i j=>!decide (i=j)
theorem zdl {op:CmpOp} {p:Int→Int→Bool} (ha:PE X a ta) (hb:PE X b tb)
  (rule:∀ (i j:Int) (t u:Tok) (Q:Value→Shared→Prop) (s:Shared),Q (.bool (p i j)) s→wpAny (model X.prog X.w) X.A (compareOp op (.int i t) (.int j u)) Q X.xe s):PC X op a b (zgj p ta tb):=by
 intro pins s σ H Q I h
 refine bin ha hb I h fun v u s2 x y H2 I2 rx ry q=>?_
 obtain ⟨i,j,rfl,rfl,q⟩:=q
 obtain ⟨t,rfl⟩:=rx
 obtain ⟨t',rfl⟩:=ry
 exact rule i j t t' _ s2 ⟨.bl _,H2,I2,rfl,q⟩
theorem z2B (ha:PE X a ta) (hb:PE X b tb):PC X .Eq a b (zh9 ta tb):=zdl ha hb fun _ _ _ _ _ _ h=>eq_int (by rw [Bool.beq_eq_decide_eq];exact h)
theorem zd7 (ha:PE X a ta) (hb:PE X b tb):PC X .NotEq a b (zh8 ta tb):=zdl ha hb fun _ _ _ _ _ _ h=>ne_int (by rw [bne,Bool.beq_eq_decide_eq];exact h)
def tB (t:TE):TT:=fun σ H Q=>t σ H fun x H1=>∃ c,x=.bl c∧Q c H1
theorem zeY {op:CmpOp} {t:TE} (h:PC X op a b t) (h1:behindInMarks op b=false:=by first | exact z8w _ (by decide) (by decide) | rfl):PE X (.Compare a [op] [b] pos) t:=fun pins s σ H Q I hw=>wpAny_Compare1 (h pins s σ H Q I hw) h1
theorem z1o {op:CmpOp} {t:TE} (h:PC X op a b t) (h1:behindInMarks op b=false:=by first | exact z8w _ (by decide) (by decide) | rfl):PT X (.Compare a [op] [b] pos) (tB t):=by
 intro pins s σ H Q I hw
 refine wpAny_isTrue_Compare1 (thn (h pins s σ H _ I hw) fun v s1 h1=>thn h1 fun u s2 h2=>thn h2 fun c s3 hz8=>?_) h1
 obtain ⟨x,H1,I1,r1,q1⟩:=hz8
 obtain ⟨d,rfl,q⟩:=q1
 cases r1
 exact wpAny_truthy_bool ⟨H1,I1,q⟩
theorem z9g {e:Expr} {t:TE} (h:PE X e t) (he:∀ whole,isTrue e X.env whole=(do let v ←whole;standAt e.pos;holding [v] (truthy v)):=by intro _;rfl):PT X e (tB t):=by
 intro pins s σ H Q I hw
 refine isTrue_plain (z1I (h pins s σ H _ I hw) fun v s1 x H1 I1 r1 q1=>?_) (he _)
 obtain ⟨d,rfl,q⟩:=q1
 cases r1
 exact wpAny_truthy_bool ⟨H1,I1,q⟩
variable {tA tB':TT} {z4P:List Expr}
def zhe (t u:TT):TT:=fun σ H Q=>t σ H fun c H1=>if c=true then u σ H1 Q else Q false H1
def tOr (t u:TT):TT:=fun σ H Q=>t σ H fun c H1=>if c=true then Q true H1 else u σ H1 Q
def zhc (t:TT):TT:=fun σ H Q=>t σ H fun c H1=>Q (!c) H1
theorem z4E (ha:PT X a tA):PW X (.BoolOp .And [a] pos) tA:=by
 intro wh pins s σ H Q I h
 refine isTrue_and (thn (ha pins s σ H Q I h) fun c s1 e=>?_)
 cases c with
 | true=>exact isTrue_and_nil e
 | false=>exact e
theorem za5 (ha:PT X a tA):PW X (.BoolOp .Or [a] pos) tA:=by
 intro wh pins s σ H Q I h
 refine isTrue_or (thn (ha pins s σ H Q I h) fun c s1 e=>?_)
 cases c with
 | false=>exact isTrue_or_nil e
 | true=>exact e
theorem z7l (ha:PT X a tA) (hb:PW X (.BoolOp .And (b::z4P) pos) tB'):PW X (.BoolOp .And (a::b::z4P) pos) (zhe tA tB'):=by
 intro wh pins s σ H Q I h
 refine isTrue_and (thn (ha pins s σ H _ I h) fun c s1 hz8=>?_)
 obtain ⟨H1,I1,q1⟩:=hz8
 cases c with
 | true=>exact hb wh pins s1 σ H1 Q I1 q1
 | false=>exact ⟨H1,I1,q1⟩
theorem zee (ha:PT X a tA) (hb:PW X (.BoolOp .Or (b::z4P) pos) tB'):PW X (.BoolOp .Or (a::b::z4P) pos) (tOr tA tB'):=by
 intro wh pins s σ H Q I h
 refine isTrue_or (thn (ha pins s σ H _ I h) fun c s1 hz8=>?_)
 obtain ⟨H1,I1,q1⟩:=hz8
 cases c with
 | true=>exact ⟨H1,I1,q1⟩
 | false=>exact hb wh pins s1 σ H1 Q I1 q1
theorem zdb (ha:PT X a tA):PT X (.UnaryOp .Not a pos) (zhc tA):=by
 intro pins s σ H Q I h
 exact isTrue_not (ha pins s σ H (fun c H1=>Q (!c) H1) I h)
def zgw (ta tb:TE):TE:=fun σ H Q=>ta σ H fun x H1=>∃ c,x=.bl c∧if c=true then tb σ H1 Q else Q (.bl false) H1
def zh4 (ta tb:TE):TE:=fun σ H Q=>ta σ H fun x H1=>∃ c,x=.bl c∧if c=true then Q (.bl true) H1 else tb σ H1 Q
def zgn (ta:TE):TE:=fun σ H Q=>ta σ H fun x H1=>∃ c,x=.bl c∧Q (.bl (!c)) H1
theorem zd4 {op} {t:TE} (h:PE X a t):PE X (.BoolOp op [a] pos) t:=fun pins s σ H Q I hw=>BoolOp_one (h pins s σ H Q I hw)
theorem zfa (ha:PE X a ta) (hb:PE X (.BoolOp .And (b::z4P) pos) tb):PE X (.BoolOp .And (a::b::z4P) pos) (zgw ta tb):=by
 intro pins s σ H Q I h
 refine BoolOp_and (z1I (ha pins s σ H _ I h) fun v s1 x H1 I1 r1 q1=>?_)
 obtain ⟨c,rfl,q1⟩:=q1
 cases r1
 refine wpAny_truthy_bool ?_
 cases c with
 | true=>exact hb pins s1 σ H1 Q I1 q1
 | false=>exact ⟨.bl false,H1,I1,rfl,q1⟩
theorem zgm (ha:PE X a ta) (hb:PE X (.BoolOp .Or (b::z4P) pos) tb):PE X (.BoolOp .Or (a::b::z4P) pos) (zh4 ta tb):=by
 intro pins s σ H Q I h
 refine BoolOp_or (z1I (ha pins s σ H _ I h) fun v s1 x H1 I1 r1 q1=>?_)
 obtain ⟨c,rfl,q1⟩:=q1
 cases r1
 refine wpAny_truthy_bool ?_
 cases c with
 | false=>exact hb pins s1 σ H1 Q I1 q1
 | true=>exact ⟨.bl true,H1,I1,rfl,q1⟩
theorem zfw (ha:PE X a ta):PE X (.UnaryOp .Not a pos) (zgn ta):=by
 intro pins s σ H Q I h
 refine UnaryOp_ (z1I (ha pins s σ H _ I h) fun v s1 x H1 I1 r1 q1=>?_)
 obtain ⟨c,rfl,q1⟩:=q1
 cases r1
 exact not_of (wpAny_truthy_bool ⟨.bl (!c),H1,I1,rfl,q1⟩)
def tIf (t:TT) (ta tb:TE):TE:=fun σ H Q=>t σ H fun c H1=>if c=true then ta σ H1 Q else tb σ H1 Q
theorem zbO {c:Expr} (hc:PT X c tA) (ha:PE X a ta) (hb:PE X b tb):PE X (.IfExp c a b pos) (tIf tA ta tb):=by
 intro pins s σ H Q I h
 refine wpAny_IfExp (thn (hc pins s σ H _ I h) fun d s1 hz8=>?_)
 obtain ⟨H1,I1,q1⟩:=hz8
 cases d with
 | true=>exact ha pins s1 σ H1 Q I1 q1
 | false=>exact hb pins s1 σ H1 Q I1 q1
end
end L2
namespace L2
open PySem PySem.Spec PyProof.Rows
def SqL (K:PySem.W.Frag) (H:Hp) (a:Addr) (xs:List V):Prop :=
 Rd H a (.lst xs) ∨
  ∃ (o:Obj) (its:Array Value) (n:Nat),K.lookup a=some o∧o.cls=.type "list"∧o.dict=none∧o.data=.seq its n∧its.size≤sizeLine∧z1e xs its.toList
def SqT (K:PySem.W.Frag) (H:Hp) (a:Addr) (xs:List V):Prop :=
 Rd H a (.tup xs) ∨
  ∃ (o:Obj) (its:Array Value) (n:Nat),K.lookup a=some o∧o.cls=.type "tuple"∧o.data=.seq its n∧its.size≤sizeLine∧z1e xs its.toList
def zhb:Value→Option V
 | .none=>some .non
 | .bool b=>some (.bl b)
 | .int i _=>some (.int i)
 | .str x _=>some (.str x)
 | .bytes b _=>some (.byt b)
 | .float b _=>some (.flt b)
 | .ref a=>some (.ref a)
 | .type n=>some (.ty n)
 | _=>none
theorem z1g.abs {x:V} {u:Value} (r:z1g x u):zhb u=some x:=by
 cases x with
 | non=>cases r;rfl
 | bl _=>cases r;rfl
 | int _=>obtain ⟨t,rfl⟩:=r;rfl
 | str _=>obtain ⟨t,rfl⟩:=r;rfl
 | byt _=>obtain ⟨t,rfl⟩:=r;rfl
 | flt _=>obtain ⟨t,rfl⟩:=r;rfl
 | ref _=>cases r;rfl
 | ty _=>cases r;rfl
theorem z1g.inj {x y:V} {u:Value} (r:z1g x u) (q:z1g y u):x=y:=Option.some.inj (r.abs.symm.trans q.abs)
theorem z1e.inj:∀ {xs ys:List V} {us:List Value},z1e xs us→z1e ys us→xs=ys
 | _,_,_,.nil,.nil=>rfl
 | _,_,_,.cons r t,.cons r' t'=>by rw [r.inj r',z1e.inj t t']
section
variable {X:Cx} {pins:List (Addr × Obj)} {σ:St} {H:Hp} {s:Shared} {a:Addr} {xs ys:List V}
theorem SqL.of {K:PySem.W.Frag} (h:H a=some (.lst xs)):SqL K H a xs:=.inl (.inl h)
theorem SqT.of {K:PySem.W.Frag} (h:H a=some (.tup xs)):SqT K H a xs:=.inl (.inl h)
theorem Inv.list (I:Inv X pins σ H s) (h:SqL X.K H a xs):∃ its:List Value,z1e xs its∧PlainL s.heap a its.toArray∧xs.length≤sizeLine:=by
 rcases h with h | ⟨o,its,n,hk,hc,hd,hs,hz,r⟩
 ·obtain ⟨z,its,n,r,e⟩:=h.ok I.hok
  exact ⟨its,r,⟨_,n,e,rfl,rfl,rfl⟩,z⟩
 ·refine ⟨its.toList,r,⟨o,n,I.kIn a o hk,hc,hd,by simpa using hs⟩,?_⟩
  have e:=r.length
  simp only [Array.length_toList] at e
  lia
theorem Inv.tuple (I:Inv X pins σ H s) (h:SqT X.K H a xs):∃ its:List Value,z1e xs its∧IsTup s.heap a its.toArray∧xs.length≤sizeLine:=by
 rcases h with h | ⟨o,its,n,hk,hc,hs,hz,r⟩
 ·obtain ⟨z,its,n,r,e⟩:=h.ok I.hok
  exact ⟨its,r,⟨_,e,rfl,n,rfl⟩,z⟩
 ·refine ⟨its.toList,r,⟨o,I.kIn a o hk,hc,n,by simpa using hs⟩,?_⟩
  have e:=r.length
  simp only [Array.length_toList] at e
  lia
theorem Inv.list_inj (I:Inv X pins σ H s) (h:SqL X.K H a xs) (h':SqL X.K H a ys):xs=ys:=by
 obtain ⟨its,r,⟨o,n,e,_,_,d⟩,_⟩:=I.list h
 obtain ⟨its',r',⟨o',n',e',_,_,d'⟩,_⟩:=I.list h'
 rw [e] at e';cases e'
 rw [d] at d'
 injection d' with d1 _
 have:its=its':=by simpa using congrArg Array.toList d1
 subst this
 exact r.inj r'
theorem Inv.tuple_inj (I:Inv X pins σ H s) (h:SqT X.K H a xs) (h':SqT X.K H a ys):xs=ys:=by
 obtain ⟨its,r,⟨o,e,_,n,d⟩,_⟩:=I.tuple h
 obtain ⟨its',r',⟨o',e',_,n',d'⟩,_⟩:=I.tuple h'
 rw [e] at e';cases e'
 rw [d] at d'
 injection d' with d1 _
 have:its=its':=by simpa using congrArg Array.toList d1
 subst this
 exact r.inj r'
end
abbrev Cx.wish (X:Cx) (E:Value→Shared→Prop):Cx:={ X with xe:=E }
abbrev Cx.nox (X:Cx):Cx:=X.wish fun _ _=>False
theorem Cx.Ok.wish {X:Cx} (ok:X.Ok) (E:Value→Shared→Prop):(X.wish E).Ok :=
 ⟨ok.mod,ok.kind,ok.glob,ok.blt,ok.above,ok.inj,ok.has,ok.cab,ok.hd,ok.frames,ok.stk,ok.exf,ok.bs,ok.bsz,ok.noex,ok.exfs,ok.funs,ok.frf⟩
theorem Cx.Ok.unwish {X:Cx} {E:Value→Shared→Prop} (ok:(X.wish E).Ok):X.Ok :=
 ⟨ok.mod,ok.kind,ok.glob,ok.blt,ok.above,ok.inj,ok.has,ok.cab,ok.hd,ok.frames,ok.stk,ok.exf,ok.bs,ok.bsz,ok.noex,ok.exfs,ok.funs,ok.frf⟩
section
variable {X:Cx} {pins:List (Addr × Obj)} {σ:St} {H:Hp} {s:Shared} {E:Value→Shared→Prop}
theorem Inv.wish (I:Inv X pins σ H s) (E:Value→Shared→Prop):Inv (X.wish E) pins σ H s:=⟨I.ok.wish E,I.os,I.bare,I.base,I.loc,I.cell,I.free,I.freeC,I.pin,I.hok,I.len⟩
theorem Inv.unwish (I:Inv (X.wish E) pins σ H s):Inv X pins σ H s:=⟨I.ok.unwish,I.os,I.bare,I.base,I.loc,I.cell,I.free,I.freeC,I.pin,I.hok,I.len⟩
theorem SP.unwish {D:z44} {f:Flow} {s':Shared} (h:SP (X.wish E) pins D f s'):SP X pins D f s':=by
 cases f with
 | next=>obtain ⟨σ',H',I,q⟩:=h;exact ⟨σ',H',I.unwish,q⟩
 | brk=>obtain ⟨σ',H',I,q⟩:=h;exact ⟨σ',H',I.unwish,q⟩
 | cont=>obtain ⟨σ',H',I,q⟩:=h;exact ⟨σ',H',I.unwish,q⟩
 | ret u=>obtain ⟨v,σ',H',I,r,q⟩:=h;exact ⟨v,σ',H',I.unwish,r,q⟩
theorem PSs.nox {st:List Stmt} {t:TS} (h:PSs X.nox st t):PSs X st t:=fun pins s σ H D I hw =>
 wpAny_mono (h pins s σ H D (I.wish _) hw) (fun _ _ q=>q.unwish) fun _ _ z=>False.elim z
end
section
variable {X:Cx} {st:Stmt} {z4P:List Stmt} {t u:TS} {e:Expr} {te:TE} {pos:Pos}
def zfQ:TS:=fun D σ H=>D.nx σ H
def zfH (t u:TS):TS:=fun D σ H=>t { D with nx:=u D } σ H
theorem z0M:PSs X [] zfQ:=fun _ _ σ H _ I h=>wpAny_execs_nil ⟨σ,H,I,h⟩
theorem z04 (h1:PS X st t) (h2:PSs X z4P u):PSs X (st::z4P) (zfH t u):=by
 intro pins s σ H D I h
 refine wpAny_execs_cons (thn (h1 pins s σ H { D with nx:=u D } I h) fun f s1 q=>?_)
 cases f with
 | next =>
  obtain ⟨σ',H',I',q⟩:=q
  exact h2 pins s1 σ' H' D I' q
 | ret v=>exact q
 | brk=>exact q
 | cont=>exact q
theorem z08 (h1:PS X st t):PSs X [st] t:=by
 intro pins s σ H D I h
 refine wpAny_execs_cons (thn (h1 pins s σ H D I h) fun f s1 q=>?_)
 cases f with
 | next=>exact wpAny_execs_nil q
 | ret v=>exact q
 | brk=>exact q
 | cont=>exact q
theorem Inv.quiet {pins:List (Addr × Obj)} {σ:St} {H:Hp} {s:Shared} (I:Inv X pins σ H s):interactive X.env=false:=by simp [interactive,I.ok.kind]
def zfX (te:TE):TS:=fun D σ H=>te σ H fun _ H1=>D.nx σ H1
theorem z0Y (he:PE X e te) (hs:swapsWith e none pos.line X.env=pure false:=by rfl):PS X (.Expr e pos) (zfX te):=by
 intro pins s σ H D I h
 exact wpAny_Expr_any (z1I (he pins s σ H _ I h) fun v s1 x H1 I1 r1 q1=>⟨σ,H1,I1,q1⟩) I.quiet hs
def zgE (te:TE):TS:=fun D σ H=>te σ H D.rt
theorem z0D (he:PE X e te):PS X (.Return (some e) pos) (zgE te):=by
 intro pins s σ H D I h
 exact wpAny_Return_some (z1I (he pins s σ H _ I h) fun v s1 x H1 I1 r1 q1=>⟨x,σ,H1,I1,r1,q1⟩)
def zgX (c:TT) (t u:TS):TS:=fun D σ H=>c σ H fun b H1=>if b=true then t D σ H1 else u D σ H1
theorem z1Q {c:Expr} {a b:List Stmt} {tc:TT} (hc:PT X c tc) (ha:PSs X a t) (hb:PSs X b u):PS X (.If c a b pos) (zgX tc t u):=by
 intro pins s σ H D I h
 refine wpAny_If (thn (hc pins s σ H _ I h) fun d s1 hz8=>?_)
 obtain ⟨H1,I1,q1⟩:=hz8
 cases d with
 | true=>exact ha pins s1 σ H1 D I1 q1
 | false=>exact hb pins s1 σ H1 D I1 q1
end
abbrev TG:=V→St→Hp→(St→Hp→Prop)→Prop
abbrev TGs:=List V→St→Hp→(St→Hp→Prop)→Prop
def PG (X:Cx) (target:Expr) (t:TG):Prop :=
 ∀ (pins:List (Addr × Obj)) (s:Shared) (σ:St) (H:Hp) (v:V) (u:Value) (Q:St→Hp→Prop),Inv X pins σ H s→z1g v u→t v σ H Q →
  wpAny (model X.prog X.w) X.A (assign target X.env u) (fun _ s'=>∃ σ' H',Inv X pins σ' H' s'∧Q σ' H') X.xe s
def PGs (X:Cx) (ts:List Expr) (t:TGs):Prop :=
 ∀ (pins:List (Addr × Obj)) (s:Shared) (σ:St) (H:Hp) (vs:List V) (us:List Value) (Q:St→Hp→Prop),Inv X pins σ H s→z1e vs us→t vs σ H Q →
  wpAny (model X.prog X.w) X.A (assignInOrder ((assignEach ts X.env).map (·.2)) us) (fun _ s'=>∃ σ' H',Inv X pins σ' H' s'∧Q σ' H') X.xe s
abbrev TIp:=V→V→Hp→VK→Prop
def PIp (X:Cx) (op:Operator) (t:TIp):Prop :=
 ∀ (pins:List (Addr × Obj)) (s:Shared) (σ:St) (H:Hp) (x y:V) (v u:Value) (Q:VK),Inv X pins σ H s→z1g x v→z1g y u→t x y H Q →
  wpAny (model X.prog X.w) X.A (inplaceOp op v u) (EP X pins σ Q) X.xe s
section
variable {X:Cx} {pos:Pos}
def z9J (i:Nat):TG:=fun v σ H Q=>Q (σ.set i (some v)) H
theorem z0c {i:Nat} {x:Str} (hN:X.N.Nodup) (hi:X.N[i]?=some x) (hx:Loc X.env.scope x) (hf:X.fn x=true∨X.env.scope.names.lookup x=some .local:=by first | exact .inl rfl | exact .inr rfl | assumption):PG X (.Name x pos) (z9J i):=by
 intro pins s σ H v u Q I r h
 exact wpAny_assign_Name (z5R I hN hi hx r (fun s' I'=>⟨_,H,I',h⟩) hf)
def zgZ:TGs:=fun vs σ H Q=>vs=[]∧Q σ H
def zgl (t:TG) (u:TGs):TGs:=fun vs σ H Q=>∃ v r,vs=v::r∧t v σ H fun σ' H'=>u r σ' H' Q
theorem z1l:PGs X [] zgZ:=by
 intro pins s σ H vs us Q I r h
 obtain ⟨e,h⟩:=h
 subst e
 cases r
 exact assignInOrder_nil ⟨σ,H,I,h⟩
theorem z0s {e:Expr} {es:List Expr} {t:TG} {u:TGs} (h1:PG X e t) (h2:PGs X es u)
  (hs:(assignEach (e::es) X.env).map (·.2)=assign e X.env::(assignEach es X.env).map (·.2):=by rfl):PGs X (e::es) (zgl t u):=by
 intro pins s σ H vs us Q I r h
 obtain ⟨v,vr,e1,h⟩:=h
 subst e1
 cases r with
 | cons r rr =>
  rw [hs]
  refine assignInOrder_cons (thn (h1 pins s σ H _ _ _ I r h) fun _ s1 hz8=>?_)
  obtain ⟨σ1,H1,I1,q1⟩:=hz8
  exact h2 pins s1 σ1 H1 _ _ Q I1 rr q1
def zgU (K:PySem.W.Frag) (n:Nat) (t:TGs):TG:=fun v σ H Q=>∃ a xs,v=.ref a∧SqT K H a xs∧xs.length=n∧t xs σ H Q
theorem z22 {es:List Expr} {k:Nat} {t:TGs} {n:Nat} (hc:X.calm=true) (h:PGs X es t)
  (hn:(assignEach es X.env).length=n:=by rfl) (hst:(assignEach es X.env).findIdx? (·.1)=none:=by rfl):PG X (.Tuple es k pos) (zgU X.K n t):=by
 intro pins s σ H v u Q I r hw
 obtain ⟨a,xs,e1,hq,hl,hw⟩:=hw
 subst e1
 cases r
 obtain ⟨its,rv,ht,hz⟩:=I.tuple hq
 refine assign_Tuple_tuple (I.ok.hd hc) ht (by simp [hn,←hl,rv.length]) hst fun h' hx=>?_
 have I1:Inv X pins σ H { s with heap:=h' }:=I.kept (t':=s.toks) fun b o e=>hx b o (Nat.ne_of_lt (Heap.lt_size e)) e
 exact h pins _ σ H xs _ Q I1 (by simpa using rv) hw
def zeB (te:TE) (g:TG):TS:=fun D σ H=>te σ H fun x H1=>g x σ H1 D.nx
theorem z2Q {tg e:Expr} {te:TE} {g:TG} (he:PE X e te) (hg:PG X tg g) (hs:swapsWithSole [tg] e pos.line X.env=pure false:=by rfl) (hw:swappedStores [tg] e X.env=pure none:=by rfl)
  (h1:(assignEach [tg] X.env).map (·.2)=[assign tg X.env]:=by rfl):PS X (.Assign [tg] e pos) (zeB te g):=by
 intro pins s σ H D I h
 refine wpAny_Assign_stores (z1I (he pins s σ H _ I h) fun v s1 x H1 I1 r1 q1=>?_) hs hw
 rw [h1]
 exact thn (hg pins s1 σ H1 x v _ I1 r1 q1) fun _ s2 q=>q
theorem z0i {i:Nat} {x:Str} {e:Expr} {te:TE} {pos':Pos} (hN:X.N.Nodup) (hi:X.N[i]?=some x) (hx:Loc X.env.scope x) (he:PE X e te) (hs:swapsWith e (some (.Name x pos')) pos.line X.env=pure false:=by rfl) (hf:X.fn x=true∨X.env.scope.names.lookup x=some .local:=by first | exact .inl rfl | exact .inr rfl | assumption) :
  PS X (.Assign [.Name x pos'] e pos) (zeB te (z9J i)):=by
 intro pins s σ H D I h
 refine wpAny_Assign_Name (z1I (he pins s σ H _ I h) fun v s1 y H1 I1 r1 q1=>?_) hs
 exact z5R I1 hN hi hx r1 (fun s2 I2=>⟨_,H1,I2,q1⟩) hf
def zhq (i:Nat) (te:TE) (ti:TIp):TS:=fun D σ H=>∃ x,σ[i]?=some (some x)∧te σ H fun y H1=>ti x y H1 fun z H2=>D.nx (σ.set i (some z)) H2
theorem z94 {i:Nat} {x:Str} {e:Expr} {te:TE} {op:Operator} {ti:TIp} {pos':Pos} (hN:X.N.Nodup) (hi:X.N[i]?=some x) (hx:Loc X.env.scope x) (he:PE X e te) (ho:PIp X op ti) (hf:X.fn x=true∨X.env.scope.names.lookup x=some .local:=by first | exact .inl rfl | exact .inr rfl | assumption) :
  PS X (.AugAssign (.Name x pos') op e pos) (zhq i te ti):=by
 intro pins s σ H D I h
 obtain ⟨v,e1,h⟩:=h
 obtain ⟨m,hn,hl⟩:=I.loc
 have vis:Vis X.env.scope x:=by rcases hx with k | k;exact .inl k;exact .inr (.inl k)
 obtain ⟨u,r,l⟩:=hl i x v hi e1 vis
 refine wpAny_AugAssign_Name ?_
 have go:wpAny (model X.prog X.w) X.A (eval e X.env) (fun w s₂=>wpAny (model X.prog X.w) X.A (inplaceOp op u w) (fun r s₃=>wpAny (model X.prog X.w) X.A (storeName X.env x r) (fun _=>SP X pins D .next) X.xe s₃) X.xe s₂) X.xe s:=by
  refine z1I (he pins s σ H _ I h) fun w s1 y H1 I1 r1 q1=>?_
  refine z1I (ho pins s1 σ H1 v y u w _ I1 r r1 q1) fun z s2 zv H2 I2 r2 q2=>?_
  exact z5R I2 hN hi hx r2 (fun s3 I3=>⟨_,H2,I3,q2⟩) hf
 rcases l with ⟨hk,hm⟩ | ⟨hk,c,hc,hcell⟩
 ·exact wpAny_loadName_local I.ok.kind hk hn hm go
 ·rcases hk with hk | hk
  ·exact wpAny_loadName_cell I.ok.kind hk hc hcell go
  ·rcases hx with k | k
   ·have:X.env.scope.names.lookup x=some .free:=hk
    rw [k] at this;cases this
   ·have:X.env.scope.names.lookup x=some .free:=hk
    rw [k] at this;cases this
def ipI (f:Int→Int→Int):TIp:=fun x y H Q=>∃ i j,x=.int i∧y=.int j∧Q (.int (f i j)) H
theorem z9e:PIp X .Add (ipI fun i j=>i+j):=by
 intro pins s σ H x y v u Q I r1 r2 h
 obtain ⟨i,j,e1,e2,q⟩:=h
 subst e1;subst e2
 obtain ⟨t,rfl⟩:=r1
 obtain ⟨t',rfl⟩:=r2
 exact iadd_int ⟨.int _,H,I.tok _,⟨_,rfl⟩,q⟩
end
section
variable {X:Cx} {pos:Pos}
def z7y (c:TT) (tb:TS):TS:=fun D σ H=>∃ W:Nat→St→Hp→Prop,(∃ m,W m σ H)∧∀ m σ H,W m σ H →
 c σ H fun b H1=>if b=true then ∃ N:St→Hp→Prop,(∀ σ' H',N σ' H'→∃ m',m' < m∧W m' σ' H')∧tb { D with nx:=N,ct:=N,bk:=D.nx } σ H1 else D.nx σ H1
theorem z1D {c:Expr} {body:List Stmt} {tc:TT} {tb:TS} (hp:PassesOwn (model X.prog X.w) X.A X.env X.xe) (hc:PT X c tc) (hb:PSs X body tb):PS X (.While c body [] pos) (z7y tc tb):=by
 intro pins s σ H D I h
 obtain ⟨W,⟨m0,w0⟩,z4a⟩:=h
 refine wpAny_While (codeAny_whileLoop (fun n s'=>∃ σ' H',Inv X pins σ' H' s'∧W n σ' H') ?_ m0 ⟨σ,H,I,w0⟩)
 rintro n s1 ⟨σ1,H1,I1,w1⟩
 refine wpAny_passesOwn hp (thn (hc pins s1 σ1 H1 _ I1 (z4a n σ1 H1 w1)) fun b s2 hz8=>?_)
 obtain ⟨H2,I2,q2⟩:=hz8
 cases b with
 | true =>
  obtain ⟨N,hN,q2⟩:=q2
  rw [if_pos rfl]
  refine wpAny_passesOwn hp (thn (hb pins s2 σ1 H2 _ I2 q2) fun f s3 q3=>?_)
  cases f with
  | next =>
   obtain ⟨σ3,H3,I3,n3⟩:=q3
   obtain ⟨m',hm,w3⟩:=hN σ3 H3 n3
   exact ⟨m',hm,σ3,H3,I3,w3⟩
  | cont =>
   obtain ⟨σ3,H3,I3,n3⟩:=q3
   obtain ⟨m',hm,w3⟩:=hN σ3 H3 n3
   exact ⟨m',hm,σ3,H3,I3,w3⟩
  | brk=>exact q3
  | ret v=>exact q3
 | false =>
  rw [if_neg Bool.false_ne_true]
  exact wpAny_execs_nil ⟨σ1,H2,I2,q2⟩
end
structure It where
 go:Nat→Hp→Prop
 yld:Nat→Hp→V→Hp→Prop
 stop:Nat→Hp→Prop
def z3G (X:Cx) (pins:List (Addr × Obj)) (H:Hp) (b:Addr):Prop :=
 H b=none∧b≠X.env.locals∧b∉X.fs∧(b∈X.ex∨X.s₀.heap.objs.size≤b)∧(∀ x c,X.env.cells.lookup x=some c→c≠b)∧∀ p∈X.pn++pins,p.1≠b
theorem Inv.fpOk {X:Cx} {pins:List (Addr × Obj)} {σ:St} {H H':Hp} {s:Shared} {b:Addr} (I:Inv X pins σ H s) (hb:s.heap.objs.size≤b) (hn:H' b=none):z3G X pins H' b:=by
 refine ⟨hn,Nat.ne_of_gt (Nat.lt_of_lt_of_le I.lt hb),I.nofs hb,.inr (Nat.le_trans I.sz hb),fun x c e z=>?_,fun p hp z=>?_⟩
 ·obtain ⟨v,q⟩:=I.cell x c e
  exact absurd (Nat.lt_of_lt_of_le q.lt (by rw [z];exact hb)) (Nat.lt_irrefl _)
 ·exact absurd (Nat.lt_of_lt_of_le (Heap.lt_size (I.pin p hp).1) (by rw [z];exact hb)) (Nat.lt_irrefl _)
structure zbN (P:Program) (w:World) (K:PySem.W.Frag) (tg:Expr) (J:It) (fp:List Addr) (it:Addr) (tn:Nat→Heap→Prop):Prop where
 mem:it∈fp
 obj:∀ i h,tn i h→∀ b∈fp,∃ o,h.get? b=some o∧∀ v,o.data≠.cell v
 keep:∀ i h h',tn i h→(∀ b∈fp,∀ o,h.get? b=some o→h'.get? b=some o)→tn i h'
 item:∀ (X:Cx),X.prog=P→X.w=w→X.K=K→X.calm=true→∀ (i:Nat) (pins:List (Addr × Obj)) (s:Shared) (σ:St) (H:Hp) (E:Value→Shared→Prop),Inv X pins σ H s→(∀ b∈fp,z3G X pins H b)→tn i s.heap→J.go i H →
  wpAny (model P w) X.A (pyNext (.ref it)) (fun r s1=>∃ u,r=some u ∧
   wpAny (model P w) X.A (letOwnedTupleGo tg (.ref it) u) (fun _ s2=>∃ x H',Inv X pins σ H' s2∧z1g x u∧J.yld i H x H'∧tn (i+1) s2.heap∧∀ b∈fp,H' b=none) E s1) E s
 done:∀ (X:Cx),X.prog=P→X.w=w→X.K=K→X.calm=true→∀ (i:Nat) (pins:List (Addr × Obj)) (s:Shared) (σ:St) (H:Hp) (E:Value→Shared→Prop),Inv X pins σ H s→(∀ b∈fp,z3G X pins H b)→tn i s.heap→J.stop i H →
  wpAny (model P w) X.A (pyNext (.ref it)) (fun r s1=>r=none∧Inv X pins σ H s1) E s
 self:∀ (A:Around) (i:Nat) (s:Shared) (Q:Value→Shared→Prop) (E:Value→Shared→Prop),tn i s.heap→Q (.ref it) s→wpAny (model P w) A (pyIter (.ref it)) Q E s
abbrev TI:=St→Hp→(It→Hp→Prop)→Prop
def PIE (X:Cx) (pins:List (Addr × Obj)) (σ:St) (tg:Expr) (R:It→Hp→Prop) (itv:Value) (s2:Shared):Prop :=
 ∃ (it:Addr) (fp:List Addr) (tn:Nat→Heap→Prop) (J:It) (H':Hp),itv=.ref it∧Inv X pins σ H' s2∧zbN X.prog X.w X.K tg J fp it tn∧tn 0 s2.heap∧(∀ b∈fp,z3G X pins H' b)∧R J H'
def PI (X:Cx) (tg iter:Expr) (wi:TI):Prop :=
 ∀ (pins:List (Addr × Obj)) (s:Shared) (σ:St) (H:Hp) (R:It→Hp→Prop),Inv X pins σ H s→wi σ H R →
  wpAny (model X.prog X.w) X.A (eval iter X.env) (fun v s1=>wpAny (model X.prog X.w) X.A (pyIter v) (PIE X pins σ tg R) X.xe s1) X.xe s
theorem ze9 {M:Model} {A:Around} {E:Value→Shared→Prop} {s:Shared} {tg:Expr} {it:Addr} {u:Value} {o:Obj} {n:String} {vs:Array Value} {Q:Unit→Shared→Prop} (ho:s.heap.get? it=some o) (hc:o.cls=.type n) (hd:o.data=.fields vs)
  (hn:["enumerate","zip","dict_itemiterator","dict_reverseitemiterator","odict_iterator","itertools.zip_longest","itertools.pairwise"].contains n=false) (hQ:Q () s):wpAny M A (letOwnedTupleGo tg (.ref it) u) Q E s:=by
 unfold letOwnedTupleGo
 cases tg<;>first
  | exact wpAny_pure hQ
  | (cases u<;>first
    | exact wpAny_pure hQ
    | (refine wpAny_bind (wpAny_load ho ?_)
       rw [hc,hd]
       show wpAny M A (if (["enumerate","zip","dict_itemiterator","dict_reverseitemiterator","odict_iterator","itertools.zip_longest","itertools.pairwise"].contains n && vs[0]? == some (rawInt _))=true then _ else _) Q E s
       rw [if_neg (by intro h;rw [hn,Bool.false_and] at h;cases h)]
       exact wpAny_pure hQ))
def Itl (K:PySem.W.Frag) (a:Addr):It :=
 ⟨fun i H=>∃ xs x,SqL K H a xs∧xs[i]?=some x,fun i H x H'=>H'=H∧∀ xs,SqL K H a xs→xs[i]?=some x,fun i H=>∃ xs,SqL K H a xs∧xs.length≤i⟩
def Itt (K:PySem.W.Frag) (a:Addr):It :=
 ⟨fun i H=>∃ xs x,SqT K H a xs∧xs[i]?=some x,fun i H x H'=>H'=H∧∀ xs,SqT K H a xs→xs[i]?=some x,fun i H=>∃ xs,SqT K H a xs∧xs.length≤i⟩
def Itr (lo:Int) (n:Nat):It:=⟨fun i _=>i < n,fun i H x H'=>H'=H∧x=.int (lo+i),fun i _=>n≤i⟩
theorem zaR {P:Program} {w:World} {K:PySem.W.Frag} {tg:Expr} (a it:Addr):zbN P w K tg (Itl K a) [it] it (fun i h=>h.IsListIter it a i) where
 mem:=by simp
 obj:=fun i h st b hb=>by
  have e:b=it:=by simpa using hb
  subst e
  obtain ⟨o,e,c,d⟩:=st
  exact ⟨o,e,fun v z=>by rw [d] at z;cases z⟩
 keep:=fun i h h' st k=>st.at fun o e=>k it (by simp) o e
 item:=by
  intro X hP hw hK hc i pins s σ H E I hf st hg
  subst hP hw hK
  obtain ⟨xs,x,hq,hx⟩:=hg
  obtain ⟨its,rv,p,hz⟩:=I.list hq
  obtain ⟨u,hu,ru⟩:=rv.get hx
  obtain ⟨f0,f1,f2,f3,f4,f5⟩:=hf it (by simp)
  refine wpAny_pyNext_list_item st p.isList (x:=u) (by simpa using hu) fun h' st' sb=>?_
  have I1:Inv X pins σ H { s with heap:=h' }:=I.turned (t':=s.toks) (fun b o hb e=>(sb.2 b hb).trans e) f0 f1 f3 f4 f5
  obtain ⟨o,e,c,d⟩:=id st'
  exact ⟨u,rfl,ze9 (s:={ s with heap:=h' }) e c d (by decide) ⟨x,H,I1,ru,⟨rfl,fun ys hy=>by rw [I.list_inj hy hq];exact hx⟩,st',fun b hb=>(hf b hb).1⟩⟩
 done:=by
  intro X hP hw hK hc i pins s σ H E I hf st hg
  subst hP hw hK
  obtain ⟨xs,hq,hx⟩:=hg
  obtain ⟨its,rv,p,hz⟩:=I.list hq
  obtain ⟨f0,f1,f2,f3,f4,f5⟩:=hf it (by simp)
  have hl:=rv.length
  exact wpAny_pyNext_list_end (I.ok.hd hc) st p.isList (by simp;lia) fun h' eb=>⟨rfl,I.turned (t':=s.toks) (fun b o hb e=>eb b o hb e) f0 f1 f3 f4 f5⟩
 self:=fun _ _ _ _ _ st h=>wpAny_pyIter_listiter st h
theorem z9x {P:Program} {w:World} {K:PySem.W.Frag} {tg:Expr} (a it:Addr):zbN P w K tg (Itt K a) [it] it (fun i h=>h.IsTupleIter it a i) where
 mem:=by simp
 obj:=fun i h st b hb=>by
  have e:b=it:=by simpa using hb
  subst e
  obtain ⟨o,e,c,d⟩:=st
  exact ⟨o,e,fun v z=>by rw [d] at z;cases z⟩
 keep:=fun i h h' st k=>st.at fun o e=>k it (by simp) o e
 item:=by
  intro X hP hw hK hc i pins s σ H E I hf st hg
  subst hP hw hK
  obtain ⟨xs,x,hq,hx⟩:=hg
  obtain ⟨its,rv,p,hz⟩:=I.tuple hq
  obtain ⟨u,hu,ru⟩:=rv.get hx
  obtain ⟨f0,f1,f2,f3,f4,f5⟩:=hf it (by simp)
  refine wpAny_pyNext_tuple_item st (show s.heap.IsTuple a its.toArray from p) (x:=u) (by simpa using hu) fun h' st' sb=>?_
  have I1:Inv X pins σ H { s with heap:=h' }:=I.turned (t':=s.toks) (fun b o hb e=>(sb.2 b hb).trans e) f0 f1 f3 f4 f5
  obtain ⟨o,e,c,d⟩:=id st'
  exact ⟨u,rfl,ze9 (s:={ s with heap:=h' }) e c d (by decide) ⟨x,H,I1,ru,⟨rfl,fun ys hy=>by rw [I.tuple_inj hy hq];exact hx⟩,st',fun b hb=>(hf b hb).1⟩⟩
 done:=by
  intro X hP hw hK hc i pins s σ H E I hf st hg
  subst hP hw hK
  obtain ⟨xs,hq,hx⟩:=hg
  obtain ⟨its,rv,p,hz⟩:=I.tuple hq
  obtain ⟨f0,f1,f2,f3,f4,f5⟩:=hf it (by simp)
  have hl:=rv.length
  exact wpAny_pyNext_tuple_end (I.ok.hd hc) st (show s.heap.IsTuple a its.toArray from p) (by simp;lia) fun h' eb=>⟨rfl,I.turned (t':=s.toks) (fun b o hb e=>eb b o hb e) f0 f1 f3 f4 f5⟩
 self:=fun _ _ _ _ _ st h=>wpAny_pyIter_tupleiter st h
theorem z9R {P:Program} {w:World} {K:PySem.W.Frag} {tg:Expr} (it:Addr) (lo:Int) (n:Nat):zbN P w K tg (Itr lo n) [it] it (fun i h=>IsRangeIter h it (lo+(i:Nat)*1) ((n:Int) - (i:Nat)) 1) where
 mem:=by simp
 obj:=fun i h st b hb=>by
  have e:b=it:=by simpa using hb
  subst e
  exact ⟨_,st,fun v z=>by
   have z':Data.fields _=Data.cell v:=z
   cases z'⟩
 keep:=fun i h h' st k=>k it (by simp) _ st
 item:=by
  intro X hP hw hK hc i pins s σ H E I hf st hg
  subst hP hw hK
  obtain ⟨f0,f1,f2,f3,f4,f5⟩:=hf it (by simp)
  have W:=Walks.range (prog:=X.prog) (w:=X.w) (I.ok.hd hc) it lo 1 n
  refine W.item i s _ _ hg st fun v h' tk hv st' kk=>?_
  obtain ⟨t,rfl⟩:=hv
  have I1:Inv X pins σ H { s with heap:=h',toks:=tk }:=I.turned (fun b o hb e=>kk b o (by simpa using hb) e) f0 f1 f3 f4 f5
  refine ⟨_,rfl,ze9 (s:={ s with heap:=h',toks:=tk }) (n:="range_iterator") st' rfl rfl (by decide) ⟨.int (lo+i),H,I1,⟨t,?_⟩,⟨rfl,rfl⟩,st',fun b hb=>(hf b hb).1⟩⟩
  rw [Int.mul_one]
 done:=by
  intro X hP hw hK hc i pins s σ H E I hf st hg
  subst hP hw hK
  obtain ⟨f0,f1,f2,f3,f4,f5⟩:=hf it (by simp)
  exact wpAny_pyNext_range_end (I.ok.hd hc) st (by have:n≤i:=hg;lia) fun h' eb=>⟨rfl,I.turned (t':=s.toks) (fun b o hb e=>eb b o hb e) f0 f1 f3 f4 f5⟩
 self:=fun _ _ _ _ _ st h=>wpAny_pyIter_rangeiter st h
end L2
namespace L2
open PySem PySem.Spec PyProof.Rows
section
variable {X:Cx} {tg:Expr}
def zfN (K:PySem.W.Frag) (tl:TE):TI:=fun σ H R=>tl σ H fun x H1=>∃ a,x=.ref a∧(∃ xs,SqL K H1 a xs)∧R (Itl K a) H1
def zgx (K:PySem.W.Frag) (tl:TE):TI:=fun σ H R=>tl σ H fun x H1=>∃ a,x=.ref a∧(∃ xs,SqT K H1 a xs)∧R (Itt K a) H1
theorem z1j {l:Expr} {tl:TE} (hl:PE X l tl):PI X tg l (zfN X.K tl):=by
 intro pins s σ H R I h
 refine z1I (hl pins s σ H _ I h) fun v s1 x H1 I1 r1 q1=>?_
 obtain ⟨a,e,⟨xs,hq⟩,q⟩:=q1
 subst e
 cases r1
 obtain ⟨its,rv,p,hz⟩:=I1.list hq
 refine wpAny_pyIter_list p.isList ?_
 refine ⟨s1.heap.objs.size,[s1.heap.objs.size],_,_,H1,rfl,I1.kept (t':=s1.toks) fun b o e=>Heap.get?_push_of_some _ e,zaR a _,⟨_,Heap.get?_push_size _ rfl,rfl,rfl⟩,fun b hb=>?_,q⟩
 have e:b=s1.heap.objs.size:=by simpa using hb
 subst e
 exact I1.fpOk (Nat.le_refl _) (I1.hok.fresh (Nat.le_refl _))
theorem z3t {l:Expr} {tl:TE} (hl:PE X l tl):PI X tg l (zgx X.K tl):=by
 intro pins s σ H R I h
 refine z1I (hl pins s σ H _ I h) fun v s1 x H1 I1 r1 q1=>?_
 obtain ⟨a,e,⟨xs,hq⟩,q⟩:=q1
 subst e
 cases r1
 obtain ⟨its,rv,p,hz⟩:=I1.tuple hq
 refine wpAny_pyIter_tuple (show s1.heap.IsTuple a its.toArray from p) ?_
 refine ⟨s1.heap.objs.size,[s1.heap.objs.size],_,_,H1,rfl,I1.kept (t':=s1.toks) fun b o e=>Heap.get?_push_of_some _ e,z9x a _,⟨_,Heap.get?_push_size _ rfl,rfl,rfl⟩,fun b hb=>?_,q⟩
 have e:b=s1.heap.objs.size:=by simpa using hb
 subst e
 exact I1.fpOk (Nat.le_refl _) (I1.hok.fresh (Nat.le_refl _))
theorem z9i {pins:List (Addr × Obj)} {σ:St} {H:Hp} {s:Shared} {R:It→Hp→Prop} {E:Value→Shared→Prop} {lo hi:Int} {t u v:Tok} {tk:Nat} (I:Inv X pins σ H s) (h1:-(2 ^ 62)≤lo) (h2:lo < 2 ^ 62) (h3:-(2 ^ 62)≤hi) (h4:hi < 2 ^ 62)
  (q:R (Itr lo (hi - lo).toNat) H):wpAny (model X.prog X.w) X.A (pyIter (.ref s.heap.objs.size)) (PIE X pins σ tg R) E { s with heap:=s.heap.push { cls:=.type "range",data:=.fields #[.int lo t,.int hi u,.int 1 v] },toks:=tk }:=by
 refine wpAny_pyIter_range (IsRange.new ..) (small_one h1 h2 h3 h4) ?_
 have I1:Inv X pins σ H { s with heap:=s.heap.push { cls:=.type "range",data:=.fields #[.int lo t,.int hi u,.int 1 v] },toks:=tk }:=I.kept fun b o e=>Heap.get?_push_of_some _ e
 refine ⟨(s.heap.push { cls:=.type "range",data:=.fields #[.int lo t,.int hi u,.int 1 v] }).objs.size,[(s.heap.push { cls:=.type "range",data:=.fields #[.int lo t,.int hi u,.int 1 v] }).objs.size],_,_,H,rfl,
  I1.kept (t':=tk) fun b o e=>Heap.get?_push_of_some _ e,z9R _ lo (hi - lo).toNat,?_,fun b hb=>?_,q⟩
 ·have e1:lo+((0:Nat):Int)*1=lo:=by simp
  have e2:(((hi - lo).toNat:Nat):Int) - ((0:Nat):Int)=Builtin.Range.rangeSize lo hi 1:=by rw [rangeSize_one];split<;>lia
  show IsRangeIter _ _ (lo+((0:Nat):Int)*1) ((((hi - lo).toNat:Nat):Int) - ((0:Nat):Int)) 1
  rw [e1,e2]
  exact Heap.get?_push_size _ rfl
 ·have e:b=(s.heap.push { cls:=.type "range",data:=.fields #[.int lo t,.int hi u,.int 1 v] }).objs.size:=by simpa using hb
  subst e
  exact I1.fpOk (Nat.le_refl _) (I1.hok.fresh (Nat.le_refl _))
def zgo (ta:TA):TI:=fun σ H R=>ta σ H fun vs H1=>∃ j:Int,vs=[.int j]∧-(2 ^ 62)≤j∧j < 2 ^ 62∧R (Itr 0 j.toNat) H1
def zfV (ta:TA):TI:=fun σ H R=>ta σ H fun vs H1=>∃ i j:Int,vs=[.int i,.int j]∧(-(2 ^ 62)≤i∧i < 2 ^ 62∧-(2 ^ 62)≤j∧j < 2 ^ 62)∧R (Itr i (j - i).toNat) H1
theorem z1v {a:Expr} {ta:TA} {p pos:Pos} (hg:Gl X "range") (hm:X.mg "range"=none) (ha:PA X [a] ta) (hs:starEach [a] X.env=[(false,eval a X.env)]:=by rfl):PI X tg (.Call (.Name "range" p) [a] [] pos) (zgo ta):=by
 intro pins s σ H R I h
 refine Call_ (z79 I hg hm boot_range (PyProof.Rows.callWith_type1 (thn (ha pos pins s σ H _ I h) fun us s1 hz8=>?_) hs rfl))
 obtain ⟨vs,H1,I1,r1,q1⟩:=hz8
 obtain ⟨j,e,q1,q2,q⟩:=q1
 subst e
 cases r1 with
 | cons r rr =>
  cases rr
  obtain ⟨t,rfl⟩:=r
  exact call_range_1 (z9i I1 (by lia) (by lia) q1 q2 (by simpa using q))
theorem zbx {a b:Expr} {ta:TA} {p pos:Pos} (hg:Gl X "range") (hm:X.mg "range"=none) (ha:PA X [a,b] ta) (hs:starEach [a,b] X.env=[(false,eval a X.env),(false,eval b X.env)]:=by rfl) (hs2:starEach [b] X.env=[(false,eval b X.env)]:=by rfl) :
  PI X tg (.Call (.Name "range" p) [a,b] [] pos) (zfV ta):=by
 intro pins s σ H R I h
 refine Call_ (z79 I hg hm boot_range (PyProof.Rows.callWith_type1 (thn (ha pos pins s σ H _ I h) fun us s1 hz8=>?_) (by rw [hs,hs2]) (by rw [hs2];rfl)))
 obtain ⟨vs,H1,I1,r1,q1⟩:=hz8
 obtain ⟨i,j,e,⟨q1,q2,q3,q4⟩,q⟩:=q1
 subst e
 cases r1 with
 | cons r rr =>
  cases rr with
  | cons r' rr =>
   cases rr
   obtain ⟨t,rfl⟩:=r
   obtain ⟨t',rfl⟩:=r'
   exact call_range_2 (z9i I1 q1 q2 q3 q4 q)
def zhh (wi:TI) (g:TG) (tb:TS):TS:=fun D σ H=>wi σ H fun J H1=>∃ W:Nat→Nat→St→Hp→Prop,(∃ m,W 0 m σ H1)∧∀ i m σ H,W i m σ H →
 (J.stop i H∧D.nx σ H)∨(J.go i H∧∃ N:St→Hp→Prop,(∀ σ' H',N σ' H'→∃ m',m' < m∧W (i+1) m' σ' H')∧∀ x H',J.yld i H x H'→g x σ H' fun σ2 H2=>tb { D with nx:=N,ct:=N,bk:=D.nx } σ2 H2)
def z8N (fp:List Addr) (h:Heap):List (Addr × Obj):=fp.filterMap fun b=>(h.get? b).map fun o=>(b,o)
theorem z0J {fp:List Addr} {h:Heap} {b:Addr} {o:Obj} (hb:b∈fp) (e:h.get? b=some o):(b,o)∈z8N fp h:=List.mem_filterMap.mpr ⟨b,hb,by rw [e];rfl⟩
theorem zab {fp:List Addr} {h:Heap} {p:Addr × Obj} (hp:p∈z8N fp h):p.1∈fp∧h.get? p.1=some p.2:=by
 obtain ⟨b,hb,e⟩:=List.mem_filterMap.mp hp
 cases q:h.get? b with
 | none=>rw [q] at e;cases e
 | some o =>
  rw [q] at e
  have e':(b,o)=p:=Option.some.inj e
  subst e'
  exact ⟨hb,q⟩
theorem Inv.pinned {pins:List (Addr × Obj)} {σ:St} {H:Hp} {s:Shared} {fp:List Addr} (I:Inv X pins σ H s) (hf:∀ b∈fp,z3G X pins H b) (ho:∀ b∈fp,∃ o,s.heap.get? b=some o∧∀ v,o.data≠.cell v):Inv X (pins++z8N fp s.heap) σ H s :=
 I.pins_of fun p hp=>(List.mem_append.mp hp).elim (fun z=>I.pin p (List.mem_append_right _ z)) fun z=>by
  obtain ⟨hb,e⟩:=zab z
  obtain ⟨f0,f1,f2,_⟩:=hf p.1 hb
  obtain ⟨o,e',d⟩:=ho p.1 hb
  rw [e] at e';cases e'
  exact ⟨e,f0,f1,f2,d⟩
theorem Inv.unpinned {pins pl:List (Addr × Obj)} {σ:St} {H:Hp} {s:Shared} (I:Inv X (pins++pl) σ H s):Inv X pins σ H s:=I.pins_of fun p hp=>I.pin p (List.mem_append_right _ (List.mem_append_left _ hp))
theorem z1X {iter:Expr} {body:List Stmt} {wi:TI} {g:TG} {tb:TS} {pos:Pos} (hp:PassesOwn (model X.prog X.w) X.A X.env X.xe) (hc:X.calm=true) (hi:PI X tg iter wi) (hg:PG X tg g) (hb:PSs X body tb)
  (hs:∀ x,foldedSetIterable iter X.env x=pure x:=by intro _;rfl):PS X (.For tg iter body [] pos) (zhh wi g tb):=by
 intro pins s σ H D I h
 refine wpAny_For (thn (hi pins s σ H _ I h) fun v s1 h1=>thn h1 fun itv s2 h2=>?_) hs
 obtain ⟨it,fp,tn,J,H2,e,I2,T,st2,f2,W,⟨m0,w0⟩,z4a⟩:=h2
 subst e
 have stat:∀ {H':Hp},(∀ b∈fp,H' b=none)→∀ b∈fp,z3G X pins H' b:=fun hn b hb=>⟨hn b hb,(f2 b hb).2⟩
 refine codeAny_forLoop_any (fun n s'=>∃ i σ' H',Inv X pins σ' H' s'∧tn i s'.heap∧(∀ b∈fp,H' b=none)∧W i n σ' H') ?_ m0 ⟨0,σ,H2,I2,st2,fun b hb=>(f2 b hb).1,w0⟩
 rintro n s3 ⟨i,σ3,H3,I3,st3,fr3,w3⟩
 rcases z4a i n σ3 H3 w3 with ⟨stop,qn⟩ | ⟨go,N,hN,step⟩
 ·refine wpAny_passesOwn hp (thn (T.done X rfl rfl rfl hc i pins s3 σ3 H3 X.xe I3 (stat fr3) st3 stop) fun r s4 hz8=>?_)
  obtain ⟨hr,I4⟩:=hz8
  subst hr
  exact wpAny_execs_nil ⟨σ3,H3,I4,qn⟩
 ·refine wpAny_passesOwn hp (thn (T.item X rfl rfl rfl hc i pins s3 σ3 H3 X.xe I3 (stat fr3) st3 go) fun r s4 hz8=>?_)
  obtain ⟨u,hr,h4⟩:=hz8
  subst hr
  refine wpAny_passesOwn hp (thn h4 fun _ s5 hz8=>?_)
  obtain ⟨x,H5,I5,r5,y5,st5,fr5⟩:=hz8
  have I5':=I5.pinned (stat fr5) (T.obj _ _ st5)
  refine wpAny_passesOwn hp (thn (hg _ s5 σ3 H5 x u _ I5' r5 (step x H5 y5)) fun _ s6 hz8=>?_)
  obtain ⟨σ6,H6,I6,q6⟩:=hz8
  refine wpAny_passesOwn hp (thn (hb _ s6 σ6 H6 _ I6 q6) fun f s7 q7=>?_)
  have again:∀ {σ7:St} {H7:Hp},Inv X (pins++z8N fp s5.heap) σ7 H7 s7→N σ7 H7→∃ m,m < n∧∃ i σ' H',Inv X pins σ' H' s7∧tn i s7.heap∧(∀ b∈fp,H' b=none)∧W i m σ' H':=fun {σ7 H7} I7 n7=>by
   obtain ⟨m',hm,w7⟩:=hN σ7 H7 n7
   refine ⟨m',hm,i+1,σ7,H7,I7.unpinned,T.keep _ _ _ st5 fun b hb o e=>(I7.pin (b,o) (List.mem_append_right _ (List.mem_append_right _ (z0J hb e)))).1,fun b hb=>?_,w7⟩
   obtain ⟨o,e,d⟩:=T.obj _ _ st5 b hb
   exact (I7.pin (b,o) (List.mem_append_right _ (List.mem_append_right _ (z0J hb e)))).2.1
  cases f with
  | next=>obtain ⟨σ7,H7,I7,n7⟩:=q7;exact again I7 n7
  | cont=>obtain ⟨σ7,H7,I7,n7⟩:=q7;exact again I7 n7
  | brk=>obtain ⟨σ7,H7,I7,q7⟩:=q7;exact ⟨σ7,H7,I7.unpinned,q7⟩
  | ret v=>obtain ⟨x7,σ7,H7,I7,r7,q7⟩:=q7;exact ⟨x7,σ7,H7,I7.unpinned,r7,q7⟩
end
theorem zcH {K:PySem.W.Frag} {a:Addr} {xs:List V} {g:TG} {tb:TS} {D:z44} {σ:St} {H:Hp} (Pv:Nat→St→Hp→Prop) (h0:Pv 0 σ H) (hl:∀ i σ H,i≤xs.length→Pv i σ H→SqL K H a xs)
  (hs:∀ i x σ H,xs[i]?=some x→Pv i σ H→g x σ H fun σ2 H2=>tb { D with nx:=Pv (i+1),ct:=Pv (i+1),bk:=D.nx } σ2 H2) (hd:∀ σ H,Pv xs.length σ H→D.nx σ H) :
  ∃ W:Nat→Nat→St→Hp→Prop,(∃ m,W 0 m σ H)∧∀ i m σ H,W i m σ H →
   ((Itl K a).stop i H∧D.nx σ H)∨((Itl K a).go i H∧∃ N:St→Hp→Prop,(∀ σ' H',N σ' H'→∃ m',m' < m∧W (i+1) m' σ' H')∧∀ x H',(Itl K a).yld i H x H'→g x σ H' fun σ2 H2=>tb { D with nx:=N,ct:=N,bk:=D.nx } σ2 H2):=by
 refine ⟨fun i m σ H=>m=xs.length - i∧i≤xs.length∧Pv i σ H,⟨xs.length,by simp,Nat.zero_le _,h0⟩,?_⟩
 rintro i m σ H ⟨rfl,hi,p⟩
 have q:=hl i σ H hi p
 by_cases hlt:i < xs.length
 ·refine .inr ⟨⟨xs,xs[i],q,by simp [hlt]⟩,Pv (i+1),fun σ' H' p'=>⟨xs.length - (i+1),by lia,rfl,hlt,p'⟩,fun x H' y=>?_⟩
  obtain ⟨e,y⟩:=y
  subst e
  exact hs i x σ _ (y xs q) p
 ·have e:i=xs.length:=by lia
  subst e
  exact .inl ⟨⟨xs,q,Nat.le_refl _⟩,hd σ H p⟩
theorem zbq {K:PySem.W.Frag} {a:Addr} {xs:List V} {g:TG} {tb:TS} {D:z44} {σ:St} {H:Hp} (Pv:Nat→St→Hp→Prop) (h0:Pv 0 σ H) (hl:∀ i σ H,i≤xs.length→Pv i σ H→SqT K H a xs)
  (hs:∀ i x σ H,xs[i]?=some x→Pv i σ H→g x σ H fun σ2 H2=>tb { D with nx:=Pv (i+1),ct:=Pv (i+1),bk:=D.nx } σ2 H2) (hd:∀ σ H,Pv xs.length σ H→D.nx σ H) :
  ∃ W:Nat→Nat→St→Hp→Prop,(∃ m,W 0 m σ H)∧∀ i m σ H,W i m σ H →
   ((Itt K a).stop i H∧D.nx σ H)∨((Itt K a).go i H∧∃ N:St→Hp→Prop,(∀ σ' H',N σ' H'→∃ m',m' < m∧W (i+1) m' σ' H')∧∀ x H',(Itt K a).yld i H x H'→g x σ H' fun σ2 H2=>tb { D with nx:=N,ct:=N,bk:=D.nx } σ2 H2):=by
 refine ⟨fun i m σ H=>m=xs.length - i∧i≤xs.length∧Pv i σ H,⟨xs.length,by simp,Nat.zero_le _,h0⟩,?_⟩
 rintro i m σ H ⟨rfl,hi,p⟩
 have q:=hl i σ H hi p
 by_cases hlt:i < xs.length
 ·refine .inr ⟨⟨xs,xs[i],q,by simp [hlt]⟩,Pv (i+1),fun σ' H' p'=>⟨xs.length - (i+1),by lia,rfl,hlt,p'⟩,fun x H' y=>?_⟩
  obtain ⟨e,y⟩:=y
  subst e
  exact hs i x σ _ (y xs q) p
 ·have e:i=xs.length:=by lia
  subst e
  exact .inl ⟨⟨xs,q,Nat.le_refl _⟩,hd σ H p⟩
theorem z70 {lo:Int} {n:Nat} {g:TG} {tb:TS} {D:z44} {σ:St} {H:Hp} (Pv:Nat→St→Hp→Prop) (h0:Pv 0 σ H)
  (hs:∀ i σ H,i < n→Pv i σ H→g (.int (lo+i)) σ H fun σ2 H2=>tb { D with nx:=Pv (i+1),ct:=Pv (i+1),bk:=D.nx } σ2 H2) (hd:∀ σ H,Pv n σ H→D.nx σ H) :
  ∃ W:Nat→Nat→St→Hp→Prop,(∃ m,W 0 m σ H)∧∀ i m σ H,W i m σ H →
   ((Itr lo n).stop i H∧D.nx σ H)∨((Itr lo n).go i H∧∃ N:St→Hp→Prop,(∀ σ' H',N σ' H'→∃ m',m' < m∧W (i+1) m' σ' H')∧∀ x H',(Itr lo n).yld i H x H'→g x σ H' fun σ2 H2=>tb { D with nx:=N,ct:=N,bk:=D.nx } σ2 H2):=by
 refine ⟨fun i m σ H=>m=n - i∧i≤n∧Pv i σ H,⟨n,by simp,Nat.zero_le _,h0⟩,?_⟩
 rintro i m σ H ⟨rfl,hi,p⟩
 by_cases hlt:i < n
 ·refine .inr ⟨hlt,Pv (i+1),fun σ' H' p'=>⟨n - (i+1),by lia,rfl,hlt,p'⟩,fun x H' y=>?_⟩
  obtain ⟨e,y⟩:=y
  subst e y
  exact hs i σ _ hlt p
 ·have e:i=n:=by lia
  subst e
  exact .inl ⟨Nat.le_refl _,hd σ H p⟩
end L2
namespace L2
open PySem PySem.Spec PyProof.Rows
abbrev R2:=V→V→Hp→VK→Prop
def OpR (X:Cx) (f:Value→Value→Sem Value) (r:R2):Prop :=
 ∀ (pins:List (Addr × Obj)) (s:Shared) (σ:St) (H:Hp) (x y:V) (v u:Value) (Q:VK),Inv X pins σ H s→z1g x v→z1g y u→r x y H Q →
  wpAny (model X.prog X.w) X.A (f v u) (EP X pins σ Q) X.xe s
def UnR (X:Cx) (f:Value→Sem Value) (r:V→Hp→VK→Prop):Prop :=
 ∀ (pins:List (Addr × Obj)) (s:Shared) (σ:St) (H:Hp) (x:V) (v:Value) (Q:VK),Inv X pins σ H s→z1g x v→r x H Q →
  wpAny (model X.prog X.w) X.A (f v) (EP X pins σ Q) X.xe s
def z3y (X:Cx) (f:Value) (r:List V→Hp→VK→Prop):Prop :=
 ∀ (pins:List (Addr × Obj)) (s:Shared) (σ:St) (H:Hp) (xs:List V) (us:List Value) (Q:VK),Inv X pins σ H s→z1e xs us→r xs H Q →
  wpAny (model X.prog X.w) X.A (call f us) (EP X pins σ Q) X.xe s
def zhr (X:Cx) (r:V→Hp→(Bool→Hp→Prop)→Prop):Prop :=
 ∀ (pins:List (Addr × Obj)) (s:Shared) (σ:St) (H:Hp) (x:V) (v:Value) (Q:Bool→Hp→Prop),Inv X pins σ H s→z1g x v→r x H Q →
  wpAny (model X.prog X.w) X.A (truthy v) (TP X pins σ Q) X.xe s
def tOp (r:R2) (ta tb:TE):TE:=fun σ H Q=>ta σ H fun x H1=>tb σ H1 fun y H2=>r x y H2 Q
def tUn (r:V→Hp→VK→Prop) (ta:TE):TE:=fun σ H Q=>ta σ H fun x H1=>r x H1 Q
def rI (C:Int→Int→Prop) (g:Int→Int→V):R2:=fun x y H Q=>∃ i j,x=.int i∧y=.int j∧C i j∧Q (g i j) H
def rI0 (g:Int→Int→V):R2:=fun x y H Q=>∃ i j,x=.int i∧y=.int j∧Q (g i j) H
def rU (g:Int→V):V→Hp→VK→Prop:=fun x H Q=>∃ i,x=.int i∧Q (g i) H
section
variable {X:Cx} {a b c:Expr} {ta tb tc:TE} {pos:Pos}
theorem zgq (ha:PE X a ta) (hb:PE X b tb) {pins:List (Addr × Obj)} {s:Shared} {σ:St} {H:Hp} {R:V→V→Hp→Prop} (I:Inv X pins σ H s)
  (h:ta σ H fun x H1=>tb σ H1 fun y H2=>R x y H2) {Q:Value→Shared→Prop} {f:Value→Value→Sem Value}
  (hf:∀ v u s2 x y H2,Inv X pins σ H2 s2→z1g x v→z1g y u→R x y H2→wpAny (model X.prog X.w) X.A (f v u) Q X.xe s2) :
  wpAny (model X.prog X.w) X.A (eval a X.env) (fun v s₁=>wpAny (model X.prog X.w) X.A (eval b X.env) (fun u s₂=>wpAny (model X.prog X.w) X.A (f v u) Q X.xe s₂) X.xe s₁) X.xe s:=by
 refine z1I (ha pins s σ H _ I h) fun v s1 x H1 I1 r1 q1=>?_
 refine z1I (hb pins s1 σ H1 _ I1 q1) fun u s2 y H2 I2 r2 q2=>?_
 exact hf v u s2 x y H2 I2 r1 r2 q2
theorem z0k {op:Operator} {r:R2} (ho:OpR X (binaryOp op) r) (ha:PE X a ta) (hb:PE X b tb):PE X (.BinOp a op b pos) (tOp r ta tb):=by
 intro pins s σ H Q I h
 exact wpAny_BinOp (zgq ha hb I h fun v u s2 x y H2 I2 rx ry q=>ho pins s2 σ H2 x y v u Q I2 rx ry q)
theorem zeh {op:UnaryOp} {r:V→Hp→VK→Prop} (ho:UnR X (unaryOp op) r) (ha:PE X a ta):PE X (.UnaryOp op a pos) (tUn r ta):=by
 intro pins s σ H Q I h
 exact UnaryOp_ (z1I (ha pins s σ H _ I h) fun v s1 x H1 I1 r1 q1=>ho pins s1 σ H1 x v Q I1 r1 q1)
theorem opI {f:Value→Value→Sem Value} {C:Int→Int→Prop} {g:Int→Int→Int}
  (rule:∀ (i j:Int) (t u:Tok) (s:Shared) (Q:Value→Shared→Prop) (E:Value→Shared→Prop),C i j→Q (.int (g i j) s.toks) { s with toks:=s.toks+1 }→wpAny (model X.prog X.w) X.A (f (.int i t) (.int j u)) Q E s) :
  OpR X f (rI C fun i j=>.int (g i j)):=by
 intro pins s σ H x y v u Q I rx ry h
 obtain ⟨i,j,rfl,rfl,hc,q⟩:=h
 obtain ⟨t,rfl⟩:=rx
 obtain ⟨t',rfl⟩:=ry
 exact rule i j t t' s _ _ hc ⟨.int (g i j),H,I.tok _,⟨_,rfl⟩,q⟩
theorem zgJ {f:Value→Value→Sem Value} {g:Int→Int→Int}
  (rule:∀ (i j:Int) (t u:Tok) (s:Shared) (Q:Value→Shared→Prop) (E:Value→Shared→Prop),Q (.int (g i j) s.toks) { s with toks:=s.toks+1 }→wpAny (model X.prog X.w) X.A (f (.int i t) (.int j u)) Q E s) :
  OpR X f (rI0 fun i j=>.int (g i j)):=by
 intro pins s σ H x y v u Q I rx ry h
 obtain ⟨i,j,rfl,rfl,q⟩:=h
 obtain ⟨t,rfl⟩:=rx
 obtain ⟨t',rfl⟩:=ry
 exact rule i j t t' s _ _ ⟨.int (g i j),H,I.tok _,⟨_,rfl⟩,q⟩
theorem zgc {f:Value→Value→Sem Value} {g:Int→Int→Bool}
  (rule:∀ (i j:Int) (t u:Tok) (s:Shared) (Q:Value→Shared→Prop) (E:Value→Shared→Prop),Q (.bool (g i j)) s→wpAny (model X.prog X.w) X.A (f (.int i t) (.int j u)) Q E s) :
  OpR X f (rI0 fun i j=>.bl (g i j)):=by
 intro pins s σ H x y v u Q I rx ry h
 obtain ⟨i,j,rfl,rfl,q⟩:=h
 obtain ⟨t,rfl⟩:=rx
 obtain ⟨t',rfl⟩:=ry
 exact rule i j t t' s _ _ ⟨.bl (g i j),H,I,rfl,q⟩
def zgY (i j:Int):Prop:=0 < j∧j < 1073741824
def zhf (i j:Int):Prop:=0≤j∧j≤1000000∧i.natAbs < 2 ^ 64
def zfP (i j:Int):Prop:=(-(2 ^ 64) < i∧i < 2 ^ 64)∨(-(2 ^ 64) < j∧j < 2 ^ 64)
theorem zfP.ok {i j:Int} (h:zfP i j):IntMulOk i j:=by
 rcases h with ⟨h1,h2⟩ | ⟨h1,h2⟩
 ·exact .of_left (intBits_le_64 h1 h2)
 ·exact .of_right (intBits_le_64 h1 h2)
theorem z0R:OpR X (binaryOp .Add) (rI0 fun i j=>.int (i+j)):=zgJ fun _ _ _ _ _ _ _ q=>add_int q
theorem z2A:OpR X (binaryOp .Sub) (rI0 fun i j=>.int (i - j)):=zgJ fun _ _ _ _ _ _ _ q=>sub_int q
theorem z3q:OpR X (binaryOp .Mult) (rI zfP fun i j=>.int (i*j)):=opI fun _ _ _ _ _ _ _ hc q=>mul_int q hc.ok
theorem z2x:OpR X (binaryOp .FloorDiv) (rI zgY fun i j=>.int (i / j)):=opI fun i j _ _ _ _ _ hc q=>by
 have h1:(0:Int) < j:=hc.1
 have h2:j < 1073741824:=hc.2
 exact floordiv_int (by lia) (by rw [Int.fdiv_eq_ediv_of_nonneg i (by lia)];exact q) (.inl (PyProof.noPylong_small (by lia)))
theorem z0O:OpR X (binaryOp .Mod) (rI (fun _ j=>0 < j) fun i j=>.int (i % j)):=opI fun i j _ _ _ _ _ hc q=>by
 have h1:(0:Int) < j:=hc
 exact mod_int' (by lia) (by rw [Int.fmod_eq_emod_of_nonneg i (by lia)];exact q)
theorem zf7:OpR X (binaryOp .Pow) (rI zhf fun i j=>.int (i ^ j.toNat)):=opI fun _ _ _ _ _ _ _ hc q=>pow_int_small hc.1 hc.2.1 hc.2.2 q
theorem unI {f:Value→Sem Value} {g:Int→Int}
  (rule:∀ (i:Int) (t:Tok) (s:Shared) (Q:Value→Shared→Prop) (E:Value→Shared→Prop),Q (.int (g i) s.toks) { s with toks:=s.toks+1 }→wpAny (model X.prog X.w) X.A (f (.int i t)) Q E s) :
  UnR X f (rU fun i=>.int (g i)):=by
 intro pins s σ H x v Q I rx h
 obtain ⟨i,rfl,q⟩:=h
 obtain ⟨t,rfl⟩:=rx
 exact rule i t s _ _ ⟨.int (g i),H,I.tok _,⟨_,rfl⟩,q⟩
theorem zaz:UnR X (unaryOp .USub) (rU fun i=>.int (-i)):=unI fun _ _ _ _ _ q=>neg_int q
end
def zhs:V→V→Bool
 | .non,.non=>true | .non,.int _=>true | .int _,.non=>true | .non,.bl _=>true | .bl _,.non=>true | .non,.str _=>true | .str _,.non=>true
 | .int _,.int _=>true | .bl _,.bl _=>true | .str _,.str _=>true | .byt _,.byt _=>true
 | .int _,.str _=>true | .str _,.int _=>true | .bl _,.str _=>true | .str _,.bl _=>true
 | _,_=>false
def rEq:R2:=fun x y H Q=>zhs x y=true∧Q (.bl (decide (x=y))) H
theorem zer {i j:Int}:decide (V.int i=V.int j)=(i == j):=by
 rw [Bool.eq_iff_iff]
 simp
theorem zeK {i j:Bool}:decide (V.bl i=V.bl j)=(i == j):=by
 rw [Bool.eq_iff_iff]
 simp
theorem zea {i j:Str}:decide (V.str i=V.str j)=(i == j):=by
 rw [Bool.eq_iff_iff]
 simp
theorem zdw {i j:Array UInt8}:decide (V.byt i=V.byt j)=(i.toList == j.toList):=by
 rw [Bool.eq_iff_iff]
 cases i
 cases j
 simp
section
variable {X:Cx} {a b c:Expr} {ta tb tc:TE} {pos:Pos}
theorem z1M {pins:List (Addr × Obj)} {σ:St} {H:Hp} {s:Shared} {Q:VK} {k k':Bool} (I:Inv X pins σ H s) (q:Q (.bl k) H) (e:k=k'):EP X pins σ Q (.bool k') s:=by
 subst e
 exact ⟨.bl k,H,I,rfl,q⟩
theorem ze5:OpR X (compareOp .Eq) rEq:=by
 intro pins s σ H x y v u Q I rx ry h
 obtain ⟨hs,q⟩:=h
 cases x with
 | non =>
  cases rx
  cases y with
  | non=>cases ry;exact PySem.EqNone.eq_none_none (z1M I q (by simp))
  | bl j=>cases ry;exact PySem.EqNone.eq_none_bool (z1M I q (by simp))
  | int j=>obtain ⟨t',rfl⟩:=ry;exact PySem.EqNone.eq_none_int (z1M I q (by simp))
  | str j=>obtain ⟨t',rfl⟩:=ry;exact PySem.EqNone.eq_none_str (z1M I q (by simp))
  | _=>exact absurd (show false=true from hs) Bool.false_ne_true
 | bl i =>
  cases rx
  cases y with
  | non=>cases ry;exact PySem.EqNone.eq_bool_none (z1M I q (by simp))
  | bl j=>cases ry;exact eq_bool (z1M I q zeK)
  | str j=>obtain ⟨t',rfl⟩:=ry;exact PySem.EqMixed.eq_bool_str (z1M I q (by simp))
  | _=>exact absurd (show false=true from hs) Bool.false_ne_true
 | int i =>
  obtain ⟨t,rfl⟩:=rx
  cases y with
  | non=>cases ry;exact PySem.EqNone.eq_int_none (z1M I q (by simp))
  | int j=>obtain ⟨t',rfl⟩:=ry;exact eq_int (z1M I q zer)
  | str j=>obtain ⟨t',rfl⟩:=ry;exact PySem.EqMixed.eq_int_str (z1M I q (by simp))
  | _=>exact absurd (show false=true from hs) Bool.false_ne_true
 | str i =>
  obtain ⟨t,rfl⟩:=rx
  cases y with
  | non=>cases ry;exact PySem.EqNone.eq_str_none (z1M I q (by simp))
  | bl j=>cases ry;exact PySem.EqMixed.eq_str_bool (z1M I q (by simp))
  | int j=>obtain ⟨t',rfl⟩:=ry;exact PySem.EqMixed.eq_str_int (z1M I q (by simp))
  | str j=>obtain ⟨t',rfl⟩:=ry;exact eq_str (z1M I q zea)
  | _=>exact absurd (show false=true from hs) Bool.false_ne_true
 | byt i =>
  obtain ⟨t,rfl⟩:=rx
  cases y with
  | byt j=>obtain ⟨t',rfl⟩:=ry;exact PySem.W.eq_bytes (z1M I q zdw)
  | _=>exact absurd (show false=true from hs) Bool.false_ne_true
 | _=>cases y<;>exact absurd (show false=true from hs) Bool.false_ne_true
theorem z4O:OpR X (compareOp .Lt) (rI0 fun i j=>.bl (decide (i < j))):=zgc fun _ _ _ _ _ _ _ q=>lt_int q
theorem zbz:OpR X (compareOp .LtE) (rI0 fun i j=>.bl (decide (i≤j))):=zgc fun _ _ _ _ _ _ _ q=>le_int q
theorem zbp:OpR X (compareOp .Gt) (rI0 fun i j=>.bl (decide (j < i))):=zgc fun _ _ _ _ _ _ _ q=>gt_int q
theorem zfD:OpR X (compareOp .Is) (fun x y H Q=>y=.non∧Q (.bl (decide (x=.non))) H):=by
 intro pins s σ H x y v u Q I rx ry h
 obtain ⟨rfl,q⟩:=h
 cases ry
 refine is_none_gen (z1M I q ?_)
 cases x<;>first
  | (cases rx;rfl)
  | (obtain ⟨t,rfl⟩:=rx;rfl)
theorem z19 (b:Expr) {op:CmpOp} (h:op≠.In:=by decide) (h2:op≠.NotIn:=by decide):behindInMarks op b=false:=by
 have e1:(op == CmpOp.In)=false:=by cases op<;>first | rfl | exact absurd rfl h
 have e2:(op == CmpOp.NotIn)=false:=by cases op<;>first | rfl | exact absurd rfl h2
 cases b<;>simp [behindInMarks,e1,e2]
theorem z3R {op:CmpOp} {r:R2} (ho:OpR X (compareOp op) r) (ha:PE X a ta) (hb:PE X b tb) (hm:behindInMarks op b=false):PE X (.Compare a [op] [b] pos) (tOp r ta tb):=by
 intro pins s σ H Q I h
 exact wpAny_Compare1 (zgq ha hb I h fun v u s2 x y H2 I2 rx ry q=>ho pins s2 σ H2 x y v u Q I2 rx ry q) hm
def zfu (t:TE):TT:=fun σ H Q=>t σ H fun x H'=>∃ k,x=.bl k∧Q k H'
theorem z18 {op:CmpOp} {r:R2} (ho:OpR X (compareOp op) r) (ha:PE X a ta) (hb:PE X b tb) (hm:behindInMarks op b=false):PT X (.Compare a [op] [b] pos) (zfu (tOp r ta tb)):=by
 intro pins s σ H Q I h
 refine wpAny_isTrue_Compare1 (z1I (ha pins s σ H _ I h) fun v s1 x H1 I1 r1 q1=>z1I (hb pins s1 σ H1 _ I1 q1) fun u s2 y H2 I2 r2 q2 =>
  thn (ho pins s2 σ H2 x y v u _ I2 r1 r2 q2) fun c s3 ⟨z,H3,I3,r3,k,e,q3⟩=>?_) hm
 subst e
 cases r3
 exact wpAny_truthy_bool ⟨H3,I3,q3⟩
def zda (r r':R2) (ta tb tc:TE):TE:=fun σ H Q=>ta σ H fun x H1=>tb σ H1 fun y H2=>r x y H2 fun z H3=>∃ k,z=.bl k ∧
 (if k=true then tc σ H3 fun w' H4=>r' y w' H4 Q else Q (.bl false) H3)
theorem zc6 {op op':CmpOp} {r r':R2} (ho:OpR X (compareOp op) r) (ho':OpR X (compareOp op') r') (ha:PE X a ta) (hb:PE X b tb) (hc:PE X c tc)
  (hm:lastMarks [op,op'] [b,c]=false:=by with_unfolding_all rfl):PE X (.Compare a [op,op'] [b,c] pos) (zda r r' ta tb tc):=by
 intro pins s σ H Q I h
 refine Compare_chain (z1I (ha pins s σ H _ I h) fun v s1 x H1 I1 r1 q1=>chain_link (z1I (hb pins s1 σ H1 _ I1 q1) fun u s2 y H2 I2 r2 q2 =>
  thn (ho pins s2 σ H2 x y v u _ I2 r1 r2 q2) fun d s3 ⟨z,H3,I3,r3,k,e,q3⟩=>?_)) hm
 subst e
 cases r3
 refine wpAny_truthy_bool ?_
 cases k with
 | false=>exact ite_ff ⟨.bl false,H3,I3,rfl,q3⟩
 | true=>exact ite_tt (chain_last (thn (hc pins s3 σ H3 _ I3 q3) fun w' s4 ⟨z',H4,I4,r4,q4⟩=>ho' pins s4 σ H4 y z' u w' Q I4 r2 r4 q4))
theorem z91 {op op':CmpOp} {r r':R2} (ho:OpR X (compareOp op) r) (ho':OpR X (compareOp op') r') (ha:PE X a ta) (hb:PE X b tb) (hc:PE X c tc)
  (hm:lastMarks [op,op'] [b,c]=false:=by with_unfolding_all rfl):PT X (.Compare a [op,op'] [b,c] pos) (zfu (zda r r' ta tb tc)):=by
 intro pins s σ H Q I h
 refine isTrue_chain (z1I (ha pins s σ H _ I h) fun v s1 x H1 I1 r1 q1=>test_link (z1I (hb pins s1 σ H1 _ I1 q1) fun u s2 y H2 I2 r2 q2 =>
  thn (ho pins s2 σ H2 x y v u _ I2 r1 r2 q2) fun d s3 ⟨z,H3,I3,r3,k,e,q3⟩=>?_)) hm
 subst e
 cases r3
 refine wpAny_truthy_bool ?_
 cases k with
 | false =>
  obtain ⟨k',e',q'⟩:=q3
  cases e'
  exact ite_ff ⟨H3,I3,q'⟩
 | true =>
  refine ite_tt (test_last (z1I (hc pins s3 σ H3 _ I3 q3) fun w' s4 z' H4 I4 r4 q4=>z1I (ho' pins s4 σ H4 y z' u w' _ I4 r2 r4 q4) fun d' s5 z2 H5 I5 r5 hz9=>?_))
  obtain ⟨k2,e2,q5⟩:=hz9
  subst e2
  cases r5
  exact wpAny_truthy_bool ⟨H5,I5,q5⟩
def zgF (K:PySem.W.Frag) (x:V) (H:Hp) (k:Bool):Prop :=
 match x with
 | .non=>k=false
 | .bl b=>k=b
 | .int i=>k=(i != 0)
 | .str y=>y.length≤sizeLine∧k=((y.length:Int) != 0)
 | .byt y=>y.size≤sizeLine∧k=((y.size:Int) != 0)
 | .ref p=>(∃ xs,SqL K H p xs∧k=!xs.isEmpty)∨(∃ xs,SqT K H p xs∧k=!xs.isEmpty)∨∃ kvs,H p=some (.dK kvs)∧k=!kvs.isEmpty
 | _=>False
theorem z9m {κ:Type} {kvs:List (κ × V)} {vs:List (κ × Value)} (r:KV kvs vs):(!vs.isEmpty)=!kvs.isEmpty:=by
 cases r<;>rfl
theorem z5E {xs:List V} {its:List Value} (r:z1e xs its):(!its.toArray.isEmpty)=!xs.isEmpty:=by
 cases r<;>simp
theorem z6Z:(sizeLine:Nat) < 2 ^ 63:=by rw [sizeLine_eq];decide
theorem zeS:zhr X (fun x H Q=>∃ k,zgF X.K x H k∧Q k H):=by
 intro pins s σ H x v Q I rx h
 obtain ⟨k,e,q⟩:=h
 have hl:=z6Z
 have hs:sizeLine=16777216:=sizeLine_eq
 cases x with
 | non =>
  cases rx
  have e':k=false:=e
  subst e'
  exact truthy_none ⟨H,I,q⟩
 | bl b =>
  cases rx
  have e':k=b:=e
  subst e'
  exact wpAny_truthy_bool ⟨H,I,q⟩
 | int i =>
  obtain ⟨t,rfl⟩:=rx
  have e':k=(i != 0):=e
  subst e'
  exact PySem.P.truthy_int ⟨H,I,q⟩
 | str y =>
  obtain ⟨t,rfl⟩:=rx
  obtain ⟨hy,e'⟩:y.length≤sizeLine∧k=((y.length:Int) != 0):=e
  subst e'
  exact PySem.P.truthy_str (by lia) ⟨H,I.tok _,q⟩
 | byt y =>
  obtain ⟨t,rfl⟩:=rx
  obtain ⟨hy,e'⟩:y.size≤sizeLine∧k=((y.size:Int) != 0):=e
  subst e'
  exact PySem.W.truthy_bytes (by lia) ⟨H,I.tok _,q⟩
 | ref p =>
  cases rx
  have e':(∃ xs,SqL X.K H p xs∧k=!xs.isEmpty)∨(∃ xs,SqT X.K H p xs∧k=!xs.isEmpty)∨∃ kvs,H p=some (.dK kvs)∧k=!kvs.isEmpty:=e
  rcases e' with ⟨xs,hx,e'⟩ | ⟨xs,hx,e'⟩ | ⟨kvs,hx,e'⟩
  ·subst e'
   obtain ⟨its,r,pl,hz⟩:=I.list hx
   have hlen:=r.length
   exact wpAny_truthy_list pl.isList (by simp only [List.size_toArray];lia) ⟨H,I.tok _,by rw [z5E r];exact q⟩
  ·subst e'
   obtain ⟨its,r,pl,hz⟩:=I.tuple hx
   have hlen:=r.length
   exact truthy_tuple pl (by simp only [List.size_toArray];lia) ⟨H,I.tok _,by rw [z5E r];exact q⟩
  ·subst e'
   obtain ⟨hz,hS,vs,r,m⟩:kvs.length≤sizeLine∧(p == sysModules)=false∧∃ vs,KV kvs vs∧s.heap.DictOf (z1d X.prog X.w) p vs:=I.hok p _ hx
   have hlen:kvs.length=vs.length:=Paired.length r
   exact wpAny_truthy_dict hS m (by lia) ⟨H,I.tok _,by rw [z9m r];exact q⟩
 | _=>exact (show False from e).elim
theorem zcP (ha:PE X a ta) (he:∀ whole,isTrue a X.env whole=(do let v ←whole;standAt a.pos;holding [v] (truthy v))) :
  PT X a (fun σ H Q=>ta σ H fun x H'=>∃ k,zgF X.K x H' k∧Q k H'):=by
 intro pins s σ H Q I h
 exact isTrue_plain (z1I (ha pins s σ H _ I h) fun v s1 x H1 I1 r1 q1=>zeS pins s1 σ H1 x v Q I1 r1 q1) (he _)
theorem z6k {x:V} {us:List Value} (r:z1e [x] us):∃ u,us=[u]∧z1g x u:=by
 cases r with
 | cons r1 r2=>cases r2;exact ⟨_,rfl,r1⟩
theorem zeC {x y:V} {us:List Value} (r:z1e [x,y] us):∃ u w',us=[u,w']∧z1g x u∧z1g y w':=by
 cases r with
 | cons r1 r2 =>
  cases r2 with
  | cons r3 r4=>cases r4;exact ⟨_,_,rfl,r1,r3⟩
theorem z72 (hc:X.calm=true):z3y X (.builtin "min") (fun xs H Q=>∃ i j,xs=[.int i,.int j]∧Q (.int (if j < i then j else i)) H):=by
 intro pins s σ H xs us Q I r h
 obtain ⟨i,j,rfl,q⟩:=h
 obtain ⟨u,w',rfl,⟨t,rfl⟩,⟨t',rfl⟩⟩:=zeC r
 refine min_two_ints (I.ok.hd hc) fun h' tk k=>⟨_,H,I.kept k,?_,q⟩
 by_cases hj:j < i
 ·rw [if_pos hj,if_pos hj];exact ⟨_,rfl⟩
 ·rw [if_neg hj,if_neg hj];exact ⟨_,rfl⟩
end
end L2
namespace L2
open PySem PySem.Spec PyProof.Rows
section
variable {prog:Program} {w:World} {A:Around} {E:Value→Shared→Prop} {s:Shared} {K:PySem.W.Frag} {x dx C f:Addr} {mA:Str→Option Value} {name:Str} {v:Value}
end
theorem z8y.some_of {v:V} {o:Option Value} (r:z8y (some v) o):∃ u,o=some u∧z1g v u:=by
 cases o with
 | none=>exact (show False from r).elim
 | some u=>exact ⟨u,rfl,r⟩
section
variable {P:Program} {w:World} {H H':Hp} {h h':Heap} {a C dx:Addr} {fs fs':List (Str × V)}
end
section
variable {X:Cx} {pins:List (Addr × Obj)} {σ:St} {H:Hp} {s:Shared} {a C dx:Addr} {fs:List (Str × V)} {f:Str} {v:V} {A:Around} {E:Value→Shared→Prop}
end
section
variable {X:Cx} {o e value:Expr} {f:Str} {pos pos' tpos:Pos} {ta tv:TE}
end
section
variable {X:Cx} {pins:List (Addr × Obj)} {σ:St} {H:Hp} {s:Shared} {A:Around} {E:Value→Shared→Prop} {Q:Value→Shared→Prop} {c:Value} {b:Bool}
end
end L2
namespace L2
open PySem PySem.Spec PyProof.Rows
structure z3C (k:Nat) (A:Around):Prop where
 hd:A.handled=none
 dp:A.depth+3*k+5 < recursionLimit
 un:A.units+16*k+200 < cLine
theorem z3C.mono {j k:Nat} {A:Around} (r:z3C k A) (h:j≤k):z3C j A:=⟨r.hd,by have:=r.dp;lia,by have:=r.un;lia⟩
theorem z3C.deeper {k:Nat} {A:Around} (r:z3C (k+1) A) (env:Env):z3C k (A.deeper env) :=
 ⟨r.hd,by have:=r.dp;show A.depth+1+3*k+5 < _;lia,by have:=r.un;show A.units+3+16*k+200 < _;lia⟩
theorem z3C.depth {k:Nat} {A:Around} (r:z3C k A):A.depth < recursionLimit:=by have:=r.dp;lia
theorem z3C.units {k:Nat} {A:Around} (r:z3C k A):A.units+64 < cLine:=by have:=r.un;lia
theorem z3C.units0 {k:Nat} {A:Around} (r:z3C k A):A.units < cLine:=by have:=r.un;lia
def zfr:TA:=fun _ H Q=>Q [] H
def z8o (ta:TE) (tr:TA):TA:=fun σ H Q=>ta σ H fun x H1=>tr σ H1 fun xs H2=>Q (x::xs) H2
section
variable {X:Cx} {e:Expr} {es:List Expr} {te:TE} {t:TA} {pos:Pos}
theorem z05:PA X [] zfr:=fun _ _ _ _ H Q I h=>Calls.spliced_nil ⟨[],H,I,.nil,h⟩
theorem z02 (ha:PE X e te) (hr:PA X es t) (hs:starEach (e::es) X.env=(false,eval e X.env)::starEach es X.env:=by rfl):PA X (e::es) (z8o te t):=by
 intro pos pins s σ H Q I h
 rw [hs]
 show wpAny _ _ (spliced ((false,eval e X.env)::backTo pos (starEach es X.env))) _ _ s
 refine Calls.spliced_cons (z1I (ha pins s σ H _ I h) fun u s1 x H1 I1 r1 q1=>?_)
 exact thn (hr pos pins s1 σ H1 _ I1 q1) fun us s2 ⟨xs,H2,I2,r2,q2⟩=>⟨x::xs,H2,I2,.cons r1 r2,q2⟩
def zgH (t:TA):TE:=fun σ H Q=>t σ H fun xs H1=>xs.length≤sizeLine∧∀ p,H1 p=none→Q (.ref p) (upd H1 p (.tup xs))
def zh5 (t:TA):TE:=fun σ H Q=>t σ H fun xs H1=>xs.length≤sizeLine∧∀ p,H1 p=none→Q (.ref p) (upd H1 p (.lst xs))
theorem z1y {x1} (h:PA X es t):PE X (.Tuple es x1 pos) (zgH t):=by
 intro pins s σ H Q I hq
 refine wpAny_Tuple_spliced (thn (h pos pins s σ H _ I hq) fun us s1 ⟨xs,H1,I1,r,z,q⟩=>⟨by rw [←r.length];exact z,?_⟩)
 have hf:H1 s1.heap.objs.size=none:=I1.hok.fresh (Nat.le_refl _)
 refine ⟨.ref s1.heap.objs.size,upd H1 s1.heap.objs.size (.tup xs),I1.laid (t':=s1.toks) (fun b u e=>Heap.get?_push_of_some _ e) (Nat.le_refl _) ?_,rfl,q _ hf⟩
 exact ⟨z,us,0,r,Heap.get?_push_size _ rfl⟩
theorem z1H (h:PA X es t):PE X (.List es pos) (zh5 t):=by
 intro pins s σ H Q I hq
 refine wpAny_List_spliced (thn (h pos pins s σ H _ I hq) fun us s1 ⟨xs,H1,I1,r,z,q⟩=>⟨by rw [←r.length];exact z,?_⟩)
 have hf:H1 s1.heap.objs.size=none:=I1.hok.fresh (Nat.le_refl _)
 refine ⟨.ref s1.heap.objs.size,upd H1 s1.heap.objs.size (.lst xs),I1.laid (t':=s1.toks) (fun b u e=>Heap.get?_push_of_some _ e) (Nat.le_refl _) ?_,rfl,q _ hf⟩
 exact ⟨z,us,0,r,Heap.get?_push_size _ rfl⟩
end
abbrev Sp:=List V→Hp→VK→XK→Prop
abbrev CXT:=List Env→Hp→Shared→XK→Value→Shared→Prop
structure zed (P:Program) (w:World) (K:PySem.W.Frag) (mg:Str→Option Value) (base:Heap) (A:Around) (outer:List Env) (s:Shared) (H:Hp):Prop where
 frames:A.frames=some outer
 mod:Mod K mg base
 bs:∀ b o,base.get? b=some o→s.heap.get? b=some o∧H b=none
 bsz:base.objs.size≤s.heap.objs.size
 funs:s.heap.FunFrames base outer
 frf:∀ b∈frs outer,H b=none
 hok:HOk P w H s.heap
 bare:AllBare s.gens
def CE (outer:List Env) (P:Program) (w:World) (H:Hp) (s:Shared) (Q:VK) (u:Value) (s':Shared):Prop :=
 ∃ v H',s'.os=s.os∧AllBare s'.gens∧Un (frs outer) [] H H' s.heap s'.heap∧HOk P w H' s'.heap∧z1g v u∧Q v H'
def CR (CX:CXT) (outer:List Env) (P:Program) (w:World) (H:Hp) (s:Shared) (Q:VK) (E:XK) (r:Result) (s':Shared):Prop :=
 match r with
 | .ok (.ret u)=>CE outer P w H s Q u s'
 | .ok _=>False
 | .error e=>CX outer H s E e s'
structure z0y (P:Program) (w:World) (K:PySem.W.Frag) (mg:Str→Option Value) (base:Heap) (CX:CXT) (k:Nat) (f:Addr) (fd:FuncData) (ps:List Str) (sp:Sp):Prop where
 len:∀ vs H Q E,sp vs H Q E→vs.length=ps.length
 run:∀ (A:Around) (outer:List Env) (s:Shared) (H:Hp) (args:Args) (us:List Value) (vs:List V) (Q:VK) (E:XK),z3C k A→zed P w K mg base A outer s H→BindsTo s fd args (ps.zip us)→z1e vs us→sp vs H Q E →
  codeAny (model P w) A (.call (.ref f) args) (CR CX outer P w H s Q E) s
theorem z0y.mono {P:Program} {w:World} {K:PySem.W.Frag} {mg:Str→Option Value} {base:Heap} {CX:CXT} {j k:Nat} {f:Addr} {fd:FuncData} {ps:List Str} {sp:Sp} (F:z0y P w K mg base CX j f fd ps sp) (h:j≤k) :
  z0y P w K mg base CX k f fd ps sp:=⟨F.len,fun A outer s H args us vs Q E hr=>F.run A outer s H args us vs Q E (hr.mono h)⟩
section
variable {X:Cx} {pins:List (Addr × Obj)} {σ:St} {H:Hp} {s s':Shared}
theorem Inv.env0 (I:Inv X pins σ H s):zed X.prog X.w X.K X.mg X.base X.A X.stack s H :=
 ⟨I.ok.frames,I.ok.mod,I.bs,Nat.le_trans I.ok.bsz I.sz,I.stack,I.stkFree,I.hok,I.bare⟩
theorem Inv.after {Q:VK} {u:Value} (I:Inv X pins σ H s) (h:CE X.stack X.prog X.w H s Q u s'):EP X pins σ Q u s':=by
 obtain ⟨v,H',os,bare,un,hok,r,q⟩:=h
 obtain ⟨hh,g,d,t,os'⟩:=s'
 obtain rfl:os'=s.os:=os
 exact ⟨v,H',I.call (h':=hh) (g':=g) (d':=d) (t':=t) (ch:=[]) un hok bare (fun b z=>absurd z (by simp)),r,q⟩
end
def zg5 (sp:Sp) (dvs:List V) (E:XK) (t:TA):TE:=fun σ H Q=>t σ H fun vs H1=>sp (vs++dvs) H1 Q E
def z0l (K:PySem.W.Frag) (fd:FuncData) (ps:List Str) (ds:List Value):Prop :=
 ∀ (s:Shared) (us:List Value),K.In s.heap→(us++ds).length=ps.length→BindsTo s fd ⟨us,[]⟩ (ps.zip (us++ds))
theorem z0l.all {K:PySem.W.Frag} {fd:FuncData} {ps:List Str} (h:∀ us:List Value,us.length=ps.length→bindArgs fd ⟨us,[]⟩=pure (ps.zip us)):z0l K fd ps []:=fun s us _ hl=>by
 rw [List.append_nil] at hl ⊢
 exact .of_eq (h us hl)
def z6P (CX:CXT) (X:Cx) (E:XK):Prop:=∀ (pins:List (Addr × Obj)) (σ:St) (H:Hp) (s:Shared) (e:Value) (s':Shared),Inv X pins σ H s→CX X.stack H s E e s'→X.xe e s'
section
variable {X:Cx} {CX:CXT} {k:Nat} {f C:Addr} {fd:FuncData} {ps:List Str} {sp:Sp} {dvs:List V} {ds:List Value} {E:XK} {x m:Str} {p pos apos:Pos} {e o:Expr} {es:List Expr} {ta:TE} {t:TA}
theorem zeZ {pins:List (Addr × Obj)} {σ:St} {H:Hp} {s:Shared} {Q:VK} {us:List Value} {vs:List V} (F:z0y X.prog X.w X.K X.mg X.base CX k f fd ps sp) (hr:z3C k X.A) (hb:z0l X.K fd ps ds) (hd:z1e dvs ds) (hx:z6P CX X E)
  (I:Inv X pins σ H s) (r:z1e vs us) (h:sp (vs++dvs) H Q E):wpAny (model X.prog X.w) X.A (call (.ref f) us) (EP X pins σ Q) X.xe s:=by
 have r2:z1e (vs++dvs) (us++ds):=r.append hd
 have hl:(us++ds).length=ps.length:=by rw [←r2.length];exact F.len _ _ _ _ h
 refine wpAny_call (codeAny_mono (F.run X.A X.stack s H ⟨us,[]⟩ (us++ds) (vs++dvs) Q E hr I.env0 (hb s us I.kIn hl) r2 h) fun r s' hq=>?_)
 cases r with
 | error e=>exact hx pins σ H s e s' I hq
 | ok fl =>
  cases fl with
  | ret u=>exact I.after hq
  | next=>exact False.elim hq
  | brk=>exact False.elim hq
  | cont=>exact False.elim hq
theorem z0b (F:z0y X.prog X.w X.K X.mg X.base CX k f fd ps sp) (hr:z3C k X.A) (hg:Gl X x) (hm:X.mg x=some (.ref f)) (hk:PySem.W.keepIn X.K (.ref f)=true) (hb:z0l X.K fd ps ds) (hd:z1e dvs ds) (hx:z6P CX X E)
  (ha:PA X (e::es) t) (hdb:(x == ("__debug__":Str))=false:=by decide) (he:starEach (e::es) X.env=(false,eval e X.env)::starEach es X.env:=by rfl) (hpl:(backTo pos (starEach es X.env)).any (·.1)=false:=by rfl) :
  PE X (.Call (.Name x p) (e::es) [] pos) (zg5 sp dvs E t):=by
 intro pins s σ H Q I h
 refine wpAny_Call_Name_kw (z5T I hg hm ?_ hdb)
 refine PySem.W.callWith_K (h₀:=X.base) I.ok.mod.kin hk (thn (ha pos pins s σ H _ I h) fun us s1 ⟨vs,H1,I1,r,q⟩=>⟨I1.kIn,?_⟩) he hpl
 exact zeZ F hr hb hd hx I1 r q
end
section
variable {X:Cx} {CX:CXT} {k:Nat} {f C:Addr} {fd:FuncData} {ps ks:List Str} {sp:Sp} {E:XK} {x m:Str} {p pos apos kpos:Pos} {e o:Expr} {es:List Expr} {kws:List Keyword} {te ta:TE} {t tk:TA} {nm:Option Str}
variable {g:List Value→List Value→List Value} {gV:List V→List V→List V}
end
structure z0p (N P:List Str) (sc:Scope):Prop where
 kind:sc.kind=.function
 co:sc.isCoroutine=false
 gen:sc.isGenerator=false
 nd:N.Nodup
 pre:N.take P.length=P
 par:∀ x∈P,sc.names.lookup x=some .local∨sc.names.lookup x=some .cell
 nofree:∀ y∈sc.names,y.2≠.free
theorem z6R {kindOf:Str→Option NameKind} {x:Str}:∀ {binds:List (Str × Value)} {m:Str→Option Value},(∀ v,(x,v)∉binds)→bindL kindOf binds m x=m x
 | [],_,_=>rfl
 | (n,v)::r,m,h=>by
  unfold bindL
  rw [z6R fun w hw=>h w (List.mem_cons_of_mem _ hw)]
  split
  ·have:x≠n:=by rintro rfl;exact h v List.mem_cons_self
   simp [this]
  ·rfl
theorem z6Y {kindOf:Str→Option NameKind} {x:Str}:∀ {binds:List (Str × Value)} {m:Str→Option Value},(∀ v,(x,v)∉binds)→bindC kindOf binds m x=m x
 | [],_,_=>rfl
 | (n,v)::r,m,h=>by
  unfold bindC
  rw [z6Y fun w hw=>h w (List.mem_cons_of_mem _ hw)]
  split
  ·rfl
  ·have:x≠n:=by rintro rfl;exact h v List.mem_cons_self
   simp [this]
theorem z74 {kindOf:Str→Option NameKind} {x:Str} {v:Value}:∀ {P:List Str} {vs:List Value} {i:Nat} {m:Str→Option Value},P.Nodup→P[i]?=some x→vs[i]?=some v→kindOf x=some .local →
  bindL kindOf (P.zip vs) m x=some v
 | [],_,_,_,_,h,_,_=>by simp at h
 | _::_,[],_,_,_,_,h,_=>by simp at h
 | p::P,w::vs,0,m,nd,h1,h2,hk=>by
  simp at h1 h2;subst h1;subst h2
  show bindL kindOf ((p,w)::P.zip vs) m p=_
  unfold bindL
  rw [z6R fun v hv=>(List.nodup_cons.mp nd).1 (List.of_mem_zip hv).1,if_pos hk]
  simp
 | p::P,w::vs,i+1,m,nd,h1,h2,hk=>by
  show bindL kindOf ((p,w)::P.zip vs) m x=_
  unfold bindL
  exact z74 (i:=i) (List.nodup_cons.mp nd).2 (by simpa using h1) (by simpa using h2) hk
theorem z6J {kindOf:Str→Option NameKind} {x:Str} {v:Value}:∀ {P:List Str} {vs:List Value} {i:Nat} {m:Str→Option Value},P.Nodup→P[i]?=some x→vs[i]?=some v→kindOf x≠some .local →
  bindC kindOf (P.zip vs) m x=some v
 | [],_,_,_,_,h,_,_=>by simp at h
 | _::_,[],_,_,_,_,h,_=>by simp at h
 | p::P,w::vs,0,m,nd,h1,h2,hk=>by
  simp at h1 h2;subst h1;subst h2
  show bindC kindOf ((p,w)::P.zip vs) m p=_
  unfold bindC
  rw [z6Y fun v hv=>(List.nodup_cons.mp nd).1 (List.of_mem_zip hv).1,if_neg hk]
  simp
 | p::P,w::vs,i+1,m,nd,h1,h2,hk=>by
  show bindC kindOf ((p,w)::P.zip vs) m x=_
  unfold bindC
  exact z6J (i:=i) (List.nodup_cons.mp nd).2 (by simpa using h1) (by simpa using h2) hk
def z5g (N:List Str) (vs:List V):St:=vs.map some++List.replicate (N.length - vs.length) none
def z6H (CX:CXT) (P:Program) (w:World) (K:PySem.W.Frag) (mg:Str→Option Value) (base:Heap) (N:List Str) (qual:Str) (scope:Scope) (f:Addr) (cd:Value) (A:Around) (outer:List Env) (s:Shared) (H:Hp) (E:XK):Cx where
 prog:=P
 w:=w
 K:=K
 mg:=mg
 base:=base
 A:=A.deeper (envOfC qual scope s.heap.objs.size f cd)
 N:=N
 s₀:=s
 H₀:=H
 env:=envOfC qual scope s.heap.objs.size f cd
 outer:=outer
 stack:=envOfC qual scope s.heap.objs.size f cd::outer
 ex:=[]
 calm:=true
 fn:=fun _=>true
 pn:=[]
 xe:=fun e s'=>wpAny (model P w) (A.deeper (envOfC qual scope s.heap.objs.size f cd)) (leaving (envOfC qual scope s.heap.objs.size f cd) e) (fun _ s''=>CX outer H s E e s'') (fun e' s''=>CX outer H s E e' s'') s'
theorem z8s {sc:Scope} {n:Nat} {x:Str} (h:sc.names.lookup x=some .cell):∃ c,(cellsFrom n sc.names []).lookup x=some c:=by
 have q:=PySem.W.cellsFrom_some sc.names n [] (.inl h)
 exact Option.isSome_iff_exists.mp q
theorem zbf {CX:CXT} {P:Program} {w:World} {K:PySem.W.Frag} {mg:Str→Option Value} {base:Heap} {N ps:List Str} {qual:Str} {scope:Scope} {f:Addr} {cd:Value} {A:Around} {outer:List Env} {s s1:Shared} {H:Hp} {E:XK} {us:List Value} {vs:List V}
  (S:z0p N ps scope) (hd:A.handled=none) (e0:zed P w K mg base A outer s H) (hl:vs.length=ps.length) (r:z1e vs us)
  (x:InCallC s s.heap.objs.size (bindL (envOfC qual scope s.heap.objs.size f cd).kindOf (ps.zip us) fun _=>none) (cellsFrom (s.heap.objs.size+1) scope.names []) (bindC (envOfC qual scope s.heap.objs.size f cd).kindOf (ps.zip us) fun _=>none) s1) :
  Inv (z6H CX P w K mg base N qual scope f cd A outer s H E) [] (z5g N vs) H s1:=by
 have hpl:ps.length≤N.length:=by have:=congrArg List.length S.pre;rw [List.length_take] at this;lia
 obtain ⟨h1,tk,rfl,hk⟩:=x.done
 have noA:∀ b:Addr,b∉(z6H CX P w K mg base N qual scope f cd A outer s H E).ex:=fun b z=>absurd (show b∈([]:List Addr) from z) (by simp)
 refine ⟨⟨e0.mod,S.kind,rfl,rfl,Nat.le_refl _,fun y z c h1 h2=>?_,fun y hy=>?_,fun y c _ h=>?_,fun _=>hd,Around.frames_deeper e0.frames,.inr ⟨rfl,rfl⟩,fun b z=>absurd z (noA b),e0.bs,e0.bsz,fun b _ _=>noA b,fun b z=>absurd z (noA b),e0.funs,e0.frf⟩,
  rfl,e0.bare,Un.kept hk,⟨_,x.toInCall.ns,fun i y v h1 h2 h3=>?_⟩,fun y c h=>⟨_,x.cell y c h⟩,e0.hok.fresh (Nat.le_refl _),fun y c h=>?_,fun p hp=>absurd (show p∈([]:List (Addr × Obj)) from hp) (by simp),e0.hok.kept hk,?_⟩
 ·exact name_of_addr x.apart (PySem.mem_of_lookup h1) (PySem.mem_of_lookup h2)
 ·have hy:scope.names.lookup y=some .cell∨scope.names.lookup y=some .free:=hy
  rcases hy with hy | hy
  ·exact z8s hy
  ·exact absurd rfl (S.nofree _ (PySem.mem_of_lookup hy))
 ·exact Nat.le_of_lt (x.above y c (PySem.mem_of_lookup h))
 ·have hi:i < vs.length:=by
   unfold z5g at h2
   by_cases hi:i < vs.length
   ·exact hi
   ·rw [List.getElem?_append_right (by simpa using hi)] at h2
    rw [List.getElem?_replicate] at h2
    split at h2<;>cases h2
  have ha:vs[i]?=some v:=by
   unfold z5g at h2
   rw [List.getElem?_append_left (by simpa using hi),List.getElem?_map] at h2
   cases e:vs[i]? with
   | none=>rw [e] at h2;cases h2
   | some a=>rw [e] at h2;cases h2;rfl
  obtain ⟨u,hu,rv⟩:=r.get ha
  have hp:ps[i]?=some y:=by
   rw [←S.pre,List.getElem?_take_of_lt (by lia)];exact h1
  have ndP:ps.Nodup:=by rw [←S.pre];exact S.nd.sublist (List.take_sublist _ _)
  refine ⟨u,rv,?_⟩
  rcases S.par y (List.mem_of_getElem? hp) with k | k
  ·exact .inl ⟨k,z74 ndP hp hu k⟩
  ·obtain ⟨c,e⟩:=z8s (n:=s.heap.objs.size+1) k
   refine .inr ⟨.inl k,c,e,?_⟩
   have q:=x.cell y c e
   rw [z6J ndP hp hu (by show scope.names.lookup y≠_;rw [k];decide)] at q
   exact q
 ·exact e0.hok.fresh (Nat.le_of_lt (x.above y c (PySem.mem_of_lookup h)))
 ·unfold z5g
  show _=N.length
  rw [List.length_append,List.length_map,List.length_replicate]
  lia
theorem zem {CX:CXT} {P:Program} {w:World} {K:PySem.W.Frag} {mg:Str→Option Value} {base:Heap} {k:Nat} {f:Addr} {name qual:Str} {params:Arguments} {body:List Stmt} {scope:Scope} {dV kV doc pm cdv ct oc:Value} {an od:Option Addr}
  {osl:Array (Option Value)} {N ps:List Str} {sp:Sp} (lk:K.lookup f=some ⟨oc,od,.func (PySem.W.fnOf name qual params body scope dV kV doc pm an cdv ct),osl⟩) (hcd:PySem.W.codeIn K cdv qual=true) (S:z0p N ps scope)
  (len:∀ vs H Q E,sp vs H Q E→vs.length=ps.length)
  (hbody:∀ (A:Around) (outer:List Env) (s:Shared) (H:Hp) (vs:List V) (Q:VK) (E:XK),z3C k (A.deeper (envOfC qual scope s.heap.objs.size f cdv))→sp vs H Q E →
   ∃ t,PSs (z6H CX P w K mg base N qual scope f cdv A outer s H E) body t∧t { nx:=fun _ H'=>Q .non H',rt:=Q } (z5g N vs) H) :
  z0y P w K mg base CX (k+1) f (PySem.W.fnOf name qual params body scope dV kV doc pm an cdv ct) ps sp:=by
 refine ⟨len,fun A outer s H args us vs Q E hr e0 hb r hsp=>?_⟩
 have hl:=len _ _ _ _ hsp
 have KX:K.In s.heap:=e0.mod.kin.keeps fun b o e=>(e0.bs b o e).1
 have lim:s.heap.NoLimit:=e0.mod.nolimit.keeps fun b o e=>(e0.bs b o e).1
 have hkind:∀ y∈ps.zip us,scope.names.lookup y.1=some .local∨(scope.names.lookup y.1=some .cell∧((cellsFrom (s.heap.objs.size+1) scope.names []).lookup y.1).isSome=true):=fun ⟨n,v⟩ hy=>by
  rcases S.par n (List.of_mem_zip hy).1 with q | q
  ·exact .inl q
  ·exact .inr ⟨q,PySem.W.cellsFrom_some _ _ _ (.inl q)⟩
 refine codeAny_call_function hr.depth (KX _ _ lk) rfl S.co S.gen rfl (PySem.W.codeRec_of KX hcd) (hb _ _ _ _ ?_)
 refine wpAny_newFunctionEnv_cells S.kind hkind fun env he s1 x=>?_
 subst he
 refine ⟨lim.keeps x.toInCall.keep,codeAny_func ?_⟩
 obtain ⟨t,ht,hq⟩:=hbody A outer s H vs Q E (hr.deeper _) hsp
 have I:Inv (z6H CX P w K mg base N qual scope f cdv A outer s H E) [] (z5g N vs) H s1:=zbf S hr.hd e0 hl r x
 refine wpAny_mono (ht [] s1 (z5g N vs) H _ I hq) (fun fl s' hs=>?_) fun e s' hs=>hs
 have fin:∀ {σ':St} {H':Hp} {v:V} {u:Value},Inv (z6H CX P w K mg base N qual scope f cdv A outer s H E) [] σ' H' s'→z1g v u→Q v H'→CE outer P w H s Q u s' :=
  fun {σ' H' v u} J rv q=>⟨v,H',J.os,J.bare,J.base,J.hok,rv,q⟩
 cases fl with
 | ret u =>
  obtain ⟨v,σ',H',J,rv,q⟩:=hs
  exact fin J rv q
 | next =>
  obtain ⟨σ',H',J,q⟩:=hs
  exact fin (v:=V.non) (u:=Value.none) J rfl q
 | brk =>
  obtain ⟨_,_,_,q⟩:=hs
  exact False.elim q
 | cont =>
  obtain ⟨_,_,_,q⟩:=hs
  exact False.elim q
end L2
namespace L2
open PySem PySem.Spec PyProof.Rows
section
variable {X:Cx} {x:Str} {p pos:Pos} {e:Expr} {es:List Expr} {t:TA} {id T:String} {r:List V→Hp→VK→Prop}
def tCB (r:List V→Hp→VK→Prop) (t:TA):TE:=fun σ H Q=>t σ H fun vs H1=>r vs H1 Q
theorem z0j (hc:z3y X (.builtin id) r) (hg:Gl X x) (hm:X.mg x=none) (hv:bootBuiltins x=some (.builtin id)) (ha:PA X (e::es) t) (hn:x≠"__name__":=by decide) (hdb:(x == ("__debug__":Str))=false:=by decide)
  (he:starEach (e::es) X.env=(false,eval e X.env)::starEach es X.env:=by rfl) (hpl:(backTo pos (starEach es X.env)).any (·.1)=false:=by rfl):PE X (.Call (.Name x p) (e::es) [] pos) (tCB r t):=by
 intro pins s σ H Q I h
 refine wpAny_Call_Name_kw (z79 I hg hm hv ?_ hn hdb)
 exact PyProof.Rows.callWith_builtin1 (thn (ha pos pins s σ H _ I h) fun us s1 ⟨vs,H1,I1,r1,q1⟩=>hc pins s1 σ H1 vs us Q I1 r1 q1) he hpl
theorem z0x (hc:z3y X (.type T) r) (hg:Gl X x) (hm:X.mg x=none) (hv:bootBuiltins x=some (.type T)) (ha:PA X (e::es) t) (hn:x≠"__name__":=by decide) (hdb:(x == ("__debug__":Str))=false:=by decide)
  (he:starEach (e::es) X.env=(false,eval e X.env)::starEach es X.env:=by rfl) (hpl:(backTo pos (starEach es X.env)).any (·.1)=false:=by rfl):PE X (.Call (.Name x p) (e::es) [] pos) (tCB r t):=by
 intro pins s σ H Q I h
 refine wpAny_Call_Name_kw (z79 I hg hm hv ?_ hn hdb)
 exact PyProof.Rows.callWith_type1 (thn (ha pos pins s σ H _ I h) fun us s1 ⟨vs,H1,I1,r1,q1⟩=>hc pins s1 σ H1 vs us Q I1 r1 q1) he hpl
end
end L2
namespace HT
open PySem PyProof.Rows
section
open PySem.SeqAt
open PySem.AutoSeq1 (wpAny_loadPart')
open PySem.MeetsSeq PySem.MeetsSeq2 PySem.MeetsSeq3
end
section
variable {prog:Program} {w:World} {A:Around} {E:Value→Shared→Prop} {s:Shared}
theorem cat_tup {t b:Addr} {vs ws:List Value} {Q:Value→Shared→Prop} (ht:IsTup s.heap t vs.toArray) (hb:IsTup s.heap b ws.toArray) (hv:vs≠[])
  (h1:ws=[]→Q (.ref t) s) (h2:ws≠[]→Q (.ref s.heap.objs.size) { s with heap:=s.heap.push { cls:=.type "tuple",data:=.seq (vs++ws).toArray } })
  (hsz:vs.length+ws.length≤sizeLine):wpAny (model prog w) A (binaryOp .Add (.ref t) (.ref b)) Q E s:=by
 obtain ⟨⟨cls,dd,data,sl⟩,ho,hc,n,hd⟩:=id ht
 obtain ⟨⟨cls2,dd2,data2,sl2⟩,ho2,hc2,n2,hd2⟩:=id hb
 simp only at hc hd hc2 hd2
 subst hc hd hc2 hd2
 have e:vs.toArray++ws.toArray=(vs++ws).toArray:=by simp
 by_cases hw:ws=[]
 ·exact concat_meets ⟨_,ho,rfl⟩ ⟨_,ho2,rfl⟩ noFill_tuple_add seq_tuple_add PySem.F.slot_tuple_add PySem.F.entry_tuple_add (PySem.F.args_tuple_add_2 _ _)
   (tuple_addW1 t b vs.toArray ws.toArray n n2 dd dd2 sl sl2 (by simpa using hv) (by simp [hw])) ⟨ho,ho2,h1 hw⟩
 ·refine concat_meets ⟨_,ho,rfl⟩ ⟨_,ho2,rfl⟩ noFill_tuple_add seq_tuple_add PySem.F.slot_tuple_add PySem.F.entry_tuple_add (PySem.F.args_tuple_add_2 _ _)
   (tuple_addW2 t b vs.toArray ws.toArray n n2 dd dd2 sl sl2 (by simpa using hv) (by simpa using hw) (by rw [List.size_toArray,List.size_toArray];exact hsz)) ⟨ho,ho2,?_⟩
  rw [e]
  exact h2 hw
def sIx (n d:Nat):Option Int→Nat
 | none=>d
 | some v=>if v < 0 then (v+(n:Int)).toNat else min v.toNat n
theorem sIx_none (n d:Nat):sIx n d none=d:=rfl
theorem sIx_nat (n d k:Nat):sIx n d (some (k:Int))=min k n:=by
 show (if (k:Int) < 0 then ((k:Int)+(n:Int)).toNat else min (k:Int).toNat n)=min k n
 rw [if_neg (by lia),Int.toNat_natCast]
theorem zf3 (n d:Nat) (hd:d≤n) (o:Option Int):sIx n d o≤n:=by
 cases o with
 | none=>exact hd
 | some v =>
  show (if v < 0 then (v+(n:Int)).toNat else min v.toNat n)≤n
  by_cases hv:v < 0
  ·rw [if_pos hv];lia
  ·rw [if_neg hv];exact Nat.min_le_right _ _
theorem zaf (v:Int) (n d:Nat):(if v < 0 then max (v+(n:Int)) 0 else min v (n:Int))=((sIx n d (some v):Nat):Int):=by
 show (if v < 0 then max (v+(n:Int)) 0 else min v (n:Int))=(((if v < 0 then (v+(n:Int)).toNat else min v.toNat n):Nat):Int)
 by_cases hv:v < 0
 ·simp only [if_pos hv];lia
 ·simp only [if_neg hv];lia
theorem z9E (lo hi:Option Int) (n:Nat):Builtin.Slice.sliceAdjust lo hi 1 (n:Int)=(((sIx n 0 lo:Nat):Int),((sIx n n hi:Nat):Int)):=by
 have h1:¬ ((1:Int) < 0):=by lia
 unfold Builtin.Slice.sliceAdjust
 simp only [h1,if_false]
 refine Prod.ext ?_ ?_
 ·cases lo with
  | none=>rfl
  | some v=>exact zaf v n 0
 ·cases hi with
  | none=>rfl
  | some v=>exact zaf v n n
theorem z9I (i j:Nat):Builtin.Slice.slicePlaces (i:Int) (j:Int) 1=j - i:=by
 unfold Builtin.Slice.slicePlaces
 have h1:(1:Int) > 0:=by lia
 simp only [h1,if_true,Int.ediv_one]
 split<;>lia
theorem z5w {v:Value} {o:Option Int} {Q:Option Int→Shared→Prop} (p:IsPart v o) (h:Q o s):wpAny (model prog w) A (Builtin.Slice.slicePartIndex v) Q E s:=by
 cases p with
 | none=>exact slicePart_none h
 | int i t=>exact slicePart_int h
theorem sliceApplied_gen {sl:Addr} {vl vu:Value} {lo hi:Option Int} {n:Nat} {Q:Int × Int × Nat→Shared→Prop} (hs:s.heap.IsSliceOf sl vl vu .none) (pl:IsPart vl lo) (pu:IsPart vu hi)
  (h:Q (((sIx n 0 lo:Nat):Int),1,sIx n n hi - sIx n 0 lo) s):wpAny (model prog w) A (Builtin.Slice.sliceApplied (.ref sl) (pure (n:Int))) Q E s:=by
 obtain ⟨os,hos,hcs,hds⟩:=id hs
 unfold Builtin.Slice.sliceApplied Builtin.Slice.sliceFields
 refine wpAny_bind (wpAny_bind (wpAny_field hos hds (x:=vl) rfl (wpAny_bind (wpAny_field hos hds (x:=vu) rfl (wpAny_bind (wpAny_field hos hds (x:=.none) rfl (wpAny_pure ?_)))))))
 refine wpAny_bind (slicePart_none ?_)
 show wpAny _ _ (if ((1:Int) == 0)=true then _ else _) _ _ s
 rw [if_neg (by decide)]
 refine wpAny_bind (z5w pl (wpAny_bind (z5w pu (wpAny_bind (wpAny_pure ?_)))))
 show wpAny _ _ (match Builtin.Slice.sliceAdjust lo hi 1 (n:Int) with | (lo,hi)=>pure (lo,(1:Int),Builtin.Slice.slicePlaces lo hi 1)) _ _ s
 rw [z9E lo hi n]
 show wpAny _ _ (pure (((sIx n 0 lo:Nat):Int),(1:Int),Builtin.Slice.slicePlaces ((sIx n 0 lo:Nat):Int) ((sIx n n hi:Nat):Int) 1)) _ _ s
 rw [z9I]
 exact wpAny_pure h
theorem zcN (xs:Array Value) (i k:Nat):((List.range k).filterMap fun (m:Nat)=>xs[((i:Int)+(m:Int)*1).toNat]?).toArray=((xs.toList.drop i).take k).toArray:=by
 have e:(fun (m:Nat)=>xs[((i:Int)+(m:Int)*1).toNat]?)=fun m=>xs[i+m]?:=by
  funext m
  have:((i:Int)+(m:Int)*1).toNat=i+m:=by lia
  rw [this]
 rw [e]
 have:=pick_run xs i k
 rw [List.filterMap_map] at this
 have e2:((fun x=>xs[x]?) ∘ fun x=>i+x)=fun m=>xs[i+m]?:=rfl
 rw [e2] at this
 rw [this]
theorem getItem_tuple_cut {t sl:Addr} {items:Array Value} {vl vu:Value} {lo hi:Option Int} {Q:Value→Shared→Prop} (ht:IsTup s.heap t items) (hs:s.heap.IsSliceOf sl vl vu .none) (pl:IsPart vl lo) (pu:IsPart vu hi)
  (hw:¬ (sIx items.size 0 lo=0∧sIx items.size items.size hi=items.size))
  (h:Q (.ref s.heap.objs.size) { s with heap:=s.heap.push { cls:=.type "tuple",data:=.seq ((items.toList.drop (sIx items.size 0 lo)).take (sIx items.size items.size hi - sIx items.size 0 lo)).toArray } })
  (hsz:items.size≤sizeLine):wpAny (model prog w) A (getItem (.ref t) (.ref sl)) Q E s:=by
 have htake:sizeOk (.seq ((items.toList.drop (sIx items.size 0 lo)).take (sIx items.size items.size hi - sIx items.size 0 lo)).toArray):=by
  show ((items.toList.drop (sIx items.size 0 lo)).take (sIx items.size items.size hi - sIx items.size 0 lo)).toArray.size≤sizeLine
  rw [List.size_toArray,List.length_take,List.length_drop,Array.length_toList]
  lia
 have hj:sIx items.size items.size hi≤items.size:=zf3 _ _ (Nat.le_refl _) hi
 obtain ⟨os,hos,hcs,hds⟩:=id hs
 have hTs:s.TypeIs (.ref sl) "slice":=⟨os,hos,hcs⟩
 unfold getItem
 try with_reducible refine wpAny_holding ?_
 first | refine wpAny_bind (wpAny_pure ?_) | skip
 refine wpAny_bind (wpAny_sequenceKey ht.typeIs (by decide) ?_)
 refine wpAny_bind (wpAny_callSpecial?_slot (name:=Str.ofString "__getitem__") ht.typeIs PyProof.Rows.slot_tuple_getitem
  (wpAny_call_entry PyProof.Rows.slot_tuple_getitem ht.typeIs entry_tuple_getitem ?_ (args_tuple_getitem _ _)))
 show wpAny _ _ (Builtin.Tuple.tupleItemsOf (.ref t) >>= _) _ _ s
 refine wpAny_bind (tupleItemsOf_ ht ?_)
 refine wpAny_bind (wpAny_typeOf hTs ?_)
 rw [if_pos (by decide)]
 refine wpAny_bind (sliceApplied_gen hs pl pu ?_)
 have hno:¬ ((((sIx items.size 0 lo:Nat):Int) == 0 && (1:Int) == 1 && (sIx items.size items.size hi - sIx items.size 0 lo) == items.size)=true):=by
  intro q
  rw [Bool.and_eq_true,Bool.and_eq_true] at q
  have q1:((sIx items.size 0 lo:Nat):Int)=0:=eq_of_beq q.1.1
  have q2:sIx items.size items.size hi - sIx items.size 0 lo=items.size:=eq_of_beq q.2
  exact hw ⟨by lia,by lia⟩
 show wpAny _ _ (if (((sIx items.size 0 lo:Nat):Int) == 0 && (1:Int) == 1 && (sIx items.size items.size hi - sIx items.size 0 lo) == items.size)=true then _ else _) _ _ s
 rw [if_neg hno,zcN]
 first
  | exact wpAny_bind (m:=Builtin.Tuple.tupleExact _) (wpAny_newObj_type (wpAny_pure ⟨_,rfl,wpAny_pure h⟩) htake)
  | exact wpAny_bind (m:=Builtin.Tuple.tupleExact _) (wpAny_newObj_type (wpAny_bind (wpAny_pure (wpAny_pure ⟨_,rfl,wpAny_pure h⟩))) htake)
  | exact wpAny_bind (wpAny_bind (m:=Builtin.Tuple.tupleExact _) (wpAny_newObj_type (wpAny_pure (wpAny_pure ⟨_,rfl,wpAny_pure h⟩)) htake))
  | exact wpAny_bind (wpAny_bind (m:=Builtin.Tuple.tupleExact _) (wpAny_newObj_type (wpAny_pure ⟨_,rfl,wpAny_pure h⟩) htake))
end
end HT
namespace L2
open PySem PySem.Spec PyProof.Rows
abbrev TO:=St→Hp→(Option Int→Hp→Prop)→Prop
def PO (X:Cx) (e:Option Expr) (t:TO):Prop :=
 ∀ (pins:List (Addr × Obj)) (s:Shared) (σ:St) (H:Hp) (Q:Option Int→Hp→Prop),Inv X pins σ H s→t σ H Q →
  wpAny (model X.prog X.w) X.A (evalPart e X.env) (fun u s'=>∃ o H',Inv X pins σ H' s'∧IsPart u o∧Q o H') X.xe s
def zdr:TO:=fun _ H Q=>Q none H
def zg0 (t:TE):TO:=fun σ H Q=>t σ H fun x H1=>∃ i,x=.int i∧Q (some i) H1
section
variable {X:Cx} {e:Expr} {te:TE} {lo hi:Option Expr} {tl th:TO} {pos p2:Pos}
theorem z2e:PO X none zdr:=by
 intro pins s σ H Q I h
 rw [evalPart_none]
 exact wpAny_pure ⟨none,H,I,.none,h⟩
theorem z1a (h:PE X e te):PO X (some e) (zg0 te):=by
 intro pins s σ H Q I hw
 rw [evalPart_some]
 refine z1I (h pins s σ H _ I hw) fun u s1 x H1 I1 r1 q1=>?_
 obtain ⟨i,rfl,q⟩:=q1
 obtain ⟨t,rfl⟩:=r1
 exact ⟨some i,H1,I1,.int i t,q⟩
def SlR (X:Cx) (r:V→Option Int→Option Int→Hp→VK→Prop):Prop :=
 ∀ (pins:List (Addr × Obj)) (s:Shared) (σ:St) (H:Hp) (x:V) (v vl vu:Value) (lo hi:Option Int) (sl:Addr) (Q:VK),Inv X pins σ H s→z1g x v→s.heap.IsSliceOf sl vl vu .none→IsPart vl lo→IsPart vu hi→r x lo hi H Q →
  ∃ T id,typeLookup (.type T) "__getitem__"=pure (some (.builtin id))∧s.TypeIs v T∧wpAny (model X.prog X.w) X.A (getItem v (.ref sl)) (EP X pins σ Q) X.xe s
def tSl (r:V→Option Int→Option Int→Hp→VK→Prop) (te:TE) (tl th:TO):TE:=fun σ H Q=>te σ H fun x H1=>tl σ H1 fun l H2=>th σ H2 fun u H3=>r x l u H3 Q
theorem z1b {r:V→Option Int→Option Int→Hp→VK→Prop} (hr:SlR X r) (he:PE X e te) (hl:PO X lo tl) (hu:PO X hi th):PE X (.Subscript e (.Slice lo hi none p2) pos) (tSl r te tl th):=by
 intro pins s σ H Q I h
 refine Subscript_ (z1I (he pins s σ H _ I h) fun v s1 x H1 I1 r1 q1=>?_)
 refine wpAny_Slice (thn (hl pins s1 σ H1 _ I1 q1) fun vl s2 ⟨l,H2,I2,pl,q2⟩=>thn (hu pins s2 σ H2 _ I2 q2) fun vu s3 hz8=>?_)
 obtain ⟨u,H3,I3,pu,q3⟩:=hz8
 rw [evalPart_none]
 refine wpAny_pure ?_
 have I4:Inv X pins σ H3 { s3 with heap:=s3.heap.push { cls:=.type "slice",data:=.fields #[vl,vu,.none] } }:=I3.kept (t':=s3.toks) fun b ob q=>Heap.get?_push_of_some _ q
 obtain ⟨T,id,hT,ht,hg⟩:=hr pins { s3 with heap:=s3.heap.push { cls:=.type "slice",data:=.fields #[vl,vu,.none] } } σ H3 x v vl vu l u s3.heap.objs.size Q I4 r1 (Heap.IsSliceOf.new ..) pl pu q3
 show wpAny (model X.prog X.w) X.A (subscriptTail e (.Slice lo hi none p2) v (.ref s3.heap.objs.size)) (EP X pins σ Q) X.xe { s3 with heap:=s3.heap.push { cls:=.type "slice",data:=.fields #[vl,vu,.none] } }
 exact tail_any (ops:=[.ref s3.heap.objs.size,v]) ht hT hg (by with_unfolding_all rfl)
def z3h (xs:List V) (lo hi:Option Int):List V:=(xs.drop (HT.sIx xs.length 0 lo)).take (HT.sIx xs.length xs.length hi - HT.sIx xs.length 0 lo)
theorem z4N (xs:List V) (lo hi:Option Int):(z3h xs lo hi).length≤xs.length:=by
 unfold z3h
 rw [List.length_take,List.length_drop]
 lia
def zhg (K:PySem.W.Frag):V→Option Int→Option Int→Hp→VK→Prop:=fun x lo hi H Q=>∃ a xs,x=.ref a∧SqT K H a xs ∧
 ¬ (HT.sIx xs.length 0 lo=0∧HT.sIx xs.length xs.length hi=xs.length)∧∀ p,H p=none→Q (.ref p) (upd H p (.tup (z3h xs lo hi)))
theorem zfy:SlR X (zhg X.K):=by
 intro pins s σ H x v vl vu lo hi sl Q I rx hs pl pu h
 obtain ⟨a,xs,rfl,hx,hw,q⟩:=h
 cases rx
 obtain ⟨its,r,ht,hz⟩:=I.tuple hx
 have hlen:its.toArray.size=xs.length:=by rw [List.size_toArray];exact r.length.symm
 refine ⟨"tuple",_,PyProof.Rows.slot_tuple_getitem.lookup,ht.typeIs,?_⟩
 refine HT.getItem_tuple_cut ht hs pl pu (by rw [hlen];exact hw) ?_ (by rw [hlen];exact hz)
 rw [hlen]
 refine ⟨.ref s.heap.objs.size,_,I.laid (t':=s.toks) (o:=.tup (z3h xs lo hi)) (fun b ob q=>Heap.get?_push_of_some _ q) (Nat.le_refl _) ?_,rfl,q _ (I.hok.fresh (Nat.le_refl _))⟩
 exact ⟨Nat.le_trans (z4N xs lo hi) hz,_,0,(r.drop (HT.sIx xs.length 0 lo)).take (HT.sIx xs.length xs.length hi - HT.sIx xs.length 0 lo),Heap.get?_push_size _ rfl⟩
def zg8 (K:PySem.W.Frag):R2:=fun x y H Q=>∃ a b xs ys,x=.ref a∧y=.ref b∧SqT K H a xs∧SqT K H b ys∧xs≠[]∧xs.length+ys.length≤sizeLine ∧
 (ys=[]→Q (.ref a) H)∧(ys≠[]→∀ p,H p=none→Q (.ref p) (upd H p (.tup (xs++ys))))
theorem z1e.nil_iff {xs:List V} {us:List Value} (r:z1e xs us):us=[]↔xs=[]:=by
 cases r with
 | nil=>simp
 | cons _ _=>simp
theorem zdQ:OpR X (binaryOp .Add) (zg8 X.K):=by
 intro pins s σ H x y v u Q I rx ry h
 obtain ⟨a,b,xs,ys,rfl,rfl,ha,hb,hx,hz,q1,q2⟩:=h
 cases rx
 cases ry
 obtain ⟨its,r1,p1,_⟩:=I.tuple ha
 obtain ⟨its2,r2,p2,_⟩:=I.tuple hb
 refine HT.cat_tup p1 p2 (fun z=>hx (r1.nil_iff.mp z)) (fun z=>⟨.ref a,H,I,rfl,q1 (r2.nil_iff.mp z)⟩) (fun z=>?_) (by rw [←r1.length,←r2.length];exact hz)
 refine ⟨.ref s.heap.objs.size,_,I.laid (t':=s.toks) (o:=.tup (xs++ys)) (fun b ob q=>Heap.get?_push_of_some _ q) (Nat.le_refl _) ?_,rfl,q2 (fun w=>z (r2.nil_iff.mpr w)) _ (I.hok.fresh (Nat.le_refl _))⟩
 exact ⟨by rw [List.length_append];exact hz,_,0,r1.append r2,Heap.get?_push_size _ rfl⟩
end
end L2
namespace L2
open PySem PySem.Spec PyProof.Rows
def ixN (n:Nat) (i:Int):Option Nat:=if 0≤i then (if i < n then some i.toNat else none) else if -(n:Int)≤i then some (i+n).toNat else none
def atI {α:Type} (xs:List α) (i:Int):Option α:=(ixN xs.length i).bind fun j=>xs[j]?
theorem zdW {n:Nat} {i:Int} {j:Nat} (h:ixN n i=some j):seqIndex? i n=some j∧j < n∧-(n:Int)≤i∧i < n:=by
 unfold ixN at h
 by_cases h0:0≤i
 ·rw [if_pos h0] at h
  by_cases h1:i < n
  ·rw [if_pos h1] at h
   have e:i.toNat=j:=Option.some.inj h
   exact ⟨by rw [seqIndex_of h0 h1,e],by lia,by lia,h1⟩
  ·rw [if_neg h1] at h;cases h
 ·rw [if_neg h0] at h
  by_cases h1:-(n:Int)≤i
  ·rw [if_pos h1] at h
   have e:(i+n).toNat=j:=Option.some.inj h
   exact ⟨by rw [seqIndex_neg (by lia) h1,e],by lia,h1,by lia⟩
  ·rw [if_neg h1] at h;cases h
theorem zbm {α:Type} {xs:List α} {i:Int} {v:α} (h:atI xs i=some v):∃ j,seqIndex? i xs.length=some j∧xs[j]?=some v∧j < xs.length∧-(xs.length:Int)≤i∧i < xs.length:=by
 unfold atI at h
 cases e:ixN xs.length i with
 | none=>rw [e] at h;cases h
 | some j =>
  rw [e] at h
  obtain ⟨h1,h2,h3,h4⟩:=zdW e
  exact ⟨j,h1,h,h2,h3,h4⟩
theorem z0F {α:Type} {xs:List α} {j:Nat} {v:α} (h:xs[j]?=some v):atI xs (j:Int)=some v:=by
 have hj:j < xs.length:=(List.getElem?_eq_some_iff.mp h).1
 have e:ixN xs.length (j:Int)=some j:=by
  unfold ixN
  rw [if_pos (by lia),if_pos (by lia)];simp
 unfold atI;rw [e];exact h
def ze0 (b:Expr):Prop:=∀ o i,subscripted b false o i=operate [o,i] (getItem o i)
def IxR (X:Cx) (r:R2):Prop :=
 ∀ (value slice:Expr) (pins:List (Addr × Obj)) (s:Shared) (σ:St) (H:Hp) (x y:V) (v u:Value) (Q:VK),Inv X pins σ H s→z1g x v→z1g y u→r x y H Q →
  subscripted slice false v u=operate [v,u] (getItem v u)→wpAny (model X.prog X.w) X.A (subscriptTail value slice v u) (EP X pins σ Q) X.xe s
def MtR (X:Cx) (id:String) (r:V→List V→Hp→VK→Prop):Prop :=
 ∀ (pins:List (Addr × Obj)) (s:Shared) (σ:St) (H:Hp) (x:V) (xs:List V) (v:Value) (us:List Value) (Q:VK),Inv X pins σ H s→z1g x v→z1e xs us→r x xs H Q →
  wpAny (model X.prog X.w) X.A (call (.builtin id) (v::us)) (EP X pins σ Q) X.xe s
section
variable {X:Cx} {a b:Expr} {ta tb:TE} {pos:Pos}
theorem z0Q {r:R2} (hr:IxR X r) (ha:PE X a ta) (hb:PE X b tb) (hs:ze0 b):PE X (.Subscript a b pos) (tOp r ta tb):=by
 intro pins s σ H Q I h
 exact Subscript_ (zgq ha hb I h fun v u s2 x y H2 I2 rx ry q=>hr a b pins s2 σ H2 x y v u Q I2 rx ry q (hs _ _))
def zgQ (K:PySem.W.Frag):R2:=fun x y H Q=>∃ p xs i v,x=.ref p∧y=.int i∧SqL K H p xs∧atI xs i=some v∧Q v H
def zgN (K:PySem.W.Frag):R2:=fun x y H Q=>∃ p xs i v,x=.ref p∧y=.int i∧SqT K H p xs∧atI xs i=some v∧Q v H
theorem z0X:IxR X (zgQ X.K):=by
 intro value slice pins s σ H x y v u Q I rx ry h hs
 obtain ⟨p,xs,i,z,rfl,rfl,hq,he,q⟩:=h
 cases rx
 obtain ⟨t,rfl⟩:=ry
 obtain ⟨its,r,pl,hz⟩:=I.list hq
 obtain ⟨j,h1,h2,h3,h4,h5⟩:=zbm he
 obtain ⟨w,ew,rw'⟩:=r.get h2
 have hl:=r.length
 have hn:=z6Z
 have fin:EP X pins σ Q w s:=⟨z,H,I,rw',q⟩
 by_cases h0:0≤i
 ·have hj:i.toNat=j:=by
   rw [seqIndex_of h0 h5] at h1
   exact Option.some.inj h1
  exact item_listR pl.isList h0 (by lia) (by rw [hj];simpa using ew) fin hs
 ·have hj:(i+(its.toArray.size:Int)).toNat=j:=by
   rw [seqIndex_neg (by lia) h4] at h1
   rw [List.size_toArray,←hl]
   exact Option.some.inj h1
  exact subscriptTail_builtinR (x:=w) pl.isList.typeIs slot_list_getitem.lookup
   (wpAny_getItem_list_neg (Q:=fun r s'=>r=w∧EP X pins σ Q r s') pl.isList (by lia) (by rw [List.size_toArray]<;>lia) (by lia) (by rw [hj];simpa using ew) ⟨rfl,fin⟩) hs
theorem z1G:IxR X (zgN X.K):=by
 intro value slice pins s σ H x y v u Q I rx ry h hs
 obtain ⟨p,xs,i,z,rfl,rfl,hq,he,q⟩:=h
 cases rx
 obtain ⟨t,rfl⟩:=ry
 obtain ⟨its,r,pl,hz⟩:=I.tuple hq
 obtain ⟨j,h1,h2,h3,h4,h5⟩:=zbm he
 obtain ⟨w,ew,rw'⟩:=r.get h2
 have hl:=r.length
 have hn:=z6Z
 have fin:EP X pins σ Q w s:=⟨z,H,I,rw',q⟩
 exact subscriptTail_builtinR (x:=w) pl.typeIs slot_tuple_getitem.lookup
  (getItem_tuple (j:=j) (Q:=fun r s'=>r=w∧EP X pins σ Q r s') pl (by lia) (by lia) (by rw [List.size_toArray,←hl];exact h1) (by simpa using ew) ⟨rfl,fin⟩) hs
theorem z7E (lo hi:Option Int) (n:Nat):(sliceBounds lo hi none n).1=((HT.sIx n 0 lo:Nat):Int)∧(sliceBounds lo hi none n).2.1=((HT.sIx n n hi:Nat):Int)∧(sliceBounds lo hi none n).2.2=1:=by
 refine ⟨?_,?_,rfl⟩
 ·cases lo with
  | none=>simp [sliceBounds,HT.sIx]
  | some i =>
   simp only [sliceBounds,HT.sIx,Option.getD_none,show (1:Int) > 0 by decide,if_true]
   by_cases h:i < 0
   ·simp only [h,if_true]<;>lia
   ·simp only [h,if_false]<;>lia
 ·cases hi with
  | none=>simp [sliceBounds,HT.sIx]
  | some i =>
   simp only [sliceBounds,HT.sIx,Option.getD_none,show (1:Int) > 0 by decide,if_true]
   by_cases h:i < 0
   ·simp only [h,if_true]<;>lia
   ·simp only [h,if_false]<;>lia
theorem z6E (its:List Value) (lo hi:Option Int):slicePick its.toArray lo hi none=((its.drop (HT.sIx its.length 0 lo)).take (HT.sIx its.length its.length hi - HT.sIx its.length 0 lo)).toArray:=by
 obtain ⟨h1,h2,h3⟩:=z7E lo hi its.toArray.size
 unfold slicePick
 rw [h1,h2,h3]
 simp only [sliceRange_one,pick_run,List.size_toArray]<;>rfl
def zho (K:PySem.W.Frag):V→Option Int→Option Int→Hp→VK→Prop:=fun x lo hi H Q=>∃ a xs,x=.ref a∧SqL K H a xs∧∀ p,H p=none→Q (.ref p) (upd H p (.lst (z3h xs lo hi)))
theorem z36:SlR X (zho X.K):=by
 intro pins s σ H x v vl vu lo hi sl Q I rx hs pl pu h
 obtain ⟨a,xs,rfl,hx,q⟩:=h
 cases rx
 obtain ⟨its,r,ht,hz⟩:=I.list hx
 have hlen:=r.length
 refine ⟨"list",_,slot_list_getitem.lookup,ht.isList.typeIs,?_⟩
 refine wpAny_getItem_list_slice ht.isList hs pl pu .none (by simp) ?_ (by rw [List.size_toArray]<;>lia)
 rw [z6E,←hlen]
 refine ⟨.ref s.heap.objs.size,_,I.laid (t':=s.toks) (o:=.lst (z3h xs lo hi)) (fun b ob q=>Heap.get?_push_of_some _ q) (Nat.le_refl _) ?_,rfl,q _ (I.hok.fresh (Nat.le_refl _))⟩
 exact ⟨Nat.le_trans (z4N xs lo hi) hz,_,0,(r.drop (HT.sIx xs.length 0 lo)).take (HT.sIx xs.length xs.length hi - HT.sIx xs.length 0 lo),Heap.get?_push_size _ rfl⟩
theorem z09:z3y X (.builtin "len") (fun xs H Q=>∃ p ys,xs=[.ref p]∧(SqL X.K H p ys∨SqT X.K H p ys)∧Q (.int ys.length) H):=by
 intro pins s σ H xs us Q I r h
 obtain ⟨p,ys,rfl,hq,q⟩:=h
 obtain ⟨u,rfl,rx⟩:=z6k r
 cases rx
 have hn:=z6Z
 rcases hq with hq | hq
 ·obtain ⟨its,r',pl,hz⟩:=I.list hq
  have hlen:=r'.length
  exact Calls.call_len_list pl.isList (by simp only [List.size_toArray]<;>lia) ⟨.int ys.length,H,I.tok _,⟨s.toks+1,by rw [List.size_toArray,hlen]⟩,q⟩
 ·obtain ⟨its,r',pl,hz⟩:=I.tuple hq
  have hlen:=r'.length
  exact len_tuple pl (by simp only [List.size_toArray]<;>lia) ⟨.int ys.length,H,I.tok _,⟨s.toks+1,by rw [List.size_toArray,hlen]⟩,q⟩
theorem z0v:z3y X (.type "tuple") (fun xs H Q=>∃ p ys,xs=[.ref p]∧((SqL X.K H p ys∧∀ l,H l=none→Q (.ref l) (upd H l (.tup ys)))∨(SqT X.K H p ys∧Q (.ref p) H))):=by
 intro pins s σ H xs us Q I r h
 obtain ⟨p,ys,rfl,h⟩:=h
 obtain ⟨u,rfl,rx⟩:=z6k r
 cases rx
 rcases h with ⟨hq,q⟩ | ⟨hq,q⟩
 ·obtain ⟨its,r',pl,hz⟩:=I.list hq
  have hlen:=r'.length
  refine call_tuple_list pl.isList (fun h' kp=>?_) (by simp only [List.size_toArray]<;>lia)
  have I1:Inv X pins σ H { s with heap:=h' }:=I.kept (t':=s.toks) kp
  have I2:Inv X pins σ (upd H h'.objs.size (.tup ys)) { s with heap:=h'.push { cls:=.type "tuple",data:=.seq its.toArray } } :=
   I1.laid (t':=s.toks) (fun b o e=>Heap.get?_push_of_some _ e) (Nat.le_refl _) (show z1R X.prog X.w _ _ _ (.tup ys) from ⟨hz,its,0,r',Heap.get?_push_size _ rfl⟩)
  exact ⟨.ref h'.objs.size,_,I2,rfl,q _ (I1.hok.fresh (Nat.le_refl _))⟩
 ·obtain ⟨its,r',pl,hz⟩:=I.tuple hq
  exact call_tuple_same pl ⟨.ref p,H,I,rfl,q⟩
def tyV (K:PySem.W.Frag) (T:String) (x:V) (H:Hp):Prop:=match x with
 | .str _=>T="str"
 | .int _=>T="int"
 | .ref p=>(T="list"∧∃ xs,SqL K H p xs)∨(T="tuple"∧((∃ o,K.lookup p=some o∧o.cls=.type "tuple"∧o.dict=none)∨∃ xs,H p=some (.tup xs))) ∨
   (T="dict"∧((∃ kvs,H p=some (.dK kvs))∨∃ kvs,H p=some (.dT kvs)))∨(T="set"∧∃ S n,H p=some (.set S n))
 | _=>False
theorem zfm {pins:List (Addr × Obj)} {σ:St} {H:Hp} {s:Shared} {T:String} {x:V} {v:Value} (I:Inv X pins σ H s) (r:z1g x v) (ty:tyV X.K T x H) :
  s.TypeIs v T∧∀ a,v=.ref a→∃ ob,s.heap.get? a=some ob∧ob.dict=none:=by
 cases x with
 | str z =>
  obtain ⟨t,rfl⟩:=r
  cases (show T="str" from ty)
  exact ⟨typeIs_str s z t,fun _ e=>nomatch e⟩
 | int i =>
  obtain ⟨t,rfl⟩:=r
  cases (show T="int" from ty)
  exact ⟨typeIs_int s i t,fun _ e=>nomatch e⟩
 | ref p =>
  cases r
  rcases ty with ⟨rfl,xs,hq⟩ | ⟨rfl,⟨o,hk,hc,hd⟩ | ⟨xs,hq⟩⟩ | ⟨rfl,hk⟩ | ⟨rfl,S,n,hk⟩
  ·obtain ⟨its,_,pl,_⟩:=I.list hq
   refine ⟨pl.isList.typeIs,fun a e=>?_⟩
   cases e
   obtain ⟨o,n,e,c,hd,_⟩:=pl
   exact ⟨o,e,hd⟩
  ·refine ⟨⟨o,I.kIn p o hk,hc⟩,fun a e=>?_⟩
   cases e
   exact ⟨o,I.kIn _ o hk,hd⟩
  ·obtain ⟨_,its,n,_,h1⟩:=(show z1R X.prog X.w H s.heap p (.tup xs) from I.hok p _ hq)
   refine ⟨⟨_,h1,rfl⟩,fun a e=>?_⟩
   cases e
   exact ⟨_,h1,rfl⟩
  ·have z:∃ o,s.heap.get? p=some o∧o.ExactDict:=by
    rcases hk with ⟨kvs,hk⟩ | ⟨kvs,hk⟩
    ·obtain ⟨_,_,_,_,o,_,_,e,ex,_⟩:=I.hok p _ hk
     exact ⟨o,e,ex⟩
    ·obtain ⟨_,_,_,_,o,_,_,e,ex,_⟩:=I.hok p _ hk
     exact ⟨o,e,ex⟩
   obtain ⟨o,e,ex⟩:=z
   refine ⟨⟨o,e,ex.1⟩,fun a e2=>?_⟩
   cases e2
   exact ⟨o,e,ex.2.1⟩
  ·obtain ⟨o,_,_,_,e,ex,_⟩:=I.hok p _ hk
   refine ⟨⟨o,e,ex.1⟩,fun a e2=>?_⟩
   cases e2
   exact ⟨o,e,ex.2.1⟩
 | _=>exact False.elim ty
def tBM (K:PySem.W.Frag) (T:String) (r:V→List V→Hp→VK→Prop) (to:TE) (t:TA):TE:=fun σ H Q=>to σ H fun x H1=>tyV K T x H1∧t σ H1 fun xs H2=>r x xs H2 Q
variable {o e:Expr} {es:List Expr} {to:TE} {t:TA} {name:Str} {apos cpos:Pos} {T id:String} {r:V→List V→Hp→VK→Prop}
theorem z3l (pa:PlainAttrs T) (slot:Slot T name id) (hty:typeOf (.builtin id)=pure (.type "method_descriptor")) (hm:MtR X id r) (ho:PE X o to) (ha:PA X (e::es) t)
  (hbase:attributeBase o name X.env (eval o X.env)=eval o X.env:=by rfl)
  (hfew:((backTo cpos (starEach (e::es) X.env)).all (fun x=>!x.1) && (backToKw cpos (keywordEach [] X.env)).all (fun x=>x.1.isSome)
   && decide ((e::es).length+([]:List Keyword).length+(if ([]:List Keyword).isEmpty then 0 else 1) < 30))=true:=by rfl)
  (hline:(apos.endLine == cpos.line)=true:=by rfl) (hs:starEach (e::es) X.env=(false,eval e X.env)::starEach es X.env:=by rfl) (hplain:(backTo cpos (starEach es X.env)).any (·.1)=false:=by rfl) :
  PE X (.Call (.Attribute o name apos) (e::es) [] cpos) (tBM X.K T r to t):=by
 intro pins s σ H Q I h
 refine wpAny_Call_method_late hbase hfew hline rfl (z1I (ho pins s σ H _ I h) fun v s1 x H1 I1 r1 hz9=>?_)
 obtain ⟨ty,q1⟩:=hz9
 obtain ⟨h1,h2⟩:=zfm I1 r1 ty
 refine ⟨T,id,pa,slot,hty,h1,h2,?_⟩
 have hA:=ha cpos pins s1 σ H1 _ I1 q1
 rw [hs] at hA ⊢
 refine Calls.callWith_builtin (by show (false || (backTo cpos (starEach es X.env)).any (·.1))=false;rw [hplain]<;>rfl) (Calls.evalArgs_plain ?_)
 exact thn hA fun us s2 ⟨vs,H2,I2,r2,q2⟩=>hm pins s2 σ H2 x vs v us Q I2 r1 r2 q2
end
end L2
namespace L2
open PySem PySem.Spec PyProof.Rows
def MtM (X:Cx) (id:String) (r:V→List V→Hp→VK→Prop):Prop :=
 ∀ (pins:List (Addr × Obj)) (s:Shared) (σ:St) (H:Hp) (x:V) (xs:List V) (v:Value) (us:List Value) (Q:VK),Inv X pins σ H s→z1g x v→z1e xs us→r x xs H Q →
  wpAny (model X.prog X.w) X.A (call (.builtin id) (v::us)) (EP X pins σ Q) X.xe s
theorem z1e.one:∀ {x:V} {us:List Value},z1e [x] us→∃ u,us=[u]∧z1g x u
 | _,_,.cons r .nil=>⟨_,rfl,r⟩
theorem z1e.eraseIdx:∀ {xs:List V} {us:List Value} (i:Nat),z1e xs us→z1e (xs.eraseIdx i) (us.eraseIdx i)
 | _,_,_,.nil=>.nil
 | _,_,0,.cons _ t=>t
 | _,_,i+1,.cons r t=>.cons r (z1e.eraseIdx i t)
theorem z1e.rep {xs:List V} {us:List Value} (h:z1e xs us):∀ k:Nat,z1e (List.replicate k xs).flatten (List.replicate k us).flatten
 | 0=>.nil
 | k+1=>by
  rw [List.replicate_succ,List.replicate_succ,List.flatten_cons,List.flatten_cons]
  exact z1e.append h (z1e.rep h k)
theorem z7x {α:Type}:∀ (l:List α) (i:Nat),(l.eraseIdx i).length≤l.length
 | [],_=>Nat.le_refl _
 | _::_,0=>Nat.le_succ _
 | _::r,i+1=>Nat.succ_le_succ (z7x r i)
theorem z3w (its:List Value):∀ (k:Nat) (acc:List Value),
  List.foldl (fun x1 x2=>x1++x2) acc.toArray (List.replicate k its.toArray)=(acc++(List.replicate k its).flatten).toArray
 | 0,acc=>by simp
 | k+1,acc=>by
  have e:acc.toArray++its.toArray=(acc++its).toArray:=by simp
  have e2:(acc++its)++(List.replicate k its).flatten=acc++(List.replicate (k+1) its).flatten:=by
   rw [List.replicate_succ,List.flatten_cons,List.append_assoc]
  rw [←e2,←z3w its k (acc++its),←e,List.replicate_succ,List.foldl_cons]
section
variable {X:Cx} {pins:List (Addr × Obj)} {σ:St} {H:Hp} {s:Shared} {l b:Addr} {xs ys zs:List V}
theorem Inv.lset {its its':List Value} {n:Nat} {f:Array Value→Array Value} {t':Nat} (I:Inv X pins σ H s) (hH:H l=some (.lst xs))
  (e:s.heap.get? l=some { cls:=.type "list",data:=.seq its.toArray n }) (hf:f its.toArray=its'.toArray) (hv:z1e ys its') (hz:ys.length≤sizeLine) :
  Inv X pins σ (upd H l (.lst ys)) { s with heap:=s.heap.update l (Obj.mapSeq f),toks:=t' }:=by
 have q:=PySem.IsL.update e f
 rw [hf] at q
 refine I.write (x:=l) (e:=l) (by rw [hH];exact trivial) (.inl rfl) (fun b' u hb hu=>(Heap.get?_update_other s.heap (Obj.mapSeq f) (Ne.symm hb)).trans hu) ⟨_,q⟩ ?_
 exact ⟨hz,its',_,hv,q⟩
theorem Inv.lnew {its:List Value} {t':Nat} (I:Inv X pins σ H s) (hv:z1e ys its) (hz:ys.length≤sizeLine) :
  Inv X pins σ (upd H s.heap.objs.size (.lst ys)) { s with heap:=s.heap.push { cls:=.type "list",data:=.seq its.toArray },toks:=t' } :=
 I.laid (fun _ _ q=>Heap.get?_push_of_some _ q) (Nat.le_refl _) ⟨hz,its,0,hv,Heap.get?_push_size _ rfl⟩
theorem Inv.fresh (I:Inv X pins σ H s):H s.heap.objs.size=none:=I.hok.fresh (Nat.le_refl _)
theorem Inv.lstM (I:Inv X pins σ H s) (hH:H l=some (.lst xs)):xs.length≤sizeLine∧∃ (its:List Value) (n:Nat),z1e xs its∧xs.length=its.length∧s.heap.get? l=some { cls:=.type "list",data:=.seq its.toArray n }:=by
 obtain ⟨z,its,n,r,e⟩:=I.hok l _ hH
 exact ⟨z,its,n,r,r.length,e⟩
theorem zcJ {n:Nat} (h:n≤sizeLine):Builtin.List.listTooLong n=false:=by
 unfold Builtin.List.listTooLong
 exact decide_eq_false (by lia)
end
section
variable {X:Cx}
def zdu:V→List V→Hp→VK→Prop:=fun x vs H Q=>∃ l xs y,x=.ref l∧vs=[y]∧H l=some (.lst xs)∧xs.length < sizeLine∧Q .non (upd H l (.lst (xs++[y])))
theorem z0L:MtM X "list.append" zdu:=by
 intro pins s σ H x vs v us Q I rx rv h
 obtain ⟨l,xs,y,rfl,rfl,hH,hz,q⟩:=h
 cases rx
 obtain ⟨u,rfl,ru⟩:=rv.one
 obtain ⟨z,its,n,r,hl,e⟩:=I.lstM hH
 refine call_meets F.slot_list_append ⟨_,e,rfl⟩ F.entry_list_append (F.args_list_append_2 _ _) (PySem.list_append l its.toArray n u (by rw [List.size_toArray];lia)) ⟨e,?_⟩
 refine ⟨.non,_,I.lset (its':=its++[u]) hH e (by simp) (r.append (.cons ru .nil)) ?_,rfl,q⟩
 rw [List.length_append,List.length_singleton]
 lia
def zfs:V→List V→Hp→VK→Prop:=fun x vs H Q=>∃ l xs i k y,x=.ref l∧vs=[.int i]∧H l=some (.lst xs)∧-(2 ^ 63)≤i∧i < 2 ^ 63∧seqIndex? i xs.length=some k∧xs[k]?=some y∧Q y (upd H l (.lst (xs.eraseIdx k)))
theorem zcE:MtM X "list.pop" zfs:=by
 intro pins s σ H x vs v us Q I rx rv h
 obtain ⟨l,xs,i,k,y,rfl,rfl,hH,h1,h2,hk,hy,q⟩:=h
 cases rx
 obtain ⟨u,rfl,ru⟩:=rv.one
 obtain ⟨t,rfl⟩:=ru
 obtain ⟨z,its,n,r,hl,e⟩:=I.lstM hH
 obtain ⟨w,hw,rw'⟩:=r.get hy
 refine call_meets F.slot_list_pop ⟨_,e,rfl⟩ F.entry_list_pop (F.args_list_pop_2 _ _)
  (MeetsSeq.list_pop_at l its.toArray n i t k w (fitsIndex_both h1 h2) (by rw [List.size_toArray,←hl];exact hk) (by rw [←Array.getElem?_toList];exact hw) (by rw [List.size_toArray];lia)) ⟨e,?_⟩
 refine ⟨y,_,I.lset (its':=its.eraseIdx k) hH e ?_ (r.eraseIdx k) ?_,rw',q⟩
 ·show its.toArray.eraseIdxIfInBounds k=(its.eraseIdx k).toArray
  rw [List.eraseIdxIfInBounds_toArray]
 ·have:=z7x xs k
  lia
def zh3:R2:=fun x y H Q=>∃ l b xs zs,x=.ref l∧y=.ref b∧H l=some (.lst xs)∧H b=some (.lst zs)∧xs.length+zs.length≤sizeLine∧∀ p,H p=none→Q (.ref p) (upd H p (.lst (xs++zs)))
theorem zdp:OpR X (binaryOp .Add) zh3:=by
 intro pins s σ H x y v u Q I rx ry h
 obtain ⟨l,b,xs,zs,rfl,rfl,hH,hB,hz,q⟩:=h
 cases rx
 cases ry
 obtain ⟨z,its,n,r,hl,e⟩:=I.lstM hH
 obtain ⟨z2,its2,n2,r2,hl2,e2⟩:=I.lstM hB
 refine PySem.P.add_list e e2 ?_ (by rw [List.size_toArray,List.size_toArray];lia)
 have ea:its.toArray++its2.toArray=(its++its2).toArray:=by simp
 rw [ea]
 exact ⟨.ref _,_,I.lnew (t':=s.toks) (r.append r2) (by rw [List.length_append];lia),rfl,q _ I.fresh⟩
def zh1:R2:=fun x y H Q=>∃ l k xs,x=.ref l∧y=.int k∧H l=some (.lst xs)∧-(2 ^ 63)≤k∧k < 2 ^ 63∧xs.length*k.toNat≤sizeLine ∧
 ∀ p,H p=none→Q (.ref p) (upd H p (.lst (List.replicate k.toNat xs).flatten))
theorem z3Q {α:Type} (xs:List α) (k:Nat):(List.replicate k xs).flatten.length=k*xs.length:=by
 induction k with
 | zero=>simp
 | succ k ih=>rw [List.replicate_succ,List.flatten_cons,List.length_append,ih,Nat.succ_mul,Nat.add_comm]
theorem zdd:OpR X (binaryOp .Mult) zh1:=by
 intro pins s σ H x y v u Q I rx ry h
 obtain ⟨l,k,xs,rfl,rfl,hH,h1,h2,hz,q⟩:=h
 cases rx
 obtain ⟨t,rfl⟩:=ry
 obtain ⟨z,its,n,r,hl,e⟩:=I.lstM hH
 have hlen:its.toArray.size*k.toNat≤sizeLine:=by rw [List.size_toArray,←hl];exact hz
 have hcap:¬ its.toArray.size*k.toNat > (2 ^ 63 - 1) / 8:=by
  have:(sizeLine:Nat)≤(2 ^ 63 - 1) / 8:=by decide
  lia
 have hfit:¬ (!Builtin.List.listFitsIndex k)=true:=by
  rw [fitsIndex_both h1 h2]
  exact Bool.false_ne_true
 have hlong:¬ Builtin.List.listTooLong (its.toArray.size*k.toNat)=true:=by
  rw [zcJ hlen]
  exact Bool.false_ne_true
 have hnew:List.foldl (fun x1 x2=>x1++x2) #[] (List.replicate (if its.toArray.isEmpty=true then 0 else k.toNat) its.toArray)=(List.replicate k.toNat its).flatten.toArray:=by
  have f0:∀ m:Nat,List.foldl (fun x1 x2=>x1++x2) #[] (List.replicate m its.toArray)=(List.replicate m its).flatten.toArray:=fun m=>by
   have:=z3w its m []
   rw [List.nil_append] at this
   exact this
  rw [f0]
  cases its with
  | nil=>simp
  | cons a r'=>rw [if_neg (by simp)]
 refine wpAny_binaryOp_repeat_ref (T:="list") (U:="int") (by decide) ⟨_,e,rfl⟩ (fun s'=>typeIs_int s' k t) noFill_list_mul F.fills_int_mul F.slot_int_rmul repeat_list F.slot_int_index.lookup
  (call_meets F.slot_int_rmul (typeIs_int s k t) F.entry_int_rmul (F.args_int_rmul_2 _ _) (int___rmul___int_list k t l its.toArray n)
   ⟨e,rfl,⟨_,e,rfl⟩,call_meets F.slot_list_mul ⟨_,e,rfl⟩ F.entry_list_mul (F.args_list_mul_2 _ _) (AutoListH.list___mul___list_int_3 l its.toArray n k t hfit hcap hlong) ⟨e,?_⟩⟩)
 rw [hnew]
 exact ⟨.ref _,_,I.lnew (t':=s.toks) (r.rep k.toNat) (by rw [z3Q,Nat.mul_comm];exact hz),rfl,q _ I.fresh⟩
end
section
variable {prog:Program} {w:World} {A:Around} {E:Value→Shared→Prop} {s:Shared}
end
section
variable {X:Cx}
end
end L2
namespace L2
open PySem PySem.Spec PyProof.Rows
section
variable {κ:Type} [DecidableEq κ]
def z33 (kvs:List (κ × V)) (k:κ):Option V:=(kvs.find? fun kv=>decide (kv.1=k)).map (·.2)
def z1Y (kvs:List (κ × V)) (k:κ) (v:V):List (κ × V) :=
 if (kvs.any fun kv=>decide (kv.1=k))=true then kvs.map (fun kv=>if kv.1=k then (kv.1,v) else kv) else kvs++[(k,v)]
theorem z2X {p:κ × V} {r:List (κ × V)} {k:κ} (e:p.1=k):z33 (p::r) k=some p.2:=by simp [z33,List.find?_cons,e]
theorem z2t {p:κ × V} {r:List (κ × V)} {k:κ} (e:¬ p.1=k):z33 (p::r) k=z33 r k:=by simp [z33,List.find?_cons,e]
theorem z3x (k:κ):∀ kvs:List (κ × V),(kvs.any fun kv=>decide (kv.1=k))=(z33 kvs k).isSome
 | []=>rfl
 | p::r=>by
  rw [List.any_cons]
  by_cases e:p.1=k
  ·simp only [z2X e,decide_eq_true e,Bool.true_or,Option.isSome_some]
  ·rw [z2t e,decide_eq_false e,Bool.false_or];exact z3x k r
theorem z1T (kvs:List (κ × V)) (k:κ) (v:V):(z1Y kvs k v).length≤kvs.length+1:=by
 unfold z1Y
 split
 ·rw [List.length_map];lia
 ·rw [List.length_append,List.length_cons,List.length_nil];lia
theorem z8A {kvs:List (κ × V)} {k:κ} (v:V) (h:z33 kvs k=none):z1Y kvs k v=kvs++[(k,v)]:=by
 unfold z1Y
 rw [z3x,h]
 exact if_neg (by decide)
theorem z8y.isSome_eq {o:Option V} {u:Option Value} (r:z8y o u):o.isSome=u.isSome:=by
 cases o with
 | none=>cases u with
  | none=>rfl
  | some _=>exact (show False from r).elim
 | some _=>cases u with
  | none=>exact (show False from r).elim
  | some _=>rfl
theorem z8y.getD {o:Option V} {u:Option Value} {d:V} {d':Value} (r:z8y o u) (rd:z1g d d'):z1g (o.getD d) (u.getD d'):=by
 cases o with
 | none=>cases u with
  | none=>exact rd
  | some _=>exact (show False from r).elim
 | some _=>cases u with
  | none=>exact (show False from r).elim
  | some _=>exact r
theorem KV.val {kvs:List (κ × V)} {vs:List (κ × Value)} (r:KV kvs vs) (k:κ):z8y (z33 kvs k) (valueAt vs k):=by
 unfold KV at r
 induction r with
 | nil=>exact True.intro
 | @cons p q ps qs h t ih =>
  obtain ⟨h1,h2⟩:=h
  by_cases e:p.1=k
  ·have e':q.1=k:=h1.symm.trans e
   have b:valueAt (q::qs) k=some q.2:=by simp [valueAt,List.find?_cons,e']
   rw [z2X e,b];exact h2
  ·have e':¬ q.1=k:=fun z=>e (h1.trans z)
   have b:valueAt (q::qs) k=valueAt qs k:=by simp [valueAt,List.find?_cons,e']
   rw [z2t e,b];exact ih
theorem KV.any {kvs:List (κ × V)} {vs:List (κ × Value)} (r:KV kvs vs) (k:κ):(kvs.any fun kv=>decide (kv.1=k))=vs.any fun kv=>decide (kv.1=k):=by
 unfold KV at r
 induction r with
 | nil=>rfl
 | cons h t ih=>rw [List.any_cons,List.any_cons,ih,h.1]
theorem KV.repl {kvs:List (κ × V)} {vs:List (κ × Value)} (r:KV kvs vs) (k:κ) {y:V} {u:Value} (ry:z1g y u) :
  KV (kvs.map fun kv=>if kv.1=k then (kv.1,y) else kv) (vs.map fun kv=>if kv.1=k then (kv.1,u) else kv):=by
 unfold KV at r ⊢
 induction r with
 | nil=>exact .nil
 | @cons p q ps qs h t ih =>
  rw [List.map_cons,List.map_cons]
  refine .cons ?_ ih
  obtain ⟨h1,h2⟩:=h
  by_cases e:p.1=k
  ·rw [if_pos e,if_pos (h1.symm.trans e)];exact ⟨h1,ry⟩
  ·rw [if_neg e,if_neg (fun z=>e (h1.trans z))];exact ⟨h1,h2⟩
theorem KV.put {kvs:List (κ × V)} {vs:List (κ × Value)} (r:KV kvs vs) (k:κ) {y:V} {u:Value} (ry:z1g y u):KV (z1Y kvs k y) (stored vs k u):=by
 unfold z1Y stored
 rw [r.any k]
 by_cases e:(vs.any fun kv=>decide (kv.1=k))=true
 ·rw [if_pos e,if_pos e];exact r.repl k ry
 ·rw [if_neg e,if_neg e];exact Paired.snoc r ⟨rfl,ry⟩
theorem KV.length {kvs:List (κ × V)} {vs:List (κ × Value)} (r:KV kvs vs):kvs.length=vs.length:=Paired.length r
end
theorem z7T {P:Program} {w:World} {k:Key} {u:Value} (r:z1g (kV k) u):(z1d P w).is k u=true:=by
 cases k with
 | inl i=>obtain ⟨t,e⟩:=(show ∃ t,u=Value.int i t from r);subst e;exact z87 P w i t
 | inr x=>obtain ⟨t,e⟩:=(show ∃ t,u=Value.str x t from r);subst e;exact z8b P w x t
theorem z6O {P:Program} {w:World}:∀ {ks:List Key} {us:List Value},z1e (ks.map kV) us→ItemsAre (z1d P w) ks us
 | [],_,r=>by rw [List.map_nil] at r;cases r;exact .nil
 | k::ks,_,r=>by
  rw [List.map_cons] at r
  cases r with
  | cons h t=>exact .cons (z7T h) (z6O t)
abbrev KT (H:Hp):List (List Key × V)→List (List Key × Addr × Value)→Prop:=Paired fun p q=>p.1=q.1∧H q.2.1=some (.tup (p.1.map kV))∧z1g p.2 q.2.2
theorem KT.val {H:Hp} {kvs:List (List Key × V)} {xs:List (List Key × Addr × Value)} (r:KT H kvs xs) (k:List Key):z8y (z33 kvs k) ((atKey xs k).map (·.2)):=by
 induction r with
 | nil=>exact True.intro
 | @cons p q ps qs h t ih =>
  obtain ⟨h1,_,h2⟩:=h
  by_cases e:p.1=k
  ·have e':q.1=k:=h1.symm.trans e
   have b:atKey (q::qs) k=some q.2:=by simp [atKey,List.find?_cons,e']
   rw [z2X e,b];exact h2
  ·have e':¬ q.1=k:=fun z=>e (h1.trans z)
   have b:atKey (q::qs) k=atKey qs k:=by simp [atKey,List.find?_cons,e']
   rw [z2t e,b];exact ih
theorem KT.repl {H:Hp} {kvs:List (List Key × V)} {xs:List (List Key × Addr × Value)} (r:KT H kvs xs) (k:List Key) {y:V} {u:Value} (ry:z1g y u) :
  KT H (kvs.map fun kv=>if kv.1=k then (kv.1,y) else kv) (xs.map (putAt k u)):=by
 induction r with
 | nil=>exact .nil
 | @cons p q ps qs h t ih =>
  rw [List.map_cons,List.map_cons]
  refine .cons ?_ ih
  obtain ⟨h1,h2,h3⟩:=h
  unfold putAt
  by_cases e:p.1=k
  ·rw [if_pos e,if_pos (h1.symm.trans e)];exact ⟨h1,h2,ry⟩
  ·rw [if_neg e,if_neg (fun z=>e (h1.trans z))];exact ⟨h1,h2,h3⟩
theorem KT.put {H:Hp} {kvs:List (List Key × V)} {xs:List (List Key × Addr × Value)} (r:KT H kvs xs) (k:List Key) {b:Addr} {y:V} {u:Value} (hb:H b=some (.tup (k.map kV))) (ry:z1g y u) :
  KT H (z1Y kvs k y) (storedH xs k b u):=by
 have e:(kvs.any fun kv=>decide (kv.1=k))=(atKey xs k).isSome:=by
  rw [z3x,(r.val k).isSome_eq,Option.isSome_map]
 unfold z1Y storedH
 rw [e]
 by_cases q:(atKey xs k).isSome=true
 ·rw [if_pos q,if_pos q];exact r.repl k ry
 ·rw [if_neg q,if_neg q];exact Paired.snoc r ⟨rfl,hb,ry⟩
theorem KT.keeps {H H':Hp} {kvs:List (List Key × V)} {xs:List (List Key × Addr × Value)} (r:KT H kvs xs) (ht:∀ b ys,H b=some (.tup ys)→H' b=some (.tup ys)):KT H' kvs xs :=
 Paired.mapP r fun _ _ z=>⟨z.1,ht _ _ z.2.1,z.2.2⟩
section
variable {P:Program} {w:World} {H:Hp} {h:Heap} {a:Addr}
theorem zfk {u:HO} (ok:HOk P w H h) (e:Rd H a u):z1R P w H h a u:=e.ok ok
theorem zaK {kvs:List (Key × V)} (ok:HOk P w H h) (e:Rd H a (.dK kvs)):kvs.length≤sizeLine∧(a == sysModules)=false∧∃ vs,KV kvs vs∧h.DictOf (z1d P w) a vs :=
 show z1R P w H h a (.dK kvs) from zfk ok e
theorem zdN {kvs:List (Key × V)} (ok:HOk P w H h) (e:H a=some (.dK kvs)):kvs.length≤sizeLine∧(a == sysModules)=false∧∃ vs,KV kvs vs∧h.DictOf (z1d P w) a vs:=zaK ok (.inl e)
theorem z7r {ks:List Key} (ok:HOk P w H h) (e:H a=some (.tup (ks.map kV))):(tupleKind (z1d P w)).is h ks a:=by
 obtain ⟨_,its,n,r,h1⟩:=(show z1R P w H h a (.tup (ks.map kV)) from ok a _ e)
 exact ⟨_,its.toArray,n,h1,rfl,rfl,by simpa using z6O r⟩
theorem zby {kvs:List (List Key × V)} (ok:HOk P w H h) (e:Rd H a (.dT kvs)):kvs.length≤sizeLine∧(a == sysModules)=false ∧
  ∃ xs,KT H kvs xs∧h.DictOfH (tupleKind (z1d P w)) a xs:=by
 obtain ⟨z,y,xs,r,o,es,ep,h1,h2,h3,h4,h5⟩:=(show z1R P w H h a (.dT kvs) from zfk ok e)
 refine ⟨z,y,xs,r,o,es,ep,h1,h2,h3,h4,fun x hx=>?_,h5⟩
 have all:∀ {l:List (List Key × V)} {m:List (List Key × Addr × Value)},KT H l m→∀ x∈m,(tupleKind (z1d P w)).is h x.1 x.2.1:=by
  intro l m q
  induction q with
  | nil=>intro x hx;exact nomatch hx
  | @cons p q ps qs hq t ih =>
   intro x hx
   rcases List.mem_cons.mp hx with e | hx
   ·subst e
    exact z7r ok (by rw [←hq.1];exact hq.2.1)
   ·exact ih x hx
 exact all r x hx
theorem zfY {kvs:List (List Key × V)} (ok:HOk P w H h) (e:H a=some (.dT kvs)):kvs.length≤sizeLine∧(a == sysModules)=false ∧
  ∃ xs,KT H kvs xs∧h.DictOfH (tupleKind (z1d P w)) a xs:=zby ok (.inl e)
end
def z3V (H:Hp) (a:Addr) (y:V) (r:Option V):Prop :=
 (∃ kvs k,Rd H a (.dK kvs)∧y=kV k∧r=z33 kvs k)∨∃ kvs k b,Rd H a (.dT kvs)∧y=.ref b∧H b=some (.tup (k.map kV))∧r=z33 kvs k
def zat (H:Hp) (a:Addr) (y v:V) (H':Hp):Prop :=
 (∃ kvs k,H a=some (.dK kvs)∧y=kV k∧kvs.length < sizeLine∧H'=upd H a (.dK (z1Y kvs k v))) ∨
 ∃ kvs k b,H a=some (.dT kvs)∧y=.ref b∧H b=some (.tup (k.map kV))∧kvs.length < sizeLine∧H'=upd H a (.dT (z1Y kvs k v))
theorem z3V.k {H:Hp} {a:Addr} {kvs:List (Key × V)} {k:Key} (e:H a=some (.dK kvs)):z3V H a (kV k) (z33 kvs k):=.inl ⟨kvs,k,.inl e,rfl,rfl⟩
theorem zat.k {H:Hp} {a:Addr} {kvs:List (Key × V)} {k:Key} {v:V} (e:H a=some (.dK kvs)) (hl:kvs.length < sizeLine):zat H a (kV k) v (upd H a (.dK (z1Y kvs k v))):=.inl ⟨kvs,k,e,rfl,hl,rfl⟩
section
variable {X:Cx} {pins:List (Addr × Obj)} {σ:St} {H:Hp} {s:Shared} {a:Addr} {y v:V} {u r:Value} {o:Option V} {A:Around} {E:Value→Shared→Prop}
theorem Inv.big (I:Inv X pins σ H s):sysModules < s.heap.objs.size:=by
 have h:mainGlobals < s.heap.objs.size:=(I.mod.glob.keeps I.bk).lt
 exact Nat.lt_trans (by decide) h
theorem zb2 {Q:Value→Shared→Prop} (hu:A.units+1 < cLine) (I:Inv X pins σ H s) (g:z3V H a y (some v)) (ry:z1g y u) (h:∀ w' s',Inv X pins σ H s'→z1g v w'→Q w' s') :
  wpAny (model X.prog X.w) A (getItem (.ref a) u) Q E s:=by
 rcases g with ⟨kvs,k,e,ey,l⟩ | ⟨kvs,k,b,e,ey,eb,l⟩
 ·subst ey
  obtain ⟨z,hd,vs,rel,dd⟩:=zaK I.hok e
  obtain ⟨w',hw,rw'⟩:=z8y.some_of (v:=v) (o:=valueAt vs k) (by rw [l];exact rel.val k)
  exact wpAny_getItem_of (z7T ry) dd.mapOf hw (h w' _ (I.tok _) rw')
 ·subst ey
  cases (show u=Value.ref b from ry)
  obtain ⟨z,hd,xs,rel,dd⟩:=zby I.hok e
  obtain ⟨w',hw,rw'⟩:=z8y.some_of (v:=v) (o:=(atKey xs k).map (·.2)) (by rw [l];exact rel.val k)
  obtain ⟨p,hp,hp2⟩:=Option.map_eq_some_iff.mp hw
  refine wpAny_getItem_heap (tupleKind_room_in1 hu) (z7r I.hok eb) dd hp ?_
  rw [hp2]
  exact h w' _ (I.tok _) rw'
theorem zh0 {Q:Value→Shared→Prop} (hu:A.units+1 < cLine) (I:Inv X pins σ H s) (g:z3V H a y o) (ry:z1g y u) (h:∀ s',Inv X pins σ H s'→Q (.bool o.isSome) s') :
  wpAny (model X.prog X.w) A (compareOp .In u (.ref a)) Q E s:=by
 rcases g with ⟨kvs,k,e,ey,l⟩ | ⟨kvs,k,b,e,ey,eb,l⟩
 ·subst ey
  obtain ⟨z,hd,vs,rel,dd⟩:=zaK I.hok e
  refine wpAny_in_of (z7T ry) hd dd.mapOf ?_
  rw [←(rel.val k).isSome_eq,←l]
  exact h _ (I.tok _)
 ·subst ey
  cases (show u=Value.ref b from ry)
  obtain ⟨z,hd,xs,rel,dd⟩:=zby I.hok e
  refine wpAny_in_heap (tupleKind_room_in1 hu) (z7r I.hok eb) hd dd ?_
  have q:=(rel.val k).isSome_eq
  rw [Option.isSome_map] at q
  rw [←q,←l]
  exact h _ (I.tok _)
theorem zef {Q:Value→Shared→Prop} (hu:A.units+1 < cLine) (I:Inv X pins σ H s) (g:z3V H a y o) (ry:z1g y u) (h:∀ s',Inv X pins σ H s'→Q (.bool (!o.isSome)) s') :
  wpAny (model X.prog X.w) A (compareOp .NotIn u (.ref a)) Q E s:=by
 rcases g with ⟨kvs,k,e,ey,l⟩ | ⟨kvs,k,b,e,ey,eb,l⟩
 ·subst ey
  obtain ⟨z,hd,vs,rel,dd⟩:=zaK I.hok e
  refine wpAny_notIn_of (z7T ry) hd dd.mapOf ?_
  rw [←(rel.val k).isSome_eq,←l]
  exact h _ (I.tok _)
 ·subst ey
  cases (show u=Value.ref b from ry)
  obtain ⟨z,hd,xs,rel,dd⟩:=zby I.hok e
  refine wpAny_notIn_heap (tupleKind_room_in1 hu) (z7r I.hok eb) hd dd ?_
  have q:=(rel.val k).isSome_eq
  rw [Option.isSome_map] at q
  rw [←q,←l]
  exact h _ (I.tok _)
theorem z4t {h':Heap} {t':Nat} {ob:HO} (I:Inv X pins σ H s) (mu:Mut (H a)) (hs:Heap.SameBut a s.heap h') (he:∃ q,h'.get? a=some q) (new:z1R X.prog X.w (upd H a ob) h' a ob) :
  Inv X pins σ (upd H a ob) { s with heap:=h',toks:=t' } :=
 I.write (x:=a) (e:=a) mu (.inl rfl) (fun b q hb z=>(hs.2 b hb).trans z) he new
theorem zbs {P:Program} {w:World} {H':Hp} {h':Heap} {kvs:List (Key × V)} {vs:List (Key × Value)} (z:kvs.length≤sizeLine) (hd:(a == sysModules)=false) (rel:KV kvs vs) (dd:h'.DictOf (z1d P w) a vs) :
  z1R P w H' h' a (.dK kvs):=⟨z,hd,vs,rel,dd⟩
theorem zb5 {H':Hp} {Q:Unit→Shared→Prop} (hu:A.units+1 < cLine) (I:Inv X pins σ H s) (g:zat H a y v H') (ry:z1g y u) (rv:z1g v r) (h:∀ s',Inv X pins σ H' s'→Q () s') :
  wpAny (model X.prog X.w) A (setItem (.ref a) u r) Q E s:=by
 rcases g with ⟨kvs,k,e,ey,l,eH⟩ | ⟨kvs,k,b,e,ey,eb,l,eH⟩
 ·subst ey eH
  obtain ⟨z,hd,vs,rel,dd⟩:=zdN I.hok e
  have hz:vs.length≤sizeLine:=by rw [←rel.length];exact z
  have hl:(z1Y kvs k v).length≤sizeLine:=by have:=z1T kvs k v;lia
  refine wpAny_setItem_pairs (hsz:=hz) (z7T ry) dd fun h' dd' hs=>h _ ?_
  have he:∃ q,h'.get? a=some q:=let ⟨q,_,_,hq,_⟩:=dd';⟨q,hq⟩
  exact z4t I (by rw [e];exact True.intro) hs he (zbs hl hd (rel.put k rv) dd')
 ·subst ey eH
  cases (show u=Value.ref b from ry)
  obtain ⟨z,hd,xs,rel,dd⟩:=zfY I.hok e
  have hz:xs.length≤sizeLine:=by rw [←Paired.length rel];exact z
  have hl:(z1Y kvs k v).length≤sizeLine:=by have:=z1T kvs k v;lia
  refine wpAny_setItem_heap (hsz:=hz) (tupleKind_room_in1 hu) (z7r I.hok eb) dd fun h' dd' hs=>h _ ?_
  obtain ⟨q,es,ep,hq,h2,h3,h4,_,h5⟩:=dd'
  refine z4t I (by rw [e];exact True.intro) hs ⟨q,hq⟩ ⟨hl,hd,_,(rel.put k eb rv).keeps fun c ys ec=>?_,q,es,ep,hq,h2,h3,h4,h5⟩
  rw [z0a (z42 ec e (fun z=>nomatch z))]
  exact ec
end
section
variable {X:Cx} {pins:List (Addr × Obj)} {σ:St} {H:Hp} {s:Shared} {a:Addr} {kvs:List (Key × V)} {k:Key} {u:Value} {A:Around} {E:Value→Shared→Prop}
end
def zfM (i:Expr):Prop:=∀ ov iv,subscripted i false ov iv=operate [ov,iv] (getItem ov iv)
theorem z9U {prog:Program} {w:World} {A:Around} {E:Value→Shared→Prop} {s:Shared} {env:Env} {value slice:Expr} {pos:Pos} {T id:String} {Q:Value→Shared→Prop}
  (hl:typeLookup (.type T) "__getitem__"=pure (some (.builtin id))) (hs:zfM slice)
  (h:wpAny (model prog w) A (eval value env) (fun o s₁=>wpAny (model prog w) A (eval slice env) (fun i s₂=>s₂.TypeIs o T∧wpAny (model prog w) A (getItem o i) Q E s₂) E s₁) E s) :
  wpAny (model prog w) A (eval (.Subscript value slice pos) env) Q E s:=by
 refine Subscript_ (wpAny_mono h (fun o s₁ h₁=>wpAny_mono h₁ (fun i s₂ h₂=>?_) fun _ _ x=>x) fun _ _ x=>x)
 obtain ⟨hT,h₂⟩:=h₂
 unfold subscriptTail
 refine wpAny_bind ?_
 rw [getitemInPython_of_ne hT.not_modules]
 refine wpAny_bind (wpAny_specialOf hT hl ?_)
 have fin:wpAny (model prog w) A (subscripted slice false o i) (fun r s₃=>wpAny (model prog w) A (letTemporaryGo value o r >>= fun _=>pure r) Q E s₃) E s₂:=by
  rw [hs o i]
  exact wpAny_operating (wpAny_mono h₂ (fun r s₃ h₃=>wpAny_bind (wpAny_letTemporaryGo (wpAny_pure h₃))) fun _ _ x=>x)
 first
  | exact wpAny_pure (wpAny_bind fin)
  | exact wpAny_bind (wpAny_pure (wpAny_bind fin))
  | exact wpAny_bind fin
theorem z8f {X:Cx} {pins:List (Addr × Obj)} {σ:St} {H:Hp} {s:Shared} {a:Addr} {y:V} {o:Option V} (I:Inv X pins σ H s) (g:z3V H a y o):s.TypeIs (.ref a) "dict":=by
 rcases g with ⟨kvs,k,e,_,_⟩ | ⟨kvs,k,b,e,_,_,_⟩
 ·obtain ⟨_,_,vs,_,dd⟩:=zaK I.hok e
  exact dd.typeIs
 ·obtain ⟨_,_,xs,_,dd⟩:=zby I.hok e
  exact dd.typeIs
def zfZ (td ty:TE):TE:=fun σ H Q=>td σ H fun x H1=>ty σ H1 fun y H2=>∃ a v,x=.ref a∧z3V H2 a y (some v)∧Q v H2
def zhm (ty td:TE):TE:=fun σ H Q=>ty σ H fun y H1=>td σ H1 fun x H2=>∃ a o,x=.ref a∧z3V H2 a y o∧Q (.bl o.isSome) H2
def zdO (ty td:TE):TE:=fun σ H Q=>ty σ H fun y H1=>td σ H1 fun x H2=>∃ a o,x=.ref a∧z3V H2 a y o∧Q (.bl (!o.isSome)) H2
def zge (td ty tv:TE):TS:=fun D σ H=>tv σ H fun v H1=>td σ H1 fun x H2=>ty σ H2 fun y H3=>∃ a H4,x=.ref a∧zat H3 a y v H4∧D.nx σ H4
section
variable {X:Cx} {o i e value:Expr} {pos pos' tpos:Pos} {td ty tv:TE}
theorem z2P (hu:X.A.units+1 < cLine) (ho:PE X o td) (hi:PE X i ty) (hs:zfM i):PE X (.Subscript o i pos) (zfZ td ty):=by
 intro pins s σ H Q I h
 refine z9U PySem.F.slot_dict_getitem.lookup hs (z1I (ho pins s σ H _ I h) fun u s1 x H1 I1 rx q1=>z1I (hi pins s1 σ H1 _ I1 q1) fun iv s2 y H2 I2 ry hz9=>?_)
 obtain ⟨a,v,ex,g,q2⟩:=hz9
 subst ex
 obtain rfl:u=Value.ref a:=rx
 exact ⟨z8f I2 g,zb2 hu I2 g ry fun w' s3 I3 rw'=>⟨v,H2,I3,rw',q2⟩⟩
theorem zf6 (hu:X.A.units+1 < cLine) (hi:PE X i ty) (ho:PE X o td):PC X .In i o (zhm ty td):=by
 intro pins s σ H Q I h
 refine z1I (hi pins s σ H _ I h) fun iv s1 y H1 I1 ry q1=>z1I (ho pins s1 σ H1 _ I1 q1) fun u s2 x H2 I2 rx hz9=>?_
 obtain ⟨a,ov,ex,g,q2⟩:=hz9
 subst ex
 obtain rfl:u=Value.ref a:=rx
 exact zh0 hu I2 g ry fun s3 I3=>⟨.bl ov.isSome,H2,I3,rfl,q2⟩
theorem z2R (hu:X.A.units+1 < cLine) (hi:PE X i ty) (ho:PE X o td):PC X .NotIn i o (zdO ty td):=by
 intro pins s σ H Q I h
 refine z1I (hi pins s σ H _ I h) fun iv s1 y H1 I1 ry q1=>z1I (ho pins s1 σ H1 _ I1 q1) fun u s2 x H2 I2 rx hz9=>?_
 obtain ⟨a,ov,ex,g,q2⟩:=hz9
 subst ex
 obtain rfl:u=Value.ref a:=rx
 exact zef hu I2 g ry fun s3 I3=>⟨.bl (!ov.isSome),H2,I3,rfl,q2⟩
theorem z3a (hu:X.A.units+1 < cLine) (ho:PE X o td) (hi:PE X i ty) (hv:PE X value tv) (hs:swapsWith value (some (.Subscript o i pos')) pos.line X.env=pure false) :
  PS X (.Assign [.Subscript o i pos'] value pos) (zge td ty tv):=by
 intro pins s σ H D I h
 refine wpAny_Assign_Subscript (z1I (hv pins s σ H _ I h) fun r s1 v H1 I1 rv q1=>z1I (ho pins s1 σ H1 _ I1 q1) fun u s2 x H2 I2 rx q2=>z1I (hi pins s2 σ H2 _ I2 q2) fun iv s3 y H3 I3 ry hz9=>?_) hs
 obtain ⟨a,H4,ex,g,q3⟩:=hz9
 subst ex
 obtain rfl:u=Value.ref a:=rx
 exact zb5 hu I3 g ry rv fun s4 I4=>⟨σ,H4,I4,q3⟩
end
theorem z6B {P:Program} {w:World} {H:Hp} (h:Heap) (hb:sysModules < h.objs.size):z1R P w H (h.push { cls:=.type "dict",data:=.dict #[] }) h.objs.size (.dK []) :=
 ⟨Nat.zero_le _,beq_eq_false_iff_ne.mpr (Ne.symm (Nat.ne_of_lt hb)),[],.nil,Heap.DictOf.new h⟩
def zf0:TE:=fun _ H Q=>∀ p,H p=none→Q (.ref p) (upd H p (.dK []))
section
variable {X:Cx} {pos:Pos}
theorem z4f:PE X (.Dict [] [] pos) zf0:=fun pins s σ H Q I h =>
 wpAny_Dict_empty ⟨.ref s.heap.objs.size,_,I.laid (a:=s.heap.objs.size) (o:=.dK []) (t':=s.toks) (fun _ _ q=>Heap.get?_push_of_some _ q) (Nat.le_refl _) (z6B s.heap I.big),rfl,h _ (I.hok.fresh (Nat.le_refl _))⟩
end
def zaq:List (TE × TE)→St→Hp→(List (V × V)→Hp→Prop)→Prop
 | [],_,H,Q=>Q [] H
 | (tk,tv)::r,σ,H,Q=>tk σ H fun x H1=>tv σ H1 fun y H2=>zaq r σ H2 fun ps H3=>Q ((x,y)::ps) H3
abbrev VV:List (V × V)→List (Value × Value)→Prop:=Paired fun p q=>z1g p.1 q.1∧z1g p.2 q.2
def PPs (X:Cx) (pos:Pos) (keys:List (Option Expr)) (values:List Expr) (trs:List (TE × TE)):Prop :=
 ∀ (pins:List (Addr × Obj)) (s:Shared) (σ:St) (H:Hp) (Q:List (V × V)→Hp→Prop),Inv X pins σ H s→zaq trs σ H Q →
  wpAny (model X.prog X.w) X.A (evalPairs (pairTrees keys values X.env pos)) (fun vs s'=>∃ ps H',Inv X pins σ H' s'∧VV ps vs∧Q ps H') X.xe s
theorem za9 {X:Cx} {pos:Pos}:PPs X pos [] [] []:=fun pins s σ H Q I h=>pairTrees_nil_walk ⟨[],H,I,.nil,h⟩
theorem z97 {X:Cx} {pos:Pos} {k v:Expr} {ks:List (Option Expr)} {vs:List Expr} {tk tv:TE} {trs:List (TE × TE)} (hk:PE X k tk) (hv:PE X v tv) (hr:PPs X pos ks vs trs) :
  PPs X pos (some k::ks) (v::vs) ((tk,tv)::trs):=fun pins s σ H Q I h =>
 pairTrees_cons_walk (thn (hk pins s σ H _ I h) fun u s1 ⟨x,H1,I1,rx,q1⟩=>thn (hv pins s1 σ H1 _ I1 q1) fun w2 s2 ⟨y,H2,I2,ry,q2⟩ =>
  thn (hr pins s2 σ H2 _ I2 q2) fun ws s3 ⟨ps,H3,I3,rel,q3⟩=>⟨(x,y)::ps,H3,I3,.cons ⟨rx,ry⟩ rel,q3⟩)
def z40 (kvs more:List (Key × V)):List (Key × V):=more.foldl (fun acc kv=>z1Y acc kv.1 kv.2) kvs
theorem KV.merge:∀ {more:List (Key × V)} {rs:List (Key × Value)} {kvs:List (Key × V)} {vs:List (Key × Value)},KV more rs→KV kvs vs→KV (z40 kvs more) (merged vs rs):=by
 intro more rs kvs vs r
 unfold KV at r
 induction r generalizing kvs vs with
 | nil=>intro q;exact q
 | @cons p q ps qs h t ih =>
  intro r0
  have e:KV (z1Y kvs p.1 p.2) (stored vs q.1 q.2):=by
   have:=r0.put p.1 h.2
   rw [←h.1];exact this
  exact ih e
theorem z3z:∀ (more kvs:List (Key × V)),(z40 kvs more).length≤kvs.length+more.length
 | [],kvs=>by show kvs.length≤kvs.length+0;lia
 | p::r,kvs=>by
  have h1:=z3z r (z1Y kvs p.1 p.2)
  have h2:=z1T kvs p.1 p.2
  show (z40 (z1Y kvs p.1 p.2) r).length≤_
  rw [List.length_cons];lia
theorem z5L {P:Program} {w:World}:∀ {kvs:List (Key × V)} {ws:List (Value × Value)},VV (kvs.map fun kv=>(kV kv.1,kv.2)) ws→∃ rs,Carries (z1d P w) ws rs∧KV kvs rs
 | [],_,r=>by rw [List.map_nil] at r;cases r;exact ⟨[],True.intro,.nil⟩
 | p::kvs,_,r=>by
  rw [List.map_cons] at r
  cases r with
  | @cons a b as bs h t =>
   obtain ⟨rs,c,q⟩:=z5L (P:=P) (w:=w) t
   obtain ⟨b1,b2⟩:=b
   exact ⟨(p.1,b2)::rs,⟨z7T h.1,rfl,c⟩,.cons ⟨rfl,h.2⟩ q⟩
def zfU (trs:List (TE × TE)):TE:=fun σ H Q=>∀ p,H p=none→zaq trs σ (upd H p (.dK [])) fun ps H2=>H2 p=some (.dK [])∧∃ kvs:List (Key × V),ps=kvs.map (fun kv=>(kV kv.1,kv.2))∧kvs.length≤15∧Q (.ref p) (upd H2 p (.dK (z40 [] kvs)))
theorem zas {X:Cx} {pos:Pos} {keys:List (Option Expr)} {values:List Expr} {trs:List (TE × TE)} (h:PPs X pos keys values trs) (hall:keys.all (·.isSome)=true) (hl:keys.length=values.length) (h0:keys≠[])
  (h15:keys.length≤15):PE X (.Dict keys values pos) (zfU trs):=by
 intro pins s σ H Q I q
 have hn:=I.hok.fresh (Nat.le_refl s.heap.objs.size)
 have I1:=I.laid (a:=s.heap.objs.size) (o:=.dK []) (h':=s.heap.push { cls:=.type "dict",data:=.dict #[] }) (t':=s.toks) (fun _ _ q=>Heap.get?_push_of_some _ q) (Nat.le_refl _) (z6B s.heap I.big)
 refine wpAny_Dict_walk (knd:=z1d X.prog X.w) hall hl h0 h15 (thn (h pins _ σ _ _ I1 (q _ hn)) fun ws s2 hz8=>?_)
 obtain ⟨ps,H2,I2,rel,e,kvs,ep,lk,q2⟩:=hz8
 subst ep
 obtain ⟨rs,c,rk⟩:=z5L (P:=X.prog) (w:=X.w) rel
 obtain ⟨z,hd,vs0,r0,dd⟩:=zdN I2.hok e
 cases r0
 refine ⟨rs,c,dd,fun h' dd' hs=>⟨.ref s.heap.objs.size,_,?_,rfl,q2⟩⟩
 have hz:(z40 [] kvs).length≤sizeLine:=by
  have h1:=z3z kvs []
  rw [List.length_nil] at h1
  rw [sizeLine_eq];lia
 have he:∃ q,h'.get? s.heap.objs.size=some q:=let ⟨q,_,_,hq,_⟩:=dd';⟨q,hq⟩
 exact z4t I2 (by rw [e];exact True.intro) hs he (zbs hz hd (rk.merge .nil) dd')
structure M2 (X:Cx) (o:Expr) (m:Str) (apos:Pos) (e f:Expr) (cpos:Pos):Prop where
 base:attributeBase o m X.env (eval o X.env)=eval o X.env
 few:((backTo cpos (starEach [e,f] X.env)).all (fun x=>!x.1) && (backToKw cpos (keywordEach [] X.env)).all (fun x=>x.1.isSome)
  && decide (([e,f]:List Expr).length+([]:List Keyword).length+(if ([]:List Keyword).isEmpty then 0 else 1) < 30))=true
 line:(apos.endLine == cpos.line)=true
 trees:backTo cpos (starEach [e,f] X.env)=[(false,eval e X.env),(false,eval f X.env)]
section
variable {X:Cx} {pins:List (Addr × Obj)} {σ:St} {H:Hp} {s:Shared} {a:Addr} {y d:V} {u r:Value} {o:Option V} {A:Around} {E:Value→Shared→Prop}
end
section
variable {X:Cx} {o e f:Expr} {apos cpos:Pos} {td ty tx:TE}
end
section
variable {X:Cx} {pins:List (Addr × Obj)} {σ:St} {H:Hp} {s:Shared} {a:Addr} {kvs:List (Key × V)} {A:Around} {E:Value→Shared→Prop}
end
section
variable {X:Cx} {pins:List (Addr × Obj)} {σ:St} {H:Hp} {s:Shared} {a:Addr} {y:V} {u:Value} {A:Around} {E:Value→Shared→Prop}
end
end L2
namespace Att
open PySem PySem.W PySem.Calls PyProof.Rows
theorem z4A {P:Params} {h:Heap}:∀ (ns:List Int) (vs:List Value),WellAll P h vs (ns.map WData.int)→IntsAre vs ns:=by
 intro ns
 induction ns with
 | nil =>
  intro vs w
  rw [List.map_nil] at w
  cases w
  exact .nil
 | cons n ns ih =>
  intro vs w
  rw [List.map_cons] at w
  cases w with
  | cons a b =>
   cases a
   exact .cons _ _ (ih _ b)
theorem zaa {l:OpenLaw} {n:Nat} (hn:l.most=some n) {P:Params} {h:Heap} {args:List WData} {vals:List Value}
  (hpre:l.row.toRowW.claim.pre args=true) (hwl:WellAll P h vals args) :
  ∃ a vs ns,vals=[Value.ref a]∧args=[WData.list (ns.map WData.int)]∧h.get? a=some { cls:=.type "list",data:=.seq vs.toArray }∧IntsAre vs ns∧ns.length≤n:=by
 have hsh:WShape.hasAll [] args [.list .int]=true:=(pre_splitW hpre).1
 have hc:l.pre.holds [] { args:=args }=true:=(pre_splitW hpre).2
 obtain ⟨d,r,rfl,h1,h2⟩:=hasAllW_cons hsh
 obtain rfl:=hasAllW_nil h2
 obtain ⟨xs,rfl,h3⟩:=hasW_list h1
 obtain ⟨ns,rfl⟩:=items_int h3
 have hlen:ns.length≤n:=by
  unfold OpenLaw.pre at hc
  have h4:(WTm.not (.lt (.lit (.int (n:Int))) (.len (.arg 0)))).holds [] { args:=[.list (ns.map .int)] }=true:=by
   have h4:=(holds_andW hc).1
   rw [hn] at h4
   exact h4
  have h5:=condW_of h4 (w_not (w_lt w_lit (w_len_list (w_arg rfl))))
  rw [List.length_map] at h5
  refine Nat.le_of_not_lt fun q=>?_
  have q':(n:Int) < ((ns.length:Nat):Int):=by lia
  first
   | (rw [decide_eq_true q'] at h5;exact absurd h5 (by decide))
   | (simp at h5;lia)
 cases hwl with
 | cons w1 w2 =>
  cases w2
  cases w1 with
  | list ho hall=>exact ⟨_,_,ns,rfl,rfl,ho,z4A ns _ hall,hlen⟩
theorem zaZ (l:OpenLaw) (args:List WData):l.row.toRowW.claim.post args (.bool true) args=true :=
 postW_of (r:=l.row.toRowW) (X:=(true == true))
  (show WShape.has [] (.bool true) .bool=true by first | rfl | decide | simp [WShape.has,WShape.arms,WShape.armsAll])
  (show (WTm.eq .res (.lit (.bool true))).value [] { args:=args,res:=some (.bool true),after:=args }=some (.bool (true == true)) from w_eq_bool (w_res rfl) w_lit) rfl
theorem attach_call {l:OpenLaw} {n:Nat} {q:Program} {loose:List Str} {XP:(Str→Option Value)→Heap→Prop} {YP:World→Heap→Prop} {d:DefRec}
  (hn:l.most=some n) (hdf:d.params.defaults=[])
  (call:∀ (w:World) (s₀ s₁:Shared) (mg mb:Str→Option Value) (fa:Addr) (o:Obj) (pm cd doc:Value) (a:Addr) (vs:List Value) (ns:List Int),
   Ground q loose [] XP w s₀ mg mb s₁.heap→YP w s₁.heap →
   s₁.heap.get? fa=some o→o.data=.func (docDef d.name d.params d.body d.scope pm cd doc)→s₁.heap.CodeRec cd d.name→mg d.name=some (.ref fa) →
   s₁.heap.get? a=some { cls:=.type "list",data:=.seq vs.toArray }→IntsAre vs ns→ns.length≤n→s₁.gens=#[] →
   codeAny (model l.prog w) callerA (.call (.ref fa) ⟨[.ref a],[]⟩) (fun r s'=>r=.ok (.ret (.bool true))∧OldK s₁.heap s'.heap∧s'.os=s₁.os∧AllBare s'.gens) s₁) :
  WalkO q loose XP YP l.row.toRowW d [] (fun f vs=>PySem.call f vs):=by
 intro w s₀ s₁ mg mb G Y fa o pm cd doc dV kV ho hd hcd hD hmg hg args vals as hpre hlay hrd hwl hlo
 obtain rfl:dV=.none:=Dflts.none hD hdf
 obtain rfl:kV=.none:=Dflts.noKw hD
 obtain ⟨a,vs,ns,rfl,rfl,hobj,hints,hlen⟩:=zaa hn hpre hwl
 refine enter_call (codeAny_mono (call w s₀ s₁ mg mb fa o pm cd doc a vs ns G Y ho (fd_plain hd) hcd hmg hobj hints hlen hg) fun r s' hq=>?_)
 obtain ⟨rfl,h2,h3,h4⟩:=hq
 exact ⟨.inl ⟨.bool true,.bool true,[],rfl,fun _=>rfl,.bool true,zaZ l _,fun _=>⟨List.Pairwise.nil,fun _ hm=>(nomatch hm)⟩⟩,h2,h3,h4⟩
section
variable {prog:Program} {w:World} {A:Around} {E:Value→Shared→Prop} {s:Shared} {K:Frag}
def zgK (h:Heap) (L d:Addr):List (Addr × Obj):=(List.range h.objs.size).filterMap fun a=>if a=L∨a=d then none else (h.get? a).map fun o=>(a,o)
end
end Att
namespace L2
open PySem PySem.Spec PyProof.Rows
theorem z6L:∀ {vs:List Value} {ns:List Int},IntsAre vs ns→z1e (ns.map V.int) vs
 | _,_,.nil=>.nil
 | _,_,.cons n t h=>.cons ⟨t,rfl⟩ (z6L h)
def z1V (s:Stmt):Arguments:=match s with
 | .FunctionDef _ a _ _ _ _ _ _ _ _=>a
 | _=>{ posonlyargs:=[],args:=[],vararg:=none,kwonlyargs:=[],kw_defaults:=[],kwarg:=none,defaults:=[] }
def z1k (s:Stmt):List Stmt:=match s with
 | .FunctionDef _ _ b _ _ _ _ _ _ _=>b
 | _=>[]
def z06 (s:Stmt):Scope:=match s with
 | .FunctionDef _ _ _ _ _ _ sc _ _ _=>sc
 | _=>{ kind:=.function,names:=[],isGenerator:=false,isCoroutine:=false }
abbrev E0:XK:=fun _ _ _=>False
structure Fun (K:PySem.W.Frag) (x qual:Str) (st:Stmt) (f:Addr) (fd:FuncData):Prop where
 ex:∃ (oc:Value) (od:Option Addr) (kV doc pm:Value) (an:Option Addr) (cdv ct:Value) (osl:Array (Option Value)),
  fd=PySem.W.fnOf x qual (z1V st) (z1k st) (z06 st) .none kV doc pm an cdv ct∧K.lookup f=some ⟨oc,od,.func fd,osl⟩∧PySem.W.codeIn K cdv qual=true
 kp:PySem.W.keepIn K (.ref f)=true
section
variable {P:Program} {w:World} {K:PySem.W.Frag} {mg:Str→Option Value} {base:Heap}
theorem Fun.binds {x qual:Str} {st:Stmt} {f:Addr} {fd:FuncData} {ps:List Str} (F:Fun K x qual st f fd)
  (h:∀ (kV doc pm:Value) (an:Option Addr) (cdv ct:Value) (us:List Value),us.length=ps.length→bindArgs (PySem.W.fnOf x qual (z1V st) (z1k st) (z06 st) .none kV doc pm an cdv ct) ⟨us,[]⟩=pure (ps.zip us)):z0l K fd ps []:=by
 obtain ⟨oc,od,kV,doc,pm,an,cdv,ct,osl,rfl,lk,hcd⟩:=F.ex
 exact .all (h kV doc pm an cdv ct)
theorem zaN {x qual:Str} {st:Stmt} {f:Addr} {oc:Value} {od an:Option Addr} {osl:Array (Option Value)} {kV doc pm cdv ct:Value} (l:K.lookup f=some ⟨oc,od,.func (PySem.W.fnOf x qual (z1V st) (z1k st) (z06 st) .none kV doc pm an cdv ct),osl⟩)
  (c:PySem.W.codeIn K cdv qual=true) (k:PySem.W.keepIn K (.ref f)=true):Fun K x qual st f (PySem.W.fnOf x qual (z1V st) (z1k st) (z06 st) .none kV doc pm an cdv ct):=⟨⟨oc,od,kV,doc,pm,an,cdv,ct,osl,rfl,l,c⟩,k⟩
end
theorem z9w {A:Around} {k:Nat} (hr:z3C k A):A.units+1 < cLine:=Nat.lt_of_le_of_lt (Nat.add_le_add_left (by decide:1≤64) _) hr.units
theorem z2F {n:Nat} (h:n≤1000):n < sizeLine:=Nat.lt_of_le_of_lt h (by decide)
section
variable {X:Cx}
theorem pv (i:Nat) {x:Str} {pos:Pos} (hN:X.N[i]?=some x:=by rfl) (hv:Vis X.env.scope x:=by first | exact Or.inl rfl | exact Or.inr (Or.inl rfl) | exact Or.inr (Or.inr rfl)) (hd:(x == ("__debug__":Str))=false:=by decide)
  (hcd:(x == ("__classdict__":Str))=false:=by decide):PE X (.Name x pos) (zfK i):=zdh hN hv hd hcd
end
theorem z6I {A B:Prop} (h:B):if false=true then A else B:=by
 rw [if_neg Bool.false_ne_true]
 exact h
theorem zbF {A B:Prop} (h:A):if true=true then A else B:=by
 rw [if_pos rfl]
 exact h
theorem z2D {c A B:Prop} [Decidable c] (h1:c→A) (h2:¬ c→B):if c then A else B:=by
 by_cases h:c
 ·rw [if_pos h]
  exact h1 h
 ·rw [if_neg h]
  exact h2 h
def z0h (H H':Hp):Prop:=∀ b o,H b=some o→H' b=some o
theorem z0h.refl (H:Hp):z0h H H:=fun _ _ h=>h
theorem z0h.trans {H H1 H2:Hp} (a:z0h H H1) (b:z0h H1 H2):z0h H H2:=fun c o h=>b c o (a c o h)
theorem z0h.free {H H':Hp} (e:z0h H H') {l:Addr} (h:H' l=Option.none):H l=Option.none:=by
 cases q:H l with
 | none=>rfl
 | some o =>
  rw [e l o q] at h
  cases h
theorem z0h.seq {K:PySem.W.Frag} {H H':Hp} {a:Addr} {xs:List V} (e:z0h H H') (h:SqL K H a xs):SqL K H' a xs:=by
 rcases h with (h | ⟨o,h⟩) | h
 ·exact .inl (.inl (e _ _ h))
 ·exact .inl (.inr ⟨o,e _ _ h⟩)
 ·exact .inr h
section
variable {κ:Type} [DecidableEq κ]
theorem za2:∀ {l:List κ} {k:κ},l.Nodup→¬ k∈l→(l++[k]).Nodup
 | [],k,_,_=>by simp
 | a::r,k,h,hk=>by
  obtain ⟨h1,h2⟩:=List.nodup_cons.mp h
  show (a::(r++[k])).Nodup
  refine List.nodup_cons.mpr ⟨fun m=>?_,za2 h2 fun m=>hk (List.mem_cons.mpr (Or.inr m))⟩
  rcases List.mem_append.mp m with q | q
  ·exact h1 q
  ·exact hk (List.mem_cons.mpr (Or.inl (List.mem_singleton.mp q).symm))
end
end L2
namespace Gu
open PySem L2
def top (i:Nat):Stmt:=PySem.Challenge.pw_guisery_k35_whole_depths.main.body.getD i (.Pass ⟨0,0,0,0⟩)
abbrev zbT:Stmt:=top 6
abbrev z8L:Stmt:=top 9
abbrev z4c:Stmt:=top 10
abbrev z5i:Stmt:=top 11
abbrev z9b:Stmt:=top 12
abbrev z90:Stmt:=top 13
abbrev z9Y:Stmt:=top 14
abbrev z5q:Stmt:=top 15
abbrev zaF:Stmt:=top 16
abbrev z2m:Stmt:=top 17
abbrev z4U:Stmt:=top 19
abbrev z47:Stmt:=top 20
abbrev zcl:Stmt:=top 21
abbrev z6b:Stmt:=top 22
abbrev z6u:Stmt:=top 23
abbrev z63:Stmt:=top 24
abbrev z3s:Stmt:=top 25
abbrev z5Q:Stmt:=top 27
abbrev z3o:Stmt:=top 29
abbrev z4L:Stmt:=top 30
abbrev z6p:Stmt:=top 31
abbrev z7h:Stmt:=top 32
abbrev z49:Stmt:=top 33
abbrev zcS:Stmt:=top 35
abbrev z8P:Stmt:=top 36
abbrev z4u:Stmt:=top 37
abbrev z48:Stmt:=top 39
abbrev zc2:Stmt:=top 40
abbrev z4X:Stmt:=top 41
abbrev z3O:Stmt:=top 42
abbrev zck:Stmt:=top 43
abbrev z4m:Stmt:=top 44
abbrev z7M:Stmt:=top 45
abbrev z8v:Stmt:=top 46
abbrev z4p:Stmt:=top 47
abbrev z78:Stmt:=top 48
abbrev zb9:Stmt:=top 49
abbrev z9S:Stmt:=top 50
def kE (P:Params) (x:Str) (t:Tok) (v:Value):DictEntry:={ hash:=PyData.keyHash P x,key:=Value.str x t,val:=v }
def kF (s:Stmt) (x:Str) (kV dc pm:Value) (an:Option Addr) (cd ct:Value):Obj:=⟨.type "function",none,.func (PySem.W.fnOf x x (z1V s) (z1k s) (z06 s) .none kV dc pm an cd ct),#[]⟩
abbrev vN:Value:=.none
abbrev vR (a:Addr):Value:=.ref a
def kR (P:Params) (x:Str) (t:Tok) (a:Addr):DictEntry:=kE P x t (.ref a)
def kG (s:Stmt) (x m:Str) (t:Tok) (c:Addr):Obj:=kF s x .none .none (.str m t) none (.ref c) .none
def kC (x:Str) (a b c d:Tok) (vs:Array Value):Obj:={ cls:=.type "code",data:=.fields (#[Value.str x a,Value.str x b,Value.str "/claim/cut.py" c]++vs++#[Value.str "/claim/cut.py" d]) }
def kD (x:Str) (a b c d:Tok) (ln ar:Int) (A:Addr) (fl:Int) (B:Addr) (X Y Z:Value) (u:Int):Obj:=kC x a b c d #[.int ln 0,.int ar 0,.int 0 0,.int 0 0,.int 3 0,.ref A,.bool true,.int fl 0,.ref B,.none,X,Y,Z,.int u 0,.int ln 0]
def KH (P:Params):PySem.W.Frag:=(nat_lit 2,{ cls:=Value.none,data:=Data.dict #[] }) ::
 (nat_lit 3,{ cls:=Value.type "dict",data:=Data.dict #[kE P "__name__" 165 (Value.str "law_guisery_k35_whole_depths" 496),kE P "__doc__" 166 (Value.none),kE P "__package__" 167 (Value.none),kE P "__loader__" 168 (Value.builtin "__main__.__loader__#opaque"),kE P "__spec__" 169 (Value.none),kR P "__annotations__" 170 6,kR P "__builtins__" 171 4,kE P "__file__" 173 (Value.str "/claim/cut.py" 172),kE P "__cached__" 174 (Value.none),kR P "GuiseError" 206 24,kR P "BadWord" 222 37,kR P "BadCount" 238 49,kR P "TooMany" 254 61,kR P "same_letters" 263 70,kE P "MOST_FORM_ROWS" 267 (Value.int 60 266),kR P "still" 274 77,kR P "breadth" 283 84,kR P "section_at" 292 91,kR P "read_from" 306 98,kR P "least_form" 320 105,kR P "rows_come_to" 326 110,kR P "kinds_of_rows" 332 115,kR P "kinds_gone_to" 338 120,kR P "numbered" 344 125,kR P "check_word" 352 130,kR P "check_endless" 362 137,kR P "check_ring" 369 144,kR P "plain_word" 380 151,kR P "least_ring" 388 158,kR P "count_ringed" 397 165,kR P "letter_at" 407 172,kR P "behind" 419 179,kR P "lasting" 427 184,kR P "comes_again" 433 189,kR P "gone_to" 446 196,kR P "depth" 452 201,kR P "is_still" 461 208,kR P "worn" 473 215,kR P "worn_endless" 489 222,kR P "strung" 495 227,kR P "_law_numbers" 508 234,kR P "_law_rearranged" 520 241,kR P "_law_in_line" 526 246,kR P "_law_shrunk" 532 251,kR P "_law_cell" 540 258,kR P "_law_letters" 548 265,kR P "_law_rows" 554 270,kR P "_law_guise" 562 277,kR P "_law_coming" 568 282,kR P "_law_word" 574 287,kR P "_law_down" 580 292,kR P "law" 586 297] 52 }) ::
 (nat_lit 23,{ cls:=Value.type "dict",data:=Data.dict #[kE P "__module__" 196 (Value.str "guisery.errors" 187),kE P "__firstlineno__" 200 (Value.int 2 199),kR P "__static_attributes__" 201 22,kR P "__weakref__" 203 25,kE P "__doc__" 204 (Value.none)] 3 }) ::
 (nat_lit 24,{ cls:=Value.type "type",data:=Data.cls { name:="GuiseError",bases:=[Value.type "ValueError"],mro:=[Value.ref 24,Value.type "ValueError",Value.type "Exception",Value.type "BaseException",Value.type "object"],ns:=23,qualname:="GuiseError",subclasses:=[Value.ref 37,Value.ref 49,Value.ref 61] },slots:=#[some (Value.ref 15),none,some (Value.str "GuiseError" 189),some (Value.str "GuiseError" 197),some (Value.builtin "ValueError.__new__"),some (Value.bool true)] }) ::
 (nat_lit 25,{ cls:=Value.type "getset_descriptor",data:=Data.fields #[Value.str "__weakref__" 202,Value.ref 24,Value.builtin "ExceptionGroup.__weakref__",Value.none] }) ::
 (nat_lit 36,{ cls:=Value.type "dict",data:=Data.dict #[kE P "__module__" 214 (Value.str "guisery.errors" 187),kE P "__firstlineno__" 218 (Value.int 4 217),kR P "__static_attributes__" 219 35,kE P "__doc__" 220 (Value.none)] 2 }) ::
 (nat_lit 37,{ cls:=Value.type "type",data:=Data.cls { name:="BadWord",bases:=[Value.ref 24],mro:=[Value.ref 37,Value.ref 24,Value.type "ValueError",Value.type "Exception",Value.type "BaseException",Value.type "object"],ns:=36,qualname:="BadWord" },slots:=#[some (Value.ref 28),none,some (Value.str "BadWord" 207),some (Value.str "BadWord" 215),some (Value.builtin "ValueError.__new__"),some (Value.bool true)] }) ::
 (nat_lit 48,{ cls:=Value.type "dict",data:=Data.dict #[kE P "__module__" 230 (Value.str "guisery.errors" 187),kE P "__firstlineno__" 234 (Value.int 6 233),kR P "__static_attributes__" 235 47,kE P "__doc__" 236 (Value.none)] 2 }) ::
 (nat_lit 49,{ cls:=Value.type "type",data:=Data.cls { name:="BadCount",bases:=[Value.ref 24],mro:=[Value.ref 49,Value.ref 24,Value.type "ValueError",Value.type "Exception",Value.type "BaseException",Value.type "object"],ns:=48,qualname:="BadCount" },slots:=#[some (Value.ref 40),none,some (Value.str "BadCount" 223),some (Value.str "BadCount" 231),some (Value.builtin "ValueError.__new__"),some (Value.bool true)] }) ::
 (nat_lit 60,{ cls:=Value.type "dict",data:=Data.dict #[kE P "__module__" 246 (Value.str "guisery.errors" 187),kE P "__firstlineno__" 250 (Value.int 8 249),kR P "__static_attributes__" 251 59,kE P "__doc__" 252 (Value.none)] 2 }) ::
 (nat_lit 61,{ cls:=Value.type "type",data:=Data.cls { name:="TooMany",bases:=[Value.ref 24],mro:=[Value.ref 61,Value.ref 24,Value.type "ValueError",Value.type "Exception",Value.type "BaseException",Value.type "object"],ns:=60,qualname:="TooMany" },slots:=#[some (Value.ref 52),none,some (Value.str "TooMany" 239),some (Value.str "TooMany" 247),some (Value.builtin "ValueError.__new__"),some (Value.bool true)] }) ::
 (nat_lit 69,kD "same_letters" 257 258 259 262 11 1 64 181 65 (vR 66) (vR 67) (vR 68) 261) ::
 (nat_lit 70,kG zbT "same_letters" "guisery.letters" 255 69) ::
 (nat_lit 76,kD "still" 268 269 270 273 15 1 71 181 72 (vR 73) (vR 74) (vR 75) 272) ::
 (nat_lit 77,kG z8L "still" "guisery.machines" 264 76) ::
 (nat_lit 83,kD "breadth" 275 276 277 282 17 1 78 181 79 (vR 80) (vR 81) (vR 82) 281) ::
 (nat_lit 84,kG z4c "breadth" "guisery.machines" 264 83) ::
 (nat_lit 90,kD "section_at" 284 285 286 291 20 2 85 181 86 (vR 87) (vR 88) (vR 89) 290) ::
 (nat_lit 91,kG z5i "section_at" "guisery.machines" 264 90) ::
 (nat_lit 97,kD "read_from" 293 294 295 305 22 3 92 181 93 (vR 94) (vR 95) (vR 96) 304) ::
 (nat_lit 98,kG z9b "read_from" "guisery.machines" 264 97) ::
 (nat_lit 104,kD "least_form" 307 308 309 319 30 2 99 181 100 (vR 101) (vR 102) (vR 103) 318) ::
 (nat_lit 105,kG z90 "least_form" "guisery.machines" 264 104) ::
 (nat_lit 109,kD "rows_come_to" 321 322 323 325 38 2 106 181 107 vN vN (vR 108) 324) ::
 (nat_lit 110,kG z9Y "rows_come_to" "guisery.machines" 264 109) ::
 (nat_lit 114,kD "kinds_of_rows" 327 328 329 331 50 1 111 181 112 vN vN (vR 113) 330) ::
 (nat_lit 115,kG z5q "kinds_of_rows" "guisery.machines" 264 114) ::
 (nat_lit 119,kD "kinds_gone_to" 333 334 335 337 59 2 116 181 117 vN vN (vR 118) 336) ::
 (nat_lit 120,kG zaF "kinds_gone_to" "guisery.machines" 264 119) ::
 (nat_lit 124,kD "numbered" 339 340 341 343 61 1 121 181 122 vN vN (vR 123) 342) ::
 (nat_lit 125,kG z2m "numbered" "guisery.machines" 264 124) ::
 (nat_lit 129,kD "check_word" 347 348 349 351 68 2 126 181 127 vN vN (vR 128) 350) ::
 (nat_lit 130,kG z4U "check_word" "guisery.words" 345 129) ::
 (nat_lit 136,kD "check_endless" 353 354 355 361 71 2 131 181 132 (vR 133) (vR 134) (vR 135) 360) ::
 (nat_lit 137,kG z47 "check_endless" "guisery.words" 345 136) ::
 (nat_lit 143,kD "check_ring" 363 364 365 368 76 1 138 181 139 (vR 140) (vR 141) (vR 142) 367) ::
 (nat_lit 144,kG zcl "check_ring" "guisery.words" 345 143) ::
 (nat_lit 150,kD "plain_word" 370 371 372 379 79 2 145 181 146 (vR 147) (vR 148) (vR 149) 378) ::
 (nat_lit 151,kG z6b "plain_word" "guisery.words" 345 150) ::
 (nat_lit 157,kD "least_ring" 381 382 383 387 85 1 152 181 153 (vR 154) (vR 155) (vR 156) 386) ::
 (nat_lit 158,kG z6u "least_ring" "guisery.words" 345 157) ::
 (nat_lit 164,kD "count_ringed" 389 390 391 396 90 2 159 181 160 (vR 161) (vR 162) (vR 163) 395) ::
 (nat_lit 165,kG z63 "count_ringed" "guisery.words" 345 164) ::
 (nat_lit 171,kD "letter_at" 398 399 400 406 95 2 166 181 167 (vR 168) (vR 169) (vR 170) 405) ::
 (nat_lit 172,kG z3s "letter_at" "guisery.words" 345 171) ::
 (nat_lit 178,kD "behind" 410 411 412 418 103 2 173 181 174 (vR 175) (vR 176) (vR 177) 417) ::
 (nat_lit 179,kG z5Q "behind" "guisery.joining" 408 178) ::
 (nat_lit 183,kD "lasting" 422 423 424 426 108 1 180 181 181 vN vN (vR 182) 425) ::
 (nat_lit 184,kG z3o "lasting" "guisery.crews" 420 183) ::
 (nat_lit 188,kD "comes_again" 428 429 430 432 110 2 185 181 186 vN vN (vR 187) 431) ::
 (nat_lit 189,kG z4L "comes_again" "guisery.crews" 420 188) ::
 (nat_lit 195,kD "gone_to" 434 435 436 445 121 2 190 181 191 (vR 192) (vR 193) (vR 194) 444) ::
 (nat_lit 196,kG z6p "gone_to" "guisery.crews" 420 195) ::
 (nat_lit 200,kD "depth" 447 448 449 451 128 1 197 181 198 vN vN (vR 199) 450) ::
 (nat_lit 201,kG z7h "depth" "guisery.crews" 420 200) ::
 (nat_lit 207,kD "is_still" 453 454 455 460 136 2 202 181 203 (vR 204) (vR 205) (vR 206) 459) ::
 (nat_lit 208,kG z49 "is_still" "guisery.crews" 420 207) ::
 (nat_lit 214,kD "worn" 464 465 466 472 140 2 209 181 210 (vR 211) (vR 212) (vR 213) 471) ::
 (nat_lit 215,kG zcS "worn" "guisery.wearing" 462 214) ::
 (nat_lit 221,kD "worn_endless" 474 475 476 488 144 2 216 181 217 (vR 218) (vR 219) (vR 220) 487) ::
 (nat_lit 222,kG z8P "worn_endless" "guisery.wearing" 462 221) ::
 (nat_lit 226,kD "strung" 490 491 492 494 156 1 223 181 224 vN vN (vR 225) 493) ::
 (nat_lit 227,kG z4u "strung" "guisery.wearing" 462 226) ::
 (nat_lit 233,kD "_law_numbers" 498 499 500 507 159 2 228 181 229 (vR 230) (vR 231) (vR 232) 506) ::
 (nat_lit 234,kG z48 "_law_numbers" "law_guisery_k35_whole_depths" 496 233) ::
 (nat_lit 240,kD "_law_rearranged" 509 510 511 519 170 2 235 181 236 (vR 237) (vR 238) (vR 239) 518) ::
 (nat_lit 241,kG zc2 "_law_rearranged" "law_guisery_k35_whole_depths" 496 240) ::
 (nat_lit 245,kD "_law_in_line" 521 522 523 525 178 3 242 181 243 vN vN (vR 244) 524) ::
 (nat_lit 246,kG z4X "_law_in_line" "law_guisery_k35_whole_depths" 496 245) ::
 (nat_lit 250,kD "_law_shrunk" 527 528 529 531 186 2 247 181 248 vN vN (vR 249) 530) ::
 (nat_lit 251,kG z3O "_law_shrunk" "law_guisery_k35_whole_depths" 496 250) ::
 (nat_lit 257,kD "_law_cell" 533 534 535 539 209 2 252 181 253 (vR 254) (vR 255) (vR 256) 538) ::
 (nat_lit 258,kG zck "_law_cell" "law_guisery_k35_whole_depths" 496 257) ::
 (nat_lit 264,kD "_law_letters" 541 542 543 547 215 2 259 181 260 (vR 261) (vR 262) (vR 263) 546) ::
 (nat_lit 265,kG z4m "_law_letters" "law_guisery_k35_whole_depths" 496 264) ::
 (nat_lit 269,kD "_law_rows" 549 550 551 553 217 2 266 181 267 vN vN (vR 268) 552) ::
 (nat_lit 270,kG z7M "_law_rows" "law_guisery_k35_whole_depths" 496 269) ::
 (nat_lit 276,kD "_law_guise" 555 556 557 561 236 2 271 181 272 (vR 273) (vR 274) (vR 275) 560) ::
 (nat_lit 277,kG z8v "_law_guise" "law_guisery_k35_whole_depths" 496 276) ::
 (nat_lit 281,kD "_law_coming" 563 564 565 567 238 3 278 181 279 vN vN (vR 280) 566) ::
 (nat_lit 282,kG z4p "_law_coming" "law_guisery_k35_whole_depths" 496 281) ::
 (nat_lit 286,kD "_law_word" 569 570 571 573 247 3 283 181 284 vN vN (vR 285) 572) ::
 (nat_lit 287,kG z78 "_law_word" "law_guisery_k35_whole_depths" 496 286) ::
 (nat_lit 291,kD "_law_down" 575 576 577 579 250 2 288 181 289 vN vN (vR 290) 578) ::
 (nat_lit 292,kG zb9 "_law_down" "law_guisery_k35_whole_depths" 496 291) ::
 (nat_lit 296,kD "law" 581 582 583 585 258 1 293 181 294 vN vN (vR 295) 584) ::
 (nat_lit 297,kG z9S "law" "law_guisery_k35_whole_depths" 496 296)::[]
def KA:List Addr:=nat_lit 2::nat_lit 3::nat_lit 23::nat_lit 24::nat_lit 25::nat_lit 36::nat_lit 37::nat_lit 48::nat_lit 49::nat_lit 60::nat_lit 61::nat_lit 69::nat_lit 70::nat_lit 76::nat_lit 77::nat_lit 83::nat_lit 84::nat_lit 90::nat_lit 91::nat_lit 97::nat_lit 98::nat_lit 104::nat_lit 105::nat_lit 109::nat_lit 110::nat_lit 114::nat_lit 115::nat_lit 119::nat_lit 120::nat_lit 124::nat_lit 125::nat_lit 129::nat_lit 130::nat_lit 136::nat_lit 137::nat_lit 143::nat_lit 144::nat_lit 150::nat_lit 151::nat_lit 157::nat_lit 158::nat_lit 164::nat_lit 165::nat_lit 171::nat_lit 172::nat_lit 178::nat_lit 179::nat_lit 183::nat_lit 184::nat_lit 188::nat_lit 189::nat_lit 195::nat_lit 196::nat_lit 200::nat_lit 201::nat_lit 207::nat_lit 208::nat_lit 214::nat_lit 215::nat_lit 221::nat_lit 222::nat_lit 226::nat_lit 227::nat_lit 233::nat_lit 234::nat_lit 240::nat_lit 241::nat_lit 245::nat_lit 246::nat_lit 250::nat_lit 251::nat_lit 257::nat_lit 258::nat_lit 264::nat_lit 265::nat_lit 269::nat_lit 270::nat_lit 276::nat_lit 277::nat_lit 281::nat_lit 282::nat_lit 286::nat_lit 287::nat_lit 291::nat_lit 292::nat_lit 296::nat_lit 297::[]
end Gu
lay_quick PySem.Challenge.pw_guisery_k35_whole_depths
namespace Gu
open PySem PySem.W PyProof.Rows PySem.W.Fast
noncomputable abbrev pY:Program:=PySem.Challenge.pw_guisery_k35_whole_depths
noncomputable abbrev pQ:Program:=tw3938034831212603681
noncomputable abbrev rY:OpenRow:=PySem.Challenge.rw_guisery_k35_whole_depths.row
noncomputable def viewOf (p:Program):Program:={ p with main:={ p.main with body:=[1,2,3,4,6,8,9,10,11,12,13,14,15,16,17,19,20,21,22,23,24,25,27,29,30,31,32,33,35,36,37,39,40,41,42,43,44,45,46,47,48,49,50].map fun i=>p.main.body.getD i (.Pass ⟨0,0,0,0⟩) } }
noncomputable abbrev HK:Hook:=PySem.W.kmHook Gu.KH Gu.KA (fun _=>by kernel_rfl) [86]
theorem pqe:pY=pQ:=te3938034831212603681
set_option maxHeartbeats 0 in
theorem zfS (w:World):(openEnds tw14364793385576792824 pQ w 4178).map (fun s=>(tw4187177175401517315 (viewOf pQ) [] (tw5923862056798008813 pQ.main.body) (fun s=>xlAt (viewOf pQ) [] s && recOk [] s) true s,HK.obs s))=some (openGood (viewOf pQ) [],HK.val w):=by kernel_rfl
theorem left:LeftO rY.prog (viewOf pY) [] (fun s=>xlAt (viewOf pY) [] s && recOk (RowW.records rY.toRowW) s) HK.obs HK.val 4178:=fun w=>by
 have h:=zfS w
 rw [←te14364793385576792824,←te4187177175401517315,←te5923862056798008813,←pqe] at h
 exact h
end Gu
namespace L2
open PySem PySem.Spec PyProof.Rows
def z0r (cells:List (Str × Addr)):List (Str × NameKind)→List (Str × Addr)→List (Str × Addr)
 | [],cs=>cs
 | (n,k)::r,cs=>z0r cells r (if k=.free then (n,(cells.lookup n).getD 0)::cs else cs)
theorem z1U {cells:List (Str × Addr)}:∀ (l:List (Str × NameKind)) (cs:List (Str × Addr)) (x:Str),(∀ y,(y,NameKind.free)∈l→∃ c,cells.lookup y=some c)→((x,NameKind.free)∈l∨cs.lookup x=cells.lookup x)→(z0r cells l cs).lookup x=cells.lookup x
 | [],cs,x,_,h=>by
  rcases h with h | h
  ·cases h
  ·exact h
 | (n,k)::r,cs,x,hc,h=>by
  refine z1U r _ x (fun y hy=>hc y (List.mem_cons_of_mem _ hy)) ?_
  by_cases hk:k=.free
  ·subst hk
   rw [if_pos rfl]
   by_cases e:x=n
   ·subst e
    obtain ⟨c,hcx⟩:=hc x List.mem_cons_self
    right
    rw [List.lookup_cons,hcx]
    simp
   ·rcases h with h | h
    ·rcases List.mem_cons.mp h with h | h
     ·exact absurd (congrArg Prod.fst h) e
     ·exact .inl h
    ·right
     have:(x == n)=false:=by simpa using e
     rw [List.lookup_cons,this]
     exact h
  ·rw [if_neg hk]
   rcases h with h | h
   ·rcases List.mem_cons.mp h with h | h
    ·exact absurd (congrArg Prod.snd h).symm hk
    ·exact .inl h
   ·exact .inr h
theorem z3I {cells:List (Str × Addr)}:∀ (l:List (Str × NameKind)) (cs:List (Str × Addr)) (x:Str),(x,NameKind.free)∉l→(z0r cells l cs).lookup x=cs.lookup x
 | [],cs,x,_=>rfl
 | (n,k)::r,cs,x,h=>by
  refine (z3I r _ x (fun hy=>h (List.mem_cons_of_mem _ hy))).trans ?_
  by_cases hk:k=.free
  ·subst hk
   rw [if_pos rfl]
   have e:x≠n:=fun e=>h (by subst e;exact List.mem_cons_self)
   have:(x == n)=false:=by simpa using e
   rw [List.lookup_cons,this]
  ·rw [if_neg hk]
theorem z0U {scope:Scope} {env:Env} (h:∀ y,(y,NameKind.free)∈scope.names→∃ c,env.cells.lookup y=some c):closureFor scope env=pure (z0r env.cells scope.names []):=by
 have key:∀ (l:List (Str × NameKind)) (cs:List (Str × Addr)),(∀ y,(y,NameKind.free)∈l→∃ c,env.cells.lookup y=some c) →
   (forIn l cs (fun (x:Str × NameKind) (r:List (Str × Addr))=>if (x.2 == NameKind.free)=true then (do let c ←cellOf env x.1;pure (ForInStep.yield ((x.1,c)::r)):Sem _) else pure (ForInStep.yield r)):Sem (List (Str × Addr)))=pure (z0r env.cells l cs):=by
  intro l
  induction l with
  | nil=>intro cs _;rfl
  | cons x r ih =>
   intro cs hc
   obtain ⟨n,k⟩:=x
   rw [List.forIn_cons]
   by_cases hk:k=.free
   ·subst hk
    obtain ⟨c,e⟩:=hc n List.mem_cons_self
    have e1:cellOf env n=pure c:=by unfold cellOf;rw [e]
    have e2:z0r env.cells ((n,NameKind.free)::r) cs=z0r env.cells r ((n,c)::cs):=by
     show z0r env.cells r (if NameKind.free=NameKind.free then (n,(env.cells.lookup n).getD 0)::cs else cs)=_
     rw [if_pos rfl,e]
     all_goals rfl
    rw [e2,←ih _ (fun y hy=>hc y (List.mem_cons_of_mem _ hy))]
    simp only [beq_self_eq_true,if_true,e1]
    rfl
   ·have hb:(k == NameKind.free)=false:=by simpa using hk
    have e2:z0r env.cells ((n,k)::r) cs=z0r env.cells r cs:=by
     show z0r env.cells r (if k=NameKind.free then _ else cs)=_
     rw [if_neg hk]
    rw [e2,←ih _ (fun y hy=>hc y (List.mem_cons_of_mem _ hy))]
    simp only [hb,Bool.false_eq_true,if_false]
    rfl
 have:=key scope.names [] h
 unfold closureFor
 simp only [] at this ⊢
 exact (congrArg (fun m=>m >>= pure) this).trans rfl
def noE:Value→Shared→Prop:=fun _ _=>False
section
variable {prog:Program} {w:World} {A:Around} {R:Result→Shared→Prop} {s:Shared}
theorem z9n {elt tg iter:Expr} {scope:Scope} {pos:Pos} {it acc:Value} {env:Env} (I:Nat→Shared→Prop)
  (z4a:∀ n s,I n s→wpAny (model prog w) A (pyNext it) (fun r s1=>match r with
   | none=>R (.ok .next) s1
   | some v=>wpAny (model prog w) A (letOwnedTupleGo tg it v) (fun _ s2=>wpAny (model prog w) A (assign tg env v) (fun _ s3=>wpAny (model prog w) A (eval elt env) (fun x s4 =>
     wpAny (model prog w) A (call (.builtin "list.append") [acc,x]) (fun _ s5=>∃ m,m < n∧I m s5) noE s4) noE s3) noE s2) noE s1) noE s)
  (n:Nat) (h:I n s):codeAny (model prog w) A (.compLoop (.ListComp elt [⟨tg,iter,[],0⟩] scope pos) 0 it acc env) R s:=by
 have no:∀ (P:Value→Shared→Prop) (a:Value) (b:Shared),noE a b→P a b:=fun _ _ _ z=>False.elim z
 refine codeAny_loop rfl I (fun n s hI=>?_) n h
 show wpAny _ _ ((compTurn (.ListComp elt [⟨tg,iter,[],0⟩] scope pos) 0 it acc env).onRaise
  (fun x=>do noteFrame x env;theTreesLotGoes x)) _ _ s
 refine wpAny_noted ?_
 rw [compTurn_list1]
 refine wpAny_bind (wpAny_standAt (wpAny_bind (wpAny_mono (z4a n s hI) (fun r s1 h1=>?_) (no _))))
 cases r with
 | none=>exact wpAny_pure h1
 | some v =>
  refine wpAny_bind (wpAny_mono h1 (fun _ s2 h2=>?_) (no _))
  refine wpAny_bind (wpAny_mono h2 (fun _ s3 h3=>?_) (no _))
  refine wpAny_bind (wpAny_bind (wpAny_mono h3 (fun x s4 h4=>?_) (no _)))
  exact wpAny_bind (wpAny_mono h4 (fun _ s5 h5=>wpAny_pure (wpAny_pure ⟨rfl,h5⟩)) (no _))
end
def zex (env:Env) (p:Str × NameKind):Str × NameKind:=if (p.2 == NameKind.free && env.scope.kind == .function && env.kindOf p.1 == some .cell)=true then (p.1,NameKind.cell) else p
theorem z95 {env:Env} {p:Str × NameKind} (h:(p.2 == NameKind.free && env.scope.kind == .function && env.kindOf p.1 == some .cell)=true):zex env p=(p.1,NameKind.cell):=if_pos h
theorem z8J {env:Env} {p:Str × NameKind} (h:¬ (p.2 == NameKind.free && env.scope.kind == .function && env.kindOf p.1 == some .cell)=true):zex env p=p:=if_neg h
theorem z23 {env:Env} {x:Str}:∀ {l:List (Str × NameKind)},l.lookup x=some .free→(l.map (zex env)).lookup x=some .cell∨(l.map (zex env)).lookup x=some .free
 | [],h=>by simp at h
 | (n,k)::r,h=>by
  rw [List.map_cons]
  by_cases hc:(k == NameKind.free && env.scope.kind == .function && env.kindOf n == some .cell)=true
  ·rw [z95 (p:=(n,k)) hc]
   cases hx:x == n with
   | true=>left;rw [List.lookup_cons,hx]
   | false =>
    rw [List.lookup_cons,hx] at h
    rw [List.lookup_cons,hx]
    exact z23 h
  ·rw [z8J (p:=(n,k)) hc]
   cases hx:x == n with
   | true=>right;rw [List.lookup_cons,hx] at h;rw [List.lookup_cons,hx];exact h
   | false =>
    rw [List.lookup_cons,hx] at h
    rw [List.lookup_cons,hx]
    exact z23 h
theorem z2K {env:Env} {x:Str} {kd:NameKind} (hkd:kd=.cell∨kd=.free):∀ {l:List (Str × NameKind)},(∀ y∈l,y.2≠.cell)→(l.map (zex env)).lookup x=some kd→(x,NameKind.free)∈l
 | [],_,h=>by simp at h
 | (n,k)::r,hn,h=>by
  rw [List.map_cons] at h
  have hk:k≠.cell:=hn (n,k) List.mem_cons_self
  have up:(r.map (zex env)).lookup x=some kd→(x,NameKind.free)∈(n,k)::r:=fun h2=>List.mem_cons_of_mem _ (z2K hkd (fun y hy=>hn y (List.mem_cons_of_mem _ hy)) h2)
  by_cases hc:(k == NameKind.free && env.scope.kind == .function && env.kindOf n == some .cell)=true
  ·rw [z95 (p:=(n,k)) hc] at h
   cases hx:x == n with
   | true =>
    have hxn:x=n:=by simpa using hx
    subst hxn
    have z:=hc
    simp only [Bool.and_eq_true,beq_iff_eq] at z
    rw [z.1.1]
    exact List.mem_cons_self
   | false=>rw [List.lookup_cons,hx] at h;exact up h
  ·rw [z8J (p:=(n,k)) hc] at h
   cases hx:x == n with
   | true =>
    have hxn:x=n:=by simpa using hx
    subst hxn
    rw [List.lookup_cons,hx] at h
    have e:k=kd:=Option.some.inj h
    rcases hkd with z | z
    ·exact absurd (e.trans z) hk
    ·rw [e,z];exact List.mem_cons_self
   | false=>rw [List.lookup_cons,hx] at h;exact up h
def z0q (X:Cx) (N:List Str) (scope:Scope) (cl:List (Str × Addr)) (C:Addr) (ex:List Addr) (s:Shared) (H:Hp):Cx where
 prog:=X.prog
 w:=X.w
 K:=X.K
 mg:=X.mg
 base:=X.base
 A:=X.A
 N:=N
 s₀:=s
 H₀:=H
 env:=compEnvC scope cl C X.env
 outer:=X.stack
 stack:=X.stack
 ex:=ex
 fn:=fun _=>false
 calm:=X.calm
 pn:=[]
 xe:=noE
structure z0Z (XN:List Str) (xsc:Scope) (N:List Str) (ix:List (Option Nat)) (scope:Scope):Prop where
 kind:scope.kind=.function
 nocell:∀ y∈scope.names,y.2≠.cell
 names:∀ y∈scope.names,y.2=.local→scope.names.lookup y.1=some .local
 frees:∀ y∈scope.names,y.2=.free→xsc.names.lookup y.1=some .cell∨xsc.names.lookup y.1=some .free
 len:ix.length=N.length
 has:((ix.zip N).all fun p=>match p.1 with | none=>true | some j=>XN[j]? == some p.2 && scope.names.lookup p.2 == some .free)=true
 nd:N.Nodup
def z0K (ix:List (Option Nat)) (σ:St):St:=ix.map fun o=>o.bind fun j=>(σ[j]?).join
theorem z0Z.at_ {XN:List Str} {xsc:Scope} {N:List Str} {ix:List (Option Nat)} {scope:Scope} (S:z0Z XN xsc N ix scope) {i:Nat} {x:Str} {v:V} {σ:St} (hi:N[i]?=some x) (hv:(z0K ix σ)[i]?=some (some v)) :
  ∃ j:Nat,XN[j]?=some x∧scope.names.lookup x=some .free∧σ[j]?=some (some v):=by
 unfold z0K at hv
 rw [List.getElem?_map] at hv
 cases e:ix[i]? with
 | none=>rw [e] at hv;cases hv
 | some o =>
  rw [e] at hv
  cases o with
  | none=>cases hv
  | some j =>
   have hv':(σ[j]?).join=some v:=Option.some.inj hv
   have hm:((some j:Option Nat),x)∈ix.zip N:=by
    have:(ix.zip N)[i]?=some (some j,x):=by rw [List.getElem?_zip_eq_some];exact ⟨e,hi⟩
    exact List.mem_of_getElem? this
   have q:=List.all_eq_true.mp S.has _ hm
   simp only [Bool.and_eq_true,beq_iff_eq] at q
   refine ⟨j,q.1,q.2,?_⟩
   cases z:σ[j]? with
   | none=>rw [z] at hv';cases hv'
   | some u=>rw [z] at hv';exact congrArg some hv'
section
variable {X:Cx} {pins:List (Addr × Obj)} {σ:St} {H:Hp} {s s1:Shared} {N:List Str} {ix:List (Option Nat)} {scope:Scope} {fp:List Addr} {C:Addr}
theorem z0H (I:Inv X pins σ H s) (S:z0Z X.N X.env.scope N ix scope):∀ y,(y,NameKind.free)∈scope.names→∃ c,X.env.cells.lookup y=some c:=fun y hy=>I.ok.has y (S.frees _ hy rfl)
theorem z1m (I:Inv X pins σ H s) (S:z0Z X.N X.env.scope N ix scope) {x:Str} {c:Addr} (h:(z0r X.env.cells scope.names []).lookup x=some c):X.env.cells.lookup x=some c:=by
 by_cases hm:(x,NameKind.free)∈scope.names
 ·rw [←z1U scope.names [] x (z0H I S) (.inl hm)];exact h
 ·rw [z3I scope.names [] x hm] at h;cases h
theorem z4j (I:Inv X pins σ H s) (S:z0Z X.N X.env.scope N ix scope) (hC:C=s.heap.objs.size) (hf:∀ b∈fp,z3G X pins H b) (hfl:∀ b∈fp,b < s.heap.objs.size) {h1:Heap} {m:Str→Option Value} {tk:Nat} (hn:h1.Ns C m)
  (hk:∀ b o,s.heap.get? b=some o→h1.get? b=some o) :
  Inv (z0q X N scope (z0r X.env.cells scope.names []) C fp s H) [] (z0K ix σ) H { s with heap:=h1,toks:=tk }:=by
 have hne:∀ {b:Addr} {o:Obj},X.base.get? b=some o→b∉fp:=fun {b o} e hb=>by
  obtain ⟨_,_,_,hx,_⟩:=hf b hb
  rcases hx with hx | hx
  ·exact I.ok.noex b o e hx
  ·exact absurd (Nat.lt_of_lt_of_le (Heap.lt_size (I.ok.bs b o e).1) hx) (Nat.lt_irrefl _)
 refine ⟨⟨I.ok.mod,S.kind,I.ok.glob,I.ok.blt,Nat.le_of_eq hC.symm,?_,?_,?_,I.ok.hd,I.ok.frames,.inl rfl,?_,I.bs,Nat.le_trans I.ok.bsz I.sz,fun b o e=>hne e,?_,I.stack,I.stkFree⟩,
  rfl,I.bare,Un.kept hk,⟨m,hn,?_⟩,?_,I.hok.fresh (Nat.le_of_eq hC.symm),?_,fun p hp=>absurd (show p∈([]:List (Addr × Obj)) from hp) (by simp),I.hok.kept hk,?_⟩
 ·intro x y c h1 h2
  exact I.ok.inj x y c (z1m I S h1) (z1m I S h2)
 ·intro x hx
  have hm:(x,NameKind.free)∈scope.names:=by
   rcases hx with hx | hx
   ·exact z2K (.inl rfl) S.nocell hx
   ·exact z2K (.inr rfl) S.nocell hx
  obtain ⟨c,e⟩:=z0H I S x hm
  exact ⟨c,(z1U scope.names [] x (z0H I S) (.inl hm)).trans e⟩
 ·intro x c hx;cases hx
 ·intro b hb
  obtain ⟨_,_,_,_,f4,_⟩:=hf b hb
  refine ⟨fun e=>?_,fun x c e=>f4 x c (z1m I S e)⟩
  have z:=hfl b hb
  have e':b=C:=e
  rw [e',hC] at z
  exact Nat.lt_irrefl _ z
 ·intro b hb hb2
  obtain ⟨_,f1,f2,_⟩:=hf b hb
  exact (List.mem_cons.mp (I.stkSub b hb2)).elim f1 f2
 ·intro i x v e1 e2 e3
  obtain ⟨j,g1,g2,g3⟩:=S.at_ e1 e2
  have hm:(x,NameKind.free)∈scope.names:=PySem.mem_of_lookup g2
  have hk2:=S.frees _ hm rfl
  obtain ⟨m0,hn0,hl0⟩:=id I.loc
  obtain ⟨u,r,l⟩:=hl0 j x v g1 g3 (hk2.elim (fun z=>.inr (.inl z)) (fun z=>.inr (.inr z)))
  refine ⟨u,r,.inr ⟨z23 g2,?_⟩⟩
  rcases l with ⟨k,_⟩ | ⟨k,c,e,z⟩
  ·have k':X.env.scope.names.lookup x=some .local:=k
   rcases hk2 with z | z<;>(rw [k'] at z;cases z)
  ·refine ⟨c,(z1U scope.names [] x (z0H I S) (.inl hm)).trans e,?_⟩
   obtain ⟨o,ho,hd⟩:=z
   exact ⟨o,hk _ _ ho,hd⟩
 ·intro x c e
  obtain ⟨v,o,ho,hd⟩:=I.cell x c (z1m I S e)
  exact ⟨v,o,hk _ _ ho,hd⟩
 ·intro x c e
  exact I.freeC x c (z1m I S e)
 ·unfold z0K
  rw [List.length_map]
  exact S.len
end
end L2
namespace L2
open PySem PySem.Spec PyProof.Rows
def z7S (ix:List (Option Nat)) (J:It) (g:TG) (te:TE) (σ:St) (l:Addr) (H0:Hp) (Qe:Hp→Prop):Prop :=
 ∃ W:Nat→Nat→List V→Hp→Prop,(∃ m,W 0 m [] H0)∧∀ i m ys H,W i m ys H→H l=some (.lst ys) →
  (J.stop i H∧Qe H)∨(J.go i H∧ys.length < sizeLine∧∃ N:List V→Hp→Prop,(∀ zs H',N zs H'→∃ m',m' < m∧W (i+1) m' zs H')∧∀ x H',J.yld i H x H'→g x (z0K ix σ) H' fun σ2 H2=>te σ2 H2 fun v H3 =>
   H3 l=some (.lst ys)∧N (ys++[v]) (upd H3 l (.lst (ys++[v]))))
def zfe (ix:List (Option Nat)) (wi:TI) (g:TG) (te:TE):TE:=fun σ H Q=>wi σ H fun J H1=>∀ l,H1 l=none→z7S ix J g te σ l (upd H1 l (.lst [])) fun H'=>Q (.ref l) H'
section
variable {X:Cx} {pins:List (Addr × Obj)} {σ:St} {H:Hp} {s:Shared} {N:List Str} {ix:List (Option Nat)} {scope:Scope} {elt iter tg:Expr} {pos:Pos} {g:TG} {te:TE} {E:Value→Shared→Prop}
theorem z2g {C:Addr} {fp:List Addr} {pins':List (Addr × Obj)} {σ':St} {Hc:Hp} {s':Shared} (I:Inv X pins σ H s) (S:z0Z X.N X.env.scope N ix scope)
  (J:Inv (z0q X N scope (z0r X.env.cells scope.names []) C fp s H) pins' σ' Hc s'):Inv (z0q X N scope (z0r X.env.cells scope.names []) C fp s H) [] (z0K ix σ) Hc s':=by
 obtain ⟨m,hn,_⟩:=J.loc
 refine ⟨J.ok,J.os,J.bare,J.base,⟨m,hn,?_⟩,J.cell,J.free,J.freeC,fun p hp=>absurd (show p∈([]:List (Addr × Obj)) from hp) (by simp),J.hok,?_⟩
 ·intro i x v e1 e2 e3
  obtain ⟨j,g1,g2,g3⟩:=S.at_ e1 e2
  have hm:(x,NameKind.free)∈scope.names:=PySem.mem_of_lookup g2
  have hk2:=S.frees _ hm rfl
  obtain ⟨m0,hn0,hl0⟩:=id I.loc
  obtain ⟨u,r,l⟩:=hl0 j x v g1 g3 (hk2.elim (fun z=>.inr (.inl z)) (fun z=>.inr (.inr z)))
  refine ⟨u,r,.inr ⟨z23 g2,?_⟩⟩
  rcases l with ⟨k,_⟩ | ⟨k,c,e,z⟩
  ·have k':X.env.scope.names.lookup x=some .local:=k
   rcases hk2 with z | z<;>(rw [k'] at z;cases z)
  ·have ec:(z0r X.env.cells scope.names []).lookup x=some c:=(z1U scope.names [] x (z0H I S) (.inl hm)).trans e
   refine ⟨c,ec,?_⟩
   obtain ⟨o,ho,hd⟩:=z
   obtain ⟨sl,q⟩:=J.base.any ho (I.freeC x c e) (fun hx=>(J.ok.exf c hx).2 x c ec rfl)
   exact ⟨_,q,hd⟩
 ·unfold z0K
  rw [List.length_map]
  exact S.len
theorem z5s {it:Addr} {fp:List Addr} {tn:Nat→Heap→Prop} {J:It} {Qe:Addr→Hp→Prop} {RR:Value→Addr→Result→Shared→Prop} (hc:X.calm=true) (S:z0Z X.N X.env.scope N ix scope)
  (hg:∀ cl C ex s H,PG (z0q X N scope cl C ex s H) tg g) (he:∀ cl C ex s H,PE (z0q X N scope cl C ex s H) elt te)
  (I:Inv X pins σ H s) (T:zbN X.prog X.w X.K tg J fp it tn) (st:tn 0 s.heap) (hf:∀ b∈fp,z3G X pins H b)
  (hw:∀ l,H l=none→z7S ix J g te σ l (upd H l (.lst [])) (Qe l))
  (hRR:∀ l C s' H' m,s'.heap.Ns C m→Inv X pins σ H' s'→z3G X pins H' C→Qe l H'→RR (.ref l) C (.ok .next) s') :
  wpAny (model X.prog X.w) X.A (newList []) (fun acc s3=>wpAny (model X.prog X.w) X.A (newFunctionEnv scope X.env.globals (z0r X.env.cells scope.names []) [] X.env.qual none .none (some X.env)) (fun cenv s4 =>
   codeAny (model X.prog X.w) X.A (.compStart (.ListComp elt [⟨tg,iter,[],0⟩] scope pos) 0 (.ref it) acc { cenv with scope:=relabel scope X.env }) (RR acc cenv.locals) s4) E s3) E s:=by
 have hlt:∀ b∈fp,b < s.heap.objs.size:=fun b hb=>by
  obtain ⟨o,e,_⟩:=T.obj 0 s.heap st b hb
  exact Heap.lt_size e
 have hl0:H s.heap.objs.size=none:=I.fresh
 obtain ⟨W,⟨m0,w0⟩,z4a⟩:=hw s.heap.objs.size hl0
 refine wpAny_newObj_type ?_
 generalize hs3:({ s with heap:=s.heap.push { cls:=.type "list",dict:=none,data:=.seq ([]:List Value).toArray } }:Shared)=s3
 have I3:Inv X pins σ (upd H s.heap.objs.size (.lst [])) s3:=by
  rw [←hs3]
  exact I.lnew (its:=[]) (t':=s.toks) .nil (Nat.zero_le _)
 have k3:∀ b o,s.heap.get? b=some o→s3.heap.get? b=some o:=fun b o e=>by
  rw [←hs3];exact Heap.get?_push_of_some _ e
 have sz3:s3.heap.objs.size=s.heap.objs.size+1:=by rw [←hs3];exact Heap.size_push ..
 have lnfp:s.heap.objs.size∉fp:=fun hb=>Nat.lt_irrefl _ (hlt _ hb)
 have st3:tn 0 s3.heap:=T.keep 0 _ _ st fun b _ o e=>k3 b o e
 have hf3:∀ b∈fp,z3G X pins (upd H s.heap.objs.size (.lst [])) b:=fun b hb=>by
  obtain ⟨f0,f⟩:=hf b hb
  have nb:b≠s.heap.objs.size:=fun e=>lnfp (by rw [←e];exact hb)
  exact ⟨by rw [z0a nb];exact f0,f⟩
 have hlt3:∀ b∈fp,b < s3.heap.objs.size:=fun b hb=>by rw [sz3];exact Nat.lt_succ_of_lt (hlt b hb)
 clear hs3
 refine wpAny_newFunctionEnv S.nocell (by intro y hy;simp at hy) (fun h1 hn1 hb1=>?_) S.kind
 have hk1:∀ b o,s3.heap.get? b=some o→h1.get? b=some o:=fun b o e =>
  (hb1.2 b (Nat.ne_of_lt (Heap.lt_size e))).trans (Heap.get?_push_of_some _ e)
 have J0:Inv (z0q X N scope (z0r X.env.cells scope.names []) s3.heap.objs.size fp s3 (upd H s.heap.objs.size (.lst []))) [] (z0K ix σ) (upd H s.heap.objs.size (.lst [])) { s3 with heap:=h1,toks:=s3.toks+([]:List (Str × Value)).length } :=
  z4j I3 S rfl hf3 hlt3 hn1 hk1
 have st1:tn 0 h1:=T.keep 0 _ _ st3 fun b _ o e=>hk1 b o e
 have fpY:∀ {Hc:Hp},(∀ b∈fp,Hc b=none)→∀ b∈fp,z3G (z0q X N scope (z0r X.env.cells scope.names []) s3.heap.objs.size fp s3 (upd H s.heap.objs.size (.lst []))) [] Hc b:=fun {Hc} hn b hb=>by
  obtain ⟨_,f1,f2,_,f4,_⟩:=hf3 b hb
  refine ⟨hn b hb,Nat.ne_of_lt (hlt3 b hb),fun hb2=>(List.mem_cons.mp (I3.stkSub b hb2)).elim f1 f2,.inl hb,fun x c e=>f4 x c (z1m I3 S e),fun p hp=>absurd (show p∈([]:List (Addr × Obj)) from hp) (by simp)⟩
 have loop:∀ s4:Shared,s4=({ s3 with heap:=h1,toks:=s3.toks+([]:List (Str × Value)).length }:Shared)→codeAny (model X.prog X.w) X.A (.compLoop (.ListComp elt [⟨tg,iter,[],0⟩] scope pos) 0 (.ref it) (.ref s.heap.objs.size)
   (compEnvC scope (z0r X.env.cells scope.names []) s3.heap.objs.size X.env)) (RR (.ref s.heap.objs.size) s3.heap.objs.size) s4:=by
  intro s4 hs4
  subst hs4
  refine z9n (fun n s'=>∃ i ys Hc,Inv (z0q X N scope (z0r X.env.cells scope.names []) s3.heap.objs.size fp s3 (upd H s.heap.objs.size (.lst []))) [] (z0K ix σ) Hc s'∧tn i s'.heap∧(∀ b∈fp,Hc b=none)∧Hc s.heap.objs.size=some (.lst ys)∧W i n ys Hc) ?_ m0 ⟨0,[],_,J0,st1,fun b hb=>(hf3 b hb).1,z03,w0⟩
  rintro n s5 ⟨i,ys,Hc,J5,st5,fr5,hl5,w5⟩
  rcases z4a i n ys Hc w5 hl5 with ⟨stop,qe⟩ | ⟨go,hz,NN,hNN,step⟩
  ·refine thn (T.done (z0q X N scope (z0r X.env.cells scope.names []) s3.heap.objs.size fp s3 (upd H s.heap.objs.size (.lst []))) rfl rfl rfl hc i [] s5 _ Hc noE J5 (fpY fr5) st5 stop) fun r s6 hz8=>?_
   obtain ⟨hr,J6⟩:=hz8
   subst hr
   have I6:Inv X pins σ Hc s6:=I3.call' (ch:=fp) J6.os J6.base J6.hok J6.bare fun b hb=>by
    obtain ⟨_,f1,f2,f3,f4,f5⟩:=hf3 b hb
    exact ⟨f3,f1,f4,f5⟩
   obtain ⟨m6,hn6,_⟩:=J6.loc
   exact hRR _ _ s6 Hc m6 hn6 I6 (I3.fpOk (Nat.le_refl _) J6.free) qe
  ·refine thn (T.item (z0q X N scope (z0r X.env.cells scope.names []) s3.heap.objs.size fp s3 (upd H s.heap.objs.size (.lst []))) rfl rfl rfl hc i [] s5 _ Hc noE J5 (fpY fr5) st5 go) fun r s6 hz8=>?_
   obtain ⟨u,hr,h6⟩:=hz8
   subst hr
   refine thn h6 fun _ s7 hz8=>?_
   obtain ⟨x,H7,J7,r7,y7,st7,fr7⟩:=hz8
   have J7':=J7.pinned (fpY fr7) (T.obj _ _ st7)
   refine thn (hg _ _ _ _ _ _ s7 _ H7 x u _ J7' r7 (step x H7 y7)) fun _ s8 hz8=>?_
   obtain ⟨σ8,H8,J8,q8⟩:=hz8
   refine z1I (he _ _ _ _ _ _ s8 σ8 H8 _ J8 q8) fun y s9 v H9 J9 r9 hz9=>?_
   obtain ⟨hl9,n9⟩:=hz9
   obtain ⟨m',hm',w9⟩:=hNN _ _ n9
   refine thn (z0L (X:=z0q X N scope (z0r X.env.cells scope.names []) s3.heap.objs.size fp s3 (upd H s.heap.objs.size (.lst []))) _ s9 σ8 H9 (.ref s.heap.objs.size) [v] (.ref s.heap.objs.size) [y]
    (fun z Hz=>z=.non∧Hz=upd H9 s.heap.objs.size (.lst (ys++[v]))) J9 rfl (.cons r9 .nil) ⟨_,ys,v,rfl,rfl,hl9,hz,rfl,rfl⟩) fun _ s10 ⟨_,H10,J10,_,_,e10⟩=>?_
   subst e10
   have len8:(z0K ix σ).length=σ8.length:=by
    rw [J10.len]
    unfold z0K
    rw [List.length_map]
    exact S.len
   refine ⟨m',hm',i+1,ys++[v],_,?_,T.keep _ _ _ st7 fun b hb o e=>(J10.pin (b,o) (List.mem_append_right _ (List.mem_append_right _ (z0J hb e)))).1,fun b hb=>?_,z03,w9⟩
   ·exact z2g I3 S J10
   ·obtain ⟨o,e,d⟩:=T.obj _ _ st7 b hb
    exact (J10.pin (b,o) (List.mem_append_right _ (List.mem_append_right _ (z0J hb e)))).2.1
 exact codeAny_compStart_list (loop _ rfl) (T.self _ 0 _ _ _ st1 (loop _ rfl))
theorem z1u {wi:TI} (hc:X.calm=true) (S:z0Z X.N X.env.scope N ix scope) (hi:PI X tg iter wi)
  (hg:∀ cl C ex s H,PG (z0q X N scope cl C ex s H) tg g) (he:∀ cl C ex s H,PE (z0q X N scope cl C ex s H) elt te)
  (hs:∀ x,foldedSetIterable iter X.env x=pure x:=by intro _;rfl):PE X (.ListComp elt [⟨tg,iter,[],0⟩] scope pos) (zfe ix wi g te):=by
 intro pins s σ H Q I h
 rw [eval_ListComp]
 refine wpAny_comprehension_free (use:=none) rfl hs (z0U (z0H I S)) S.kind S.names (thn (hi pins s σ H _ I h) fun v s1 h1=>thn h1 fun itv s2 h2=>?_)
 obtain ⟨it,fp,tn,J,H2,e,I2,T,st2,f2,hw⟩:=h2
 subst e
 refine z5s (RR:=fun acc C=>compPost (model X.prog X.w) X.A X.xe none (EP X pins σ Q) acc C) hc S hg he I2 T st2 f2 hw fun l C s' H' m hn I' fC q=>⟨m,hn,fun h' hs'=>?_⟩
 obtain ⟨c0,c1,_,c3,c4,c5⟩:=fC
 exact ⟨.ref l,H',I'.turned (t':=s'.toks) (fun b o hb e=>(hs'.2 b hb).trans e) c0 c1 c3 c4 c5,rfl,q⟩
theorem z8h {wi:TI} {i:Nat} {x:Str} {spos pos':Pos} (hc:X.calm=true) (S:z0Z X.N X.env.scope N ix scope) (hi:PI X tg iter wi)
  (hg:∀ cl C ex s H,PG (z0q X N scope cl C ex s H) tg g) (he:∀ cl C ex s H,PE (z0q X N scope cl C ex s H) elt te)
  (hN:X.N.Nodup) (hx:X.N[i]?=some x) (hl:X.env.scope.names.lookup x=some .local)
  (hsw:swapsWith (.ListComp elt [⟨tg,iter,[],0⟩] scope pos) (some (.Name x pos')) spos.line X.env=pure true:=by rfl)
  (hs:∀ x,foldedSetIterable iter X.env x=pure x:=by intro _;rfl):PS X (.Assign [.Name x pos'] (.ListComp elt [⟨tg,iter,[],0⟩] scope pos) spos) (zeB (zfe ix wi g te) (z9J i)):=by
 intro pins s σ H D I h
 rw [exec_Assign_Name_used _ _ _ _ hsw]
 refine wpAny_bind (wpAny_standAt (wpAny_bind ?_))
 show wpAny _ _ (comprehension (.ListComp elt [⟨tg,iter,[],0⟩] scope pos) scope X.env _ (newList []) false (eval iter X.env) (some (assign (.Name x pos') X.env)) >>= fun _=>pure ()) _ _ s
 refine wpAny_bind (wpAny_mono (wpAny_comprehension_free (use:=some (assign (.Name x pos') X.env)) (Q:=fun _ s'=>SP X pins D .next s') rfl hs (z0U (z0H I S)) S.kind S.names
  (thn (hi pins s σ H _ I h) fun v s1 h1=>thn h1 fun itv s2 h2=>?_)) (fun _ s' q=>wpAny_pure (wpAny_pure q)) fun _ _ e=>e)
 obtain ⟨it,fp,tn,J,H2,e,I2,T,st2,f2,hw⟩:=h2
 subst e
 refine z5s (RR:=fun acc C=>compPost (model X.prog X.w) X.A X.xe (some (assign (.Name x pos') X.env)) (fun _ s'=>SP X pins D .next s') acc C) hc S hg he I2 T st2 f2 hw fun l C s' H' m hn I' fC q=>?_
 obtain ⟨c0,c1,c2,c3,c4,c5⟩:=fC
 show wpAny _ _ (assign (.Name x pos') X.env (.ref l)) _ _ _
 refine wpAny_assign_Name (z3r I' hN hx (.inl hl) (v:=.ref l) rfl (fun s'' I'' hz8=>?_) (.inr hl))
 obtain ⟨a,sb,ha⟩:=hz8
 have haC:C≠a:=by
  rcases ha with ha | ha
  ·rw [ha];exact c1
  ·exact fun z=>c4 x a ha z.symm
 refine ⟨m,hn.sameBut sb haC,fun h' hs'=>?_⟩
 exact ⟨_,H',I''.turned (t':=s''.toks) (fun b o hb e=>(hs'.2 b hb).trans e) c0 c1 c3 c4 c5,q⟩
end
theorem z66 {J:It} {n:Nat} {l:Addr} {ix:List (Option Nat)} {g:TG} {te:TE} {σ:St} {H0:Hp} {Qe:Hp→Prop} (Pv:Nat→List V→Hp→Prop) (h0:Pv 0 [] H0)
  (hs:∀ i ys H,i < n→Pv i ys H→H l=some (.lst ys)→J.go i H∧ys.length < sizeLine∧∀ x H',J.yld i H x H'→g x (z0K ix σ) H' fun σ2 H2=>te σ2 H2 fun v H3=>H3 l=some (.lst ys)∧Pv (i+1) (ys++[v]) (upd H3 l (.lst (ys++[v]))))
  (hd:∀ ys H,Pv n ys H→H l=some (.lst ys)→J.stop n H∧Qe H):z7S ix J g te σ l H0 Qe:=by
 refine ⟨fun i m ys H=>m=n - i∧i≤n∧Pv i ys H,⟨n,by simp,Nat.zero_le _,h0⟩,?_⟩
 rintro i m ys H ⟨rfl,hi,p⟩ hl
 by_cases hlt:i < n
 ·obtain ⟨h1,h2,h3⟩:=hs i ys H hlt p hl
  exact .inr ⟨h1,h2,Pv (i+1),fun zs H' q=>⟨n - (i+1),by lia,rfl,hlt,q⟩,h3⟩
 ·have e:i=n:=by lia
  subst e
  exact .inl (hd ys H p hl)
theorem z1W {K:PySem.W.Frag} {a l:Addr} {xs:List V} {ix:List (Option Nat)} {g:TG} {te:TE} {σ:St} {H0:Hp} {Qe:Hp→Prop} (Pv:Nat→List V→Hp→Prop) (h0:Pv 0 [] H0) (hl:∀ i ys H,i≤xs.length→Pv i ys H→SqL K H a xs) (hz:xs.length≤sizeLine)
  (hn:∀ i ys H,Pv i ys H→ys.length=i)
  (hs:∀ i x ys H,xs[i]?=some x→Pv i ys H→H l=some (.lst ys)→g x (z0K ix σ) H fun σ2 H2=>te σ2 H2 fun v H3=>H3 l=some (.lst ys)∧Pv (i+1) (ys++[v]) (upd H3 l (.lst (ys++[v]))))
  (hd:∀ ys H,Pv xs.length ys H→H l=some (.lst ys)→Qe H):z7S ix (Itl K a) g te σ l H0 Qe:=by
 refine z66 (n:=xs.length) Pv h0 (fun i ys H hi p hy=>?_) fun ys H p hy=>⟨⟨xs,hl _ ys H (Nat.le_refl _) p,Nat.le_refl _⟩,hd ys H p hy⟩
 have q:=hl i ys H (Nat.le_of_lt hi) p
 refine ⟨⟨xs,xs[i],q,by simp [hi]⟩,by rw [hn i ys H p];exact Nat.lt_of_lt_of_le hi hz,fun x H' y=>?_⟩
 obtain ⟨e,y⟩:=y
 subst e
 exact hs i x ys _ (y xs q) p hy
theorem z3u {K:PySem.W.Frag} {a l:Addr} {xs:List V} {ix:List (Option Nat)} {g:TG} {te:TE} {σ:St} {H0:Hp} {Qe:Hp→Prop} (Pv:Nat→List V→Hp→Prop) (h0:Pv 0 [] H0) (hl:∀ i ys H,i≤xs.length→Pv i ys H→SqT K H a xs) (hz:xs.length≤sizeLine)
  (hn:∀ i ys H,Pv i ys H→ys.length=i)
  (hs:∀ i x ys H,xs[i]?=some x→Pv i ys H→H l=some (.lst ys)→g x (z0K ix σ) H fun σ2 H2=>te σ2 H2 fun v H3=>H3 l=some (.lst ys)∧Pv (i+1) (ys++[v]) (upd H3 l (.lst (ys++[v]))))
  (hd:∀ ys H,Pv xs.length ys H→H l=some (.lst ys)→Qe H):z7S ix (Itt K a) g te σ l H0 Qe:=by
 refine z66 (n:=xs.length) Pv h0 (fun i ys H hi p hy=>?_) fun ys H p hy=>⟨⟨xs,hl _ ys H (Nat.le_refl _) p,Nat.le_refl _⟩,hd ys H p hy⟩
 have q:=hl i ys H (Nat.le_of_lt hi) p
 refine ⟨⟨xs,xs[i],q,by simp [hi]⟩,by rw [hn i ys H p];exact Nat.lt_of_lt_of_le hi hz,fun x H' y=>?_⟩
 obtain ⟨e,y⟩:=y
 subst e
 exact hs i x ys _ (y xs q) p hy
theorem z2V {lo:Int} {n:Nat} {l:Addr} {ix:List (Option Nat)} {g:TG} {te:TE} {σ:St} {H0:Hp} {Qe:Hp→Prop} (Pv:Nat→List V→Hp→Prop) (h0:Pv 0 [] H0) (hz:n≤sizeLine)
  (hn:∀ i ys H,Pv i ys H→ys.length=i)
  (hs:∀ i ys H,i < n→Pv i ys H→H l=some (.lst ys)→g (.int (lo+i)) (z0K ix σ) H fun σ2 H2=>te σ2 H2 fun v H3=>H3 l=some (.lst ys)∧Pv (i+1) (ys++[v]) (upd H3 l (.lst (ys++[v]))))
  (hd:∀ ys H,Pv n ys H→H l=some (.lst ys)→Qe H):z7S ix (Itr lo n) g te σ l H0 Qe:=by
 refine z66 (n:=n) Pv h0 (fun i ys H hi p hy=>⟨hi,by rw [hn i ys H p];exact Nat.lt_of_lt_of_le hi hz,fun x H' y=>?_⟩) fun ys H p hy=>⟨Nat.le_refl _,hd ys H p hy⟩
 obtain ⟨e,y⟩:=y
 subst e y
 exact hs i ys _ hi p hy
end L2
namespace L2
open PySem PySem.Spec PyProof.Rows
open PySem.AutoSeq1 (wpAny_loadPart')
def zbM (lo:Int) (n:Nat):List V:=(List.range n).map fun i=>V.int (lo+(i:Nat))
theorem z4K (lo:Int) (n:Nat):(zbM lo n).length=n:=by unfold zbM;simp
theorem z3p {lo c:Int} {acc:Array Value} {n:Nat} (hc:c=1) (h:ItemsOf (fun i v=>∃ t,v=.int (lo+i*c) t) acc n):z1e (zbM lo n) acc.toList:=by
 subst hc
 obtain ⟨hs,hi⟩:=h
 have key:∀ (k:Nat) (i:Nat),i+k=n→z1e (((List.range n).drop i).map fun j=>V.int (lo+(j:Nat))) (acc.toList.drop i):=by
  intro k
  induction k with
  | zero =>
   intro i hk
   rw [List.drop_of_length_le (by simp;lia),List.drop_of_length_le (by simp;lia)]
   exact .nil
  | succ k ih =>
   intro i hk
   have h1:i < acc.size:=by lia
   have e1:(List.range n).drop i=i::(List.range n).drop (i+1):=by
    rw [List.drop_eq_getElem_cons (by simp;lia)];simp
   have e2:acc.toList.drop i=acc[i]::acc.toList.drop (i+1):=by
    rw [List.drop_eq_getElem_cons (by simpa using h1)];simp
   rw [e1,e2,List.map_cons]
   refine .cons ?_ (ih (i+1) (by lia))
   obtain ⟨t,e⟩:=hi i acc[i] (by simp [h1])
   exact ⟨t,by rw [e,Int.mul_one]⟩
 have:=key n 0 (by lia)
 simpa [zbM] using this
section
variable {X:Cx}
theorem z4h:z3y X (.type "range") (fun xs H Q=>∃ j:Int,xs=[.int j]∧-(2 ^ 62)≤j∧j < 2 ^ 62∧∀ p,H p=none→Q (.ref p) (upd H p (.rng 0 j))):=by
 intro pins s σ H xs us Q I r h
 obtain ⟨j,rfl,h1,h2,q⟩:=h
 obtain ⟨u,rfl,ru⟩:=z6k r
 obtain ⟨t,rfl⟩:=ru
 refine call_range_1 ?_
 exact ⟨.ref s.heap.objs.size,upd H s.heap.objs.size (.rng 0 j),I.laid (o:=.rng 0 j) (fun b u e=>Heap.get?_push_of_some _ e) (Nat.le_refl _) ⟨_,_,_,Heap.get?_push_size _ rfl⟩,rfl,q _ I.fresh⟩
theorem Inv.rng {pins:List (Addr × Obj)} {σ:St} {H:Hp} {s:Shared} {p:Addr} {lo hi:Int} (I:Inv X pins σ H s) (h:H p=some (.rng lo hi)):∃ t u v,IsRange s.heap p lo hi 1 t u v:=by
 obtain ⟨t,u,v,e⟩:=I.hok p _ h
 exact ⟨t,u,v,e⟩
theorem z8G {lo hi:Int}:Builtin.Range.rangeSize lo hi 1=(((hi - lo).toNat:Nat):Int):=by
 rw [rangeSize_one];split<;>lia
theorem z6r (hc:X.calm=true):z3y X (.type "list") (fun xs H Q=>∃ p lo hi,xs=[.ref p]∧H p=some (.rng lo hi)∧(-(2 ^ 62)≤lo∧lo < 2 ^ 62∧-(2 ^ 62)≤hi∧hi < 2 ^ 62)∧(hi - lo).toNat≤2 ^ 24 ∧
  ∀ l,H l=none→Q (.ref l) (upd H l (.lst (zbM lo (hi - lo).toNat)))):=by
 intro pins s σ H xs us Q I r h
 obtain ⟨p,lo,hi,rfl,hp,⟨b1,b2,b3,b4⟩,hn,q⟩:=h
 obtain ⟨u,rfl,ru⟩:=z6k r
 cases ru
 obtain ⟨t,u,v,hr⟩:=I.rng hp
 refine call_list_range (I.ok.hd hc) hr (small_one b1 b2 b3 b4) z8G hn fun h' tk acc c' hk hl hacc=>?_
 have hv:=z3p rfl hacc
 exact ⟨.ref _,_,I.laid (o:=.lst (zbM lo (hi - lo).toNat)) (fun b u e=>hk b u e) (Nat.le_refl _) ⟨by rw [z4K,sizeLine_eq];lia,acc.toList,c',hv,by simpa using hl⟩,rfl,q _ I.fresh⟩
end
section
variable {prog:Program} {w:World} {A:Around} {E:Value→Shared→Prop} {s:Shared}
theorem z7N {Q:List Value→Shared→Prop} {r:Addr} {a b c:Int} {t u v:Tok} {n:Nat} (hh:A.handled=none) (hr:IsRange s.heap r a b c t u v) (hsmall:Builtin.Range.small a b c=true)
  (hn:Builtin.Range.rangeSize a b c=n) (hlen:n≤2 ^ 24)
  (hQ:∀ h' tk acc,(∀ b o,s.heap.get? b=some o→h'.get? b=some o)→s.heap.objs.size≤h'.objs.size→ItemsOf (fun i v=>∃ t,v=.int (a+i*c) t) acc n→Q acc.toList { s with heap:=h',toks:=tk }) :
  wpAny (model prog w) A (collect (.ref r)) Q E s:=by
 unfold collect
 refine wpAny_bind (wpAny_runValue (codeAny_builtin F.entry_proto_collect ?_))
 rw [Around.under_plainId F.plain_proto_collect _]
 show wpAny _ A.in1 (newList [] >>= fun l =>
  again (.builtin "list.__iadd__" ⟨[l,.ref r],[]⟩)) _ _ s
 refine wpAny_bind (wpAny_newObj_type ?_)
 refine wpAny_pure ⟨plainId_quiet F.plain_list_iadd _,codeAny_builtin F.entry_list_iadd ?_⟩
 rw [Around.under_plainId F.plain_list_iadd _]
 show wpAny _ A.in1 (Builtin.List.listExtendWith (.ref s.heap.objs.size) (.ref r)
  (.ref s.heap.objs.size)) _ _ _
 have hS:(s.heap.push { cls:=.type "list",data:=.seq ([]:List Value).toArray }).get? s.heap.objs.size=some
  { cls:=.type "list",data:=.seq #[] 0 }:=Heap.get?_push_size _ rfl
 have fin':∀ (h':Heap) (tk:Nat) (acc:Array Value) (c':Nat),(∀ b o,b≠s.heap.objs.size→(s.heap.push { cls:=.type "list",data:=.seq ([]:List Value).toArray }).get? b=some o→h'.get? b=some o) →
   h'.get? s.heap.objs.size=some { cls:=.type "list",dict:=none,data:=.seq acc c',slots:=#[] }→ItemsOf (fun i v=>∃ t,v=.int (a+i*c) t) acc n →
   wpAny (model prog w) A (match Value.ref s.heap.objs.size with
    | Value.ref a=>do
     match (←load a).data with
      | Data.seq xs _=>pure xs.toList
      | _=>unsupported "internal:collect"
    | _=>unsupported "internal:collect") Q E { s with heap:=h',toks:=tk }:=fun h' tk acc c' hk hS' hacc=>by
  show wpAny _ A (load s.heap.objs.size >>= _) _ _ _
  refine wpAny_bind (wpAny_load hS' (wpAny_pure ?_))
  exact hQ h' tk acc (fun b o e=>hk b o (Nat.ne_of_lt (Heap.lt_size e)) (Heap.get?_push_of_some _ e)) (Nat.le_of_lt (Heap.lt_size hS')) hacc
 refine wpAny_mono (wpAny_extend_range (A:=A) (R:=fun r s'=>r=.ok (.ret (.ref s.heap.objs.size))∧wpAny (model prog w) A (match Value.ref s.heap.objs.size with
    | Value.ref a=>do
     match (←load a).data with
      | Data.seq xs _=>pure xs.toList
      | _=>unsupported "internal:collect"
    | _=>unsupported "internal:collect") Q E s') (s:={ s with heap:=s.heap.push { cls:=.type "list",data:=.seq ([]:List Value).toArray } }) hh (Heap.get?_push_of_some _ hr) hsmall hn hlen _ (.ref s.heap.objs.size) 0 hS
  fun h' tk acc c' hk hS' hacc=>⟨rfl,fin' h' tk acc c' hk hS' hacc⟩) (fun fin s' h=>?_) (fun e s' h=>?_)
 ·cases fin with
  | done f =>
   obtain ⟨e,h⟩:=h
   cases e
   exact h
  | again c'=>exact ⟨h.1,codeAny_mono h.2 fun r s'' hr=>by obtain ⟨rfl,h2⟩:=hr;exact h2⟩
 ·exact absurd h.1 (by simp)
end
theorem z4V (r:Addr) {a b c:Int} {t u v:Tok} {n:Nat} (hsmall:Builtin.Range.small a b c=true) (hn:Builtin.Range.rangeSize a b c=n) (hlen:n≤2 ^ 24) :
  Meets (Builtin.«tuple.__new__» ⟨[.type "tuple",.ref r],[]⟩)
   (fun A R s=>A.handled=none∧IsRange s.heap r a b c t u v∧∀ (h':Heap) (tk:Nat) (acc:Array Value),(∀ b o,s.heap.get? b=some o→h'.get? b=some o)→s.heap.objs.size≤h'.objs.size→ItemsOf (fun i v=>∃ t,v=.int (a+i*c) t) acc n →
    R (.ok (.ret (.ref h'.objs.size))) { s with heap:=h'.push { cls:=.type "tuple",data:=.seq acc },toks:=tk }) :=
 .of_wp fun prog w A R s h=>by
  obtain ⟨hh,hr,h⟩:=h
  have hsub:=sub_tuple_self
  have hinit:=init_tuple_lookup
  have hmh:=madeHere_tuple
  have hT:s.TypeIs (.ref r) "range":=⟨_,hr,rfl⟩
  have hh1:A.in1.handled=none:=hh
  wp_walk using wpAny_typeOf hT,z7N hh1 hr hsmall hn hlen
  intro h' tk acc hk hz hacc
  show wpAny _ _ (Builtin.Tuple.tupleExact acc.toList.toArray >>=
   fun v=>ret v) _ _ _
  unfold Builtin.Tuple.tupleExact
  refine wpAny_bind (wpAny_newObj_type ?_ (show acc.toList.toArray.size≤sizeLine by simp only [Array.toArray_toList];rw [hacc.1,sizeLine_eq];lia))
  refine wpAny_pure ⟨_,rfl,?_⟩
  have e:acc.toList.toArray=acc:=by simp
  rw [e]
  exact h h' tk acc hk hz hacc
section
variable {X:Cx}
theorem z2a (hc:X.calm=true):z3y X (.type "tuple") (fun xs H Q=>∃ p lo hi,xs=[.ref p]∧H p=some (.rng lo hi)∧(-(2 ^ 62)≤lo∧lo < 2 ^ 62∧-(2 ^ 62)≤hi∧hi < 2 ^ 62)∧(hi - lo).toNat≤2 ^ 24 ∧
  ∀ l,H l=none→Q (.ref l) (upd H l (.tup (zbM lo (hi - lo).toNat)))):=by
 intro pins s σ H xs us Q I r h
 obtain ⟨p,lo,hi,rfl,hp,⟨b1,b2,b3,b4⟩,hn,q⟩:=h
 obtain ⟨u,rfl,ru⟩:=z6k r
 cases ru
 obtain ⟨t,u,v,hr⟩:=I.rng hp
 refine callType_new F.called_tuple (by decide) (F.typeCall_tuple_1 _) (F.newCall_tuple_1 _) (fun obj=>F.args_object_init_2 obj _) F.entry_tuple_new
  (z4V p (t:=t) (u:=u) (v:=v) (small_one b1 b2 b3 b4) z8G hn) ⟨I.ok.hd hc,hr,fun h' tk acc hk hz hacc=>⟨⟨_,Heap.get?_push_size _ rfl,rfl⟩,?_⟩⟩
 have hv:=z3p rfl hacc
 have hf:H h'.objs.size=none:=I.hok.fresh hz
 refine ⟨.ref _,_,I.laid (o:=.tup (zbM lo (hi - lo).toNat)) (fun b u e=>Heap.get?_push_of_some _ (hk b u e)) hz ⟨by rw [z4K,sizeLine_eq];lia,acc.toList,0,hv,by rw [show acc.toList.toArray=acc by simp];exact Heap.get?_push_size _ rfl⟩,rfl,q _ hf⟩
end
section
variable {X:Cx}
theorem z81 {prog:Program} {w:World} {A:Around} {its:Array Value} {bs:List Bool} (r:z1e (bs.map V.bl) its.toList):TruthOf prog w A (fun i v=>its[i]?=some v) (fun i=>bs.getD i false):=by
 intro i v s Q E hi hq
 have hl:=r.length
 rw [List.length_map] at hl
 have hlt:i < bs.length:=by
  have:i < its.size:=by
   rcases Nat.lt_or_ge i its.size with z | z
   ·exact z
   ·rw [Array.getElem?_eq_none z] at hi;cases hi
  simp at hl;lia
 have h1:(bs.map V.bl)[i]?=some (.bl bs[i]):=by simp [hlt]
 obtain ⟨u,hu,ru⟩:=r.get h1
 have:u=v:=by
  have e:its.toList[i]?=some v:=by simpa using hi
  rw [e] at hu
  exact (Option.some.inj hu).symm
 subst this
 cases ru
 refine wpAny_truthy_bool ?_
 have e:bs.getD i false=bs[i]:=by simp [hlt]
 have hq':Q (bs.getD i false) s:=hq
 rw [e] at hq'
 exact hq'
theorem zaM {n:Nat} {bs:List Bool} (h:bs.length=n):(List.range n).any (fun i=>bs.getD i false)=bs.any id:=by
 subst h
 rw [Bool.eq_iff_iff,List.any_eq_true,List.any_eq_true]
 constructor
 ·rintro ⟨i,hi,e⟩
  have hi:i < bs.length:=by simpa using hi
  refine ⟨bs[i],List.getElem_mem hi,?_⟩
  simp [hi] at e
  exact e
 ·rintro ⟨b,hb,e⟩
  obtain ⟨i,hi,e'⟩:=List.getElem_of_mem hb
  refine ⟨i,by simpa using hi,?_⟩
  simp [hi,e']
  exact e
theorem zbV (hc:X.calm=true):z3y X (.builtin "any") (fun xs H Q=>∃ (p:Addr) (bs:List Bool),xs=[.ref p]∧SqL X.K H p (bs.map V.bl)∧Q (.bl (bs.any id)) H):=by
 intro pins s σ H xs us Q I r h
 obtain ⟨p,bs,rfl,hp,q⟩:=h
 obtain ⟨u,rfl,ru⟩:=z6k r
 cases ru
 obtain ⟨its,rv,pl,hz⟩:=I.list hp
 have hlt:p < s.heap.objs.size:=by obtain ⟨o,n,e,_⟩:=pl;exact Heap.lt_size e
 have hl:=rv.length
 rw [List.length_map] at hl
 refine call_any_walk (wpAny_pyIter_list pl.isList ?_)
 refine ⟨s.heap.objs.size,_,_,_,_,_,fun i=>bs.getD i false,rfl,Walks.list (A:=X.A.in1) (show X.A.in1.handled=none from I.ok.hd hc) s.heap.objs.size p (Nat.ne_of_lt hlt) its.toArray,⟨⟨_,Heap.get?_push_size _ rfl,rfl,rfl⟩,Heap.IsList.push pl.isList _⟩,z81 (by simpa using rv),fun h' tk hk=>?_⟩
 rw [zaM (by simpa using hl)]
 exact ⟨.bl _,H,I.kept (t':=tk) (fun b o e=>hk b o (by simpa using (Nat.ne_of_lt (Heap.lt_size e))) (Heap.get?_push_of_some _ e)),rfl,q⟩
end
end L2
namespace L2
open PySem PySem.Spec PyProof.Rows
open PySem.AutoSeq1 (wpAny_loadPart')
section
variable {prog:Program} {w:World} {A:Around} {E:Value→Shared→Prop} {s:Shared}
end
theorem Inv.turnedNew {X:Cx} {pins:List (Addr × Obj)} {σ:St} {H:Hp} {s:Shared} {ch:List Addr} {p:Addr} {o:HO} {h':Heap} {t':Nat} (I:Inv X pins σ H s) (k:∀ b u,b∉ch→s.heap.get? b=some u→h'.get? b=some u)
  (hp:s.heap.objs.size≤p) (new:z1R X.prog X.w (upd H p o) h' p o) (hf:∀ b∈ch,z3G X pins H b):Inv X pins σ (upd H p o) { s with heap:=h',toks:=t' }:=by
 have hn:H p=none:=I.hok.fresh hp
 have nc:∀ b u,H b=some u→b∉ch:=fun b u e z=>by rw [(hf b z).1] at e;cases e
 refine I.step (g':=s.gens) (d':=s.drawn) (ch:=ch) (fun b hb=>?_) (fun b u _ _ hc e _=>k b u hc e) (fun b u _ _ hc e _=>⟨u.slots,k b u hc e⟩) (fun b u _ e n=>?_) (fun b u hc e=>⟨u,k b u hc e⟩)
  (fun b xs e=>?_) (fun b u xs e=>?_) (fun b ps e=>⟨#[],?_⟩) (fun m hm=>?_) (fun b u e=>?_) I.bare
 ·obtain ⟨_,f1,_,f3,f4,f5⟩:=hf b hb
  exact ⟨f3,f1,f4,f5⟩
 ·rw [z0a (Nat.ne_of_lt (Nat.lt_of_lt_of_le (Heap.lt_size e) hp))];exact n
 ·rw [z0a (z0g e hn)];exact e
 ·rw [z0a (z0g e hn)];exact e
 ·rw [z0a (z0g e hn),e];simp
 ·obtain ⟨ob,es,ep,ho,r⟩:=hm
  exact ⟨ob,es,ep,k _ ob (fun z=>(hf _ z).2.1 rfl) ho,r⟩
 ·by_cases hb:b=p
  ·subst hb;rw [z03] at e;cases e;exact new
  ·rw [z0a hb] at e
   refine (I.hok b u e).stay (fun c v hc q=>k c v ?_ q) (fun c q=>by rw [z0a (z0g q hn)];exact q) fun c xs q=>by rw [z0a (z0g q hn)];exact q
   rcases hc with z | z
   ·rw [z];exact nc b u e
   ·exact nc c _ z
theorem Inv.turnedL {X:Cx} {pins:List (Addr × Obj)} {σ:St} {H:Hp} {s:Shared} {ch:List Addr} {h':Heap} {t':Nat} (I:Inv X pins σ H s) (k:∀ b u,b∉ch→s.heap.get? b=some u→h'.get? b=some u)
  (hf:∀ b∈ch,z3G X pins H b):Inv X pins σ H { s with heap:=h',toks:=t' }:=by
 have nc:∀ b u,H b=some u→b∉ch:=fun b u e z=>by rw [(hf b z).1] at e;cases e
 refine I.step (g':=s.gens) (d':=s.drawn) (ch:=ch) (fun b hb=>?_) (fun b u _ _ hc e _=>k b u hc e) (fun b u _ _ hc e _=>⟨u.slots,k b u hc e⟩) (fun b u _ e n=>n) (fun b u hc e=>⟨u,k b u hc e⟩)
  (fun b xs e=>e) (fun b u xs e=>e) (fun b ps e=>⟨#[],by rw [e];simp⟩) (fun m hm=>?_) (fun b u e=>?_) I.bare
 ·obtain ⟨_,f1,_,f3,f4,f5⟩:=hf b hb
  exact ⟨f3,f1,f4,f5⟩
 ·obtain ⟨ob,es,ep,ho,r⟩:=hm
  exact ⟨ob,es,ep,k _ ob (fun z=>(hf _ z).2.1 rfl) ho,r⟩
 ·refine (I.hok b u e).stay (fun c v hc q=>k c v ?_ q) (fun c q=>q) fun c xs q=>q
  rcases hc with z | z
  ·rw [z];exact nc b u e
  ·exact nc c _ z
end L2
namespace L2
open PySem PySem.Spec PyProof.Rows
section
variable {X:Cx} {elts:List Expr} {tk:Nat} {tp:Pos}
def Itz (K:PySem.W.Frag) (a b:Addr):It :=
 ⟨fun i H=>∃ xs ys x y,SqL K H a xs∧SqL K H b ys∧xs[i]?=some x∧ys[i]?=some y,
  fun i H v H'=>∃ p x y,v=.ref p∧H p=none∧(∀ xs,SqL K H a xs→xs[i]?=some x)∧(∀ ys,SqL K H b ys→ys[i]?=some y)∧H'=upd H p (.tup [x,y]),
  fun i H=>∃ xs ys,SqL K H a xs∧SqL K H b ys∧(xs.length≤i∨ys.length≤i)⟩
theorem z3Y {h:Heap} {a b:Addr} {o u:Obj} {x y:String} (ha:h.get? a=some o) (hb:h.get? b=some u) (hx:o.cls=.type x) (hy:u.cls=.type y) (hxy:x≠y):a≠b:=by
 intro e
 subst e
 rw [ha] at hb
 cases hb
 rw [hx] at hy
 injection hy with hy
 exact hxy hy
theorem zc1 {P:Program} {w:World} {K:PySem.W.Frag} (a b z TI TO i1 i2:Addr) (D:TI≠z∧TO≠z∧i1≠z∧i2≠z∧TI≠TO∧TI≠i1∧TI≠i2∧TO≠i1∧TO≠i2∧i1≠i2) :
  zbN P w K (.Tuple elts tk tp) (Itz K a b) [z,TI,TO,i1,i2] z (fun i h=>IsZip h z TI TO .none∧IsPair h TI (.ref i1) (.ref i2)∧(∃ u v,IsPair h TO u v)∧h.IsListIter i1 a i∧h.IsListIter i2 b i) where
 mem:=by simp
 obj:=fun i h st c hc=>by
  obtain ⟨hz,hTI,⟨u,v,hTO⟩,⟨o1,e1,c1,d1⟩,⟨o2,e2,c2,d2⟩⟩:=st
  simp at hc
  rcases hc with q | q | q | q | q
  ·rw [q];exact ⟨_,hz,fun v z=>by cases z⟩
  ·rw [q];exact ⟨_,hTI,fun v z=>by cases z⟩
  ·rw [q];exact ⟨_,hTO,fun v z=>by cases z⟩
  ·rw [q];exact ⟨_,e1,fun v z=>by rw [d1] at z;cases z⟩
  ·rw [q];exact ⟨_,e2,fun v z=>by rw [d2] at z;cases z⟩
 keep:=fun i h h' st k=>by
  obtain ⟨hz,hTI,⟨u,v,hTO⟩,⟨o1,e1,c1⟩,⟨o2,e2,c2⟩⟩:=st
  exact ⟨k z (by simp) _ hz,k TI (by simp) _ hTI,⟨u,v,k TO (by simp) _ hTO⟩,⟨o1,k i1 (by simp) _ e1,c1⟩,⟨o2,k i2 (by simp) _ e2,c2⟩⟩
 item:=by
  intro X hP hw hK hc i pins s σ H E I hf st hg
  subst hP hw hK
  obtain ⟨hz,hTI,⟨u,v,hTO⟩,h1,h2⟩:=st
  obtain ⟨xs,ys,x,y,hxs,hys,hx,hy⟩:=hg
  obtain ⟨its,rv,p,_⟩:=I.list hxs
  obtain ⟨itt,rw',p',_⟩:=I.list hys
  obtain ⟨ux,hux,rux⟩:=rv.get hx
  obtain ⟨uy,huy,ruy⟩:=rw'.get hy
  obtain ⟨d1,d2,d3,d4,d5,d6,d7,d8,d9,d10⟩:=D
  have Da:∀ {l:Addr} {its:Array Value},s.heap.IsList l its→l≠z∧l≠TO∧l≠i1∧l≠i2:=fun {l its} hl=>by
   obtain ⟨o,e,c,_⟩:=hl
   obtain ⟨o1,e1,c1,_⟩:=id h1
   obtain ⟨o2,e2,c2,_⟩:=id h2
   exact ⟨z3Y e hz c rfl (by decide),z3Y e hTO c rfl (by decide),z3Y e e1 c c1 (by decide),z3Y e e2 c c2 (by decide)⟩
  obtain ⟨a1,a2,a3,a4⟩:=Da p.isList
  obtain ⟨b1,b2,b3,b4⟩:=Da p'.isList
  refine wpAny_pyNext_zip_item ⟨d1,d2,d3,d4,d5,d6,d7,d8,d9,d10,a1,a2,a3,a4,b1,b2,b3,b4⟩ hz hTI hTO h1 h2 p.isList p'.isList (x:=ux) (y:=uy) (by simpa using hux) (by simpa using huy) fun h' q1 q2 q3 q4 q5 q6 hk=>?_
  refine ⟨_,rfl,wpAny_letOwnedTupleGo_zip q1 fun h2' hz2 hs2=>?_⟩
  have zlt:z < s.heap.objs.size:=Heap.lt_size hz
  have kk:∀ c o,c∉[z,TO,i1,i2]→s.heap.get? c=some o→h2'.get? c=some o:=fun c o hc q=>by
   simp at hc
   exact (hs2.2 c hc.1).trans (hk c o hc.1 hc.2.1 hc.2.2.1 hc.2.2.2 q)
  have sub:∀ c∈[z,TO,i1,i2],c∈[z,TI,TO,i1,i2]:=fun c hc=>by simp at hc ⊢;rcases hc with q | q | q | q<;>simp [q]
  have I1:Inv X pins σ (upd H s.heap.objs.size (.tup [x,y])) { s with heap:=h2',toks:=s.toks }:=by
   refine I.turnedNew (ch:=[z,TO,i1,i2]) kk (Nat.le_refl _) ?_ (fun c hc=>hf c (sub c hc))
   exact ⟨by show 2≤sizeLine;decide,[ux,uy],0,.cons rux (.cons ruy .nil),(hs2.2 _ (Nat.ne_of_gt zlt)).trans q5⟩
  have up:∀ {c:Addr} {o:Obj},c≠z→h'.get? c=some o→h2'.get? c=some o:=fun {c o} hc q=>(hs2.2 c hc).trans q
  obtain ⟨o3,e3,c3⟩:=q3
  obtain ⟨o4,e4,c4⟩:=q4
  refine ⟨.ref s.heap.objs.size,_,I1,rfl,⟨s.heap.objs.size,x,y,rfl,I.fresh,fun zs hz'=>by rw [I.list_inj hz' hxs];exact hx,fun zs hz'=>by rw [I.list_inj hz' hys];exact hy,rfl⟩,⟨hz2,?_,⟨_,_,up d2 q2⟩,⟨o3,up d3 e3,c3⟩,⟨o4,up d4 e4,c4⟩⟩,fun c hc=>?_⟩
  ·exact up d1 (hk TI _ d1 d5 d6 d7 hTI)
  ·have c0:=(hf c hc).1
   have lt:c < s.heap.objs.size:=by
    obtain ⟨o1,e1,_⟩:=id h1
    obtain ⟨o2,e2,_⟩:=id h2
    simp at hc
    rcases hc with q | q | q | q | q
    ·rw [q];exact zlt
    ·rw [q];exact Heap.lt_size hTI
    ·rw [q];exact Heap.lt_size hTO
    ·rw [q];exact Heap.lt_size e1
    ·rw [q];exact Heap.lt_size e2
   rw [z0a (Nat.ne_of_lt lt)];exact c0
 done:=by
  intro X hP hw hK hc i pins s σ H E I hf st hg
  subst hP hw hK
  obtain ⟨hz,hTI,⟨u,v,hTO⟩,h1,h2⟩:=st
  obtain ⟨xs,ys,hxs,hys,hx⟩:=hg
  obtain ⟨its,rv,p,_⟩:=I.list hxs
  obtain ⟨itt,rw',p',_⟩:=I.list hys
  obtain ⟨d1,d2,d3,d4,d5,d6,d7,d8,d9,d10⟩:=D
  have Da:∀ {l:Addr} {its:Array Value},s.heap.IsList l its→l≠z∧l≠TO∧l≠i1∧l≠i2:=fun {l its} hl=>by
   obtain ⟨o,e,c,_⟩:=hl
   obtain ⟨o1,e1,c1,_⟩:=id h1
   obtain ⟨o2,e2,c2,_⟩:=id h2
   exact ⟨z3Y e hz c rfl (by decide),z3Y e hTO c rfl (by decide),z3Y e e1 c c1 (by decide),z3Y e e2 c c2 (by decide)⟩
  obtain ⟨a1,a2,a3,a4⟩:=Da p.isList
  obtain ⟨b1,b2,b3,b4⟩:=Da p'.isList
  have l1:=rv.length
  have l2:=rw'.length
  refine wpAny_pyNext_zip_end (I.ok.hd hc) ⟨d1,d2,d3,d4,d5,d6,d7,d8,d9,d10,a1,a2,a3,a4,b1,b2,b3,b4⟩ hz hTI hTO h1 h2 p.isList p'.isList ?_ fun h' hk=>⟨rfl,?_⟩
  ·rcases hx with q | q
   ·left;simp;lia
   ·right;simp;lia
  ·refine I.turnedL (ch:=[z,TO,i1,i2]) (t':=s.toks) (fun c o hcc q=>?_) (fun c hcc=>hf c ?_)
   ·simp at hcc
    exact hk c o hcc.1 hcc.2.1 hcc.2.2.1 hcc.2.2.2 q
   ·simp at hcc ⊢;rcases hcc with q | q | q | q<;>simp [q]
 self:=fun A i s Q E st h=>wpAny_pyIter_zip st.1 h
def zgG (K:PySem.W.Frag) (ta:TA):TI:=fun σ H R=>ta σ H fun vs H1=>∃ a b:Addr,vs=[.ref a,.ref b]∧(∃ xs,SqL K H1 a xs)∧(∃ ys,SqL K H1 b ys)∧R (Itz K a b) H1
theorem zd6 {a b:Expr} {ta:TA} {p pos:Pos} (hg:Gl X "zip") (hm:X.mg "zip"=none) (ha:PA X [a,b] ta) (hs:starEach [a,b] X.env=[(false,eval a X.env),(false,eval b X.env)]:=by rfl) (hs2:starEach [b] X.env=[(false,eval b X.env)]:=by rfl) :
  PI X (.Tuple elts tk tp) (.Call (.Name "zip" p) [a,b] [] pos) (zgG X.K ta):=by
 intro pins s σ H R I h
 refine Call_ (z79 I hg hm boot_zip (PyProof.Rows.callWith_type1 (thn (ha pos pins s σ H _ I h) fun us s1 hz8=>?_) (by rw [hs,hs2]) (by rw [hs2];rfl)))
 obtain ⟨vs,H1,I1,r1,q1⟩:=hz8
 obtain ⟨a,b,e,⟨xs,hq⟩,⟨ys,hq'⟩,q⟩:=q1
 subst e
 obtain ⟨u,v,rfl,ru,rv'⟩:=zeC r1
 cases ru
 cases rv'
 obtain ⟨its,rv,pl,hz⟩:=I1.list hq
 obtain ⟨its2,rv2,pl2,hz2⟩:=I1.list hq'
 refine call_zip_2 pl.isList pl2.isList fun h' z1 z2 z3 z4 z5 z6 hk=>wpAny_pyIter_zip z1 ?_
 have I2:Inv X pins σ H1 { s1 with heap:=h' }:=I1.kept (t':=s1.toks) hk
 refine ⟨s1.heap.objs.size+4,[s1.heap.objs.size+4,s1.heap.objs.size+2,s1.heap.objs.size+3,s1.heap.objs.size,s1.heap.objs.size+1],_,_,H1,rfl,I2,
  zc1 a b (s1.heap.objs.size+4) (s1.heap.objs.size+2) (s1.heap.objs.size+3) s1.heap.objs.size (s1.heap.objs.size+1) (by refine ⟨?_,?_,?_,?_,?_,?_,?_,?_,?_,?_⟩<;>(show @Ne Nat _ _;lia)),⟨z1,z2,⟨_,_,z3⟩,z4,z5⟩,fun c hb=>?_,q⟩
 have hb':s1.heap.objs.size≤c:=by
  simp only [List.mem_cons,List.not_mem_nil,or_false] at hb
  rcases hb with q | q | q | q | q<;>(have q:@Eq Nat c _:=q;lia)
 exact I1.fpOk hb' (I1.hok.fresh hb')
end
theorem zeb {K:PySem.W.Frag} {a b:Addr} {xs ys:List V} {g:TG} {tb:TS} {D:z44} {σ:St} {H:Hp} (hlen:xs.length=ys.length) (Pv:Nat→St→Hp→Prop) (h0:Pv 0 σ H) (hl:∀ i σ H,i≤xs.length→Pv i σ H→SqL K H a xs∧SqL K H b ys)
  (hs:∀ i x y p σ H,xs[i]?=some x→ys[i]?=some y→Pv i σ H→H p=none→g (.ref p) σ (upd H p (.tup [x,y])) fun σ2 H2=>tb { D with nx:=Pv (i+1),ct:=Pv (i+1),bk:=D.nx } σ2 H2) (hd:∀ σ H,Pv xs.length σ H→D.nx σ H) :
  ∃ W:Nat→Nat→St→Hp→Prop,(∃ m,W 0 m σ H)∧∀ i m σ H,W i m σ H →
   ((Itz K a b).stop i H∧D.nx σ H)∨((Itz K a b).go i H∧∃ N:St→Hp→Prop,(∀ σ' H',N σ' H'→∃ m',m' < m∧W (i+1) m' σ' H')∧∀ x H',(Itz K a b).yld i H x H'→g x σ H' fun σ2 H2=>tb { D with nx:=N,ct:=N,bk:=D.nx } σ2 H2):=by
 refine ⟨fun i m σ H=>m=xs.length - i∧i≤xs.length∧Pv i σ H,⟨xs.length,by simp,Nat.zero_le _,h0⟩,?_⟩
 rintro i m σ H ⟨rfl,hi,p⟩
 obtain ⟨q,q'⟩:=hl i σ H hi p
 by_cases hlt:i < xs.length
 ·refine .inr ⟨⟨xs,ys,xs[i],ys[i]'(by lia),q,q',by simp [hlt],by simp [show i < ys.length by lia]⟩,Pv (i+1),fun σ' H' p'=>⟨xs.length - (i+1),by lia,rfl,hlt,p'⟩,fun x H' y=>?_⟩
  obtain ⟨c,z,z',rfl,hb,hz,hz',rfl⟩:=y
  exact hs i z z' c σ H (hz xs q) (hz' ys q') p hb
 ·have e:i=xs.length:=by lia
  subst e
  exact .inl ⟨⟨xs,ys,q,q',.inl (Nat.le_refl _)⟩,hd σ H p⟩
theorem zbZ {K:PySem.W.Frag} {a b l:Addr} {xs zs:List V} {ix:List (Option Nat)} {g:TG} {te:TE} {σ:St} {H0:Hp} {Qe:Hp→Prop} (hlen:xs.length=zs.length) (Pv:Nat→List V→Hp→Prop) (h0:Pv 0 [] H0) (hl:∀ i ys H,i≤xs.length→Pv i ys H→SqL K H a xs∧SqL K H b zs) (hz:xs.length≤sizeLine)
  (hn:∀ i ys H,Pv i ys H→ys.length=i)
  (hs:∀ i x y p ys H,xs[i]?=some x→zs[i]?=some y→Pv i ys H→H l=some (.lst ys)→H p=none→g (.ref p) (z0K ix σ) (upd H p (.tup [x,y])) fun σ2 H2=>te σ2 H2 fun v H3=>H3 l=some (.lst ys)∧Pv (i+1) (ys++[v]) (upd H3 l (.lst (ys++[v]))))
  (hd:∀ ys H,Pv xs.length ys H→H l=some (.lst ys)→Qe H):z7S ix (Itz K a b) g te σ l H0 Qe:=by
 refine z66 (n:=xs.length) Pv h0 (fun i ys H hi p hy=>?_) fun ys H p hy=>⟨⟨xs,zs,(hl _ ys H (Nat.le_refl _) p).1,(hl _ ys H (Nat.le_refl _) p).2,.inl (Nat.le_refl _)⟩,hd ys H p hy⟩
 obtain ⟨q,q'⟩:=hl i ys H (Nat.le_of_lt hi) p
 refine ⟨⟨xs,zs,xs[i],zs[i]'(by lia),q,q',by simp [hi],by simp [show i < zs.length by lia]⟩,by rw [hn i ys H p];exact Nat.lt_of_lt_of_le hi hz,fun x H' y=>?_⟩
 obtain ⟨c,z,z',rfl,hb,hz,hz',rfl⟩:=y
 exact hs i z z' c ys H (hz xs q) (hz' zs q') p hy hb
end L2
namespace L2
open PySem PySem.Spec PyProof.Rows
open PySem.AutoSeq1 (wpAny_loadPart')
inductive D where
 | non | bl (b:Bool) | int (i:Int) | str (x:Str) | tup (ds:List D) | lst (ds:List D)
mutual
def Dr (K:PySem.W.Frag) (H:Hp):D→V→Prop
 | .non,v=>v=.non
 | .bl b,v=>v=.bl b
 | .int i,v=>v=.int i
 | .str x,v=>v=.str x
 | .tup ds,v=>∃ (a:Addr) (vs:List V),v=.ref a∧H a=some (.tup vs)∧DrL K H ds vs
 | .lst ds,v=>∃ (a:Addr) (vs:List V),v=.ref a∧SqL K H a vs∧DrL K H ds vs
def DrL (K:PySem.W.Frag) (H:Hp):List D→List V→Prop
 | [],vs=>vs=[]
 | d::ds,vs=>∃ v r,vs=v::r∧Dr K H d v∧DrL K H ds r
end
mutual
theorem Dr.mono {K:PySem.W.Frag} {H H':Hp} (s:z0h H H'):∀ {d:D} {v:V},Dr K H d v→Dr K H' d v
 | .non,_,h=>by simp only [Dr] at h ⊢;exact h
 | .bl _,_,h=>by simp only [Dr] at h ⊢;exact h
 | .int _,_,h=>by simp only [Dr] at h ⊢;exact h
 | .str _,_,h=>by simp only [Dr] at h ⊢;exact h
 | .tup ds,_,h=>by
  simp only [Dr] at h ⊢
  obtain ⟨a,vs,e,q,r⟩:=h
  exact ⟨a,vs,e,s _ _ q,DrL.mono s r⟩
 | .lst ds,_,h=>by
  simp only [Dr] at h ⊢
  obtain ⟨a,vs,e,q,r⟩:=h
  exact ⟨a,vs,e,s.seq q,DrL.mono s r⟩
theorem DrL.mono {K:PySem.W.Frag} {H H':Hp} (s:z0h H H'):∀ {ds:List D} {vs:List V},DrL K H ds vs→DrL K H' ds vs
 | [],_,h=>by simp only [DrL] at h ⊢;exact h
 | d::ds,_,h=>by
  simp only [DrL] at h ⊢
  obtain ⟨v,r,e,q,q'⟩:=h
  exact ⟨v,r,e,Dr.mono s q,DrL.mono s q'⟩
end
theorem DrL.length {K:PySem.W.Frag} {H:Hp}:∀ {ds:List D} {vs:List V},DrL K H ds vs→ds.length=vs.length
 | [],_,h=>by simp only [DrL] at h;subst h;rfl
 | d::ds,_,h=>by
  simp only [DrL] at h
  obtain ⟨v,r,rfl,_,q⟩:=h
  rw [List.length_cons,List.length_cons,DrL.length q]
theorem DrL.get {K:PySem.W.Frag} {H:Hp}:∀ {ds:List D} {vs:List V} {i:Nat} {d:D},DrL K H ds vs→ds[i]?=some d→∃ v,vs[i]?=some v∧Dr K H d v
 | [],_,_,_,_,e=>by simp at e
 | d::ds,_,0,_,h,e=>by
  simp only [DrL] at h
  obtain ⟨v,r,rfl,q,_⟩:=h
  simp at e;subst e
  exact ⟨v,rfl,q⟩
 | d::ds,_,i+1,d',h,e=>by
  simp only [DrL] at h
  obtain ⟨v,r,rfl,_,q⟩:=h
  obtain ⟨v',h1,h2⟩:=DrL.get (i:=i) q (by simpa using e)
  exact ⟨v',by simpa using h1,h2⟩
theorem DrL.append {K:PySem.W.Frag} {H:Hp}:∀ {ds es:List D} {vs us:List V},DrL K H ds vs→DrL K H es us→DrL K H (ds++es) (vs++us)
 | [],_,_,_,h,h'=>by simp only [DrL] at h;subst h;exact h'
 | d::ds,es,_,us,h,h'=>by
  simp only [DrL] at h
  obtain ⟨v,r,rfl,q,q'⟩:=h
  show DrL K H (d::(ds++es)) (v::(r++us))
  simp only [DrL]
  exact ⟨v,_,rfl,q,DrL.append q' h'⟩
theorem DrL.one {K:PySem.W.Frag} {H:Hp} {d:D} {v:V} (h:Dr K H d v):DrL K H [d] [v]:=by
 simp only [DrL];exact ⟨v,[],rfl,h,rfl⟩
theorem DrL.nil {K:PySem.W.Frag} {H:Hp}:DrL K H [] []:=by simp only [DrL]
theorem DrL.cons {K:PySem.W.Frag} {H:Hp} {d:D} {v:V} {ds:List D} {vs:List V} (h:Dr K H d v) (h':DrL K H ds vs):DrL K H (d::ds) (v::vs):=by
 simp only [DrL];exact ⟨v,vs,rfl,h,h'⟩
theorem DrL.ints {K:PySem.W.Frag} {H:Hp}:∀ (ns:List Int),DrL K H (ns.map D.int) (ns.map V.int)
 | []=>DrL.nil
 | n::r=>DrL.cons (by simp only [Dr]) (DrL.ints r)
theorem DrL.ints_inv {K:PySem.W.Frag} {H:Hp}:∀ {ns:List Int} {vs:List V},DrL K H (ns.map D.int) vs→vs=ns.map V.int
 | [],_,h=>by simp only [List.map_nil,DrL] at h;rw [h];rfl
 | n::r,_,h=>by
  simp only [List.map_cons,DrL] at h
  obtain ⟨v,w,rfl,q,q'⟩:=h
  simp only [Dr] at q
  subst q
  rw [DrL.ints_inv q',List.map_cons]
theorem Dr.tup {K:PySem.W.Frag} {H:Hp} {a:Addr} {ds:List D} {vs:List V} (h:H a=some (.tup vs)) (r:DrL K H ds vs):Dr K H (.tup ds) (.ref a):=by
 simp only [Dr];exact ⟨a,vs,rfl,h,r⟩
theorem Dr.lst {K:PySem.W.Frag} {H:Hp} {a:Addr} {ds:List D} {vs:List V} (h:H a=some (.lst vs)) (r:DrL K H ds vs):Dr K H (.lst ds) (.ref a):=by
 simp only [Dr];exact ⟨a,vs,rfl,SqL.of h,r⟩
theorem Dr.int {K:PySem.W.Frag} {H:Hp} (i:Int):Dr K H (.int i) (.int i):=by simp only [Dr]
abbrev D.its (ns:List Int):D:=.tup (ns.map D.int)
end L2
namespace L2
open PySem PySem.Spec PyProof.Rows
open PySem.SeqAt
mutual
def D.eq:D→D→Bool
 | .non,.non=>true
 | .bl a,.bl b=>a == b
 | .int i,.int j=>i == j
 | .str x,.str y=>decide (x=y)
 | .tup a,.tup b=>D.eqL a b
 | .lst a,.lst b=>D.eqL a b
 | _,_=>false
def D.eqL:List D→List D→Bool
 | [],[]=>true
 | d::ds,e::es=>D.eq d e && D.eqL ds es
 | _,_=>false
end
mutual
def D.ok:D→D→Prop
 | .non,.non=>True
 | .bl _,.bl _=>True
 | .int _,.int _=>True
 | .str _,.str _=>True
 | .tup a,.tup b=>D.okL a b
 | .lst a,.lst b=>D.okL a b
 | _,_=>False
def D.okL:List D→List D→Prop
 | d::ds,e::es=>D.ok d e∧D.okL ds es
 | _,_=>True
end
mutual
def D.dep:D→Nat
 | .tup a=>D.depL a+1
 | .lst a=>D.depL a+1
 | _=>0
def D.depL:List D→Nat
 | []=>0
 | d::ds=>max (D.dep d) (D.depL ds)
end
mutual
theorem D.eq_refl:∀ d:D,D.eq d d=true
 | .non=>by simp only [D.eq]
 | .bl b=>by simp only [D.eq,beq_self_eq_true]
 | .int i=>by simp only [D.eq,beq_self_eq_true]
 | .str x=>by simp only [D.eq,decide_true]
 | .tup a=>by simp only [D.eq];exact D.eqL_refl a
 | .lst a=>by simp only [D.eq];exact D.eqL_refl a
theorem D.eqL_refl:∀ ds:List D,D.eqL ds ds=true
 | []=>by simp only [D.eqL]
 | d::ds=>by simp only [D.eqL,D.eq_refl d,D.eqL_refl ds,Bool.and_self]
end
mutual
theorem D.eq_of:∀ {d e:D},D.eq d e=true→d=e
 | .non,e,h=>by cases e<;>simp only [D.eq,Bool.false_eq_true] at h<;>rfl
 | .bl b,e,h=>by cases e<;>simp only [D.eq,Bool.false_eq_true,beq_iff_eq] at h;rw [h]
 | .int b,e,h=>by cases e<;>simp only [D.eq,Bool.false_eq_true,beq_iff_eq] at h;rw [h]
 | .str b,e,h=>by cases e<;>simp only [D.eq,Bool.false_eq_true,decide_eq_true_eq] at h;rw [h]
 | .tup b,e,h=>by
  cases e<;>simp only [D.eq,Bool.false_eq_true] at h
  rw [D.eqL_of h]
 | .lst b,e,h=>by
  cases e<;>simp only [D.eq,Bool.false_eq_true] at h
  rw [D.eqL_of h]
theorem D.eqL_of:∀ {d e:List D},D.eqL d e=true→d=e
 | [],e,h=>by cases e<;>simp only [D.eqL,Bool.false_eq_true] at h;rfl
 | d::ds,e,h=>by
  cases e<;>simp only [D.eqL,Bool.false_eq_true,Bool.and_eq_true] at h
  rw [D.eq_of h.1,D.eqL_of h.2]
end
theorem D.okL_get:∀ {ds es:List D} {j:Nat} {d e:D},D.okL ds es→ds[j]?=some d→es[j]?=some e→D.ok d e
 | [],_,_,_,_,_,h,_=>by simp at h
 | _::_,[],_,_,_,_,_,h=>by simp at h
 | _::_,_::_,0,_,_,h,h1,h2=>by
  simp only [D.okL] at h
  simp at h1 h2;subst h1 h2;exact h.1
 | _::_,_::_,j+1,_,_,h,h1,h2=>by
  simp only [D.okL] at h
  exact D.okL_get h.2 (by simpa using h1) (by simpa using h2)
theorem D.depL_get:∀ {ds:List D} {j:Nat} {d:D},ds[j]?=some d→D.dep d≤D.depL ds
 | [],_,_,h=>by simp at h
 | _::_,0,_,h=>by
  simp at h;subst h;simp only [D.depL];exact Nat.le_max_left _ _
 | _::ds,j+1,_,h=>by
  simp only [D.depL]
  exact Nat.le_trans (D.depL_get (ds:=ds) (j:=j) (by simpa using h)) (Nat.le_max_right _ _)
def D.at_ (ds es:List D) (j:Nat):Bool:=match ds[j]?,es[j]? with | some d,some e=>D.eq d e | _,_=>true
theorem D.all_eqL:∀ (ds es:List D),(((List.range (min ds.length es.length)).all (D.at_ ds es)) && ds.length == es.length)=D.eqL ds es
 | [],[]=>by simp [D.eqL]
 | [],e::es=>by simp [D.eqL]
 | d::ds,[]=>by simp [D.eqL]
 | d::ds,e::es=>by
  have ih:=D.all_eqL ds es
  simp only [D.eqL]
  rw [←ih]
  have e1:min (d::ds).length (e::es).length=min ds.length es.length+1:=by simp only [List.length_cons];lia
  rw [e1,List.range_succ_eq_map,List.all_cons,List.all_map,Bool.and_assoc]
  have e2:D.at_ (d::ds) (e::es) 0=D.eq d e:=by simp [D.at_]
  have e3:(D.at_ (d::ds) (e::es) ∘ Nat.succ)=D.at_ ds es:=by funext j;simp [D.at_]
  have e4:((d::ds).length == (e::es).length)=(ds.length == es.length):=by simp
  rw [e2,e3,e4]
theorem D.all_eqL' {ds es:List D} (h:ds.length=es.length):(List.range ds.length).all (D.at_ ds es)=D.eqL ds es:=by
 rw [←D.all_eqL ds es]
 have:min ds.length es.length=ds.length:=by lia
 rw [this]
 simp [h]
theorem D.eqL_len {ds es:List D} (h:ds.length≠es.length):D.eqL ds es=false:=by
 rw [←D.all_eqL ds es]
 have:(ds.length == es.length)=false:=by simpa using h
 rw [this,Bool.and_false]
section
variable {X:Cx} {pins:List (Addr × Obj)} {σ:St} {H:Hp} {s:Shared}
mutual
theorem Dr.inj (I:Inv X pins σ H s):∀ {d e:D} {v:V},Dr X.K H d v→Dr X.K H e v→D.ok d e→d=e
 | .non,e,v,h,h',o=>by cases e<;>simp only [D.ok] at o<;>rfl
 | .bl b,e,v,h,h',o=>by
  cases e<;>simp only [D.ok] at o
  simp only [Dr] at h h';rw [h] at h';cases h';rfl
 | .int b,e,v,h,h',o=>by
  cases e<;>simp only [D.ok] at o
  simp only [Dr] at h h';rw [h] at h';cases h';rfl
 | .str b,e,v,h,h',o=>by
  cases e<;>simp only [D.ok] at o
  simp only [Dr] at h h';rw [h] at h';cases h';rfl
 | .tup ds,e,v,h,h',o=>by
  cases e<;>simp only [D.ok] at o
  simp only [Dr] at h h'
  obtain ⟨a,vs,rfl,q,r⟩:=h
  obtain ⟨b,us,eq,q',r'⟩:=h'
  cases eq
  have:=I.tuple_inj (SqT.of q) (SqT.of q')
  subst this
  rw [DrL.inj I r r' o]
 | .lst ds,e,v,h,h',o=>by
  cases e<;>simp only [D.ok] at o
  simp only [Dr] at h h'
  obtain ⟨a,vs,rfl,q,r⟩:=h
  obtain ⟨b,us,eq,q',r'⟩:=h'
  cases eq
  have:=I.list_inj q q'
  subst this
  rw [DrL.inj I r r' o]
theorem DrL.inj (I:Inv X pins σ H s):∀ {ds es:List D} {vs:List V},DrL X.K H ds vs→DrL X.K H es vs→D.okL ds es→ds=es
 | [],[],_,_,_,_=>rfl
 | [],_::_,_,h,h',_=>by
  simp only [DrL] at h h'
  obtain ⟨_,_,e,_⟩:=h'
  rw [h] at e;cases e
 | _::_,[],_,h,h',_=>by
  simp only [DrL] at h h'
  obtain ⟨_,_,e,_⟩:=h
  rw [h'] at e;cases e
 | d::ds,e::es,_,h,h',o=>by
  simp only [DrL] at h h'
  simp only [D.okL] at o
  obtain ⟨v,r,rfl,q,q'⟩:=h
  obtain ⟨u,w,eq,p,p'⟩:=h'
  cases eq
  rw [Dr.inj I q p o.1,DrL.inj I q' p' o.2]
end
theorem zeq (I:Inv X pins σ H s):∀ (n:Nat) (A:Around) {d e:D} {x y:V} {v u:Value},D.dep d≤n→A.units+n < cLine→Dr X.K H d x→Dr X.K H e y→D.ok d e→z1g x v→z1g y u→EqAt A s v u (D.eq d e)∧(∀ l b,x=.ref l→y=.ref b→RcAt A s v u (D.eq d e)):=by
 intro n
 induction n with
 | zero =>
  intro A d e x y v u hd hu hx hy o rx ry
  cases d<;>cases e<;>simp only [D.ok] at o<;>simp only [D.dep,Nat.le_zero,Nat.add_eq_zero_iff,Nat.one_ne_zero,and_false] at hd
  ·simp only [Dr] at hx hy;subst hx hy;cases rx;cases ry
   exact ⟨EqAt.same _,fun _ _ h=>nomatch h⟩
  ·rename_i a b
   simp only [Dr] at hx hy;subst hx hy;cases rx;cases ry
   simp only [D.eq]
   exact ⟨EqAt.bool_bool _ _,fun _ _ h=>nomatch h⟩
  ·rename_i a b
   simp only [Dr] at hx hy;subst hx hy;obtain ⟨t,rfl⟩:=rx;obtain ⟨t',rfl⟩:=ry
   simp only [D.eq]
   exact ⟨fun prog w E Q h=>wpAny_eqBool_int h,fun _ _ h=>nomatch h⟩
  ·rename_i a b
   simp only [Dr] at hx hy;subst hx hy;obtain ⟨t,rfl⟩:=rx;obtain ⟨t',rfl⟩:=ry
   simp only [D.eq]
   exact ⟨fun prog w E Q h=>wpAny_eqBool_str h,fun _ _ h=>nomatch h⟩
 | succ n ih =>
  intro A d e x y v u hd hu hx hy o rx ry
  have flat:D.dep d≤0→EqAt A s v u (D.eq d e)∧(∀ l b,x=.ref l→y=.ref b→RcAt A s v u (D.eq d e)):=fun z=>ih A (Nat.le_trans z (Nat.zero_le _)) (by lia) hx hy o rx ry
  have hin:A.in1.units+n < cLine:=by show A.units+1+n < cLine;lia
  have both:∀ {l b:Addr} {k:Bool},RcAt A s (.ref l) (.ref b) k→(l=b→k=true)→EqAt A s (.ref l) (.ref b) k:=fun {l b k} h hk=>by
   by_cases e:l=b
   ·have z:=hk e
    subst e
    rw [z]
    exact EqAt.same _
   ·exact EqAt.of_refs e h
  have items:∀ {ds es:List D} {vs us:List V} {its itt:List Value},D.depL ds≤n→D.okL ds es→DrL X.K H ds vs→DrL X.K H es us→z1e vs its→z1e us itt→∀ j (h1:j < its.toArray.size) (h2:j < itt.toArray.size),EqAt A.in1 s its.toArray[j] itt.toArray[j] (D.at_ ds es j):=by
   intro ds es vs us its itt hdp hok r r' rv rv' j h1 h2
   have l1:=rv.length
   have l2:=rv'.length
   have l3:=r.length
   have l4:=r'.length
   have h1':j < its.length:=by simpa using h1
   have h2':j < itt.length:=by simpa using h2
   have e1:ds[j]?=some ds[j]:=List.getElem?_eq_getElem (by lia)
   have e2:es[j]?=some es[j]:=List.getElem?_eq_getElem (by lia)
   obtain ⟨x1,g1,d1⟩:=r.get e1
   obtain ⟨x2,g2,d2⟩:=r'.get e2
   obtain ⟨u1,k1,q1⟩:=rv.get g1
   obtain ⟨u2,k2,q2⟩:=rv'.get g2
   have z1:u1=its.toArray[j]:=by
    rw [List.getElem?_eq_getElem h1'] at k1
    have:=Option.some.inj k1
    simpa using this.symm
   have z2:u2=itt.toArray[j]:=by
    rw [List.getElem?_eq_getElem h2'] at k2
    have:=Option.some.inj k2
    simpa using this.symm
   have z3:D.at_ ds es j=D.eq ds[j] es[j]:=by unfold D.at_;rw [e1,e2]
   rw [z3,←z1,←z2]
   exact (ih A.in1 (Nat.le_trans (D.depL_get e1) hdp) hin d1 d2 (D.okL_get hok e1 e2) q1 q2).1
  cases d with
  | non=>exact flat (Nat.le_refl _)
  | bl _=>exact flat (Nat.le_refl _)
  | int _=>exact flat (Nat.le_refl _)
  | str _=>exact flat (Nat.le_refl _)
  | tup ds =>
   cases e<;>simp only [D.ok] at o
   rename_i es
   have inj:=fun (q:x=y)=>Dr.inj I hx (q ▸ hy) (by simp only [D.ok];exact o)
   have hdp:D.depL ds≤n:=by simp only [D.dep] at hd;lia
   simp only [Dr] at hx hy
   obtain ⟨l,vs,rfl,q,r⟩:=hx
   obtain ⟨b,us,rfl,q',r'⟩:=hy
   cases rx
   cases ry
   obtain ⟨its,rv,pl,_⟩:=I.tuple (SqT.of q)
   obtain ⟨itt,rv',pl',_⟩:=I.tuple (SqT.of q')
   have R:RcAt A s (.ref l) (.ref b) (D.eq (.tup ds) (.tup es)):=by
    have z:=RcAt.tuples (A:=A) (e:=D.at_ ds es) pl pl' (by lia) (items hdp o r r' rv rv')
    have e1:its.toArray.size=ds.length:=by rw [r.length,rv.length];simp
    have e2:itt.toArray.size=es.length:=by rw [r'.length,rv'.length];simp
    rw [e1,e2,D.all_eqL] at z
    simp only [D.eq]
    exact z
   exact ⟨both R fun h=>by subst h;have:=inj rfl;rw [this];exact D.eq_refl _,fun _ _ _ _=>R⟩
  | lst ds =>
   cases e<;>simp only [D.ok] at o
   rename_i es
   have inj:=fun (q:x=y)=>Dr.inj I hx (q ▸ hy) (by simp only [D.ok];exact o)
   have hdp:D.depL ds≤n:=by simp only [D.dep] at hd;lia
   simp only [Dr] at hx hy
   obtain ⟨l,vs,rfl,q,r⟩:=hx
   obtain ⟨b,us,rfl,q',r'⟩:=hy
   cases rx
   cases ry
   obtain ⟨its,rv,pl,_⟩:=I.list q
   obtain ⟨itt,rv',pl',_⟩:=I.list q'
   have e1:its.toArray.size=ds.length:=by rw [r.length,rv.length];simp
   have e2:itt.toArray.size=es.length:=by rw [r'.length,rv'.length];simp
   have R:RcAt A s (.ref l) (.ref b) (D.eq (.lst ds) (.lst es)):=by
    by_cases hl:ds.length=es.length
    ·have z:=RcAt.lists (A:=A) (e:=D.at_ ds es) pl.isList pl'.isList (by lia) (by lia) (items hdp o r r' rv rv')
     rw [e1,D.all_eqL' hl] at z
     simp only [D.eq]
     exact z
    ·have z:=RcAt.lists_lengths (A:=A) pl.isList pl'.isList (by rw [e1,e2];simpa using hl) (by lia)
     simp only [D.eq]
     rw [D.eqL_len hl]
     exact z
   exact ⟨both R fun h=>by subst h;have:=inj rfl;rw [this];exact D.eq_refl _,fun _ _ _ _=>R⟩
theorem zdi (hu:X.A.units+64 < cLine):OpR X (compareOp .Eq) (fun x y H Q=>∃ (a b:Addr) (d e:D),x=.ref a∧y=.ref b∧Dr X.K H d x∧Dr X.K H e y∧D.ok d e∧D.dep d≤50∧Q (.bl (D.eq d e)) H):=by
 intro pins s σ H x y v u Q I rx ry h
 obtain ⟨a,b,d,e,hx,hy,dx,dy,o,hd,q⟩:=h
 have R:=(zeq I 50 X.A hd (by lia) dx dy o rx ry).2 a b hx hy
 exact R _ _ _ _ ⟨.bl _,H,I,rfl,q⟩
end
end L2
namespace L2
open PySem PySem.Spec PyProof.Rows PySem.SeqAt
open PySem.AutoSeq1 (wpAny_loadPart')
section
variable {X:Cx}
end
end L2
namespace L2
open PySem PySem.Spec PyProof.Rows
section
variable {X:Cx} (K:PySem.W.Frag)
theorem ixL (h:X.K=K):IxR X (zgQ K):=h ▸ z0X
theorem ixT (h:X.K=K):IxR X (zgN K):=h ▸ z1G
theorem zgP (h:X.K=K):z3y X (.type "tuple") (fun xs H Q=>∃ p ys,xs=[.ref p]∧((SqL K H p ys∧∀ l,H l=none→Q (.ref l) (upd H l (.tup ys)))∨(SqT K H p ys∧Q (.ref p) H))):=h ▸ z0v
theorem piT {tg l:Expr} {tl:TE} (h:X.K=K) (hl:PE X l tl):PI X tg l (zgx K tl):=h ▸ z3t hl
variable {o e:Expr} {es:List Expr} {to:TE} {t:TA} {name:Str} {apos cpos:Pos} {T id:String} {r:V→List V→Hp→VK→Prop}
theorem zhd (h:X.K=K) (hc:X.calm=true):z3y X (.builtin "any") (fun xs H Q=>∃ (p:Addr) (bs:List Bool),xs=[.ref p]∧SqL K H p (bs.map V.bl)∧Q (.bl (bs.any _root_.id)) H):=h ▸ zbV hc
theorem pgT {es:List Expr} {k:Nat} {t:TGs} {n:Nat} {pos:Pos} (h:X.K=K) (hc:X.calm=true) (hp:PGs X es t)
  (hn:(assignEach es X.env).length=n:=by rfl) (hst:(assignEach es X.env).findIdx? (·.1)=none:=by rfl):PG X (.Tuple es k pos) (zgU K n t):=h ▸ z22 hc hp hn hst
theorem zgf {elts:List Expr} {tk:Nat} {tp:Pos} {a b:Expr} {ta:TA} {p pos:Pos} (h:X.K=K) (hg:Gl X "zip") (hm:X.mg "zip"=none) (ha:PA X [a,b] ta) (hs:starEach [a,b] X.env=[(false,eval a X.env),(false,eval b X.env)]:=by rfl) (hs2:starEach [b] X.env=[(false,eval b X.env)]:=by rfl) :
  PI X (.Tuple elts tk tp) (.Call (.Name "zip" p) [a,b] [] pos) (zgG K ta):=h ▸ zd6 hg hm ha hs hs2
end
mutual
def D.few:D→Prop
 | .tup a=>a.length≤5000∧D.fewL a
 | .lst a=>a.length≤5000∧D.fewL a
 | _=>True
def D.fewL:List D→Prop
 | []=>True
 | d::ds=>D.few d∧D.fewL ds
end
theorem D.depL_ints:∀ ns:List Int,D.depL (ns.map D.int)=0
 | []=>by simp only [List.map_nil,D.depL]
 | n::r=>by simp only [List.map_cons,D.depL,D.dep,D.depL_ints r];rfl
end L2
namespace Gu
open PySem L2
def cell (ns:List Int) (i:Nat):Int:=if i < ns.length then ns.getD i 0 else if ns.length=0 then 29*i+5 else ns.getD (i % ns.length) 0 % 1000003+103*i
def z3N (ns:List Int) (i:Nat):Int:=2+cell ns i % 4
theorem z5y (ns:List Int) (i:Nat):2≤z3N ns i:=by unfold z3N;have:=Int.emod_nonneg (cell ns i) (show (4:Int)≠0 by decide);lia
theorem z9N (ns:List Int) (i:Nat):z3N ns i≤5:=by unfold z3N;have:=Int.emod_lt_of_pos (cell ns i) (show (0:Int) < 4 by decide);lia
def zdn (ns:List Int) (i:Nat):Nat:=(z3N ns i).toNat
theorem zdL (ns:List Int) (i:Nat):2≤zdn ns i:=by unfold zdn;have:=z5y ns i;lia
theorem zdz (ns:List Int) (i:Nat):zdn ns i≤5:=by unfold zdn;have:=z9N ns i;lia
theorem zcn (ns:List Int) (i:Nat):((zdn ns i:Nat):Int)=2+cell ns i % 4:=by unfold zdn;have:=z5y ns i;unfold z3N at *;lia
def z0z (n:Nat):List Int:=(List.range n).map fun (i:Nat)=>(i:Int)
theorem z0P (n:Nat):(z0z n).length=n:=by simp [z0z]
theorem z1O {n i:Nat} (h:i < n):(z0z n)[i]?=some (i:Int):=by simp [z0z,h]
theorem z1t {n:Nat} {x:Int}:x∈z0z n↔0≤x∧x < n:=by
 constructor
 ·intro h
  obtain ⟨i,hi,rfl⟩:=List.mem_map.mp h
  have:=List.mem_range.mp hi
  lia
 ·intro ⟨h0,h1⟩
  exact List.mem_map.mpr ⟨x.toNat,List.mem_range.mpr (by lia),by lia⟩
theorem z9y (n:Nat):(z0z n).Nodup:=by
 unfold z0z
 rw [List.nodup_iff_pairwise_ne,List.pairwise_map]
 exact List.Pairwise.imp (fun h=>by lia) List.nodup_range
theorem z3n (n:Nat):zbM 0 n=(z0z n).map V.int:=by
 unfold zbM z0z
 rw [List.map_map]
 refine List.map_congr_left fun i _=>?_
 simp
theorem z2O:∀ (l:List Int) (i:Nat) (h:i < l.length),(l[i]::l.eraseIdx i).Perm l
 | [],_,h=>by simp at h
 | a::r,0,_=>List.Perm.refl _
 | a::r,i+1,h=>by
  have ih:=z2O r i (by simpa using h)
  show (r[i]'(by simpa using h)::a::r.eraseIdx i).Perm (a::r)
  exact (List.Perm.swap _ _ _).trans (ih.cons a)
def zdg:Nat→Int→List Int→List Int
 | 0,_,_=>[]
 | k+1,p,left=>left.getD (p % (left.length:Int)).toNat 0::zdg k (p / (left.length:Int)) (left.eraseIdx (p % (left.length:Int)).toNat)
def z9Q (pick:Int) (n:Nat):List Int:=zdg n pick (z0z n)
theorem z7p:∀ (k:Nat) (p:Int) (left:List Int),left.length=k→(zdg k p left).Perm left
 | 0,_,left,h=>by
  have:left=[]:=List.length_eq_zero_iff.mp h
  subst this
  exact List.Perm.refl _
 | k+1,p,left,h=>by
  have hpos:(0:Int) < left.length:=by lia
  have h0:=Int.emod_nonneg p (show (left.length:Int)≠0 by lia)
  have h1:=Int.emod_lt_of_pos p hpos
  have hi:(p % (left.length:Int)).toNat < left.length:=by lia
  unfold zdg
  have e:left.getD (p % (left.length:Int)).toNat 0=left[(p % (left.length:Int)).toNat]:=by simp [hi]
  rw [e]
  have ih:=z7p k (p / (left.length:Int)) (left.eraseIdx (p % (left.length:Int)).toNat) (by rw [List.length_eraseIdx_of_lt hi];lia)
  exact (ih.cons _).trans (z2O _ _ hi)
theorem z5m (pick:Int) (n:Nat):(z9Q pick n).Perm (z0z n):=z7p n pick (z0z n) (z0P n)
def IsP (n:Nat) (p:List Int):Prop:=p.Perm (z0z n)
theorem IsP.len {n:Nat} {p:List Int} (h:IsP n p):p.length=n:=by rw [List.Perm.length_eq h,z0P]
def z4a (one other:List Int):List Int:=one.map fun x=>other.getD x.toNat 0
def zht (p:List Int):List Int:=(z0z p.length).map fun k=>((p.idxOf k:Nat):Int)
end Gu
namespace L2
open PySem PySem.Spec PyProof.Rows PySem.SeqAt
instance:DecidableEq D:=fun a b=>if h:D.eq a b=true then isTrue (D.eq_of h) else isFalse fun e=>h (by rw [e];exact D.eq_refl b)
theorem D.dec (a b:D):decide (a=b)=D.eq a b:=by
 by_cases h:D.eq a b=true
 ·rw [decide_eq_true (D.eq_of h),h]
 ·rw [decide_eq_false (fun e=>h (by rw [e];exact D.eq_refl b)),Bool.eq_false_iff.mpr h]
mutual
def Hd (h:Heap):D→Value→Prop
 | .int i,v=>∃ t,v=.int i t
 | .tup ds,v=>∃ (a:Addr) (o:Obj) (its:Array Value) (n:Nat),v=.ref a∧h.get? a=some o∧o.cls=.type "tuple"∧o.data=.seq its n∧HdL h ds its.toList
 | _,_=>False
def HdL (h:Heap):List D→List Value→Prop
 | [],vs=>vs=[]
 | d::ds,vs=>∃ v r,vs=v::r∧Hd h d v∧HdL h ds r
end
mutual
def D.hash:D→Int
 | .int i=>hashInt i
 | .tup ds=>reduceHash (Builtin.Tuple.tupleHashOf (D.hashL ds))
 | _=>0
def D.hashL:List D→List Int
 | []=>[]
 | d::ds=>D.hash d::D.hashL ds
end
mutual
def D.draws:D→Nat
 | .tup ds=>D.drawsL ds+1
 | _=>1
def D.drawsL:List D→Nat
 | []=>0
 | d::ds=>D.draws d+D.drawsL ds
end
theorem D.hashL_app:∀ a b:List D,D.hashL (a++b)=D.hashL a++D.hashL b
 | [],b=>by simp only [List.nil_append,D.hashL]
 | d::a,b=>by simp only [List.cons_append,D.hashL,D.hashL_app a b]
theorem D.drawsL_app:∀ a b:List D,D.drawsL (a++b)=D.drawsL a+D.drawsL b
 | [],b=>by simp only [List.nil_append,D.drawsL,Nat.zero_add]
 | d::a,b=>by simp only [List.cons_append,D.drawsL,D.drawsL_app a b,Nat.add_assoc]
theorem HdL.length {h:Heap}:∀ {ds:List D} {vs:List Value},HdL h ds vs→ds.length=vs.length
 | [],_,h=>by simp only [HdL] at h;subst h;rfl
 | d::ds,_,h=>by
  simp only [HdL] at h
  obtain ⟨v,r,rfl,_,q⟩:=h
  rw [List.length_cons,List.length_cons,HdL.length q]
theorem HdL.get {h:Heap}:∀ {ds:List D} {vs:List Value} {i:Nat} {d:D},HdL h ds vs→ds[i]?=some d→∃ v,vs[i]?=some v∧Hd h d v
 | [],_,_,_,_,e=>by simp at e
 | d::ds,_,0,_,h,e=>by
  simp only [HdL] at h
  obtain ⟨v,r,rfl,q,_⟩:=h
  simp at e;subst e
  exact ⟨v,rfl,q⟩
 | d::ds,_,i+1,d',h,e=>by
  simp only [HdL] at h
  obtain ⟨v,r,rfl,_,q⟩:=h
  obtain ⟨v',h1,h2⟩:=HdL.get (i:=i) q (by simpa using e)
  exact ⟨v',by simpa using h1,h2⟩
mutual
theorem Hd.keep {h h':Heap} (k:∀ a o its n,h.get? a=some o→o.cls=.type "tuple"→o.data=.seq its n→h'.get? a=some o):∀ {d:D} {v:Value},Hd h d v→Hd h' d v
 | .int _,_,q=>by simp only [Hd] at q ⊢;exact q
 | .tup ds,_,q=>by
  simp only [Hd] at q ⊢
  obtain ⟨a,o,its,n,e,h1,h2,h3,h4⟩:=q
  exact ⟨a,o,its,n,e,k a o its n h1 h2 h3,h2,h3,HdL.keep k h4⟩
 | .non,_,q=>by simp only [Hd] at q
 | .bl _,_,q=>by simp only [Hd] at q
 | .str _,_,q=>by simp only [Hd] at q
 | .lst _,_,q=>by simp only [Hd] at q
theorem HdL.keep {h h':Heap} (k:∀ a o its n,h.get? a=some o→o.cls=.type "tuple"→o.data=.seq its n→h'.get? a=some o):∀ {ds:List D} {vs:List Value},HdL h ds vs→HdL h' ds vs
 | [],_,q=>by simp only [HdL] at q ⊢;exact q
 | d::ds,_,q=>by
  simp only [HdL] at q ⊢
  obtain ⟨v,r,e,q1,q2⟩:=q
  exact ⟨v,r,e,Hd.keep k q1,HdL.keep k q2⟩
end
mutual
theorem Hd.inj {h:Heap}:∀ {d e:D} {v:Value},Hd h d v→Hd h e v→d=e
 | .int _,e,v,p,q=>by
  simp only [Hd] at p
  obtain ⟨t,rfl⟩:=p
  cases e<;>simp only [Hd] at q
  ·obtain ⟨t',e⟩:=q;injection e with e;rw [e]
  ·obtain ⟨a,_,_,_,e,_⟩:=q;cases e
 | .tup ds,e,v,p,q=>by
  simp only [Hd] at p
  obtain ⟨a,o,its,n,rfl,h1,h2,h3,h4⟩:=p
  cases e<;>simp only [Hd] at q
  ·obtain ⟨t',e⟩:=q;cases e
  ·obtain ⟨b,o',its',n',e,g1,g2,g3,g4⟩:=q
   cases e
   rw [h1] at g1;cases g1
   rw [h3] at g3;injection g3 with e1 _;subst e1
   rw [HdL.inj h4 g4]
 | .non,_,_,q,_=>by simp only [Hd] at q
 | .bl _,_,_,q,_=>by simp only [Hd] at q
 | .str _,_,_,q,_=>by simp only [Hd] at q
 | .lst _,_,_,q,_=>by simp only [Hd] at q
theorem HdL.inj {h:Heap}:∀ {ds es:List D} {vs:List Value},HdL h ds vs→HdL h es vs→ds=es
 | [],[],_,_,_=>rfl
 | [],_::_,_,p,q=>by
  simp only [HdL] at p q
  obtain ⟨_,_,e,_⟩:=q;rw [p] at e;cases e
 | _::_,[],_,p,q=>by
  simp only [HdL] at p q
  obtain ⟨_,_,e,_⟩:=p;rw [q] at e;cases e
 | d::ds,e::es,_,p,q=>by
  simp only [HdL] at p q
  obtain ⟨v,r,rfl,p1,p2⟩:=p
  obtain ⟨u,w,eq,q1,q2⟩:=q
  cases eq
  rw [Hd.inj p1 q1,HdL.inj p2 q2]
end
section
variable {prog:Program} {w:World}
theorem zaW:∀ (n:Nat) {A:Around} {E:Value→Shared→Prop} {s:Shared} {d:D} {v:Value} {Q:Int→Shared→Prop},D.dep d≤n→A.units+n < cLine→Hd s.heap d v→Q (D.hash d) { s with toks:=s.toks+D.draws d }→wpAny (model prog w) A (pyHash v) Q E s:=by
 intro n
 induction n with
 | zero =>
  intro A E s d v Q hd hu hv h
  cases d<;>simp only [Hd] at hv<;>simp only [D.dep,Nat.le_zero,Nat.add_eq_zero_iff,Nat.one_ne_zero,and_false] at hd
  obtain ⟨t,rfl⟩:=hv
  exact wpAny_pyHash_int h
 | succ n ih =>
  intro A E s d v Q hd hu hv h
  cases d with
  | int i =>
   simp only [Hd] at hv
   obtain ⟨t,rfl⟩:=hv
   exact wpAny_pyHash_int h
  | tup ds =>
   simp only [Hd] at hv
   simp only [D.dep] at hd
   obtain ⟨a,o,its,m,rfl,ho,hc,hdd,hi⟩:=hv
   have hT:s.TypeIs (.ref a) "tuple":=⟨o,ho,hc⟩
   have hin:A.in1.units+n < cLine:=by show A.units+1+n < cLine;lia
   unfold pyHash
   first | unfold pyHashByItsType | skip
   first | refine wpAny_bind (wpAny_cRoomFor_or (.inr (show A.units < cLine by lia)) ?_) | skip
   refine wpAny_bind (wpAny_specialOf hT F.slot_tuple_hash.lookup ?_)
   show wpAny _ _ (if (some (Value.builtin "tuple.__hash__") == some Value.none)=true
    then _ else _) Q E s
   rw [if_neg (by rw [beq_builtin_none];exact Bool.false_ne_true)]
   refine wpAny_bind (wpAny_specialOf hT F.slot_tuple_hash.lookup ?_)
   show wpAny _ _ (callSpecialIfBoundUnlessNone? (.ref a) "__hash__" _
    >>= _) Q E s
   refine wpAny_bind (wpAny_callSpecialIfBoundUnlessNone?_slot hT F.slot_tuple_hash (wpAny_call_entry F.slot_tuple_hash
    hT F.entry_tuple_hash ?_ (F.args_tuple_hash_1 _)))
   show wpAny _ _ (Builtin.Tuple.tupleItemsOf (.ref a) >>= _) _ _ s
   refine wpAny_bind (wpAny_tupleItemsOf ho hdd (wpAny_bind ?_))
   rw [←Array.forIn_toList]
   refine wpAny_forIn_list _ (fun z4P (b:Array Int) s'=>∃ done left,ds=done++left∧HdL s.heap left z4P∧b.toList=D.hashL done∧s'={ s with toks:=s.toks+D.drawsL done }) _ ?_ ?_ _ _ ⟨[],ds,rfl,hi,by simp only [D.hashL],by simp only [D.drawsL,Nat.add_zero]⟩
   ·rintro x z4P b s' ⟨done,left,e,hl,hb,rfl⟩
    cases left with
    | nil=>simp only [HdL] at hl;cases hl
    | cons k ks =>
     simp only [HdL] at hl
     obtain ⟨v',r,ev,q1,q2⟩:=hl
     cases ev
     have hk:D.dep k≤n:=by
      have z:ds[done.length]?=some k:=by rw [e];simp
      have:=D.depL_get z
      lia
     refine wpAny_bind (ih hk hin q1 ?_)
     have fin:∃ done' left',ds=done'++left'∧HdL s.heap left' z4P∧(b.push (D.hash k)).toList=D.hashL done'∧({ s with toks:=s.toks+D.drawsL done+D.draws k }:Shared)={ s with toks:=s.toks+D.drawsL done' } :=
      ⟨done++[k],ks,by rw [e];simp,q2,by rw [D.hashL_app,←hb];simp [D.hashL],by rw [D.drawsL_app];simp only [D.drawsL,Nat.add_zero,Nat.add_assoc]⟩
     first
      | exact wpAny_pure fin
      | exact wpAny_bind (wpAny_pure (wpAny_pure fin))
   ·rintro b s' ⟨done,left,e,hl,hb,rfl⟩
    cases left with
    | cons k ks=>simp only [HdL] at hl;obtain ⟨_,_,e,_⟩:=hl;cases e
    | nil =>
     rw [List.append_nil] at e
     subst e
     show wpAny _ _ (retInt (Builtin.Tuple.tupleHashOf b.toList))
      _ _ _
     rw [hb]
     refine wpAny_ret_mkInt ?_
     show wpAny _ _ (if (decide (-(2:Int) ^ 63≤Builtin.Tuple.tupleHashOf (D.hashL ds)) && decide (Builtin.Tuple.tupleHashOf (D.hashL ds) < 2 ^ 63))=true then _ else _) Q E _
     simp only [D.hash] at h
     unfold reduceHash at h
     simp only [D.draws] at h
     by_cases hr:(decide (-(2:Int) ^ 63≤Builtin.Tuple.tupleHashOf (D.hashL ds)) && decide (Builtin.Tuple.tupleHashOf (D.hashL ds) < 2 ^ 63))=true
     ·rw [if_pos hr]
      rw [if_pos hr] at h
      exact wpAny_pure (by simpa [Nat.add_assoc] using h)
     ·rw [if_neg hr]
      rw [if_neg hr] at h
      exact wpAny_bind (wpAny_rule (wpAny_pure (by simpa [Nat.add_assoc] using h)))
  | non=>simp only [Hd] at hv
  | bl _=>simp only [Hd] at hv
  | str _=>simp only [Hd] at hv
  | lst _=>simp only [Hd] at hv
end
end L2
namespace L2
open PySem PySem.Spec PyProof.Rows PySem.SeqAt
section
variable {prog:Program} {w:World}
theorem zdq {s:Shared}:∀ (n:Nat) (A:Around) {d e:D} {v u:Value},D.dep d≤n→A.units+n < cLine→Hd s.heap d v→Hd s.heap e u→EqAt A s v u (D.eq d e):=by
 intro n
 induction n with
 | zero =>
  intro A d e v u hd hu hv hx
  cases d<;>simp only [Hd] at hv<;>simp only [D.dep,Nat.le_zero,Nat.add_eq_zero_iff,Nat.one_ne_zero,and_false] at hd
  obtain ⟨t,rfl⟩:=hv
  cases e<;>simp only [Hd] at hx
  ·obtain ⟨t',rfl⟩:=hx
   simp only [D.eq]
   exact EqAt.int_int _ _ _ _
  ·obtain ⟨a,o,its,m,rfl,ho,hc,hdd,hi⟩:=hx
   simp only [D.eq]
   exact EqAt.int_tuple _ _ (items:=its) ⟨o,ho,hc,m,hdd⟩ (by lia)
 | succ n ih =>
  intro A d e v u hd hu hv hx
  have hin:A.in1.units+n < cLine:=by show A.units+1+n < cLine;lia
  cases d with
  | int i=>exact ih A (Nat.zero_le _) (by lia) hv hx
  | tup ds =>
   simp only [Hd] at hv
   simp only [D.dep] at hd
   obtain ⟨a,o,its,m,rfl,ho,hc,hdd,hi⟩:=hv
   have ta:s.heap.IsTuple a its:=⟨o,ho,hc,m,hdd⟩
   cases e with
   | int j =>
    simp only [Hd] at hx
    obtain ⟨t',rfl⟩:=hx
    simp only [D.eq]
    exact EqAt.tuple_int _ _ ta (by lia)
   | tup es =>
    have inj:Value.ref a=u→D.tup ds=D.tup es:=fun z=>Hd.inj (h:=s.heap) (v:=u) (by rw [←z];simp only [Hd];exact ⟨a,o,its,m,rfl,ho,hc,hdd,hi⟩) hx
    simp only [Hd] at hx
    obtain ⟨b,o',its',m',rfl,ho',hc',hdd',hi'⟩:=hx
    have tb:s.heap.IsTuple b its':=⟨o',ho',hc',m',hdd'⟩
    have e1:its.size=ds.length:=by have:=hi.length;simp at this;lia
    have e2:its'.size=es.length:=by have:=hi'.length;simp at this;lia
    have z:=RcAt.tuples (A:=A) (e:=D.at_ ds es) ta tb (by lia) (fun j h1 h2=>by
     have g1:ds[j]?=some ds[j]:=List.getElem?_eq_getElem (by lia)
     have g2:es[j]?=some es[j]:=List.getElem?_eq_getElem (by lia)
     obtain ⟨x1,k1,q1⟩:=hi.get g1
     obtain ⟨x2,k2,q2⟩:=hi'.get g2
     have z1:x1=its[j]:=by simp [h1] at k1;exact k1.symm
     have z2:x2=its'[j]:=by simp [h2] at k2;exact k2.symm
     have z3:D.at_ ds es j=D.eq ds[j] es[j]:=by unfold D.at_;rw [g1,g2]
     rw [z3,←z1,←z2]
     exact ih A.in1 (Nat.le_trans (D.depL_get g1) (by lia)) hin q1 q2)
    rw [e1,e2,D.all_eqL] at z
    simp only [D.eq]
    by_cases hab:a=b
    ·have:=inj (by rw [hab])
     injection this with this
     subst this hab
     rw [D.eqL_refl]
     exact EqAt.same _
    ·exact EqAt.of_refs hab z
   | non=>simp only [Hd] at hx
   | bl _=>simp only [Hd] at hx
   | str _=>simp only [Hd] at hx
   | lst _=>simp only [Hd] at hx
  | non=>simp only [Hd] at hv
  | bl _=>simp only [Hd] at hv
  | str _=>simp only [Hd] at hv
  | lst _=>simp only [Hd] at hv
theorem z9P {A:Around} {E:Value→Shared→Prop} {s:Shared}:∀ (n:Nat) {d:D} {v:Value} {Q:Bool→Shared→Prop},D.dep d≤n→Hd s.heap d v→Q true s→wpAny (model prog w) A (eqIsQuiet n v) Q E s:=by
 have flat:∀ (n:Nat) {i:Int} {t:Tok} {Q:Bool→Shared→Prop},Q true s→wpAny (model prog w) A (eqIsQuiet n (.int i t)) Q E s:=fun n i t Q h=>by
  rw [eqIsQuiet_byValue n (v:=.int i t) rfl]
  exact wpAny_pure h
 intro n
 induction n with
 | zero =>
  intro d v Q hd hv h
  cases d<;>simp only [Hd] at hv<;>simp only [D.dep,Nat.le_zero,Nat.add_eq_zero_iff,Nat.one_ne_zero,and_false] at hd
  obtain ⟨t,rfl⟩:=hv
  exact flat 0 h
 | succ n ih =>
  intro d v Q hd hv h
  cases d with
  | int i =>
   simp only [Hd] at hv
   obtain ⟨t,rfl⟩:=hv
   exact flat _ h
  | tup ds =>
   simp only [Hd] at hv
   simp only [D.dep] at hd
   obtain ⟨a,o,its,m,rfl,ho,hc,hdd,hi⟩:=hv
   have hT:s.TypeIs (.ref a) "tuple":=⟨o,ho,hc⟩
   unfold eqIsQuiet
   refine wpAny_bind (wpAny_specialOf hT F.slot_tuple_eq.lookup ?_)
   show wpAny _ _ (isInstance (.ref a) (.type "tuple")
    >>= _) _ _ s
   refine wpAny_bind (wpAny_isInstance hT isSubtype_tuple_tuple ?_)
   simp only [Bool.not_true,Bool.false_eq_true,if_false]
   refine wpAny_bind (wpAny_seqItems ho hdd (wpAny_bind ?_))
   show wpAny _ _ (forIn its _ _) _ _ s
   rw [←Array.forIn_toList]
   refine wpAny_forIn_list _ (fun z4P r s'=>r.1=none∧s'=s∧∃ left,HdL s.heap left z4P∧D.depL left≤n) _ ?_ ?_ _ _ ⟨rfl,rfl,ds,hi,by lia⟩
   ·rintro x z4P r s' ⟨hr,rfl,left,hl,hdl⟩
    cases left with
    | nil=>simp only [HdL] at hl;cases hl
    | cons k ks =>
     simp only [HdL] at hl
     simp only [D.depL] at hdl
     obtain ⟨v',q,ev,q1,q2⟩:=hl
     cases ev
     refine wpAny_bind (ih (by lia) q1 ?_)
     simp only [Bool.not_true,Bool.false_eq_true,if_false]
     exact wpAny_pure ⟨rfl,rfl,ks,q2,by lia⟩
   ·rintro ⟨r1,r2⟩ s' ⟨hr,rfl,_⟩
    simp only at hr
    subst hr
    exact wpAny_pure h
  | non=>simp only [Hd] at hv
  | bl _=>simp only [Hd] at hv
  | str _=>simp only [Hd] at hv
  | lst _=>simp only [Hd] at hv
def z31 (prog:Program) (w:World):HeapKind prog w D where
 is:=fun h d a=>Hd h d (.ref a)∧D.dep d≤8
 hash:=D.hash
 draws:=D.draws
 room:=fun A=>A.units+8 < cLine
 inj:=fun hx hy=>Hd.inj hx.1 hy.1
 keeps:=fun {h h' k a d o es ep} hx ho hd hs=>⟨Hd.keep (fun b o' its n e c q=>(hs.2 b (by
  rintro rfl
  rw [ho] at e;cases e;rw [hd] at q;cases q)).trans e) hx.1,hx.2⟩
 pyHash:=fun hu hk h=>zaW 8 hk.2 hu hk.1 h
 eqBool:=fun hu hx hy h=>by
  rw [D.dec] at h
  exact zdq 8 _ hx.2 hu hx.1 hy.1 _ _ _ _ h
 quiet:=fun hk h=>z9P 8 hk.2 hk.1 h
end
mutual
def D.key:D→Prop
 | .int _=>True
 | .tup ds=>D.keyL ds
 | _=>False
def D.keyL:List D→Prop
 | []=>True
 | d::ds=>D.key d∧D.keyL ds
end
section
variable {P:Program} {w:World} {K:PySem.W.Frag} {H:Hp} {h:Heap}
mutual
theorem Dr.hd (ok:HOk P w H h):∀ {d:D} {v:V} {u:Value},D.key d→Dr K H d v→z1g v u→Hd h d u
 | .int i,v,u,_,q,r=>by
  simp only [Dr] at q
  subst q
  simp only [Hd]
  exact r
 | .tup ds,v,u,k,q,r=>by
  simp only [Dr] at q
  simp only [D.key] at k
  obtain ⟨a,vs,rfl,e,q⟩:=q
  cases r
  obtain ⟨_,its,n,rv,h1⟩:=ok a _ e
  simp only [Hd]
  exact ⟨a,_,its.toArray,n,rfl,h1,rfl,rfl,by simpa using DrL.hd ok k q rv⟩
 | .non,_,_,k,_,_=>by simp only [D.key] at k
 | .bl _,_,_,k,_,_=>by simp only [D.key] at k
 | .str _,_,_,k,_,_=>by simp only [D.key] at k
 | .lst _,_,_,k,_,_=>by simp only [D.key] at k
theorem DrL.hd (ok:HOk P w H h):∀ {ds:List D} {vs:List V} {us:List Value},D.keyL ds→DrL K H ds vs→z1e vs us→HdL h ds us
 | [],vs,us,_,q,r=>by
  simp only [DrL] at q
  subst q
  cases r
  simp only [HdL]
 | d::ds,vs,us,k,q,r=>by
  simp only [DrL] at q
  simp only [D.keyL] at k
  obtain ⟨v,z,rfl,q1,q2⟩:=q
  cases r with
  | cons r1 r2 =>
   simp only [HdL]
   exact ⟨_,_,rfl,Dr.hd ok k.1 q1 r1,DrL.hd ok k.2 q2 r2⟩
end
end
end L2
namespace L2
open PySem PySem.Spec PyProof.Rows PySem.SeqAt
def zev (P:Program) (w:World) (a:Addr) (xs:List (D × Addr × Value)):HO :=
 .ext fun h=>(a == sysModules)=false∧∃ o es ep,h.get? a=some o∧o.ExactDict∧o.data=.dict es ep∧es.toList=xs.map (entryOfKey (z31 P w))
abbrev KDr (K:PySem.W.Frag) (H:Hp):List (D × V)→List (D × Addr × Value)→Prop:=Paired fun p q=>p.1=q.1∧(D.key p.1∧D.dep p.1≤8∧Dr K H p.1 (.ref q.2.1))∧z1g p.2 q.2.2
def DD (P:Program) (w:World) (K:PySem.W.Frag) (H:Hp) (a:Addr) (kvs:List (D × V)):Prop :=
 ∃ xs,H a=some (zev P w a xs)∧KDr K H kvs xs∧(kvs.map (·.1)).Nodup∧kvs.length≤sizeLine
theorem KDr.val {K:PySem.W.Frag} {H:Hp} {kvs:List (D × V)} {xs:List (D × Addr × Value)} (r:KDr K H kvs xs) (k:D):z8y (z33 kvs k) ((atKey xs k).map (·.2)):=by
 induction r with
 | nil=>exact True.intro
 | @cons p q ps qs h t ih =>
  obtain ⟨h1,_,h2⟩:=h
  by_cases e:p.1=k
  ·have e':q.1=k:=h1.symm.trans e
   have b:atKey (q::qs) k=some q.2:=by simp [atKey,List.find?_cons,e']
   rw [z2X e,b]
   exact h2
  ·have e':¬ q.1=k:=fun z=>e (h1.trans z)
   have b:atKey (q::qs) k=atKey qs k:=by simp [atKey,List.find?_cons,e']
   rw [z2t e,b]
   exact ih
theorem KDr.repl {K:PySem.W.Frag} {H:Hp} {kvs:List (D × V)} {xs:List (D × Addr × Value)} (r:KDr K H kvs xs) (k:D) {y:V} {u:Value} (ry:z1g y u) :
  KDr K H (kvs.map fun kv=>if kv.1=k then (kv.1,y) else kv) (xs.map (putAt k u)):=by
 induction r with
 | nil=>exact .nil
 | @cons p q ps qs h t ih =>
  rw [List.map_cons,List.map_cons]
  refine .cons ?_ ih
  obtain ⟨h1,h2,h3⟩:=h
  unfold putAt
  by_cases e:p.1=k
  ·rw [if_pos e,if_pos (h1.symm.trans e)]
   exact ⟨h1,h2,ry⟩
  ·rw [if_neg e,if_neg (fun z=>e (h1.trans z))]
   exact ⟨h1,h2,h3⟩
theorem KDr.put {K:PySem.W.Frag} {H:Hp} {kvs:List (D × V)} {xs:List (D × Addr × Value)} (r:KDr K H kvs xs) (k:D) {b:Addr} {y:V} {u:Value} (hb:D.key k∧D.dep k≤8∧Dr K H k (.ref b)) (ry:z1g y u) :
  KDr K H (z1Y kvs k y) (storedH xs k b u):=by
 have e:(kvs.any fun kv=>decide (kv.1=k))=(atKey xs k).isSome:=by
  rw [z3x,(r.val k).isSome_eq,Option.isSome_map]
 unfold z1Y storedH
 rw [e]
 by_cases q:(atKey xs k).isSome=true
 ·rw [if_pos q,if_pos q]
  exact r.repl k ry
 ·rw [if_neg q,if_neg q]
  exact Paired.snoc r ⟨rfl,hb,ry⟩
theorem KDr.keys {K:PySem.W.Frag} {H:Hp} {kvs:List (D × V)} {xs:List (D × Addr × Value)} (r:KDr K H kvs xs):kvs.map (·.1)=xs.map (·.1):=by
 induction r with
 | nil=>rfl
 | @cons p q ps qs h t ih=>rw [List.map_cons,List.map_cons,ih,h.1]
theorem KDr.mono {K:PySem.W.Frag} {H H':Hp} {kvs:List (D × V)} {xs:List (D × Addr × Value)} (r:KDr K H kvs xs) (f:∀ d v,D.key d→Dr K H d v→Dr K H' d v):KDr K H' kvs xs :=
 Paired.mapP r fun _ _ z=>⟨z.1,⟨z.2.1.1,z.2.1.2.1,f _ _ z.2.1.1 z.2.1.2.2⟩,z.2.2⟩
theorem DD.mono {P:Program} {w:World} {K:PySem.W.Frag} {H H':Hp} {a:Addr} {kvs:List (D × V)} (h:DD P w K H a kvs) (s:z0h H H'):DD P w K H' a kvs:=by
 obtain ⟨xs,e,r,n,z⟩:=h
 exact ⟨xs,s _ _ e,r.mono fun _ _ _ q=>q.mono s,n,z⟩
mutual
theorem Dr.keyed {K:PySem.W.Frag} {H H':Hp} (k:∀ b xs,H b=some (.tup xs)→H' b=some (.tup xs)):∀ {d:D} {v:V},D.key d→Dr K H d v→Dr K H' d v
 | .int _,_,_,h=>by simp only [Dr] at h ⊢;exact h
 | .tup ds,_,q,h=>by
  simp only [Dr] at h ⊢
  simp only [D.key] at q
  obtain ⟨a,vs,e,z,r⟩:=h
  exact ⟨a,vs,e,k _ _ z,DrL.keyed k q r⟩
 | .non,_,q,_=>by simp only [D.key] at q
 | .bl _,_,q,_=>by simp only [D.key] at q
 | .str _,_,q,_=>by simp only [D.key] at q
 | .lst _,_,q,_=>by simp only [D.key] at q
theorem DrL.keyed {K:PySem.W.Frag} {H H':Hp} (k:∀ b xs,H b=some (.tup xs)→H' b=some (.tup xs)):∀ {ds:List D} {vs:List V},D.keyL ds→DrL K H ds vs→DrL K H' ds vs
 | [],_,_,h=>by simp only [DrL] at h ⊢;exact h
 | d::ds,_,q,h=>by
  simp only [DrL] at h ⊢
  simp only [D.keyL] at q
  obtain ⟨v,r,e,q1,q2⟩:=h
  exact ⟨v,r,e,Dr.keyed k q.1 q1,DrL.keyed k q.2 q2⟩
end
section
variable {X:Cx} {pins:List (Addr × Obj)} {σ:St} {H:Hp} {s:Shared} {a:Addr} {kvs:List (D × V)} {K:PySem.W.Frag}
theorem DD.at (I:Inv X pins σ H s) (h:DD X.prog X.w K H a kvs):(a == sysModules)=false∧∃ xs,H a=some (zev X.prog X.w a xs)∧KDr K H kvs xs∧s.heap.DictOfH (z31 X.prog X.w) a xs:=by
 obtain ⟨xs,e,r,n,z⟩:=h
 obtain ⟨⟨hs,o,es,ep,h1,h2,h3,h4⟩,_,_⟩:=I.hok a _ e
 refine ⟨hs,xs,e,r,o,es,ep,h1,h2,h3,h4,?_,by rw [←r.keys];exact n⟩
 have all:∀ {l:List (D × V)} {m:List (D × Addr × Value)},KDr K H l m→∀ x∈m,(z31 X.prog X.w).is s.heap x.1 x.2.1:=by
  intro l m q
  induction q with
  | nil=>intro x hx;exact nomatch hx
  | @cons p q ps qs hq t ih =>
   intro x hx
   rcases List.mem_cons.mp hx with e | hx
   ·subst e
    rw [←hq.1]
    exact ⟨Dr.hd I.hok hq.2.1.1 hq.2.1.2.2 rfl,hq.2.1.2.1⟩
   ·exact ih x hx
 exact all r
theorem z96 (I:Inv X pins σ H s) {d:D} {b:Addr} (k:D.key d) (hd:D.dep d≤8) (h:Dr K H d (.ref b)):(z31 X.prog X.w).is s.heap d b:=⟨Dr.hd I.hok k h rfl,hd⟩
def zeG (K:PySem.W.Frag) (H:Hp) (d:D) (y:V):Prop:=(∃ b,y=.ref b)∧D.key d∧D.dep d≤8∧Dr K H d y
variable {o i e f value:Expr} {pos pos' apos cpos:Pos} {td ty tv tx:TE}
def zeI (P:Program) (w:World) (K:PySem.W.Frag) (td ty:TE):TE:=fun σ H Q=>td σ H fun x H1=>ty σ H1 fun y H2=>∃ a kvs d v,x=.ref a∧DD P w K H2 a kvs∧zeG K H2 d y∧z33 kvs d=some v∧Q v H2
theorem zbb (hu:X.A.units+9 < cLine) (ho:PE X o td) (hi:PE X i ty) (hs:zfM i):PE X (.Subscript o i pos) (zeI X.prog X.w K td ty):=by
 intro pins s σ H Q I h
 refine z9U PySem.F.slot_dict_getitem.lookup hs (z1I (ho pins s σ H _ I h) fun u s1 x H1 I1 rx q1=>z1I (hi pins s1 σ H1 _ I1 q1) fun iv s2 y H2 I2 ry hz9=>?_)
 obtain ⟨a,kvs,d,v,ex,g,⟨⟨b,eb⟩,k1,k2,k3⟩,hv,q2⟩:=hz9
 subst ex eb
 obtain rfl:u=Value.ref a:=rx
 obtain rfl:iv=Value.ref b:=ry
 obtain ⟨hsm,xs,e,r,dd⟩:=g.at I2
 obtain ⟨w',hw,rw'⟩:=z8y.some_of (v:=v) (o:=(atKey xs d).map (·.2)) (by rw [←hv];exact r.val d)
 obtain ⟨p,hp,hp2⟩:=Option.map_eq_some_iff.mp hw
 refine ⟨dd.typeIs,wpAny_getItem_heap (show X.A.units+1+8 < cLine by lia) (z96 I2 k1 k2 k3) dd hp ?_⟩
 rw [hp2]
 exact ⟨v,H2,I2.tok _,rw',q2⟩
def zds (P:Program) (w:World) (K:PySem.W.Frag) (ty td:TE):TE:=fun σ H Q=>ty σ H fun y H1=>td σ H1 fun x H2=>∃ a kvs d,x=.ref a∧DD P w K H2 a kvs∧zeG K H2 d y∧Q (.bl (!(z33 kvs d).isSome)) H2
theorem zbk (hu:X.A.units+9 < cLine) (hi:PE X i ty) (ho:PE X o td):PC X .NotIn i o (zds X.prog X.w K ty td):=by
 intro pins s σ H Q I h
 refine z1I (hi pins s σ H _ I h) fun iv s1 y H1 I1 ry q1=>z1I (ho pins s1 σ H1 _ I1 q1) fun u s2 x H2 I2 rx hz9=>?_
 obtain ⟨a,kvs,d,ex,g,⟨⟨b,eb⟩,k1,k2,k3⟩,q2⟩:=hz9
 subst ex eb
 obtain rfl:u=Value.ref a:=rx
 obtain rfl:iv=Value.ref b:=ry
 obtain ⟨hsm,xs,e,r,dd⟩:=g.at I2
 refine wpAny_notIn_heap (show X.A.units+1+8 < cLine by lia) (z96 I2 k1 k2 k3) hsm dd ?_
 have q:=(r.val d).isSome_eq
 rw [Option.isSome_map] at q
 rw [←q]
 exact ⟨.bl _,H2,I2.tok _,rfl,q2⟩
def zgk (P:Program) (w:World) (K:PySem.W.Frag) (td ty tv:TE):TS:=fun Dd σ H=>tv σ H fun v H1=>td σ H1 fun x H2=>ty σ H2 fun y H3=>∃ a kvs d,x=.ref a∧DD P w K H3 a kvs∧zeG K H3 d y∧kvs.length < sizeLine ∧
 ∀ ob,DD P w K (upd H3 a ob) a (z1Y kvs d v)→Dd.nx σ (upd H3 a ob)
theorem zc0 {P:Program} {w:World} (h:DD P w K H a kvs):∀ b xs,H b=some (.tup xs)→b≠a:=fun b xs e z=>by
 obtain ⟨ys,q,_⟩:=h
 rw [z,q] at e
 cases e
theorem zbg (hu:X.A.units+9 < cLine) (ho:PE X o td) (hi:PE X i ty) (hv:PE X value tv) (hs:swapsWith value (some (.Subscript o i pos')) pos.line X.env=pure false:=by rfl) :
  PS X (.Assign [.Subscript o i pos'] value pos) (zgk X.prog X.w K td ty tv):=by
 intro pins s σ H D I h
 refine wpAny_Assign_Subscript (z1I (hv pins s σ H _ I h) fun r s1 v H1 I1 rv q1=>z1I (ho pins s1 σ H1 _ I1 q1) fun u s2 x H2 I2 rx q2=>z1I (hi pins s2 σ H2 _ I2 q2) fun iv s3 y H3 I3 ry hz9=>?_) hs
 obtain ⟨a,kvs,d,ex,g,⟨⟨b,eb⟩,k1,k2,k3⟩,hz,q3⟩:=hz9
 subst ex eb
 obtain rfl:u=Value.ref a:=rx
 obtain rfl:iv=Value.ref b:=ry
 obtain ⟨hsm,xs,e,rr,dd⟩:=g.at I3
 have hlen:xs.length≤sizeLine:=by rw [←Paired.length rr];exact Nat.le_of_lt hz
 have hl:(z1Y kvs d v).length≤sizeLine:=by have:=z1T kvs d v;lia
 refine wpAny_setItem_heap (hsz:=hlen) (show X.A.units+1+8 < cLine by lia) (z96 I3 k1 k2 k3) dd fun h' dd' hsb=>?_
 obtain ⟨q,es,ep,hq,h2,h3,h4,_,h5⟩:=dd'
 have Iw:Inv X pins σ (upd H3 a (zev X.prog X.w a (storedH xs d b r))) { s3 with heap:=h',toks:=s3.toks+(z31 X.prog X.w).draws d }:=by
  refine z4t I3 (by rw [e];exact True.intro) hsb ⟨q,hq⟩ ⟨⟨hsm,q,es,ep,hq,h2,h3,h4⟩,⟨q,hq⟩,fun h1 h2' p k=>?_⟩
  obtain ⟨p0,o1,es1,ep1,p1,p2,p3,p4⟩:=p
  exact ⟨p0,o1,es1,ep1,k _ p1,p2,p3,p4⟩
 have kt:∀ c ys,H3 c=some (.tup ys)→upd H3 a (zev X.prog X.w a (storedH xs d b r)) c=some (.tup ys):=fun c ys ec=>by
  rw [z0a (zc0 g c ys ec)];exact ec
 refine ⟨σ,_,Iw,q3 _ ⟨_,z03,(rr.put d ⟨k1,k2,k3⟩ rv).mono fun d' v' kd q=>q.keyed kt kd,?_,hl⟩⟩
 have nd:=h5
 have ek:=(rr.put d ⟨k1,k2,k3⟩ rv).keys
 rw [ek]
 exact nd
def zgu (P:Program) (w:World) (K:PySem.W.Frag):TE:=fun _ H Q=>∀ p,H p=none→∀ ob,DD P w K (upd H p ob) p []→Q (.ref p) (upd H p ob)
theorem zbA:PE X (.Dict [] [] pos) (zgu X.prog X.w K):=fun pins s σ H Q I h=>by
 have hb:(s.heap.objs.size == sysModules)=false:=beq_eq_false_iff_ne.mpr (Ne.symm (Nat.ne_of_lt I.big))
 refine wpAny_Dict_empty ⟨.ref s.heap.objs.size,_,I.laid (a:=s.heap.objs.size) (o:=zev X.prog X.w s.heap.objs.size []) (t':=s.toks) (fun _ _ q=>Heap.get?_push_of_some _ q) (Nat.le_refl _) ⟨⟨hb,_,#[],0,Heap.get?_push_size _ rfl,⟨rfl,rfl,rfl⟩,rfl,rfl⟩,⟨_,Heap.get?_push_size _ rfl⟩,fun h1 h2 p k=>?_⟩,rfl,h _ I.fresh _ ⟨[],z03,.nil,List.nodup_nil,Nat.zero_le _⟩⟩
 obtain ⟨p0,o1,es1,ep1,p1,p2,p3,p4⟩:=p
 exact ⟨p0,o1,es1,ep1,k _ p1,p2,p3,p4⟩
def zeR (P:Program) (w:World) (K:PySem.W.Frag) (td ty tx:TE):TE:=fun σ H Q=>td σ H fun x H1=>∃ a kvs0,x=.ref a∧DD P w K H1 a kvs0∧ty σ H1 fun y H2=>tx σ H2 fun z H3=>∃ kvs d,DD P w K H3 a kvs∧zeG K H3 d y∧Q ((z33 kvs d).getD z) H3
theorem zbU (hu:X.A.units+9 < cLine) (ho:PE X o td) (he:PE X e ty) (hf:PE X f tx) (m:M2 X o "get" apos e f cpos):PE X (.Call (.Attribute o "get" apos) [e,f] [] cpos) (zeR X.prog X.w K td ty tx):=by
 intro pins s σ H Q I h
 refine wpAny_Call_method m.base m.few m.line PySem.F.plainAttrs_dict PySem.F.slot_dict_get PySem.F.type_dict_get (z1I (ho pins s σ H _ I h) fun u s1 x H1 I1 rx hz9=>?_)
 obtain ⟨a,kvs0,ex,g0,q1⟩:=hz9
 subst ex
 obtain rfl:u=Value.ref a:=rx
 obtain ⟨hsm,xs0,_,_,dd0⟩:=g0.at I1
 refine ⟨dd0.typeIs,fun b q=>?_,?_⟩
 ·cases q
  obtain ⟨ob,_,_,h1,h2,_⟩:=dd0
  exact ⟨ob,h1,h2.2.1⟩
 rw [m.trees]
 refine Calls.callWith_builtin rfl (Calls.evalArgs_plain (Calls.spliced_cons (z1I (he pins s1 σ H1 _ I1 q1) fun iv s2 y H2 I2 ry q2 =>
  Calls.spliced_cons (thn (hf pins s2 σ H2 _ I2 q2) fun fv s3 ⟨z,H3,I3,rz,kvs,d,g,⟨⟨b,eb⟩,k1,k2,k3⟩,q3⟩=>Calls.spliced_nil ?_))))
 subst eb
 obtain rfl:iv=Value.ref b:=ry
 obtain ⟨_,xs,_,r,dd⟩:=g.at I3
 refine call_meetsIn PySem.F.slot_dict_get dd.typeIs PySem.F.entry_dict_get (PySem.F.args_dict_get_3 _ _ _) (meetsH_dict_get_default (z31 X.prog X.w) a b hsm fv) ⟨show X.A.units+1+8 < cLine by lia,d,xs,z96 I3 k1 k2 k3,dd,?_⟩
 exact ⟨_,H3,I3.tok _,(r.val d).getD rz,q3⟩
end
end L2
namespace L2
open PySem PySem.Spec PyProof.Rows PySem.SeqAt
open PySem.AutoSeq1 (wpAny_loadPart')
section
variable {X:Cx} (K:PySem.W.Frag)
theorem zcv:z3y X (.builtin "len") (fun xs H Q=>∃ a kvs,xs=[V.ref a]∧DD X.prog X.w K H a kvs∧Q (.int kvs.length) H):=by
 intro pins s σ H xs us Q I r h
 obtain ⟨a,kvs,rfl,g,q⟩:=h
 obtain ⟨u,rfl,ru⟩:=z6k r
 cases ru
 obtain ⟨hsm,xs,_,rr,dd⟩:=g.at I
 obtain ⟨o,es,ep,ho,hc,hdat,hes,_⟩:=id dd
 have hlen:es.size=kvs.length:=by
  have:es.toList.length=xs.length:=by rw [hes,List.length_map]
  rw [Paired.length rr,←this];simp
 have hz:kvs.length≤sizeLine:=by obtain ⟨_,_,_,_,z⟩:=g;exact z
 have hz2:(kvs.length:Int) < 2 ^ 63:=by have:=z6Z;lia
 refine Calls.call_function_entry kind_len plain_len entry_len (args_len1 _) ?_
 unfold Builtin.«len»
 refine wpAny_bind (m:=oneArg "len" _) (wpAny_pure ?_)
 refine wpAny_bind (m:=callSpecial? (.ref a) (Str.ofString "__len__")) (wpAny_callSpecial?_slot (name:=Str.ofString "__len__") dd.typeIs F.slot_dict_len
  (wpAny_call_entry F.slot_dict_len dd.typeIs F.entry_dict_len ?_ (F.args_dict_len_1 _)))
 show wpAny _ _ (dictSize a >>= _) _ _ s
 unfold dictSize
 refine wpAny_bind (wpAny_bind (wpAny_dictEntries ho hdat (wpAny_pure ?_)))
 show wpAny _ _ (Builtin.Dict.pendingCount a >>= _) _ _ s
 refine wpAny_bind (wpAny_pendingCount_other hsm ?_)
 refine wpAny_ret_mkInt ?_
 rw [Nat.add_zero,hlen]
 refine wpAny_bind (wpAny_holding (wpAny_pure ?_))
 refine wpAny_bind (wpAny_letGo ?_)
 show wpAny _ _ (if ((kvs.length:Nat):Int) < 0
  then _ else _) _ _ _
 rw [if_neg (by lia)]
 show wpAny _ _ (if ((kvs.length:Nat):Int) ≥ 2 ^ 63
  then _ else _) _ _ _
 rw [if_neg (by lia)]
 exact wpAny_bind (wpAny_mkInt (wpAny_pure ⟨_,rfl,.int kvs.length,H,I.tok _,⟨_,rfl⟩,q⟩))
end
end L2
namespace L2
open PySem PySem.Spec PyProof.Rows PySem.SeqAt
open PySem.AutoSeq1 (wpAny_loadPart')
theorem z7u:∀ {ns:List Int} {its:List Value},z1e (ns.map V.int) its→∃ xs:List (Int × Tok),its=xs.map (fun p=>Value.int p.1 p.2)∧xs.map (·.1)=ns
 | [],_,r=>by rw [List.map_nil] at r;cases r;exact ⟨[],rfl,rfl⟩
 | n::ns,_,r=>by
  rw [List.map_cons] at r
  cases r with
  | cons r rr =>
   obtain ⟨t,rfl⟩:=r
   obtain ⟨xs,rfl,e⟩:=z7u rr
   exact ⟨(n,t)::xs,rfl,by rw [List.map_cons,e]⟩
section
variable {X:Cx} (K:PySem.W.Frag)
theorem zg3 (hK:X.K=K) (hc:X.calm=true):z3y X (.builtin "max") (fun xs H Q=>∃ (p:Addr) (ns:List Int) (M:Int),xs=[.ref p]∧SqL K H p (ns.map V.int)∧M∈ns∧(∀ a∈ns,a≤M)∧Q (.int M) H):=by
 subst hK
 intro pins s σ H xs us Q I r h
 obtain ⟨p,ns,M,rfl,hp,hM,hle,q⟩:=h
 obtain ⟨u,rfl,ru⟩:=z6k r
 cases ru
 obtain ⟨its,rv,pl,hz⟩:=I.list hp
 obtain ⟨ys,rfl,ey⟩:=z7u rv
 have hne:0 < ys.length:=by
  have:0 < ns.length:=List.length_pos_of_mem hM
  rw [←ey,List.length_map] at this
  exact this
 have e1:(ys.map fun p=>Value.int p.1 p.2).toArray=intItems ys.toArray:=by unfold intItems;simp
 have pl':=pl.isList
 rw [e1] at pl'
 refine max_intList (xs:=ys.toArray) (I.ok.hd hc) pl' (by simpa using hne) fun v h' tk hv hk=>?_
 obtain ⟨t,rfl⟩:=intItems_at hv
 obtain ⟨h1,h2⟩:=argBest_gt (numAt ys.toArray) (ys.toArray.size - 1)
 have emem:∀ j,j < ys.length→numAt ys.toArray j∈ns:=fun j hj=>by
  rw [numAt_eq]
  have:(ys.toArray.toList.map (·.1))=ns:=by simpa using ey
  rw [this]
  have hjn:j < ns.length:=by rw [←ey,List.length_map];exact hj
  simp [hjn]
 have hb:argBest (fun i j=>decide (numAt ys.toArray i > numAt ys.toArray j)) (ys.toArray.size - 1) < ys.length:=by
  have:ys.toArray.size=ys.length:=by simp
  lia
 have eM:numAt ys.toArray (argBest (fun i j=>decide (numAt ys.toArray i > numAt ys.toArray j)) (ys.toArray.size - 1))=M:=by
  refine Int.le_antisymm (hle _ (emem _ hb)) ?_
  obtain ⟨j,hj,e⟩:=List.getElem_of_mem hM
  have hjy:j < ys.length:=by rw [←ey,List.length_map] at hj;exact hj
  have z:=h2 j (by simp;lia)
  have e2:numAt ys.toArray j=M:=by
   rw [numAt_eq]
   have:(ys.toArray.toList.map (·.1))=ns:=by simpa using ey
   rw [this]
   simp [hj,e]
  rw [e2] at z
  exact z
 rw [eM]
 exact ⟨.int M,H,I.kept (t':=tk) hk,⟨_,rfl⟩,q⟩
theorem z24:fillsNumberSlot (.type "tuple") "mul"=pure false :=
 PySem.fillsNumberSlot_seq (id:="tuple.__mul__") (r:=some (.builtin "tuple.__rmul__")) F.slot_tuple_mul.lookup (by decide +kernel) F.slot_tuple_rmul.lookup (by decide +kernel)
theorem z2Z:seqRepeat? (.type "tuple")=pure (some (.builtin "tuple.__mul__")):=by
 unfold seqRepeat?
 rw [PySem.seqSlot_of (T:="tuple") (name:="__mul__") (id:="tuple.__mul__") F.slot_tuple_mul.lookup (by decide +kernel),PySem.seqSlot_of (T:="tuple") (name:="__rmul__") (id:="tuple.__rmul__") F.slot_tuple_rmul.lookup (by decide +kernel)]
 rfl
theorem z21 (a:Int) (t:Tok) (l:Addr) (its:Array Value) (n:Nat) :
  Meets (Builtin.«int.__rmul__» ⟨[.int a t,.ref l],[]⟩) (fun _ R s=>s.heap.get? l=some { cls:=.type "tuple",dict:=none,data:=.seq its n,slots:=#[] }∧R (.ok (.ret Value.notImplemented)) s) :=
 .of_wp fun prog w A R s h=>by
  obtain ⟨hp,g,d,tk,os⟩:=s
  obtain ⟨hl,h⟩:=h
  wp_walk
  exact ⟨_,rfl,h⟩
theorem zdT (l:Addr) (its:List Value) (n:Nat) (k:Int) (t:Tok) (h2:2≤k) (hk:k≤1000) (hne:its≠[]) (hz:its.length*k.toNat≤sizeLine) :
  Meets (Builtin.«tuple.__mul__» ⟨[.ref l,.int k t],[]⟩) (fun _ R s=>s.heap.get? l=some { cls:=.type "tuple",dict:=none,data:=.seq its.toArray n,slots:=#[] } ∧
   R (.ok (.ret (.ref s.heap.objs.size))) { s with heap:=s.heap.push { cls:=.type "tuple",data:=.seq (List.replicate k.toNat its).flatten.toArray } }) :=
 .of_wp fun prog w A R s h=>by
  obtain ⟨hp,g,d,tk,os⟩:=s
  obtain ⟨hl,h⟩:=h
  have hie:its.toArray.isEmpty=false:=by cases its with | nil=>exact absurd rfl hne | cons a r=>simp
  have hcap:¬ ((its.toArray.size:Int)*k > (2 ^ 63 - 1) / 8):=by
   have h1:((its.length*k.toNat:Nat):Int)≤sizeLine:=by lia
   have h3:((its.length*k.toNat:Nat):Int)=(its.length:Int)*k:=by rw [Int.natCast_mul];congr 1;lia
   have h4:(sizeLine:Int)≤(2 ^ 63 - 1) / 8:=by rw [sizeLine_eq];decide
   simp only [List.size_toArray]
   lia
  wp_walk using wpAny_loadPart' hl
  refine wpAny_ite_split (fun hab=>absurd hab (by simp;lia)) (fun _=>?_)
  wp_walk using wpAny_loadPart' hl
  have hk1:(k == 1)=false:=by simpa using (show k≠1 by lia)
  have hk0:decide (k≤0)=false:=by simpa using (show ¬ k≤0 by lia)
  refine wpAny_ite_split (fun hab=>absurd hab (by rw [hie,hk1];decide)) (fun _=>?_)
  refine wpAny_ite_split (fun hab=>absurd hab (by rw [hie,hk0];decide)) (fun _=>?_)
  refine wpAny_ite_split (fun hab=>absurd hab hcap) (fun _=>?_)
  have htm:Builtin.Tuple.tupleTooMany ((its.toArray.size:Int)*k)=false:=by
   have h1:((its.length*k.toNat:Nat):Int)≤sizeLine:=by lia
   have h3:((its.length*k.toNat:Nat):Int)=(its.length:Int)*k:=by rw [Int.natCast_mul];congr 1;lia
   unfold Builtin.Tuple.tupleTooMany
   simp only [List.size_toArray]
   exact decide_eq_false (by lia)
  refine wpAny_ite_split (fun hab=>absurd hab (by rw [htm];decide)) (fun _=>?_)
  have hnew:List.foldl (fun x1 x2=>x1++x2) #[] (List.replicate k.toNat its.toArray)=(List.replicate k.toNat its).flatten.toArray:=by
   have q:=z3w its k.toNat []
   rw [List.nil_append] at q
   exact q
  rw [hnew]
  unfold Builtin.Tuple.tupleExact
  refine wpAny_bind (wpAny_newObj_type ?_ (by show (List.replicate k.toNat its).flatten.toArray.size≤sizeLine;rw [List.size_toArray,z3Q,Nat.mul_comm];exact hz))
  exact wpAny_pure ⟨_,rfl,h⟩
theorem z8n:OpR X (binaryOp .Mult) (fun x y H Q=>∃ (l:Addr) (k:Int) (xs:List V),x=.ref l∧y=.int k∧H l=some (.tup xs)∧xs≠[]∧2≤k∧k≤1000∧xs.length*k.toNat≤sizeLine ∧
  ∀ p,H p=none→Q (.ref p) (upd H p (.tup (List.replicate k.toNat xs).flatten))):=by
 intro pins s σ H x y v u Q I rx ry h
 obtain ⟨l,k,xs,rfl,rfl,hH,hne,h2,hk,hz,q⟩:=h
 cases rx
 obtain ⟨t,rfl⟩:=ry
 obtain ⟨z,its,n,r,e⟩:=I.hok l _ hH
 have hl:=r.length
 have hne':its≠[]:=fun w=>by subst w;exact hne (List.length_eq_zero_iff.mp (by simpa using hl))
 refine wpAny_binaryOp_repeat_ref (T:="tuple") (U:="int") (by decide) ⟨_,e,rfl⟩ (fun s'=>typeIs_int s' k t) z24 F.fills_int_mul F.slot_int_rmul z2Z F.slot_int_index.lookup
  (call_meets F.slot_int_rmul (typeIs_int s k t) F.entry_int_rmul (F.args_int_rmul_2 _ _) (z21 k t l its.toArray n)
   ⟨e,rfl,⟨_,e,rfl⟩,call_meets F.slot_tuple_mul ⟨_,e,rfl⟩ F.entry_tuple_mul (F.args_tuple_mul_2 _ _) (zdT l its n k t h2 hk hne' (by rw [←hl];exact hz)) ⟨e,?_⟩⟩)
 exact ⟨.ref _,_,I.laid (o:=.tup (List.replicate k.toNat xs).flatten) (t':=s.toks) (fun b u q=>Heap.get?_push_of_some _ q) (Nat.le_refl _) ⟨by rw [z3Q,Nat.mul_comm];exact hz,_,0,r.rep k.toNat,Heap.get?_push_size _ rfl⟩,rfl,q _ I.fresh⟩
end
section
variable {X:Cx} (P:Program) (w:World) (K:PySem.W.Frag) {o i e f value:Expr} {pos pos' apos cpos:Pos} {td ty tv tx:TE}
theorem zfc (hP:X.prog=P) (hw:X.w=w) (hu:X.A.units+9 < cLine) (ho:PE X o td) (hi:PE X i ty) (hs:zfM i):PE X (.Subscript o i pos) (zeI P w K td ty):=by
 subst hP hw
 exact zbb hu ho hi hs
end
end L2
namespace L2
open PySem PySem.Spec PyProof.Rows
class NoE (CX:CXT):Prop where
 no:∀ {outer:List Env} {H:Hp} {s:Shared} {e:Value} {s':Shared},¬ CX outer H s E0 e s'
theorem z0C {CX:CXT} [N:NoE CX] {X:Cx}:z6P CX X E0:=fun _ _ _ _ _ _ _ h=>absurd h N.no
theorem Fun.okc {CX:CXT} {P:Program} {w:World} {K:PySem.W.Frag} {mg:Str→Option Value} {base:Heap} {x qual:Str} {st:Stmt} {f:Addr} {fd:FuncData} {N ps:List Str} {k:Nat} {sp:Sp} (F:Fun K x qual st f fd) (S:z0p N ps (z06 st)) (len:∀ vs H Q E,sp vs H Q E→vs.length=ps.length)
  (hbody:∀ (cdv:Value) (A:Around) (outer:List Env) (s:Shared) (H:Hp) (vs:List V) (Q:VK) (E:XK),z3C k (A.deeper (envOfC qual (z06 st) s.heap.objs.size f cdv))→sp vs H Q E →
   ∃ t,PSs (z6H CX P w K mg base N qual (z06 st) f cdv A outer s H E).nox (z1k st) t∧t { nx:=fun _ H'=>Q .non H',rt:=Q } (z5g N vs) H):z0y P w K mg base CX (k+1) f fd ps sp:=by
 obtain ⟨oc,od,kV,doc,pm,an,cdv,ct,osl,rfl,lk,hcd⟩:=F.ex
 refine zem lk hcd S len fun A outer s H vs Q E hr hsp=>?_
 obtain ⟨t,h,q⟩:=hbody cdv A outer s H vs Q E hr hsp
 exact ⟨t,h.nox,q⟩
theorem PS.weak {X:Cx} {st:Stmt} {t:TS} (t':TS) (h:PS X st t) (k:∀ D σ H,t' D σ H→t D σ H):PS X st t':=fun pins s σ H D I hw=>h pins s σ H D I (k D σ H hw)
theorem PT.weak {X:Cx} {e:Expr} {t:TT} (t':TT) (h:PT X e t) (k:∀ σ H Q,t' σ H Q→t σ H Q):PT X e t':=fun pins s σ H Q I hw=>h pins s σ H Q I (k σ H Q hw)
def zgM (Pre:St→Hp→Prop):TT:=fun σ H Q=>Pre σ H∧∀ c:Bool,Q c H
end L2
namespace Gu
open PySem L2
section
variable {α:Type} [DecidableEq α]
def z1Z (o:List α) (g:α):List α:=if g∈o then o else o++[g]
def z0d (o:List α) (gs:List α):List α:=gs.foldl z1Z o
def z0A (ks:List α):List α:=z0d [] ks
def z2d (ks:List α):List Int:=ks.map fun k=>(((z0A ks).idxOf k:Nat):Int)
theorem z0w {o:List α} {g:α} (h:g∈o):z1Z o g=o:=if_pos h
theorem z0u {o:List α} {g:α} (h:g∉o):z1Z o g=o++[g]:=if_neg h
theorem zc7 (o:List α) (g:α):g∈z1Z o g:=by
 by_cases h:g∈o
 ·rw [z0w h];exact h
 ·rw [z0u h];simp
theorem zbQ (o:List α) (g:α):∃ m,z1Z o g=o++m:=by
 by_cases h:g∈o
 ·exact ⟨[],by rw [z0w h];simp⟩
 ·exact ⟨[g],z0u h⟩
theorem z0N:∀ (gs o:List α),∃ m,z0d o gs=o++m
 | [],o=>⟨[],by simp [z0d]⟩
 | g::gs,o=>by
  obtain ⟨m1,e1⟩:=zbQ o g
  obtain ⟨m2,e2⟩:=z0N gs (z1Z o g)
  refine ⟨m1++m2,?_⟩
  show z0d (z1Z o g) gs=_
  rw [e2,e1,List.append_assoc]
theorem z1A (o gs:List α) (g:α):z0d o (gs++[g])=z1Z (z0d o gs) g:=by
 unfold z0d
 rw [List.foldl_append]
 rfl
theorem z5t {o:List α} {g:α} (h:o.Nodup):(z1Z o g).Nodup:=by
 by_cases hg:g∈o
 ·rw [z0w hg];exact h
 ·rw [z0u hg]
  exact za2 h hg
theorem z1E:∀ (gs o:List α),o.Nodup→(z0d o gs).Nodup
 | [],o,h=>h
 | g::gs,o,h=>z1E gs (z1Z o g) (z5t h)
theorem z1c {o:List α} {g x:α}:x∈z1Z o g↔x∈o∨x=g:=by
 by_cases hg:g∈o
 ·rw [z0w hg]
  constructor
  ·exact .inl
  ·rintro (h | rfl)
   ·exact h
   ·exact hg
 ·rw [z0u hg];simp
theorem z0I:∀ {gs o:List α} {x:α},x∈z0d o gs↔x∈o∨x∈gs
 | [],o,x=>by simp [z0d]
 | g::gs,o,x=>by
  have ih:=z0I (gs:=gs) (o:=z1Z o g) (x:=x)
  show x∈z0d (z1Z o g) gs↔_
  rw [ih,z1c,List.mem_cons]
  constructor
  ·rintro ((h | h) | h)
   ·exact .inl h
   ·exact .inr (.inl h)
   ·exact .inr (.inr h)
  ·rintro (h | h | h)
   ·exact .inl (.inl h)
   ·exact .inl (.inr h)
   ·exact .inr h
theorem z2n:∀ (gs o:List α),(z0d o gs).length≤o.length+gs.length
 | [],o=>by simp [z0d]
 | g::gs,o=>by
  have ih:=z2n gs (z1Z o g)
  have h1:(z1Z o g).length≤o.length+1:=by
   by_cases hg:g∈o
   ·rw [z0w hg];lia
   ·rw [z0u hg];simp
  show (z0d (z1Z o g) gs).length≤_
  rw [List.length_cons];lia
theorem z7o {o m:List α} {g:α} (h:g∈o):(o++m).idxOf g=o.idxOf g:=by
 rw [List.idxOf_append,if_pos h]
theorem z4H:∀ (n:Nat) (o:List Nat),o.Nodup→(∀ x∈o,x < n)→o.length≤n
 | 0,o,_,h=>by
  cases o with
  | nil=>simp
  | cons a r=>exact absurd (h a (by simp)) (Nat.not_lt_zero _)
 | n+1,o,hn,h=>by
  by_cases hm:n∈o
  ·have ih:=z4H n (o.erase n) (hn.erase n) fun x hx=>by
    have h1:=(hn.mem_erase_iff).mp hx
    have:=h x h1.2
    have:=h1.1
    lia
   rw [List.length_erase_of_mem hm] at ih
   lia
  ·have ih:=z4H n o hn fun x hx=>by
    have:=h x hx
    have:x≠n:=fun e=>hm (e ▸ hx)
    lia
   lia
theorem z1w {n:Nat} {o:List Int} (h:o.Nodup) (hr:∀ x∈o,0≤x∧x < (n:Int)):o.length≤n:=by
 have h1:(o.map Int.toNat).Nodup:=by
  rw [List.nodup_iff_pairwise_ne,List.pairwise_map]
  refine List.Pairwise.imp_of_mem (fun {a b} ha hb hab e=>?_) (List.nodup_iff_pairwise_ne.mp h)
  have:=hr a ha
  have:=hr b hb
  exact hab (by lia)
 have h3:=z4H n _ h1 fun x hx=>by
  obtain ⟨y,hy,rfl⟩:=List.mem_map.mp hx
  have:=hr y hy
  lia
 simpa using h3
end
abbrev Row:=List Int × List Int
def row (rows:List Row) (r:Int):Row:=rows.getD r.toNat ([],[])
structure z0n (n:Nat) (rows:List Row):Prop where
 few:rows.length≤4000
 some:1≤rows.length
 perm:∀ r∈rows,IsP n r.1
 len:∀ r∈rows,r.2.length=n
 go:∀ r∈rows,∀ g∈r.2,0≤g∧g < (rows.length:Int)
def z2E (r:Row):D:=.tup [D.its r.1,D.its r.2]
def bfs (rows:List Row):Nat→Nat→List Int→List Int
 | 0,_,o=>o
 | f+1,i,o=>match o[i]? with
  | none=>o
  | some r=>bfs rows f (i+1) (z0d o (row rows r).2)
def z0e (rows:List Row):List Int:=bfs rows (rows.length+1) 0 [0]
theorem z4b {rows:List Row} {f i:Nat} {o:List Int} {r:Int} (e:o[i]?=some r):bfs rows (f+1) i o=bfs rows f (i+1) (z0d o (row rows r).2):=by
 show (match o[i]? with | none=>o | some r=>bfs rows f (i+1) (z0d o (row rows r).2))=_
 rw [e]
theorem z4k {rows:List Row} {f i:Nat} {o:List Int} (e:o.length≤i):bfs rows f i o=o:=by
 cases f with
 | zero=>rfl
 | succ f =>
  show (match o[i]? with | none=>o | some r=>bfs rows f (i+1) (z0d o (row rows r).2))=_
  rw [List.getElem?_eq_none e]
theorem z6a (rows:List Row):∀ (f i:Nat) (o:List Int),∃ m,bfs rows f i o=o++m
 | 0,i,o=>⟨[],by simp [bfs]⟩
 | f+1,i,o=>by
  unfold bfs
  cases e:o[i]? with
  | none=>exact ⟨[],by simp⟩
  | some r =>
   obtain ⟨m1,e1⟩:=z0N (row rows r).2 o
   obtain ⟨m2,e2⟩:=z6a rows f (i+1) (z0d o (row rows r).2)
   exact ⟨m1++m2,by show bfs rows f (i+1) (z0d o (row rows r).2)=_;rw [e2,e1,List.append_assoc]⟩
structure z7G (rows:List Row) (o:List Int):Prop where
 nd:o.Nodup
 rg:∀ x∈o,0≤x∧x < (rows.length:Int)
 hd:∃ t,o=0::t
theorem z0o {rows:List Row} {r:Int} (h0:0≤r) (h1:r < (rows.length:Int)):row rows r∈rows:=by
 unfold row
 have:r.toNat < rows.length:=by lia
 have e:rows.getD r.toNat ([],[])=rows[r.toNat]:=by simp [this]
 rw [e]
 exact List.getElem_mem this
theorem z4x {rows:List Row} {r:Int} (h0:0≤r) (h1:r < (rows.length:Int)):rows[r.toNat]?=some (row rows r):=by
 unfold row
 have:r.toNat < rows.length:=by lia
 simp [this]
theorem z7G.add {n:Nat} {rows:List Row} {o:List Int} (G:z0n n rows) (L:z7G rows o) {r:Int} (h:r∈o):z7G rows (z0d o (row rows r).2):=by
 refine ⟨z1E _ _ L.nd,fun x hx=>?_,?_⟩
 ·rcases z0I.mp hx with hx | hx
  ·exact L.rg x hx
  ·exact G.go _ (z0o (L.rg r h).1 (L.rg r h).2) x hx
 ·obtain ⟨t,e⟩:=L.hd
  obtain ⟨m,e2⟩:=z0N (row rows r).2 o
  exact ⟨t++m,by rw [e2,e];rfl⟩
theorem z7G.len {rows:List Row} {o:List Int} (L:z7G rows o):o.length≤rows.length:=z1w L.nd L.rg
theorem zcI {n:Nat} {rows:List Row} (G:z0n n rows):z7G rows [0]:=by
 refine ⟨by simp,fun x hx=>?_,⟨[],rfl⟩⟩
 have:x=0:=by simpa using hx
 have:=G.some
 lia
theorem z9V {n:Nat} {rows:List Row} (G:z0n n rows):∀ (f i:Nat) (o:List Int),z7G rows o→i≤o.length→rows.length+1≤f+i→(∀ j r,j < i→o[j]?=some r→∀ g∈(row rows r).2,g∈o) →
  z7G rows (bfs rows f i o)∧∀ r∈bfs rows f i o,∀ g∈(row rows r).2,g∈bfs rows f i o
 | 0,i,o,L,hi,hf,hc=>by
  have:=L.len
  lia
 | f+1,i,o,L,hi,hf,hc=>by
  cases e:o[i]? with
  | none =>
   rw [z4k (List.getElem?_eq_none_iff.mp e)]
   refine ⟨L,fun r hr g hg=>?_⟩
   obtain ⟨j,hj,e2⟩:=List.getElem_of_mem hr
   have:o.length≤i:=List.getElem?_eq_none_iff.mp e
   exact hc j r (by lia) (by rw [List.getElem?_eq_getElem hj,e2]) g hg
  | some r =>
   rw [z4b e]
   have hr:r∈o:=List.mem_of_getElem? e
   have hil:i < o.length:=(List.getElem?_eq_some_iff.mp e).1
   obtain ⟨m,em⟩:=z0N (row rows r).2 o
   refine z9V G f (i+1) _ (L.add G hr) (by rw [em,List.length_append];lia) (by lia) fun j r' hj er g hg=>?_
   have hjo:j < o.length:=by lia
   have er':o[j]?=some r':=by rw [em,List.getElem?_append_left hjo] at er;exact er
   by_cases hji:j=i
   ·subst hji
    rw [e] at er'
    cases er'
    exact z0I.mpr (.inr hg)
   ·exact z0I.mpr (.inl (hc j r' (by lia) er' g hg))
theorem z0t {n:Nat} {rows:List Row} (G:z0n n rows):z7G rows (z0e rows)∧∀ r∈z0e rows,∀ g∈(row rows r).2,g∈z0e rows :=
 z9V G (rows.length+1) 0 [0] (zcI G) (by simp) (by lia) fun j r hj=>absurd hj (Nat.not_lt_zero _)
def z2f (rows:List Row) (o:List Int):List Row:=o.map fun r=>((row rows r).1,(row rows r).2.map fun g=>((o.idxOf g:Nat):Int))
def z0S (rows:List Row):List Row:=z2f rows (z0e rows)
def z32 (ks:List Int) (rows:List Row):List (Int × List Int):=(ks.zip rows).map fun p=>(p.1,p.2.2.map fun g=>ks.getD g.toNat 0)
def cnt (ks:List Int):Int:=ks.foldl max 0+1
def z4T (rows:List Row):Nat→Int→List Int→List Int
 | 0,_,ks=>ks
 | f+1,c,ks=>if c < cnt ks then z4T rows f (cnt ks) (z2d (z32 ks rows)) else ks
def z2C (rows:List Row):List Int:=z4T rows (rows.length+1) 0 (z2d (rows.map (·.1)))
def z58 (rows:List Row) (ks:List Int):List Row:=(rows.zip ks).foldl (fun l p=>if p.2=(l.length:Int) then l++[(p.1.1,p.1.2.map fun g=>ks.getD g.toNat 0)] else l) []
def least (rows:List Row):List Row:=z58 (z0S rows) (z2C (z0S rows))
end Gu
namespace Gu
open PySem L2
def csc (ns:List (Str × NameKind)):Scope:={ kind:=.function,names:=ns,isGenerator:=false,isCoroutine:=false,more:=[] }
def z4I (K:PySem.W.Frag) (H:Hp) (Q:VK) (d:D):Prop:=∀ v H',z0h H H'→Dr K H' d v→Q v H'
theorem same_up {H H1:Hp} {p:Addr} {o:HO} (s:z0h H H1) (h:H1 p=none):z0h H (upd H1 p o):=fun b u e=>by
 have q:=s b u e
 rw [z0a (z0g q h)];exact q
theorem z0f {H H1:Hp} {p:Addr} {o:HO} (s:z0h H H1) (h:H p=none):z0h H (upd H1 p o):=fun b u e=>by
 rw [z0a (z0g e h)];exact s b u e
theorem z1q {α β:Type} {l:List α} {i:Nat} {x:α} (f:α→β) (h:l[i]?=some x):(l.take (i+1)).map f=(l.take i).map f++[f x]:=by
 rw [List.take_add_one,h,List.map_append];rfl
theorem z1p {n:Nat} (h:n≤4900):n < sizeLine:=Nat.lt_of_le_of_lt h (by decide)
theorem z0G {n:Nat} (h:n≤5000):n≤sizeLine:=Nat.le_trans h (by decide)
theorem z2M {α:Type} {xs:List α} {k:Int} {v:α} (h0:0≤k) (h:xs[k.toNat]?=some v):atI xs k=some v:=by
 have q:=z0F h
 rwa [show ((k.toNat:Nat):Int)=k by lia] at q
theorem z7s {α β:Type} (f:α→β):∀ (l:List α) (i:Nat),(l.map f).eraseIdx i=(l.eraseIdx i).map f
 | [],_=>rfl
 | _::_,0=>rfl
 | a::r,i+1=>by
  show f a::(r.map f).eraseIdx i=f a::(r.eraseIdx i).map f
  rw [z7s f r i]
structure Blt (mg:Str→Option Value):Prop where
 len:mg "len"=none
 tup:mg "tuple"=none
 lst:mg "list"=none
 rng:mg "range"=none
 isi:mg "isinstance"=none
 int:mg "int"=none
 bl:mg "bool"=none
 str:mg "str"=none
 all:mg "all"=none
theorem z5U (ns:List Int):D.dep (D.its ns)=1:=by simp only [D.dep,D.depL_ints]
theorem z5Z:∀ (ns ms:List Int),D.okL (ns.map D.int) (ms.map D.int)
 | [],ms=>by cases ms<;>simp only [List.map_nil,List.map_cons,D.okL]
 | n::r,[]=>by simp only [List.map_nil,List.map_cons,D.okL]
 | n::r,m::q=>by simp only [List.map_cons,D.okL,D.ok];exact ⟨trivial,z5Z r q⟩
theorem Dr.its_inv {K:PySem.W.Frag} {H:Hp} {ns:List Int} {v:V} (h:Dr K H (D.its ns) v):∃ a,v=.ref a∧H a=some (.tup (ns.map V.int)):=by
 simp only [Dr] at h
 obtain ⟨a,vs,rfl,s,r⟩:=h
 exact ⟨a,rfl,DrL.ints_inv r ▸ s⟩
def z8Y (K:PySem.W.Frag):Sp:=fun vs H Q _=>∃ n:Nat,vs=[.int n]∧n≤1000∧z4I K H Q (D.its (z0z n))
def z8I (K:PySem.W.Frag):Sp:=fun vs H Q _=>∃ (a:Addr) (ns:List Int) (i:Nat),vs=[.ref a,.int i]∧SqL K H a (ns.map V.int)∧ns.length≤63∧i≤1000∧Q (.int (cell ns i)) H
def z4S (K:PySem.W.Frag):Sp:=fun vs H Q _=>∃ (a:Addr) (ns:List Int) (i:Nat),vs=[.ref a,.int i]∧SqL K H a (ns.map V.int)∧ns.length≤63∧i≤1000∧Q (.int (zdn ns i)) H
def z8K (K:PySem.W.Frag):Sp:=fun vs H Q _=>∃ (pick:Int) (n:Nat),vs=[.int pick,.int n]∧n≤1000∧z4I K H Q (D.its (z9Q pick n))
end Gu
namespace Gu
open PySem L2
section
variable {α κ:Type} [DecidableEq α] [DecidableEq κ]
def z5j (f:α→κ):Nat→List α→List (κ × V)
 | _,[]=>[]
 | n,a::r=>(f a,V.int (n:Int))::z5j f (n+1) r
abbrev prs (f:α→κ) (u:List α):List (κ × V):=z5j f 0 u
theorem z1P (f:α→κ):∀ (n:Nat) (u:List α),(z5j f n u).length=u.length
 | _,[]=>rfl
 | n,a::r=>by simp [z5j,z1P f (n+1) r]
theorem z93 (f:α→κ):∀ (n:Nat) (u:List α) (a:α),z5j f n (u++[a])=z5j f n u++[(f a,V.int ((n+u.length:Nat):Int))]
 | n,[],a=>by simp [z5j]
 | n,b::r,a=>by
  have ih:=z93 f (n+1) r a
  show (f b,V.int (n:Int))::z5j f (n+1) (r++[a])=(f b,V.int (n:Int))::(z5j f (n+1) r++_)
  have e:n+1+r.length=n+(b::r).length:=by rw [List.length_cons];lia
  rw [ih,e]
theorem z5W (f:α→κ) (hf:∀ x y,f x=f y→x=y):∀ (n:Nat) (u:List α) (a:α),z33 (z5j f n u) (f a)=if a∈u then some (V.int ((n+u.idxOf a:Nat):Int)) else none
 | n,[],a=>by simp [z5j,z33]
 | n,b::r,a=>by
  have ih:=z5W f hf (n+1) r a
  show z33 ((f b,V.int (n:Int))::z5j f (n+1) r) (f a)=_
  by_cases e:b=a
  ·subst e
   rw [z2X rfl,if_pos (by simp)]
   simp
  ·rw [z2t (p:=(f b,V.int (n:Int))) (fun z=>e (hf _ _ z)),ih]
   have e1:(b::r).idxOf a=r.idxOf a+1:=by
    rw [List.idxOf_cons]
    have hb:(b == a)=false:=by simpa using e
    rw [hb]
    rfl
   by_cases hm:a∈r
   ·have e2:n+1+r.idxOf a=n+(r.idxOf a+1):=by lia
    rw [if_pos hm,if_pos (by simp [hm]),e1,e2]
   ·rw [if_neg hm,if_neg (by simp [hm,Ne.symm e])]
theorem z27 (f:α→κ) (hf:∀ x y,f x=f y→x=y) (u:List α) (a:α):z33 (prs f u) (f a)=if a∈u then some (V.int ((u.idxOf a:Nat):Int)) else none:=by
 have:=z5W f hf 0 u a
 simpa using this
theorem z4Q (f:α→κ) (hf:∀ x y,f x=f y→x=y) {u:List α} {a:α} (h:a∉u):z1Y (prs f u) (f a) (V.int (u.length:Nat))=prs f (u++[a]):=by
 have e:=z93 f 0 u a
 rw [Nat.zero_add] at e
 rw [z8A _ (by rw [z27 f hf,if_neg h])]
 exact e.symm
end
def z0m (rows:List Row):List D:=rows.map z2E
theorem z2T (ns:List Int):D.key (D.its ns):=by
 have:∀ l:List Int,D.keyL (l.map D.int):=by
  intro l
  induction l with
  | nil=>simp only [List.map_nil,D.keyL]
  | cons a r ih=>simp only [List.map_cons,D.keyL,D.key];exact ⟨trivial,ih⟩
 simp only [D.key]
 exact this ns
def zf4 (ds:List D):Prop:=∀ d∈ds,D.key d∧D.dep d≤8∧∃ es,d=.tup es
def z3E (K:PySem.W.Frag):Sp:=fun vs H Q _=>∃ (a:Addr) (us:List V) (ds:List D),vs=[.ref a]∧H a=some (.lst us)∧DrL K H ds us∧zf4 ds∧ds.length≤4900 ∧
 ∀ (r:Addr) (H':Hp),z0h H H'→H' r=some (.lst ((z2d ds).map V.int))→Q (.ref r) H'
theorem zeu {K:PySem.W.Frag} {H:Hp} {d:D} {v:V} (h:D.key d∧D.dep d≤8∧∃ es,d=.tup es) (q:Dr K H d v):zeG K H d v:=by
 obtain ⟨h1,h2,es,rfl⟩:=h
 refine ⟨?_,h1,h2,q⟩
 simp only [Dr] at q
 obtain ⟨a,vs,e,_⟩:=q
 exact ⟨a,e⟩
end Gu
namespace Gu
open PySem L2
def z1h (H H':Hp):Prop:=∀ b xs,H b=some (.tup xs)→H' b=some (.tup xs)
theorem z1h.of {H H':Hp} (s:z0h H H'):z1h H H':=fun b xs e=>s _ _ e
theorem z1h.refl (H:Hp):z1h H H:=fun _ _ e=>e
theorem z1h.trans {H H1 H2:Hp} (a:z1h H H1) (b:z1h H1 H2):z1h H H2:=fun c xs e=>b c xs (a c xs e)
theorem z1h.up {H H1:Hp} {a:Addr} {o u:HO} (t:z1h H H1) (h:H1 a=some o) (n:∀ xs,o≠.tup xs):z1h H (upd H1 a u):=fun b xs e=>by
 have q:=t b xs e
 have:b≠a:=fun z=>by rw [z,h] at q;exact n xs (Option.some.inj q)
 rw [z0a this];exact q
theorem zeo (r:Row):D.key (z2E r):=by
 unfold z2E
 simp only [D.key,D.keyL]
 have h1:=z2T r.1
 have h2:=z2T r.2
 simp only [D.key] at h1 h2
 exact ⟨h1,h2,trivial⟩
theorem z2u:∀ rs:List Row,D.keyL (z0m rs)
 | []=>by unfold z0m;simp only [List.map_nil,D.keyL]
 | r::rs=>by
  have:=z2u rs
  unfold z0m at this ⊢
  simp only [List.map_cons,D.keyL]
  exact ⟨zeo r,this⟩
theorem z0W {K:PySem.W.Frag} {H:Hp} {r:Row} {v:V} (h:Dr K H (z2E r) v):∃ a b c,v=.ref a∧H a=some (.tup [.ref b,.ref c])∧H b=some (.tup (r.1.map V.int))∧H c=some (.tup (r.2.map V.int)):=by
 unfold z2E at h
 simp only [Dr,DrL] at h
 obtain ⟨a,vs,rfl,e,x,l,rfl,hx,y,l',rfl,hy,rfl⟩:=h
 obtain ⟨b,us,rfl,eb,rb⟩:=hx
 obtain ⟨c,ws,rfl,ec,rc⟩:=hy
 have e1:=DrL.ints_inv rb
 have e2:=DrL.ints_inv rc
 subst e1 e2
 exact ⟨a,b,c,rfl,e,eb,ec⟩
theorem z2c {K:PySem.W.Frag} {H:Hp} {r:Row} {a b c:Addr} (h:H a=some (.tup [.ref b,.ref c])) (hb:H b=some (.tup (r.1.map V.int))) (hc:H c=some (.tup (r.2.map V.int))):Dr K H (z2E r) (.ref a):=by
 unfold z2E
 exact Dr.tup h (DrL.cons (Dr.tup hb (DrL.ints _)) (DrL.cons (Dr.tup hc (DrL.ints _)) DrL.nil))
theorem z2J {K:PySem.W.Frag} {H:Hp} {rows:List Row} {us:List V} (h:DrL K H (z0m rows) us) {i:Nat} {r:Row} (e:rows[i]?=some r):∃ v,us[i]?=some v∧Dr K H (z2E r) v :=
 h.get (by unfold z0m;rw [List.getElem?_map,e];rfl)
def z8S (K:PySem.W.Frag):Sp:=fun vs H Q _=>∃ (a:Addr) (b:V) (ks gs:List Int),vs=[.ref a,b]∧H a=some (.lst (ks.map V.int))∧Dr K H (D.its gs) b∧(∀ g∈gs,0≤g∧g < (ks.length:Int))∧gs.length≤1000∧z4I K H Q (D.its (gs.map fun g=>ks.getD g.toNat 0))
def z7W (K:PySem.W.Frag):Sp:=fun vs H Q _=>∃ n:Nat,vs=[.int n]∧2≤n∧n≤60∧z4I K H Q (D.tup [z2E (z0z n,List.replicate n 0)])
def z2l (K:PySem.W.Frag):Sp:=fun vs H Q _=>∃ (a:V) (r:Row) (z4P:List D),vs=[a]∧Dr K H (D.tup (z2E r::z4P)) a∧r.1.length≤1000∧∀ H',z0h H H'→Q (.int r.1.length) H'
def z3X (K:PySem.W.Frag) (H:Hp) (a:Addr) (rows:List Row):Prop:=∃ us,H a=some (.lst us)∧DrL K H (z0m rows) us
theorem z3X.mono {K:PySem.W.Frag} {H H':Hp} {a:Addr} {rows:List Row} (h:z3X K H a rows) (s:z0h H H'):z3X K H' a rows:=by
 obtain ⟨us,e,d⟩:=h
 exact ⟨us,s _ _ e,d.mono s⟩
end Gu
namespace Gu
open PySem L2
section
variable {α β:Type} [DecidableEq α] [DecidableEq β]
theorem z5v (f:α→β) (hf:∀ x y,f x=f y→x=y):∀ (gs o:List α),z0d (o.map f) (gs.map f)=(z0d o gs).map f
 | [],o=>rfl
 | g::gs,o=>by
  have h1:z1Z (o.map f) (f g)=(z1Z o g).map f:=by
   by_cases h:g∈o
   ·rw [z0w h,z0w (List.mem_map.mpr ⟨g,h,rfl⟩)]
   ·have:f g∉o.map f:=fun z=>by
     obtain ⟨x,hx,e⟩:=List.mem_map.mp z
     exact h (hf _ _ e ▸ hx)
    rw [z0u h,z0u this,List.map_append];rfl
  show z0d (z1Z (o.map f) (f g)) (gs.map f)=(z0d (z1Z o g) gs).map f
  rw [h1]
  exact z5v f hf gs (z1Z o g)
theorem z7q (f:α→β) (hf:∀ x y,f x=f y→x=y):∀ (l:List α) (a:α),(l.map f).idxOf (f a)=l.idxOf a
 | [],a=>rfl
 | b::r,a=>by
  rw [List.map_cons,List.idxOf_cons,List.idxOf_cons,z7q f hf r a]
  have:(f b == f a)=(b == a):=by
   by_cases e:b=a
   ·subst e;simp
   ·have h1:(b == a)=false:=by simpa using e
    have h2:(f b == f a)=false:=by simpa using fun z=>e (hf _ _ z)
    rw [h1,h2]
  rw [this]
theorem z8t (f:α→β) (hf:∀ x y,f x=f y→x=y) (xs:List α):z2d (xs.map f)=z2d xs:=by
 unfold z2d z0A
 have:=z5v f hf xs []
 rw [List.map_nil] at this
 rw [this,List.map_map]
 refine List.map_congr_left fun x _=>?_
 show (((((z0d [] xs).map f).idxOf (f x):Nat)):Int)=_
 rw [z7q f hf]
theorem z3B (xs:List α):(z2d xs).length=xs.length:=by unfold z2d;rw [List.length_map]
theorem z3K (xs:List α):(z0A xs).length≤xs.length:=by have:=z2n xs [];unfold z0A;simpa using this
theorem z6g {xs:List α} {k:Int} (h:k∈z2d xs):0≤k∧k < ((z0A xs).length:Int):=by
 unfold z2d at h
 obtain ⟨x,hx,rfl⟩:=List.mem_map.mp h
 have:x∈z0A xs:=z0I.mpr (.inr hx)
 have:=List.idxOf_lt_length_of_mem this
 lia
end
theorem za1:∀ (ks:List Int) (m:Int),m≤ks.foldl max m∧∀ k∈ks,k≤ks.foldl max m
 | [],m=>⟨Int.le_refl _,fun k h=>by simp at h⟩
 | a::r,m=>by
  obtain ⟨h1,h2⟩:=za1 r (max m a)
  refine ⟨Int.le_trans (Int.le_max_left m a) h1,fun k hk=>?_⟩
  rcases List.mem_cons.mp hk with rfl | hk
  ·exact Int.le_trans (Int.le_max_right m k) h1
  ·exact h2 k hk
theorem zbn:∀ (ks:List Int) (m:Int),ks.foldl max m=m∨ks.foldl max m∈ks
 | [],m=>.inl rfl
 | a::r,m=>by
  rcases zbn r (max m a) with h | h
  ·rcases Int.le_total m a with z | z
   ·right
    show r.foldl max (max m a)∈a::r
    rw [h,Int.max_eq_right z];simp
   ·left
    show r.foldl max (max m a)=m
    rw [h,Int.max_eq_left z]
  ·right;exact List.mem_cons_of_mem _ h
theorem z8d {ks:List Int} (hne:ks≠[]) (h0:∀ k∈ks,0≤k):cnt ks - 1∈ks∧∀ k∈ks,k≤cnt ks - 1:=by
 unfold cnt
 have e:ks.foldl max 0+1 - 1=ks.foldl max 0:=by lia
 rw [e]
 refine ⟨?_,(za1 ks 0).2⟩
 rcases zbn ks 0 with h | h
 ·rw [h]
  cases ks with
  | nil=>exact absurd rfl hne
  | cons a r =>
   have h1:=(za1 (a::r) 0).2 a (by simp)
   rw [h] at h1
   have h2:=h0 a (by simp)
   have:a=0:=by lia
   simp [this]
 ·exact h
theorem zfq {ks:List Int} {n:Nat} (hne:ks≠[]) (h0:∀ k∈ks,0≤k∧k < (n:Int)):cnt ks≤n∧1≤cnt ks:=by
 obtain ⟨h1,h2⟩:=z8d hne fun k hk=>(h0 k hk).1
 have:=h0 _ h1
 lia
structure z3M (n:Nat) (rows:List Row):Prop where
 some:1≤rows.length
 few:rows.length≤4000
 perm:∀ r∈rows,IsP n r.1
 len:∀ r∈rows,r.2.length=n
 go:∀ r∈rows,∀ g∈r.2,0≤g∧g < (rows.length:Int)
theorem z2q {n:Nat} {rows:List Row} (G:z0n n rows):z3M n (z0S rows):=by
 obtain ⟨L,cl⟩:=z0t G
 have hl:=L.len
 have hm:∀ r∈z0S rows,∃ x∈z0e rows,r=((row rows x).1,(row rows x).2.map fun g=>(((z0e rows).idxOf g:Nat):Int)):=fun r hr=>by
  unfold z0S z2f at hr
  obtain ⟨x,hx,e⟩:=List.mem_map.mp hr
  exact ⟨x,hx,e.symm⟩
 have fl:(z0S rows).length=(z0e rows).length:=by unfold z0S z2f;rw [List.length_map]
 refine ⟨?_,by have:=G.few;lia,fun r hr=>?_,fun r hr=>?_,fun r hr g hg=>?_⟩
 ·obtain ⟨t,e⟩:=L.hd
  rw [fl,e];simp
 ·obtain ⟨x,hx,rfl⟩:=hm r hr
  exact G.perm (row rows x) (z0o (L.rg x hx).1 (L.rg x hx).2)
 ·obtain ⟨x,hx,rfl⟩:=hm r hr
  show (List.map _ _).length=n
  rw [List.length_map]
  exact G.len _ (z0o (L.rg x hx).1 (L.rg x hx).2)
 ·obtain ⟨x,hx,rfl⟩:=hm r hr
  obtain ⟨y,hy,rfl⟩:=List.mem_map.mp hg
  have:=List.idxOf_lt_length_of_mem (cl x hx y hy)
  lia
structure z5e (rows:List Row) (ks:List Int):Prop where
 len:ks.length=rows.length
 rg:∀ k∈ks,0≤k∧k < (rows.length:Int)
theorem zd2 {n:Nat} {rows:List Row} (G:z3M n rows):z5e rows (z2d (rows.map (·.1))):=by
 refine ⟨by rw [z3B,List.length_map],fun k hk=>?_⟩
 have:=z6g hk
 have:=z3K (rows.map (·.1))
 rw [List.length_map] at this
 lia
theorem z7m {rows:List Row} {ks:List Int} (h:z5e rows ks):(z32 ks rows).length=rows.length:=by
 unfold z32
 rw [List.length_map,List.length_zip,h.len];lia
theorem zbC {rows:List Row} {ks:List Int} (h:z5e rows ks):z5e rows (z2d (z32 ks rows)):=by
 have hl:=z7m h
 refine ⟨by rw [z3B,hl],fun k hk=>?_⟩
 have:=z6g hk
 have:=z3K (z32 ks rows)
 lia
theorem zf9 {n:Nat} {rows:List Row} {ks:List Int} (G:z3M n rows) (h:z5e rows ks):ks≠[]:=fun e=>by
 have:=h.len
 have:=G.some
 subst e
 simp at *
 lia
def z5f (p:Int × List Int):D:=.tup [.int p.1,D.its p.2]
theorem z4D {a b:List Int} (e:D.its a=D.its b):a=b:=by
 injection e with e
 induction a generalizing b with
 | nil=>cases b with
  | nil=>rfl
  | cons _ _=>cases e
 | cons x r ih=>cases b with
  | nil=>cases e
  | cons y q =>
   rw [List.map_cons,List.map_cons] at e
   injection e with e1 e2
   injection e1 with e1
   rw [e1,ih e2]
theorem zaQ (p q:Int × List Int) (e:z5f p=z5f q):p=q:=by
 unfold z5f at e
 injection e with e
 injection e with e1 e2
 injection e2 with e2 _
 injection e1 with e1
 have:=z4D e2
 exact Prod.ext e1 this
theorem z9c (p:Int × List Int):D.key (z5f p):=by
 unfold z5f
 simp only [D.key,D.keyL]
 have h:=z2T p.2
 simp only [D.key] at h
 exact ⟨trivial,h,trivial⟩
theorem zcx (p:Int × List Int):D.dep (z5f p)≤8:=by
 unfold z5f
 simp only [D.dep,D.depL,D.depL_ints]
 decide
theorem z7n:∀ ps:List (Int × List Int),D.keyL (ps.map z5f)
 | []=>by simp only [List.map_nil,D.keyL]
 | p::ps=>by simp only [List.map_cons,D.keyL];exact ⟨z9c p,z7n ps⟩
theorem z8q:∀ ps:List (List Int),D.keyL (ps.map D.its)
 | []=>by simp only [List.map_nil,D.keyL]
 | p::ps=>by
  have:=z2T p
  simp only [List.map_cons,D.keyL];exact ⟨this,z8q ps⟩
end Gu
namespace Gu
open PySem L2
theorem z5r {rows:List Row}:∀ (m:Nat) (c:Int) (ks:List Int),z5e rows ks→z5e rows (z4T rows m c ks)
 | 0,_,ks,h=>h
 | m+1,c,ks,h=>by
  unfold z4T
  by_cases hc:c < cnt ks
  ·rw [if_pos hc];exact z5r m _ _ (zbC h)
  ·rw [if_neg hc];exact h
theorem z3F {n:Nat} {rows:List Row} (G:z3M n rows):z5e rows (z2C rows):=z5r _ _ _ (zd2 G)
def z5X (ks:List Int) (l:List Row) (p:Row × Int):List Row:=if p.2=(l.length:Int) then l++[(p.1.1,p.1.2.map fun g=>ks.getD g.toNat 0)] else l
def z2h (rows:List Row) (ks:List Int) (i:Nat):List Row:=((rows.zip ks).take i).foldl (z5X ks) []
theorem z5M {rows:List Row} {ks:List Int} (h:ks.length=rows.length):z2h rows ks rows.length=z58 rows ks:=by
 unfold z2h z58
 rw [List.take_of_length_le (by rw [List.length_zip];lia)]
 rfl
theorem z54 {rows:List Row} {ks:List Int} {i:Nat} {r:Row} {k:Int} (e:rows[i]?=some r) (e':ks[i]?=some k):z2h rows ks (i+1)=z5X ks (z2h rows ks i) (r,k):=by
 unfold z2h
 rw [List.take_add_one,List.getElem?_zip_eq_some (z:=(r,k)) |>.mpr ⟨e,e'⟩,List.foldl_append]
 rfl
theorem zbc (ks:List Int) (l:List Row) (p:Row × Int):(z5X ks l p).length≤l.length+1:=by
 unfold z5X
 split
 ·rw [List.length_append];simp
 ·lia
theorem z9q (rows:List Row) (ks:List Int) (i:Nat):(z2h rows ks i).length≤i:=by
 unfold z2h
 have:∀ (l:List (Row × Int)) (a:List Row),(l.foldl (z5X ks) a).length≤a.length+l.length:=by
  intro l
  induction l with
  | nil=>intro a;simp
  | cons p l ih =>
   intro a
   have h1:=ih (z5X ks a p)
   have h2:=zbc ks a p
   rw [List.foldl_cons,List.length_cons]
   lia
 have h:=this ((rows.zip ks).take i) []
 rw [List.length_take] at h
 simp only [List.length_nil] at h
 lia
theorem zcQ {n:Nat} {rows:List Row} (G:z0n n rows):(z0S rows).length≤rows.length:=by
 have:=(z0t G).1.len
 unfold z0S z2f
 rw [List.length_map];exact this
def zg7 (m:Nat) (ns:List Int):Prop:=ns.length=m∧∀ x∈ns,0≤x∧x < 1009
def z2k (K:PySem.W.Frag):Sp:=fun vs H Q _=>∃ (c:Int) (m:Nat),vs=[.int c,.int m]∧m≤900∧∀ (r:Addr) (H':Hp) (ns:List Int),z0h H H'→H' r=some (.lst (ns.map V.int))→zg7 m ns→Q (.ref r) H'
theorem z7C {ns:List Int} {x:Int} (h:∀ x∈ns,0≤x∧x < 1009) (hx:0≤x∧x < 1009):∀ y∈ns++[x],0≤y∧y < 1009:=by
 intro y hy
 rcases List.mem_append.mp hy with hy | hy
 ·exact h y hy
 ·rw [List.mem_singleton.mp hy];exact hx
theorem z7F {j:Int} (h:(0:Int) < j:=by decide):0 < j:=h
theorem zbe (x:Int):0≤x % 1009∧x % 1009 < 1009:=by lia
def zbG (K:PySem.W.Frag):Sp:=fun vs H Q _=>∃ (n:Nat) (c:Int),vs=[.int n,.int c]∧2≤n∧n≤5∧∀ (r:Addr) (H':Hp) (rows:List Row),z0h H H'→z3X K H' r rows→z0n n rows→rows.length≤8→Q (.ref r) H'
def GI (m:Nat) (H:Hp) (i:Nat) (ys:List V) (H2:Hp):Prop:=∃ gs:List Int,ys=gs.map V.int∧gs.length=i∧(∀ g∈gs,0≤g∧g < (m:Int))∧z0h H H2
theorem GI.nil {m:Nat} {H:Hp} {l:Addr} (h:H l=none):GI m H 0 [] (upd H l (.lst [])):=⟨[],rfl,rfl,fun g hg=>by simp at hg,same_up (z0h.refl H) h⟩
theorem GI.len {m:Nat} {H H2:Hp} {i:Nat} {ys:List V} (h:GI m H i ys H2):ys.length=i:=by
 obtain ⟨gs,rfl,e,_⟩:=h
 rw [List.length_map];exact e
theorem GI.snoc {m:Nat} {H H2:Hp} {i:Nat} {ys:List V} {l:Addr} {o:HO} (h:GI m H i ys H2) (hl:H l=none) {g:Int} (hg:0≤g∧g < (m:Int)):GI m H (i+1) (ys++[.int g]) (upd H2 l o):=by
 obtain ⟨gs,rfl,e,r,s⟩:=h
 refine ⟨gs++[g],by rw [List.map_append];rfl,by rw [List.length_append,e];rfl,fun x hx=>?_,z0f s hl⟩
 rcases List.mem_append.mp hx with hx | hx
 ·exact r x hx
 ·rw [List.mem_singleton.mp hx];exact hg
structure RIx (K:PySem.W.Frag) (n m:Nat) (c kd:Int) (j:Nat) (ln lr lp:Addr) (H0:Hp) (σ:St) (H:Hp):Prop where
 ex:∃ (b:V) (lg:Addr) (p gs:List Int),σ=[some (.int n),some (.int c),some (.ref ln),some (.int m),some (.int kd),some (.ref lr),some (.int j),some (.ref lp),some b,some (.ref lg)]∧z0h H0 H∧Dr K H (D.its p) b∧IsP n p ∧
  H lg=some (.lst (gs.map V.int))∧gs.length=n∧∀ g∈gs,0≤g∧g < (m:Int)
structure RF (n m j:Nat) (ps:List Int) (lp:Addr) (H0:Hp):Prop where
 n2:2≤n
 n5:n≤5
 jm:j < m
 m8:m≤8
 lp:H0 lp=some (.lst (ps.map V.int))
 len:ps.length=6
 nn:∀ p∈ps,0≤p∧p < 1009
def tRI (K:PySem.W.Frag):TS:=fun D σ H=>∃ (n m:Nat) (c kd:Int) (j:Nat) (ln lr lp:Addr) (ps:List Int) (H0:Hp),RF n m j ps lp H0∧RIx K n m c kd j ln lr lp H0 σ H∧∀ σ' H',RIx K n m c kd j ln lr lp H0 σ' H'→D.nx σ' H'
def zft (K:PySem.W.Frag) (σ:St) (H:Hp):Prop:=∃ (n m:Nat) (c kd:Int) (j:Nat) (ln lr lp:Addr) (ps:List Int) (H0:Hp),RF n m j ps lp H0∧RIx K n m c kd j ln lr lp H0 σ H
def GR (n m:Nat) (rs:List Row):Prop:=∀ r∈rs,IsP n r.1∧r.2.length=n∧∀ g∈r.2,0≤g∧g < (m:Int)
theorem GR.snoc {n m:Nat} {rs:List Row} {r:Row} (h:GR n m rs) (hr:IsP n r.1∧r.2.length=n∧∀ g∈r.2,0≤g∧g < (m:Int)):GR n m (rs++[r]):=fun x hx=>by
 rcases List.mem_append.mp hx with hx | hx
 ·exact h x hx
 ·rw [List.mem_singleton.mp hx];exact hr
theorem GR.good {n m:Nat} {rs:List Row} (h:GR n m rs) (hl:rs.length=m) (h1:1≤m) (h4:m≤4000):z0n n rs:=by
 subst hl
 exact ⟨h4,h1,fun r hr=>(h r hr).1,fun r hr=>(h r hr).2.1,fun r hr=>(h r hr).2.2⟩
theorem zhp {ns:List Int} {i:Nat} (h:zg7 64 ns) (hi:i < 8):∃ ps:List Int,z3h (ns.map V.int) (some (2+6*(i:Int))) (some (8+6*(i:Int)))=ps.map V.int∧ps.length=6∧∀ p∈ps,0≤p∧p < 1009:=by
 have hl:=h.1
 refine ⟨(ns.drop (2+6*i)).take 6,?_,by rw [List.length_take,List.length_drop];lia,fun p hp=>h.2 p (List.mem_of_mem_drop (List.mem_of_mem_take hp))⟩
 have e1:(2+6*(i:Int))=((2+6*i:Nat):Int):=by lia
 have e2:(8+6*(i:Int))=((8+6*i:Nat):Int):=by lia
 unfold z3h
 rw [e1,e2,HT.sIx_nat,HT.sIx_nat,List.length_map,hl,Nat.min_eq_left (by lia),Nat.min_eq_left (by lia),show 8+6*i - (2+6*i)=6 by lia,List.map_take,List.map_drop]
theorem z3T {x:Int} (h:0≤x):∃ m:Nat,x=(m:Int):=⟨x.toNat,by lia⟩
theorem zg4 (n:Nat) (j:Int):(List.replicate n [V.int j]).flatten=(List.replicate n j).map V.int:=by
 induction n with
 | zero=>rfl
 | succ n ih=>rw [List.replicate_succ,List.flatten_cons,ih,List.replicate_succ];rfl
theorem z6m (n:Nat):IsP n (z0z n):=List.Perm.refl _
theorem z7Q (x y:Int) (e:(Sum.inl x:Key)=Sum.inl y):x=y:=Sum.inl.inj e
theorem zb8 {o:List Int} (h:o.Nodup) {i:Nat} {r:Int} (e:o[i]?=some r):r∉o.take i:=fun z=>by
 have h':(o.take i++o.drop i).Nodup:=by rw [List.take_append_drop];exact h
 have hr:r∈o.drop i:=List.mem_of_getElem? (i:=0) (by rw [List.getElem?_drop];exact e)
 exact (List.nodup_append.mp h').2.2 r z r hr rfl
def mk (o:List Int) (vs:List V):List (Key × V):=(o.zip vs).map fun p=>(Sum.inl p.1,p.2)
def FK (f:Int→D):Prop:=∀ r,D.key (f r)∧D.dep (f r)≤3
theorem FK.keyL {f:Int→D} (h:FK f):∀ o:List Int,D.keyL (o.map f)
 | []=>by simp only [List.map_nil,D.keyL]
 | r::o=>by simp only [List.map_cons,D.keyL];exact ⟨(h r).1,FK.keyL h o⟩
theorem FK.depL {f:Int→D} (h:FK f):∀ o:List Int,D.depL (o.map f)≤3
 | []=>by simp only [List.map_nil,D.depL];lia
 | r::o=>by
  simp only [List.map_cons,D.depL]
  have:=(h r).2
  have:=FK.depL h o
  lia
theorem FK.its (rows:List Row):FK fun r=>D.its (row rows r).1:=fun r=>⟨z2T _,by rw [z5U];decide⟩
theorem FK.int (k:Int→Int):FK fun r=>D.int (k r):=fun r=>⟨by simp only [D.key],by simp only [D.dep];decide⟩
def z1L (rows:List Row) (f:Int→D) (r:Int):D:=.tup [f r,.tup ((row rows r).2.map f)]
theorem FK.key {rows:List Row} {f:Int→D} (h:FK f) (r:Int):D.key (z1L rows f r)∧D.dep (z1L rows f r)≤8∧∃ es,z1L rows f r=.tup es:=by
 refine ⟨?_,?_,_,rfl⟩
 ·unfold z1L
  simp only [D.key,D.keyL]
  exact ⟨(h r).1,h.keyL _,trivial⟩
 ·unfold z1L
  simp only [D.dep,D.depL]
  have:=(h r).2
  have:=h.depL (row rows r).2
  lia
def z2b (rows:List Row) (o:List Int) (f:Int→D):List D:=o.map (z1L rows f)
def z2U (rows:List Row) (o:List Int) (f:Int→D) (r:Int):Int:=(((z0A (z2b rows o f)).idxOf (z1L rows f r):Nat):Int)
def z34 (rows:List Row) (o:List Int) (f:Int→D):Int→D:=fun r=>.int (z2U rows o f r)
def z2z (rows:List Row) (o:List Int) (f:Int→D):Nat:=(z0A (z2b rows o f)).length
theorem z7i (rows:List Row) (o:List Int) (f:Int→D):z2z rows o f≤o.length:=by
 have:=z3K (z2b rows o f)
 unfold z2z z2b at *
 rw [List.length_map] at this
 exact this
def z5a (rows:List Row) (o:List Int):Nat→Nat→(Int→D)→(Int→D)
 | 0,_,f=>f
 | m+1,many,f=>if many < z2z rows o f then z5a rows o m (z2z rows o f) (z34 rows o f) else z34 rows o f
def z5C (rows:List Row):Int→D:=z5a rows (z0e rows) (rows.length+2) 0 fun r=>D.its (row rows r).1
def z0T (k:Int→Int) (hs:List Int) (r:Int):List Int:=if k r∈hs.map k then hs else hs++[r]
def z0E (k:Int→Int) (o:List Int):List Int:=o.foldl (z0T k) []
def z1N (rows:List Row) (k:Int→Int) (o:List Int):List Row:=(z0E k o).map fun r=>((row rows r).1,(row rows r).2.map fun g=>((((z0E k o).map k).idxOf (k g):Nat):Int))
theorem z1B (k:Int→Int) (o:List Int) (r:Int):z0E k (o++[r])=z0T k (z0E k o) r:=by
 unfold z0E
 rw [List.foldl_append];rfl
theorem z1f (k:Int→Int) (o:List Int):(∀ r∈o,k r∈(z0E k o).map k)∧(∀ r∈z0E k o,r∈o)∧(z0E k o).length≤o.length:=by
 have:∀ (o hs:List Int),(∀ x∈hs.map k,x∈(o.foldl (z0T k) hs).map k)∧(∀ r∈o,k r∈(o.foldl (z0T k) hs).map k)∧(∀ r∈o.foldl (z0T k) hs,r∈hs∨r∈o)∧(o.foldl (z0T k) hs).length≤hs.length+o.length:=by
  intro o
  induction o with
  | nil=>intro hs;exact ⟨fun x h=>h,fun r h=>by simp at h,fun r h=>.inl h,by simp⟩
  | cons a o ih =>
   intro hs
   obtain ⟨i1,i2,i3,i4⟩:=ih (z0T k hs a)
   rw [List.foldl_cons]
   have hsub:∀ x∈hs.map k,x∈(z0T k hs a).map k:=fun x hx=>by
    unfold z0T
    split
    ·exact hx
    ·rw [List.map_append];exact List.mem_append_left _ hx
   have ha:k a∈(z0T k hs a).map k:=by
    unfold z0T
    split
    ·assumption
    ·simp
   have hlen:(z0T k hs a).length≤hs.length+1:=by
    unfold z0T
    split
    ·lia
    ·simp
   refine ⟨fun x hx=>i1 x (hsub x hx),fun r hr=>?_,fun r hr=>?_,by rw [List.length_cons];lia⟩
   ·rcases List.mem_cons.mp hr with rfl | hr
    ·exact i1 _ ha
    ·exact i2 r hr
   ·rcases i3 r hr with h | h
    ·unfold z0T at h
     split at h
     ·exact .inl h
     ·rcases List.mem_append.mp h with h | h
      ·exact .inl h
      ·exact .inr (by rw [List.mem_singleton.mp h];simp)
    ·exact .inr (List.mem_cons_of_mem _ h)
 obtain ⟨_,h2,h3,h4⟩:=this o []
 refine ⟨h2,fun r hr=>?_,by unfold z0E;simpa using h4⟩
 rcases h3 r hr with h | h
 ·simp at h
 ·exact h
theorem z6w (k:Int→Int) (a:Int) (o:List Int):∃ t,z0E k (a::o)=a::t:=by
 have:∀ (o hs:List Int),∃ t,o.foldl (z0T k) hs=hs++t:=by
  intro o
  induction o with
  | nil=>intro hs;exact ⟨[],by simp⟩
  | cons a o ih =>
   intro hs
   obtain ⟨t,e⟩:=ih (z0T k hs a)
   rw [List.foldl_cons,e]
   unfold z0T
   split
   ·exact ⟨t,rfl⟩
   ·exact ⟨[a]++t,by rw [List.append_assoc]⟩
 unfold z0E
 rw [List.foldl_cons]
 have e:z0T k [] a=[a]:=by unfold z0T;simp
 rw [e]
 obtain ⟨t,e⟩:=this o [a]
 exact ⟨t,e⟩
def zh7:D→Int
 | .int i=>i
 | _=>0
def kOf (rows:List Row) (r:Int):Int:=zh7 (z5C rows r)
theorem z7e (rows:List Row) (o:List Int):∀ (m many:Nat) (f:Int→D),∃ k:Int→Int,z5a rows o (m+1) many f=fun r=>D.int (k r)
 | 0,many,f=>by
  unfold z5a
  split
  ·unfold z5a;exact ⟨z2U rows o f,rfl⟩
  ·exact ⟨z2U rows o f,rfl⟩
 | m+1,many,f=>by
  unfold z5a
  split
  ·exact z7e rows o m _ _
  ·exact ⟨z2U rows o f,rfl⟩
theorem z5K (rows:List Row):z5C rows=fun r=>D.int (kOf rows r):=by
 obtain ⟨k,e⟩:=z7e rows (z0e rows) (rows.length+1) 0 fun r=>D.its (row rows r).1
 have e':z5C rows=fun r=>D.int (k r):=e
 funext r
 unfold kOf
 rw [e']
 rfl
def shr (rows:List Row):List Row:=z1N rows (kOf rows) (z0e rows)
theorem zeA {n:Nat} {rows:List Row} (G:z0n n rows):∃ r t,shr rows=r::t∧IsP n r.1:=by
 obtain ⟨L,_⟩:=z0t G
 obtain ⟨t,e⟩:=L.hd
 obtain ⟨t',e'⟩:=z6w (kOf rows) 0 t
 unfold shr z1N
 rw [e,e',List.map_cons]
 have:=G.some
 exact (exB rfl (G.perm (row rows 0) (z0o (Int.le_refl 0) (show (0:Int) < (rows.length:Int) by lia))))
theorem DD.keyed {P:Program} {w:World} {K:PySem.W.Frag} {H H':Hp} {a:Addr} {kvs:List (D × V)} (h:DD P w K H a kvs) (k:z1h H H') (e:H' a=H a):DD P w K H' a kvs:=by
 obtain ⟨xs,e0,r,n,z⟩:=h
 exact ⟨xs,by rw [e];exact e0,r.mono fun _ _ q d=>d.keyed k q,n,z⟩
theorem z7k {κ:Type} [DecidableEq κ]:∀ (n:Nat) (u:List κ) (a:κ),a∈u→u.Nodup→z1Y (z5j id n u) a (V.int ((n+u.idxOf a:Nat):Int))=z5j id n u:=by
 intro n u a ha hn
 have hv:z33 (z5j id n u) a=some (V.int ((n+u.idxOf a:Nat):Int)):=by
  have:=z5W (κ:=κ) id (fun _ _ e=>e) n u a
  rw [if_pos ha] at this
  exact this
 unfold z1Y
 rw [z3x,hv]
 rw [if_pos (show (some (V.int ((n+u.idxOf a:Nat):Int))).isSome=true from rfl)]
 clear hv
 induction u generalizing n with
 | nil=>rfl
 | cons b u ih =>
  show (if b=a then (b,_) else (b,V.int (n:Int)))::List.map _ (z5j id (n+1) u)=(b,V.int (n:Int))::z5j id (n+1) u
  have hnb:=(List.nodup_cons.mp hn).1
  have hnu:=(List.nodup_cons.mp hn).2
  by_cases e:b=a
  ·subst e
   rw [if_pos rfl]
   have e1:(b::u).idxOf b=0:=by simp
   rw [e1]
   congr 1
   have:∀ (m:Nat) (l:List κ),b∉l→List.map (fun kv:κ × V=>if kv.1=b then (kv.1,V.int ((n+0:Nat):Int)) else kv) (z5j id m l)=z5j id m l:=by
    intro m l
    induction l generalizing m with
    | nil=>intro _;rfl
    | cons c l ih2 =>
     intro hb
     show (if c=b then _ else (c,V.int (m:Int)))::List.map _ (z5j id (m+1) l)=(c,V.int (m:Int))::z5j id (m+1) l
     rw [if_neg (fun z=>hb (by rw [z];simp)),ih2 (m+1) (fun z=>hb (List.mem_cons_of_mem _ z))]
   exact this _ _ hnb
  ·rw [if_neg e]
   have ha':a∈u:=by rcases List.mem_cons.mp ha with z | z;exact absurd z.symm e;exact z
   have e1:(b::u).idxOf a=u.idxOf a+1:=by
    rw [List.idxOf_cons]
    have hb:(b == a)=false:=by simpa using e
    rw [hb];rfl
   rw [e1,show n+(u.idxOf a+1)=(n+1)+u.idxOf a by lia,ih (n+1) ha' hnu]
def z6z (K:PySem.W.Frag):Sp:=fun vs H Q _=>∃ (a:Addr) (n:Nat) (rows:List Row),vs=[.ref a,.int 0]∧z3X K H a rows∧z0n n rows∧n≤60∧z4I K H Q (D.tup (z0m (shr rows)))
theorem z3U {α:Type} [DecidableEq α] (x:α):∀ (xs:List α),(∀ y∈xs,y=x)→z0d [x] xs=[x]
 | [],_=>rfl
 | y::ys,h=>by
  have e:y=x:=h y (by simp)
  subst e
  show z0d (z1Z [y] y) ys=[y]
  rw [z0w (by simp)]
  exact z3U y ys fun z hz=>h z (List.mem_cons_of_mem _ hz)
theorem z5I {α:Type} [DecidableEq α] (x:α) (xs:List α) (h:∀ y∈xs,y=x):z2d xs=List.replicate xs.length 0:=by
 cases xs with
 | nil=>rfl
 | cons y ys =>
  have e:y=x:=h y (by simp)
  subst e
  have hu:z0A (y::ys)=[y]:=by
   show z0d (z1Z [] y) ys=[y]
   rw [z0u (by simp)]
   exact z3U y ys fun z hz=>h z (List.mem_cons_of_mem _ hz)
  unfold z2d
  rw [hu,List.eq_replicate_iff]
  refine ⟨by rw [List.length_map],fun b hb=>?_⟩
  obtain ⟨k,hk,rfl⟩:=List.mem_map.mp hb
  rw [h k hk]
  simp
theorem z6V (m:Nat):cnt (List.replicate m 0)=1:=by
 unfold cnt
 have:∀ m:Nat,(List.replicate m (0:Int)).foldl max 0=0:=by
  intro m
  induction m with
  | zero=>rfl
  | succ m ih=>rw [List.replicate_succ,List.foldl_cons];exact ih
 rw [this];rfl
theorem z5H (m k:Nat):(List.replicate m (0:Int)).getD k 0=0:=by
 rw [List.getD_eq_getElem?_getD,List.getElem?_replicate]
 split<;>rfl
theorem z9r {n:Nat} {rows:List Row} (G:z3M n rows) (h:∀ r∈rows,r.1=z0z n):z2C rows=List.replicate rows.length 0:=by
 have h0:z2d (rows.map (·.1))=List.replicate rows.length 0:=by
  rw [z5I (z0z n) _ fun y hy=>by obtain ⟨r,hr,rfl⟩:=List.mem_map.mp hy;exact h r hr,List.length_map]
 have h1:z2d (z32 (List.replicate rows.length 0) rows)=List.replicate rows.length 0:=by
  rw [z5I ((0:Int),List.replicate n (0:Int)) _ fun y hy=>?_]
  ·congr 1
   unfold z32
   rw [List.length_map,List.length_zip,List.length_replicate];lia
  ·unfold z32 at hy
   obtain ⟨p,hp,rfl⟩:=List.mem_map.mp hy
   obtain ⟨hp1,hp2⟩:=List.of_mem_zip hp
   have e1:p.1=0:=(List.mem_replicate.mp hp1).2
   refine Prod.ext e1 ?_
   show p.2.2.map _=_
   rw [List.eq_replicate_iff]
   refine ⟨by rw [List.length_map];exact G.len _ hp2,fun b hb=>?_⟩
   obtain ⟨g,_,rfl⟩:=List.mem_map.mp hb
   exact z5H _ _
 unfold z2C
 rw [h0]
 have hs:=G.some
 obtain ⟨m,hm⟩:∃ m,rows.length=m+1:=⟨rows.length - 1,by lia⟩
 rw [show rows.length+1=(m+1)+1 by lia]
 show (if (0:Int) < cnt (List.replicate rows.length 0) then z4T rows (m+1) (cnt (List.replicate rows.length 0)) (z2d (z32 (List.replicate rows.length 0) rows)) else List.replicate rows.length 0)=_
 rw [z6V,if_pos (by decide),h1]
 show (if (1:Int) < cnt (List.replicate rows.length 0) then _ else List.replicate rows.length 0)=_
 rw [z6V,if_neg (by decide)]
theorem z9u {n:Nat} {rows:List Row} (G:z0n n rows) (h:∀ r∈rows,r.1=z0z n):least rows=[(z0z n,List.replicate n 0)]:=by
 have GF:=z2q G
 have hf:∀ r∈z0S rows,r.1=z0z n:=fun r hr=>by
  unfold z0S z2f at hr
  obtain ⟨x,hx,rfl⟩:=List.mem_map.mp hr
  obtain ⟨x0,x1⟩:=(z0t G).1.rg x hx
  exact h (row rows x) (z0o x0 x1)
 unfold least
 rw [z9r GF hf]
 generalize z0S rows=fs at GF hf
 have hs:=GF.some
 cases fs with
 | nil=>simp at hs
 | cons r t =>
  unfold z58
  rw [List.length_cons,List.replicate_succ,List.zip_cons_cons,List.foldl_cons]
  have e0:(if (r,(0:Int)).2=(([]:List Row).length:Int) then []++[((r,(0:Int)).1.1,(r,(0:Int)).1.2.map fun g=>((0:Int)::List.replicate t.length 0).getD g.toNat 0)] else ([]:List Row))=[(z0z n,List.replicate n 0)]:=by
   rw [if_pos (show (r,(0:Int)).2=(([]:List Row).length:Int) from rfl),List.nil_append]
   congr 1
   refine Prod.ext (hf r (by simp)) ?_
   show r.2.map _=_
   rw [List.eq_replicate_iff]
   refine ⟨by rw [List.length_map];exact GF.len _ (by simp),fun b hb=>?_⟩
   obtain ⟨g,_,rfl⟩:=List.mem_map.mp hb
   have:=z5H (t.length+1) g.toNat
   rwa [List.replicate_succ] at this
  rw [e0]
  have:∀ (l:List (Row × Int)) (acc:List Row),acc.length=1→(∀ p∈l,p.2=0)→l.foldl (fun l p=>if p.2=(l.length:Int) then l++[(p.1.1,p.1.2.map fun g=>((0:Int)::List.replicate t.length 0).getD g.toNat 0)] else l) acc=acc:=by
   intro l
   induction l with
   | nil=>intro acc _ _;rfl
   | cons p l ih =>
    intro acc h1 hz
    rw [List.foldl_cons,if_neg (by rw [hz p (by simp),h1];decide)]
    exact ih acc h1 fun p hp=>hz p (List.mem_cons_of_mem _ hp)
  exact this _ _ rfl fun p hp=>(List.mem_replicate.mp (List.of_mem_zip hp).2).2
def z7K (K:PySem.W.Frag):Sp:=fun vs H Q _=>∃ (n:Nat) (c:Int),vs=[.int n,.int c]∧2≤n∧n≤5∧∀ (v:V) (H':Hp) (rows:List Row),z0h H H'→z0n n rows→rows.length≤8→Dr K H' (D.tup (z0m (shr rows))) v→Q v H'
end Gu
namespace Gu
open PySem L2
section
variable {α β:Type} [DecidableEq α] [DecidableEq β]
theorem z1x (xs:List α) (x:α):z0A (xs++[x])=z1Z (z0A xs) x:=z1A [] xs x
theorem z0B {xs:List α} {x:α}:x∈z0A xs↔x∈xs:=by
 unfold z0A
 rw [z0I]
 simp
theorem z3J (xs:List α):(z0A xs).Nodup:=z1E xs [] List.nodup_nil
theorem z6A (xs ys:List α):z0A (xs++ys)=z0d (z0A xs) ys:=by
 unfold z0A z0d
 rw [List.foldl_append]
theorem z5J:∀ {gs o:List α},(∀ g∈gs,g∈o)→z0d o gs=o
 | [],o,_=>rfl
 | g::gs,o,h=>by
  show z0d (z1Z o g) gs=o
  rw [z0w (h g (by simp))]
  exact z5J fun x hx=>h x (List.mem_cons_of_mem _ hx)
theorem z3S:∀ {gs o:List α},(o++gs).Nodup→z0d o gs=o++gs
 | [],o,_=>by simp [z0d]
 | g::gs,o,h=>by
  show z0d (z1Z o g) gs=_
  have hg:g∉o:=fun z=>(List.nodup_append.mp h).2.2 g z g (by simp) rfl
  rw [z0u hg,z3S (by rw [List.append_assoc];exact h),List.append_assoc]
  rfl
theorem zbo {l:List α} (h:l.Nodup):z0A l=l:=by
 have:=z3S (o:=[]) (gs:=l) (by simpa using h)
 rw [List.nil_append] at this
 exact this
theorem z73 (f:Int→α) (f':Int→β):∀ l:List Int,(∀ x∈l.reverse,∀ y∈l.reverse,f' x=f' y→f x=f y) →
  (z0A (l.reverse.map f)).length≤(z0A (l.reverse.map f')).length∧((z0A (l.reverse.map f')).length≤(z0A (l.reverse.map f)).length→∀ x∈l.reverse,∀ y∈l.reverse,f x=f y→f' x=f' y)
 | [],_=>⟨Nat.le_refl _,fun _ x hx=>by simp at hx⟩
 | z::l,h=>by
  rw [List.reverse_cons] at h ⊢
  obtain ⟨ih1,ih2⟩:=z73 f f' l fun x hx y hy=>h x (List.mem_append_left _ hx) y (List.mem_append_left _ hy)
  have hz:z∈l.reverse++[z]:=by simp
  have hL:∀ x,x∈l.reverse→x∈l.reverse++[z]:=fun x hx=>List.mem_append_left _ hx
  rw [List.map_append,List.map_append,show List.map f [z]=[f z] from rfl,show List.map f' [z]=[f' z] from rfl,z1x,z1x]
  generalize l.reverse=o at *
  by_cases h1:f' z∈z0A (o.map f')
  ·obtain ⟨z',hz',ez⟩:=List.mem_map.mp (z0B.mp h1)
   have ez2:f z'=f z:=h z' (hL _ hz') z hz ez
   have h2:f z∈z0A (o.map f):=z0B.mpr (List.mem_map.mpr ⟨z',hz',ez2⟩)
   rw [z0w h1,z0w h2]
   refine ⟨ih1,fun hc x hx y hy e=>?_⟩
   have red:∀ x∈o++[z],∃ x'∈o,f x'=f x∧f' x'=f' x:=fun x hx=>by
    rcases List.mem_append.mp hx with hx | hx
    ·exact ⟨x,hx,rfl,rfl⟩
    ·rw [List.mem_singleton.mp hx];exact ⟨z',hz',ez2,ez⟩
   obtain ⟨x',hx',e1,e2⟩:=red x hx
   obtain ⟨y',hy',e3,e4⟩:=red y hy
   rw [←e2,←e4]
   exact ih2 hc x' hx' y' hy' (by rw [e1,e3,e])
  ·rw [z0u h1]
   by_cases h2:f z∈z0A (o.map f)
   ·rw [z0w h2,List.length_append]
    refine ⟨by simp;lia,fun hc=>?_⟩
    simp at hc
    lia
   ·rw [z0u h2,List.length_append,List.length_append]
    refine ⟨by simp;lia,fun hc x hx y hy e=>?_⟩
    have hc':(z0A (o.map f')).length≤(z0A (o.map f)).length:=by simp at hc;lia
    have no:∀ x∈o,f x≠f z:=fun x hx e=>h2 (z0B.mpr (List.mem_map.mpr ⟨x,hx,e⟩))
    rcases List.mem_append.mp hx with hx | hx
    ·rcases List.mem_append.mp hy with hy | hy
     ·exact ih2 hc' x hx y hy e
     ·rw [List.mem_singleton.mp hy] at e
      exact absurd e (no x hx)
    ·rcases List.mem_append.mp hy with hy | hy
     ·rw [List.mem_singleton.mp hx] at e
      exact absurd e.symm (no y hy)
     ·rw [List.mem_singleton.mp hx,List.mem_singleton.mp hy]
theorem z2y (f:Int→α) (f':Int→β) (o:List Int) (h:∀ x∈o,∀ y∈o,f' x=f' y→f x=f y) :
  (z0A (o.map f)).length≤(z0A (o.map f')).length∧((z0A (o.map f')).length≤(z0A (o.map f)).length→∀ x∈o,∀ y∈o,f x=f y→f' x=f' y):=by
 have:=z73 f f' o.reverse (by rw [List.reverse_reverse];exact h)
 rwa [List.reverse_reverse] at this
def nk (o:List Int) (key:Int→α) (x:Int):Int:=(((z0A (o.map key)).idxOf (key x):Nat):Int)
theorem zaG {l:List α} {a b:α} (ha:a∈l) (hb:b∈l) (e:l.idxOf a=l.idxOf b):a=b:=by
 have h1:=List.getElem_idxOf (List.idxOf_lt_length_of_mem ha)
 have h2:=List.getElem_idxOf (List.idxOf_lt_length_of_mem hb)
 rw [←h1,←h2]
 congr 1
theorem z5S {o:List Int} {key:Int→α} {x y:Int} (hx:x∈o) (hy:y∈o):nk o key x=nk o key y↔key x=key y:=by
 unfold nk
 constructor
 ·intro e
  exact zaG (z0B.mpr (List.mem_map.mpr ⟨x,hx,rfl⟩)) (z0B.mpr (List.mem_map.mpr ⟨y,hy,rfl⟩)) (by lia)
 ·intro e;rw [e]
theorem zcU (o:List Int) (key:Int→α):(z0A (o.map (nk o key))).length=(z0A (o.map key)).length:=by
 have h1:=(z2y (nk o key) key o fun x hx y hy e=>(z5S hx hy).mpr e).1
 have h2:=(z2y key (nk o key) o fun x hx y hy e=>(z5S hx hy).mp e).1
 lia
theorem z3Z (f:α→β):∀ (gs o:List α),(∀ x∈o++gs,∀ y∈o++gs,f x=f y→x=y)→z0d (o.map f) (gs.map f)=(z0d o gs).map f
 | [],o,_=>rfl
 | g::gs,o,hf=>by
  have h1:z1Z (o.map f) (f g)=(z1Z o g).map f:=by
   by_cases h:g∈o
   ·rw [z0w h,z0w (List.mem_map.mpr ⟨g,h,rfl⟩)]
   ·have:f g∉o.map f:=fun z=>by
     obtain ⟨x,hx,e⟩:=List.mem_map.mp z
     exact h (hf x (List.mem_append_left _ hx) g (by simp) e ▸ hx)
    rw [z0u h,z0u this,List.map_append];rfl
  show z0d (z1Z (o.map f) (f g)) (gs.map f)=(z0d (z1Z o g) gs).map f
  rw [h1]
  refine z3Z f gs (z1Z o g) fun x hx y hy=>hf x ?_ y ?_
  ·rcases List.mem_append.mp hx with hx | hx
   ·rcases z1c.mp hx with hx | hx
    ·exact List.mem_append_left _ hx
    ·rw [hx];simp
   ·exact List.mem_append_right _ (List.mem_cons_of_mem _ hx)
  ·rcases List.mem_append.mp hy with hy | hy
   ·rcases z1c.mp hy with hy | hy
    ·exact List.mem_append_left _ hy
    ·rw [hy];simp
   ·exact List.mem_append_right _ (List.mem_cons_of_mem _ hy)
theorem z9f {l:List α} (h:l.Nodup):l.map (fun x=>((l.idxOf x:Nat):Int))=z0z l.length:=by
 refine List.ext_getElem (by rw [List.length_map,z0P]) fun i h1 h2=>?_
 rw [List.length_map] at h1
 rw [List.getElem_map,h.idxOf_getElem i h1]
 have:=z1O h1
 rw [List.getElem?_eq_getElem h2] at this
 exact (Option.some.inj this).symm
theorem zdt (o:List Int) (key:Int→α):z0A (o.map (nk o key))=z0z (z0A (o.map key)).length:=by
 have e:o.map (nk o key)=(o.map key).map (fun v=>(((z0A (o.map key)).idxOf v:Nat):Int)):=by
  rw [List.map_map];rfl
 rw [e]
 have:=z3Z (fun v=>(((z0A (o.map key)).idxOf v:Nat):Int)) (o.map key) [] fun x hx y hy q=>by
  rw [List.nil_append] at hx hy
  exact zaG (z0B.mpr hx) (z0B.mpr hy) (Int.ofNat.inj q)
 rw [List.map_nil] at this
 show z0d [] _=_
 rw [this]
 exact z9f (z3J (o.map key))
end
def run (M:List Row):Int→List Nat→Int
 | x,[]=>x
 | x,i::w=>run M ((row M x).2.getD i 0) w
def beh (M:List Row) (x:Int) (w:List Nat):List Int:=(row M (run M x w)).1
structure Cl (n:Nat) (M:List Row) (o:List Int):Prop where
 zero:0∈o
 cl:∀ r∈o,∀ g∈(row M r).2,g∈o
 len:∀ r∈o,(row M r).2.length=n
theorem Cl.go {n:Nat} {M:List Row} {o:List Int} (C:Cl n M o) {x:Int} (hx:x∈o) (i:Nat):(row M x).2.getD i 0∈o:=by
 by_cases h:i < (row M x).2.length
 ·rw [List.getD_eq_getElem?_getD,List.getElem?_eq_getElem h]
  exact C.cl x hx _ (List.getElem_mem h)
 ·rw [List.getD_eq_getElem?_getD,List.getElem?_eq_none (by lia)]
  exact C.zero
theorem z2v {n:Nat} {rows:List Row} (G:z0n n rows):Cl n rows (z0e rows):=by
 obtain ⟨L,cl⟩:=z0t G
 obtain ⟨t,e⟩:=L.hd
 exact ⟨by rw [e];simp,cl,fun r hr=>G.len _ (z0o (L.rg r hr).1 (L.rg r hr).2)⟩
def z6Q {α:Type} (M:List Row) (o:List Int) (f:Int→α):Prop:=∀ x∈o,∀ y∈o,f x=f y↔beh M x=beh M y
structure zco {α:Type} (M:List Row) (o:List Int) (f:Int→α):Prop where
 all:∀ x∈o,∀ y∈o,beh M x=beh M y→f x=f y
 fst:∀ x∈o,∀ y∈o,f x=f y→(row M x).1=(row M y).1
def zax {α β:Type} (M:List Row) (o:List Int) (f:Int→α) (f':Int→β):Prop:=∀ x∈o,∀ y∈o,f' x=f' y↔(f x=f y∧(row M x).2.map f=(row M y).2.map f)
theorem zco.next {α β:Type} {n:Nat} {M:List Row} {o:List Int} {f:Int→α} {f':Int→β} (C:Cl n M o) (F:zco M o f) (S:zax M o f f'):zco M o f':=by
 refine ⟨fun x hx y hy e=>(S x hx y hy).mpr ⟨F.all x hx y hy e,?_⟩,fun x hx y hy e=>F.fst x hx y hy ((S x hx y hy).mp e).1⟩
 refine List.ext_getElem (by rw [List.length_map,List.length_map,C.len x hx,C.len y hy]) fun i h1 h2=>?_
 rw [List.length_map] at h1 h2
 rw [List.getElem_map,List.getElem_map]
 have a1:=C.go hx i
 have a2:=C.go hy i
 have b1:(row M x).2.getD i 0=(row M x).2[i]:=by rw [List.getD_eq_getElem?_getD,List.getElem?_eq_getElem h1];rfl
 have b2:(row M y).2.getD i 0=(row M y).2[i]:=by rw [List.getD_eq_getElem?_getD,List.getElem?_eq_getElem h2];rfl
 rw [←b1,←b2]
 exact F.all _ a1 _ a2 (funext fun w=>congrFun e (i::w))
theorem zco.right {α β:Type} {n:Nat} {M:List Row} {o:List Int} {f:Int→α} {f':Int→β} (C:Cl n M o) (F:zco M o f) (S:zax M o f f') (hk:∀ x∈o,∀ y∈o,f x=f y→f' x=f' y):z6Q M o f':=by
 have key:∀ (w:List Nat) (x y:Int),x∈o→y∈o→f x=f y→beh M x w=beh M y w:=by
  intro w
  induction w with
  | nil=>intro x y hx hy e;exact F.fst x hx y hy e
  | cons i w ih =>
   intro x y hx hy e
   refine ih _ _ (C.go hx i) (C.go hy i) ?_
   have h:=((S x hx y hy).mp (hk x hx y hy e)).2
   have h':=congrArg (fun l=>l[i]?) h
   simp only [List.getElem?_map] at h'
   rw [List.getD_eq_getElem?_getD,List.getD_eq_getElem?_getD]
   cases e1:(row M x).2[i]? with
   | none =>
    rw [e1] at h'
    cases e2:(row M y).2[i]? with
    | none=>rfl
    | some b=>rw [e2] at h';cases h'
   | some a =>
    rw [e1] at h'
    cases e2:(row M y).2[i]? with
    | none=>rw [e2] at h';cases h'
    | some b=>rw [e2] at h';exact Option.some.inj h'
 intro x hx y hy
 refine ⟨fun e=>funext fun w=>key w x y hx hy ((S x hx y hy).mp e).1,fun e=>(F.next C S).all x hx y hy e⟩
end Gu
namespace Gu
open PySem L2
theorem z2o (rows:List Row) (o:List Int) (f:Int→D) (r:Int):z34 rows o f r=D.int (nk o (z1L rows f) r):=rfl
theorem z8V {rows:List Row} {f:Int→D} {x y:Int}:z1L rows f x=z1L rows f y↔(f x=f y∧(row rows x).2.map f=(row rows y).2.map f):=by
 unfold z1L
 constructor
 ·intro e
  injection e with e
  injection e with e1 e2
  injection e2 with e2 _
  injection e2 with e2
  exact ⟨e1,e2⟩
 ·rintro ⟨e1,e2⟩
  rw [e1,e2]
theorem z6U (rows:List Row) (o:List Int) (f:Int→D):zax rows o f (z34 rows o f):=fun x hx y hy=>by
 rw [z2o,z2o]
 constructor
 ·intro e
  injection e with e
  exact z8V.mp ((z5S hx hy).mp e)
 ·intro e
  rw [(z5S hx hy).mpr (z8V.mpr e)]
theorem z76 (rows:List Row) (o:List Int) (f:Int→D):z2z rows o f=(z0A (o.map (z34 rows o f))).length:=by
 have h1:z2z rows o f=(z0A (o.map (z1L rows f))).length:=rfl
 have h2:=(z2y (z34 rows o f) (z1L rows f) o fun x hx y hy e=>by rw [z2o,z2o,(z5S hx hy).mpr e]).1
 have h3:=(z2y (z1L rows f) (z34 rows o f) o fun x hx y hy e=>by
  rw [z2o,z2o] at e
  injection e with e
  exact (z5S hx hy).mp e).1
 lia
theorem z4M {n:Nat} {rows:List Row} {o:List Int} (C:Cl n rows o):∀ (m many:Nat) (f:Int→D),zco rows o f→(many=0∨many=(z0A (o.map f)).length)→many≤o.length→o.length+1≤m+many→z6Q rows o (z5a rows o m many f)
 | 0,many,f,F,hm,hl,hf=>by lia
 | m+1,many,f,F,hm,hl,hf=>by
  unfold z5a
  have S:=z6U rows o f
  by_cases hc:many < z2z rows o f
  ·rw [if_pos hc]
   refine z4M C m _ _ (F.next C S) (.inr (z76 rows o f)) (z7i rows o f) (by lia)
  ·rw [if_neg hc]
   have h1:1≤z2z rows o f:=by
    have:z1L rows f 0∈z0A (z2b rows o f):=z0B.mpr (List.mem_map.mpr ⟨0,C.zero,rfl⟩)
    exact List.length_pos_of_mem this
   have h2:many=(z0A (o.map f)).length:=by rcases hm with h | h;lia;exact h
   have h3:=z76 rows o f
   refine F.right C S ((z2y f (z34 rows o f) o fun x hx y hy e=>((S x hx y hy).mp e).1).2 (by lia))
theorem zgi (rows:List Row) (o:List Int):zco rows o fun r=>D.its (row rows r).1 :=
 ⟨fun x hx y hy e=>by
  have:=congrFun e []
  show D.its _=D.its _
  rw [show (row rows x).1=(row rows y).1 from this],fun x hx y hy e=>z4D e⟩
theorem z2p {n:Nat} {rows:List Row} (G:z0n n rows):z6Q rows (z0e rows) (kOf rows):=by
 have hl:=(z0t G).1.len
 have h:=z4M (z2v G) (rows.length+2) 0 _ (zgi rows (z0e rows)) (.inl rfl) (by lia) (by lia)
 intro x hx y hy
 have:=h x hx y hy
 have e:z5a rows (z0e rows) (rows.length+2) 0 (fun r=>D.its (row rows r).1)=fun r=>D.int (kOf rows r):=z5K rows
 rw [e] at this
 rw [←this]
 exact ⟨fun q=>by show D.int _=D.int _;rw [q],fun q=>D.int.inj q⟩
def kf (ks:List Int) (x:Int):Int:=ks.getD x.toNat 0
theorem z2H {α:Type} [DecidableEq α] {L:Nat} {key:Int→α} {x:Int} (hx:x∈z0z L):kf (z2d ((z0z L).map key)) x=nk (z0z L) key x:=by
 have hx':=z1t.mp hx
 unfold kf z2d nk
 have hl:x.toNat < L:=by lia
 rw [List.getD_eq_getElem?_getD,List.getElem?_map,List.getElem?_map,z1O hl]
 have:((x.toNat:Nat):Int)=x:=by lia
 simp only [Option.map_some,Option.getD_some,this]
theorem z4W (fs:List Row) (g:Row→α):fs.map g=(z0z fs.length).map fun x=>g (row fs x):=by
 refine List.ext_getElem? fun i=>?_
 rw [List.getElem?_map,List.getElem?_map]
 by_cases h:i < fs.length
 ·rw [z1O h,List.getElem?_eq_getElem h]
  show some (g fs[i])=some (g (row fs (i:Int)))
  congr 2
  unfold row
  have:((i:Nat):Int).toNat=i:=by lia
  rw [this,List.getD_eq_getElem?_getD,List.getElem?_eq_getElem h];rfl
 ·rw [List.getElem?_eq_none (by lia),List.getElem?_eq_none (by rw [z0P];lia)]
  rfl
def zei (fs:List Row) (ks:List Int) (x:Int):Int × List Int:=(kf ks x,(row fs x).2.map (kf ks))
theorem z3H {fs:List Row} {ks:List Int} (h:ks.length=fs.length):z32 ks fs=(z0z fs.length).map (zei fs ks):=by
 unfold z32
 refine List.ext_getElem? fun i=>?_
 rw [List.getElem?_map,List.getElem?_map]
 by_cases hi:i < fs.length
 ·have e1:(ks.zip fs)[i]?=some (ks[i]'(by lia),fs[i]):=List.getElem?_zip_eq_some.mpr ⟨List.getElem?_eq_getElem (by lia),List.getElem?_eq_getElem hi⟩
  rw [z1O hi,e1]
  simp only [Option.map_some]
  congr 1
  unfold zei kf row
  have:((i:Nat):Int).toNat=i:=by lia
  rw [this,List.getD_eq_getElem?_getD,List.getElem?_eq_getElem (by lia:i < ks.length),List.getD_eq_getElem?_getD,List.getElem?_eq_getElem hi]
  rfl
 ·rw [List.getElem?_eq_none (by rw [List.length_zip];lia),List.getElem?_eq_none (by rw [z0P];lia)]
  rfl
theorem z4d {α:Type} [DecidableEq α] {xs:List α} (h:xs≠[]):cnt (z2d xs)=((z0A xs).length:Int):=by
 have hne:z2d xs≠[]:=fun z=>h (by
  have:=z3B xs
  rw [z] at this
  exact List.eq_nil_of_length_eq_zero this.symm)
 obtain ⟨h1,h2⟩:=z8d hne fun k hk=>(z6g hk).1
 have h3:=(z6g h1).2
 have hpos:0 < (z0A xs).length:=by
  cases xs with
  | nil=>exact absurd rfl h
  | cons a r=>exact List.length_pos_of_mem (z0B.mpr (show a∈a::r by simp))
 have hm:(z0A xs)[(z0A xs).length - 1]'(by lia)∈xs:=z0B.mp (List.getElem_mem _)
 have h4:(((z0A xs).length - 1:Nat):Int)∈z2d xs:=by
  unfold z2d
  refine List.mem_map.mpr ⟨_,hm,?_⟩
  rw [(z3J xs).idxOf_getElem]
 have:=h2 _ h4
 lia
theorem z6s {L:Nat} {α:Type} {g:Int→α} (h:1≤L):(z0z L).map g≠[]:=fun z=>by
 have:=congrArg List.length z
 rw [List.length_map,z0P] at this
 simp at this
 lia
theorem z6n {α:Type} [DecidableEq α] {L:Nat} {key:Int→α}:(z0A ((z0z L).map (kf (z2d ((z0z L).map key))))).length=(z0A ((z0z L).map key)).length:=by
 rw [←zcU (z0z L) key]
 congr 2
 exact List.map_congr_left fun x hx=>z2H hx
theorem z5n {fs:List Row} (hgo:∀ x∈z0z fs.length,∀ g∈(row fs x).2,g∈z0z fs.length) {ks:List Int}:zax fs (z0z fs.length) (kf ks) (kf (z2d ((z0z fs.length).map (zei fs ks)))):=fun x hx y hy=>by
 rw [z2H hx,z2H hy,z5S hx hy]
 unfold zei
 rw [Prod.mk.injEq]
theorem zfv {n:Nat} {fs:List Row} (G:z3M n fs):Cl n fs (z0z fs.length):=by
 refine ⟨z1t.mpr ⟨by lia,by have:=G.some;lia⟩,fun r hr g hg=>?_,fun r hr=>?_⟩
 ·have h:=z1t.mp hr
  exact z1t.mpr (G.go _ (z0o h.1 h.2) g hg)
 ·have h:=z1t.mp hr
  exact G.len _ (z0o h.1 h.2)
theorem z4v {n:Nat} {fs:List Row} (G:z3M n fs):∀ (m:Nat) (c:Int) (ks:List Int),(∃ (α:Type) (_:DecidableEq α) (key:Int→α),ks=z2d ((z0z fs.length).map key))→zco fs (z0z fs.length) (kf ks) →
  (c=0∨∃ ks0:List Int,zco fs (z0z fs.length) (kf ks0)∧zax fs (z0z fs.length) (kf ks0) (kf ks)∧c=((z0A ((z0z fs.length).map (kf ks0))).length:Int))→0≤c→c≤(fs.length:Int)→(fs.length:Int)+1≤m+c →
  z6Q fs (z0z fs.length) (kf (z4T fs m c ks))∧∃ (α:Type) (_:DecidableEq α) (key:Int→α),z4T fs m c ks=z2d ((z0z fs.length).map key)
 | 0,c,ks,hk,F,hp,h0,h1,h2=>by lia
 | m+1,c,ks,hk,F,hp,h0,h1,h2=>by
  unfold z4T
  have C:=zfv G
  obtain ⟨α,ia,key,rfl⟩:=hk
  have hcn:=z4d (z6s (g:=key) G.some)
  have hU:(z0A ((z0z fs.length).map key)).length≤fs.length:=by
   have:=z3K ((z0z fs.length).map key)
   rw [List.length_map,z0P] at this
   exact this
  have hUp:1≤(z0A ((z0z fs.length).map key)).length:=List.length_pos_of_mem (z0B.mpr (List.mem_map.mpr ⟨0,C.zero,rfl⟩))
  by_cases hc:c < cnt (z2d ((z0z fs.length).map key))
  ·rw [if_pos hc,hcn,z3H (by rw [z3B,List.length_map,z0P])]
   refine z4v G m _ _ ⟨_,_,_,rfl⟩ (F.next C (z5n C.cl)) (.inr ⟨_,F,z5n C.cl,?_⟩) (by lia) (by lia) (by rw [hcn] at hc;lia)
   rw [z6n]
  ·rw [if_neg hc]
   refine ⟨?_,_,_,_,rfl⟩
   rcases hp with hp | ⟨ks0,F0,S0,hc0⟩
   ·rw [hcn] at hc;lia
   ·refine F0.right C S0 ((z2y _ _ _ fun x hx y hy e=>((S0 x hx y hy).mp e).1).2 ?_)
    rw [z6n]
    rw [hcn] at hc
    lia
theorem z59 {n:Nat} {fs:List Row} (G:z3M n fs):z6Q fs (z0z fs.length) (kf (z2C fs))∧∃ (α:Type) (_:DecidableEq α) (key:Int→α),z2C fs=z2d ((z0z fs.length).map key):=by
 have C:=zfv G
 unfold z2C
 refine z4v G (fs.length+1) 0 _ ⟨List Int,inferInstance,fun x=>(row fs x).1,by rw [z4W fs (·.1)]⟩ ?_ (.inl rfl) (by lia) (by lia) (by lia)
 rw [z4W fs (·.1)]
 refine ⟨fun x hx y hy e=>?_,fun x hx y hy e=>?_⟩
 ·rw [z2H hx,z2H hy,z5S hx hy]
  exact congrFun e []
 ·rw [z2H hx,z2H hy,z5S hx hy] at e
  exact e
inductive BF (M:List Row):Nat→List Int→List Int→Prop
 | stop {i:Nat} {o:List Int}:o.length≤i→BF M i o o
 | step {i:Nat} {o res:List Int} {r:Int}:o[i]?=some r→BF M (i+1) (z0d o (row M r).2) res→BF M i o res
theorem BF.det {M:List Row} {i:Nat} {o a b:List Int} (h:BF M i o a) (h':BF M i o b):a=b:=by
 induction h generalizing b with
 | stop hl =>
  cases h' with
  | stop _=>rfl
  | step e _=>rw [List.getElem?_eq_none hl] at e;cases e
 | step e _ ih =>
  cases h' with
  | stop hl=>rw [List.getElem?_eq_none hl] at e;cases e
  | step e' q =>
   rw [e] at e'
   cases e'
   exact ih q
theorem BF.sub {M:List Row} {i:Nat} {o a:List Int} (h:BF M i o a):∃ m,a=o++m:=by
 induction h with
 | stop _=>exact ⟨[],by simp⟩
 | @step i o res r e _ ih =>
  obtain ⟨m,em⟩:=ih
  obtain ⟨m',em'⟩:=z0N (row M r).2 o
  exact ⟨m'++m,by rw [em,em',List.append_assoc]⟩
theorem zfB {n:Nat} {rows:List Row} (G:z0n n rows):∀ (f i:Nat) (o:List Int),z7G rows o→i≤o.length→rows.length+1≤f+i→BF rows i o (bfs rows f i o)
 | 0,i,o,L,hi,hf=>by
  have:=L.len
  lia
 | f+1,i,o,L,hi,hf=>by
  cases e:o[i]? with
  | none =>
   rw [z4k (List.getElem?_eq_none_iff.mp e)]
   exact .stop (List.getElem?_eq_none_iff.mp e)
  | some r =>
   rw [z4b e]
   have hr:r∈o:=List.mem_of_getElem? e
   have hil:i < o.length:=(List.getElem?_eq_some_iff.mp e).1
   obtain ⟨m,em⟩:=z0N (row rows r).2 o
   exact .step e (zfB G f (i+1) _ (L.add G hr) (by rw [em,List.length_append];lia) (by lia))
theorem z2W {n:Nat} {rows:List Row} (G:z0n n rows):BF rows 0 [0] (z0e rows):=zfB G (rows.length+1) 0 [0] (zcI G) (by simp) (by lia)
theorem z4q {α β:Type} [DecidableEq α] [DecidableEq β] (h:α→β):∀ (gs o:List α),z0A ((z0d o gs).map h)=z0d (z0A (o.map h)) (gs.map h)
 | [],o=>rfl
 | g::gs,o=>by
  show z0A ((z0d (z1Z o g) gs).map h)=z0d (z1Z (z0A (o.map h)) (h g)) (gs.map h)
  rw [z4q h gs (z1Z o g)]
  congr 1
  by_cases hg:g∈o
  ·rw [z0w hg,z0w (z0B.mpr (List.mem_map.mpr ⟨g,hg,rfl⟩))]
  ·rw [z0u hg,List.map_append]
   exact z1x _ _
def Mor (M' M:List Row) (o':List Int) (h:Int→Int):Prop:=∀ x∈o',row M (h x)=((row M' x).1,(row M' x).2.map h)
theorem BF.map {M' M:List Row} {h:Int→Int} {i:Nat} {o res:List Int} (b:BF M' i o res):Mor M' M res h→(∀ j r,j < i→o[j]?=some r→∀ g∈(row M' r).2,g∈o)→i≤o.length →
  BF M (z0A ((o.take i).map h)).length (z0A (o.map h)) (z0A (res.map h)):=by
 induction b with
 | @stop i o hl =>
  intro _ _ _
  rw [List.take_of_length_le hl]
  exact .stop (Nat.le_refl _)
 | @step i o res r e b ih =>
  intro mo pc hi
  obtain ⟨m0,em0⟩:=b.sub
  obtain ⟨m,em⟩:=z0N (row M' r).2 o
  have hil:i < o.length:=(List.getElem?_eq_some_iff.mp e).1
  have hro:r∈o:=List.mem_of_getElem? e
  have hr:=mo r (by rw [em0,em];exact List.mem_append_left _ (List.mem_append_left _ hro))
  have ih':=ih mo (fun j r' hj er g hg=>?_) (by rw [em,List.length_append];lia)
  ·have et:(z0d o (row M' r).2).take (i+1)=o.take i++[r]:=by
    rw [em,List.take_append_of_le_length (by lia),List.take_add_one,e];rfl
   rw [et,List.map_append,show List.map h [r]=[h r] from rfl,z1x,z4q] at ih'
   by_cases hm:h r∈z0A ((o.take i).map h)
   ·rw [z0w hm,z5J] at ih'
    ·exact ih'
    ·intro g hg
     obtain ⟨r',hr',er'⟩:=List.mem_map.mp (z0B.mp hm)
     obtain ⟨j,hj,ej⟩:=List.getElem_of_mem hr'
     rw [List.length_take] at hj
     rw [List.getElem_take] at ej
     have hmo:=mo r' (by rw [em0,em];exact List.mem_append_left _ (List.mem_append_left _ (List.mem_of_mem_take hr')))
     rw [er',hr] at hmo
     have e2:(row M' r).2.map h=(row M' r').2.map h:=congrArg Prod.snd hmo
     rw [e2] at hg
     obtain ⟨g',hg',eg⟩:=List.mem_map.mp hg
     have:=pc j r' (by lia) (by rw [List.getElem?_eq_getElem (by lia),ej]) g' hg'
     exact z0B.mpr (List.mem_map.mpr ⟨g',this,eg⟩)
   ·rw [z0u hm,List.length_append] at ih'
    refine .step (r:=h r) ?_ ?_
    ·have eo:o=(o.take i++[r])++o.drop (i+1):=by
      have:o.take (i+1)=o.take i++[r]:=by rw [List.take_add_one,e];rfl
      rw [←this,List.take_append_drop]
     have e3:z0A (o.map h)=z0d (z0A ((o.take i).map h)++[h r]) ((o.drop (i+1)).map h):=by
      conv=>lhs;rw [eo]
      rw [List.map_append,z6A,List.map_append,show List.map h [r]=[h r] from rfl,z1x,z0u hm]
     obtain ⟨m2,em2⟩:=z0N ((o.drop (i+1)).map h) (z0A ((o.take i).map h)++[h r])
     rw [e3,em2,List.append_assoc,List.getElem?_append_right (Nat.le_refl _),Nat.sub_self]
     rfl
    ·rw [hr]
     exact ih'
  ·have hjo:j < o.length:=by lia
   have er':o[j]?=some r':=by rw [em,List.getElem?_append_left hjo] at er;exact er
   by_cases hji:j=i
   ·subst hji
    rw [e] at er'
    cases er'
    exact z0I.mpr (.inr hg)
   ·exact z0I.mpr (.inl (pc j r' (by lia) er' g hg))
theorem z7b {n n':Nat} {M' M:List Row} {h:Int→Int} (G':z0n n' M') (G:z0n n M) (h0:h 0=0) (mo:Mor M' M (z0e M') h):z0A ((z0e M').map h)=z0e M:=by
 have b:=(z2W G').map mo (fun j r hj=>absurd hj (Nat.not_lt_zero _)) (by simp)
 have e:z0A ([(0:Int)].map h)=[0]:=by
  rw [show [(0:Int)].map h=[h 0] from rfl,h0];rfl
 rw [e] at b
 exact b.det (z2W G)
theorem z5z (k:Int→Int):∀ l:List Int,(z0E k l.reverse).map k=z0A (l.reverse.map k)
 | []=>rfl
 | a::l=>by
  rw [List.reverse_cons,z1B,List.map_append,show List.map k [a]=[k a] from rfl,z1x,←z5z k l]
  unfold z0T
  by_cases h:k a∈(z0E k l.reverse).map k
  ·rw [if_pos h,z0w h]
  ·rw [if_neg h,z0u h,List.map_append];rfl
theorem z1C (k:Int→Int) (o:List Int):(z0E k o).map k=z0A (o.map k):=by
 have:=z5z k o.reverse
 rwa [List.reverse_reverse] at this
theorem z6M {k k':Int→Int}:∀ l:List Int,(∀ x∈l.reverse,∀ y∈l.reverse,k x=k y↔k' x=k' y)→z0E k l.reverse=z0E k' l.reverse
 | [],_=>rfl
 | a::l,h=>by
  rw [List.reverse_cons] at h ⊢
  rw [z1B,z1B,z6M l fun x hx y hy=>h x (List.mem_append_left _ hx) y (List.mem_append_left _ hy)]
  unfold z0T
  have hin:=(z1f k' l.reverse).2.1
  have:k a∈(z0E k' l.reverse).map k↔k' a∈(z0E k' l.reverse).map k':=by
   constructor
   ·intro hm
    obtain ⟨x,hx,e⟩:=List.mem_map.mp hm
    exact List.mem_map.mpr ⟨x,hx,(h x (List.mem_append_left _ (hin x hx)) a (by simp)).mp e⟩
   ·intro hm
    obtain ⟨x,hx,e⟩:=List.mem_map.mp hm
    exact List.mem_map.mpr ⟨x,hx,(h x (List.mem_append_left _ (hin x hx)) a (by simp)).mpr e⟩
  by_cases hm:k a∈(z0E k' l.reverse).map k
  ·rw [if_pos hm,if_pos (this.mp hm)]
  ·rw [if_neg hm,if_neg (fun z=>hm (this.mpr z))]
theorem z9O {k k':Int→Int} {o:List Int} (h:∀ x∈o,∀ y∈o,k x=k y↔k' x=k' y):z0E k o=z0E k' o:=by
 have:=z6M (k:=k) (k':=k') o.reverse (by rw [List.reverse_reverse];exact h)
 rwa [List.reverse_reverse] at this
theorem z5B (k h:Int→Int):∀ l:List Int,(z0E (fun x=>k (h x)) l.reverse).map h=z0E k (z0A (l.reverse.map h))
 | []=>rfl
 | a::l=>by
  rw [List.reverse_cons,z1B,List.map_append,show List.map h [a]=[h a] from rfl,z1x]
  have ih:=z5B k h l
  have e:(z0E (fun x=>k (h x)) l.reverse).map (fun x=>k (h x))=(z0E k (z0A (l.reverse.map h))).map k:=by
   rw [←ih,List.map_map];rfl
  unfold z0T
  by_cases hm:h a∈z0A (l.reverse.map h)
  ·have hk:k (h a)∈(z0E (fun x=>k (h x)) l.reverse).map (fun x=>k (h x)):=by
    rw [e]
    exact (z1f k _).1 _ hm
   rw [if_pos hk,z0w hm];exact ih
  ·rw [z0u hm,z1B]
   unfold z0T
   by_cases hk:k (h a)∈(z0E (fun x=>k (h x)) l.reverse).map (fun x=>k (h x))
   ·rw [if_pos hk,if_pos (by rw [←e];exact hk)];exact ih
   ·rw [if_neg hk,if_neg (by rw [←e];exact hk),List.map_append,ih];rfl
theorem z8c (k h:Int→Int) (o:List Int):(z0E (fun x=>k (h x)) o).map h=z0E k (z0A (o.map h)):=by
 have:=z5B k h o.reverse
 rwa [List.reverse_reverse] at this
theorem zaE {k k':Int→Int} {x:Int}:∀ {l:List Int},(∀ y∈l,k y=k x↔k' y=k' x)→(l.map k).idxOf (k x)=(l.map k').idxOf (k' x)
 | [],_=>rfl
 | b::l,h=>by
  rw [List.map_cons,List.map_cons,List.idxOf_cons,List.idxOf_cons,zaE fun y hy=>h y (List.mem_cons_of_mem _ hy)]
  have:=h b (by simp)
  have e:(k b == k x)=(k' b == k' x):=by
   rw [Bool.eq_iff_iff,beq_iff_eq,beq_iff_eq];exact this
  rw [e]
theorem zbE {n:Nat} {M' M:List Row} {o':List Int} {h:Int→Int} (C:Cl n M' o') (h0:h 0=0) (mo:Mor M' M o' h):∀ (w:List Nat) (x:Int),x∈o'→h (run M' x w)=run M (h x) w∧run M' x w∈o'
 | [],x,hx=>⟨rfl,hx⟩
 | i::w,x,hx=>by
  have e:(row M (h x)).2.getD i 0=h ((row M' x).2.getD i 0):=by
   rw [mo x hx,List.getD_eq_getElem?_getD,List.getD_eq_getElem?_getD,List.getElem?_map]
   cases (row M' x).2[i]? with
   | none=>exact h0.symm
   | some a=>rfl
  obtain ⟨h1,h2⟩:=zbE C h0 mo w _ (C.go hx i)
  refine ⟨?_,h2⟩
  show h (run M' ((row M' x).2.getD i 0) w)=run M ((row M (h x)).2.getD i 0) w
  rw [e];exact h1
theorem z5G {n n':Nat} {M' M:List Row} {h k k':Int→Int} (G':z0n n' M') (G:z0n n M) (h0:h 0=0) (mo:Mor M' M (z0e M') h) (R:z6Q M (z0e M) k) (R':z6Q M' (z0e M') k') :
  z1N M' k' (z0e M')=z1N M k (z0e M):=by
 have C':=z2v G'
 have eo:=z7b G' G h0 mo
 have hin:∀ x∈z0e M',h x∈z0e M:=fun x hx=>by rw [←eo];exact z0B.mpr (List.mem_map.mpr ⟨x,hx,rfl⟩)
 have hb:∀ x∈z0e M',beh M' x=beh M (h x):=fun x hx=>funext fun w=>by
  obtain ⟨h1,h2⟩:=zbE C' h0 mo w x hx
  show (row M' (run M' x w)).1=(row M (run M (h x) w)).1
  rw [←h1,mo _ h2]
 have ker:∀ x∈z0e M',∀ y∈z0e M',k' x=k' y↔k (h x)=k (h y):=fun x hx y hy=>by
  rw [R' x hx y hy,R _ (hin x hx) _ (hin y hy),hb x hx,hb y hy]
 have hh:z0E k' (z0e M')=z0E (fun x=>k (h x)) (z0e M'):=z9O ker
 have hm:(z0E (fun x=>k (h x)) (z0e M')).map h=z0E k (z0e M):=by rw [z8c,eo]
 have hsub:∀ r∈z0E (fun x=>k (h x)) (z0e M'),r∈z0e M':=(z1f _ _).2.1
 unfold z1N
 rw [hh,←hm,List.map_map]
 refine List.map_congr_left fun r hr=>?_
 have hro:=hsub r hr
 show _=((row M (h r)).1,(row M (h r)).2.map _)
 rw [mo r hro]
 refine Prod.ext rfl ?_
 show List.map _ _=List.map _ (List.map h (row M' r).2)
 rw [List.map_map]
 refine List.map_congr_left fun g hg=>?_
 have hgo:=C'.cl r hro g hg
 show (((List.map k' (z0E (fun x=>k (h x)) (z0e M'))).idxOf (k' g):Nat):Int)=((((z0E (fun x=>k (h x)) (z0e M')).map h).map k).idxOf (k (h g)):Nat)
 rw [List.map_map]
 have:=zaE (k:=k') (k':=fun x=>k (h x)) (x:=g) (l:=z0E (fun x=>k (h x)) (z0e M')) fun y hy=>ker y (hsub y hy) g hgo
 rw [this]
 rfl
theorem z68 {n n':Nat} {M' M:List Row} {h:Int→Int} (G':z0n n' M') (G:z0n n M) (h0:h 0=0) (mo:Mor M' M (z0e M') h):shr M'=shr M :=
 z5G G' G h0 mo (z2p G) (z2p G')
theorem z3M.m {n:Nat} {fs:List Row} (G:z3M n fs):z0n n fs:=⟨G.few,G.some,G.perm,G.len,G.go⟩
theorem z77 {n:Nat} {rows:List Row} (G:z0n n rows) {x:Int} (hx:x∈z0e rows):row (z0S rows) ((((z0e rows).idxOf x:Nat):Int))=((row rows x).1,(row rows x).2.map fun g=>(((z0e rows).idxOf g:Nat):Int)):=by
 have hl:=List.idxOf_lt_length_of_mem hx
 unfold row z0S z2f
 have:((((z0e rows).idxOf x:Nat):Int)).toNat=(z0e rows).idxOf x:=by lia
 rw [this,List.getD_eq_getElem?_getD,List.getElem?_map,List.getElem?_eq_getElem hl,List.getElem_idxOf hl]
 rfl
theorem z7B (rows:List Row):(z0S rows).length=(z0e rows).length:=by unfold z0S z2f;rw [List.length_map]
theorem z35 {n:Nat} {rows:List Row} (G:z0n n rows):z0e (z0S rows)=z0z (z0S rows).length:=by
 obtain ⟨L,cl⟩:=z0t G
 obtain ⟨t,e⟩:=L.hd
 have h0:(((z0e rows).idxOf 0:Nat):Int)=0:=by rw [e];simp
 have h:=z7b (h:=fun x=>(((z0e rows).idxOf x:Nat):Int)) G (z2q G).m h0 fun x hx=>z77 G hx
 rw [←h,z9f L.nd,z7B]
 exact zbo (z9y _)
theorem z9W {n:Nat} {rows:List Row} (G:z0n n rows):Mor (z0S rows) rows (z0e (z0S rows)) fun i=>(z0e rows).getD i.toNat 0:=by
 obtain ⟨L,cl⟩:=z0t G
 intro i hi
 rw [z35 G,z7B] at hi
 obtain ⟨i0,i1⟩:=z1t.mp hi
 have hl:i.toNat < (z0e rows).length:=by lia
 have e1:(z0e rows).getD i.toNat 0=(z0e rows)[i.toNat]:=by rw [List.getD_eq_getElem?_getD,List.getElem?_eq_getElem hl];rfl
 have hx:(z0e rows)[i.toNat]∈z0e rows:=List.getElem_mem hl
 have e2:(((z0e rows).idxOf (z0e rows)[i.toNat]:Nat):Int)=i:=by rw [L.nd.idxOf_getElem];lia
 have e3:=z77 G hx
 rw [e2] at e3
 show row rows ((z0e rows).getD i.toNat 0)=_
 rw [e1,e3]
 refine Prod.ext rfl ?_
 show (row rows (z0e rows)[i.toNat]).2=List.map _ (List.map _ _)
 rw [List.map_map]
 conv=>lhs;rw [←List.map_id (row rows (z0e rows)[i.toNat]).2]
 refine List.map_congr_left fun g hg=>?_
 have hg':=cl _ hx g hg
 have hl':=List.idxOf_lt_length_of_mem hg'
 show g=(z0e rows).getD ((((z0e rows).idxOf g:Nat):Int)).toNat 0
 have:((((z0e rows).idxOf g:Nat):Int)).toNat=(z0e rows).idxOf g:=by lia
 rw [this,List.getD_eq_getElem?_getD,List.getElem?_eq_getElem hl',List.getElem_idxOf hl']
 rfl
theorem z6S {L i:Nat} (h:i≤L):(z0z L).take i=z0z i:=by
 refine List.ext_getElem? fun j=>?_
 by_cases hj:j < i
 ·rw [List.getElem?_take_of_lt hj,z1O (by lia),z1O hj]
 ·rw [List.getElem?_eq_none (by rw [List.length_take,z0P];lia),List.getElem?_eq_none (by rw [z0P];lia)]
theorem zcu {c:Nat} {u m:List Int} (e:u++m=z0z c):u=z0z u.length:=by
 have hl:u.length≤c:=by have:=congrArg List.length e;rw [List.length_append,z0P] at this;lia
 have:=congrArg (List.take u.length) e
 rw [List.take_append_of_le_length (Nat.le_refl _),List.take_length,z6S hl] at this
 exact this
theorem z4C (j:Nat):z0z (j+1)=z0z j++[(j:Int)]:=by
 unfold z0z
 rw [List.range_succ,List.map_append];rfl
theorem z41 {fs:List Row} {ks:List Int} (hl:ks.length=fs.length) (hn:∃ (α:Type) (_:DecidableEq α) (key:Int→α),ks=z2d ((z0z fs.length).map key)) (hgo:∀ r∈fs,∀ g∈r.2,0≤g∧g < (fs.length:Int)) :
  z58 fs ks=z1N fs (kf ks) (z0z fs.length):=by
 obtain ⟨α,ia,key,ek⟩:=hn
 have hU:z0A ((z0z fs.length).map (kf ks))=z0z (z0A ((z0z fs.length).map key)).length:=by
  have e:(z0z fs.length).map (kf ks)=(z0z fs.length).map (nk (z0z fs.length) key):=List.map_congr_left fun x hx=>by rw [ek];exact z2H hx
  rw [e]
  exact zdt (z0z fs.length) key
 generalize hc:(z0A ((z0z fs.length).map key)).length=c at hU
 have hpre:∀ i,i≤fs.length→z0A ((z0z i).map (kf ks))=z0z (z0A ((z0z i).map (kf ks))).length:=fun i hi=>by
  have e1:z0z fs.length=z0z i++(z0z fs.length).drop i:=by
   conv=>lhs;rw [←List.take_append_drop i (z0z fs.length)]
   rw [z6S hi]
  rw [e1,List.map_append,z6A] at hU
  obtain ⟨m,em⟩:=z0N (((z0z fs.length).drop i).map (kf ks)) (z0A ((z0z i).map (kf ks)))
  rw [em] at hU
  exact zcu hU
 have main:∀ i,i≤fs.length→z2h fs ks i=(z0E (kf ks) (z0z i)).map fun r=>((row fs r).1,(row fs r).2.map (kf ks)):=by
  intro i
  induction i with
  | zero=>intro _;rfl
  | succ i ih =>
   intro hi
   have ih:=ih (by lia)
   have hif:i < fs.length:=by lia
   have hik:i < ks.length:=by lia
   rw [z54 (r:=fs[i]) (k:=ks[i]) (List.getElem?_eq_getElem hif) (List.getElem?_eq_getElem hik),ih,z4C,z1B]
   have p1:=hpre i (by lia)
   have p2:=hpre (i+1) hi
   rw [z4C,List.map_append,show List.map (kf ks) [(i:Int)]=[kf ks i] from rfl,z1x] at p2
   have hm:=z1C (kf ks) (z0z i)
   have hlen:(z0E (kf ks) (z0z i)).length=(z0A ((z0z i).map (kf ks))).length:=by rw [←hm,List.length_map]
   have ek:ks[i]=kf ks (i:Int):=by
    unfold kf
    have:((i:Nat):Int).toNat=i:=by lia
    rw [this,List.getD_eq_getElem?_getD,List.getElem?_eq_getElem hik];rfl
   have er:fs[i]=row fs (i:Int):=by
    unfold row
    have:((i:Nat):Int).toNat=i:=by lia
    rw [this,List.getD_eq_getElem?_getD,List.getElem?_eq_getElem hif];rfl
   unfold z5X z0T
   rw [hm,List.length_map,hlen]
   by_cases hin:kf ks i∈z0A ((z0z i).map (kf ks))
   ·rw [if_pos hin,if_neg]
    show ¬ ks[i]=_
    rw [ek]
    rw [p1] at hin
    have:=z1t.mp hin
    lia
   ·rw [if_neg hin,if_pos]
    ·rw [List.map_append,er]
     rfl
    ·show ks[i]=_
     rw [ek]
     rw [z0u hin,List.length_append] at p2
     have e3:z0z ((z0A ((z0z i).map (kf ks))).length+[kf ks (i:Int)].length)=z0z (z0A ((z0z i).map (kf ks))).length++[((z0A ((z0z i).map (kf ks))).length:Int)]:=z4C _
     rw [e3,←p1] at p2
     have:=List.append_cancel_left p2
     simpa using this
 rw [←z5M hl,main fs.length (Nat.le_refl _)]
 unfold z1N
 refine List.map_congr_left fun r hr=>?_
 refine Prod.ext rfl ?_
 refine List.map_congr_left fun g hg=>?_
 have hr':=z1t.mp ((z1f (kf ks) (z0z fs.length)).2.1 r hr)
 have hg':=hgo _ (z0o hr'.1 hr'.2) g hg
 have hin:kf ks g∈z0A ((z0z fs.length).map (kf ks)):=z0B.mpr (List.mem_map.mpr ⟨g,z1t.mpr hg',rfl⟩)
 rw [z1C]
 have hl':=List.idxOf_lt_length_of_mem hin
 have e:=List.getElem_idxOf hl'
 rw [hU] at hin hl' ⊢
 have h1:=z1t.mp hin
 have e2:(z0z c)[(z0z c).idxOf (kf ks g)]'hl'=kf ks g:=List.getElem_idxOf hl'
 have e3:=z1O (n:=c) (i:=(z0z c).idxOf (kf ks g)) (by rw [z0P] at hl';exact hl')
 rw [List.getElem?_eq_getElem hl',e2] at e3
 exact Option.some.inj e3
theorem z4o {n:Nat} {rows:List Row} (G:z0n n rows):least rows=shr rows:=by
 have GF:=z2q G
 obtain ⟨R,N⟩:=z59 GF
 obtain ⟨L,cl⟩:=z0t G
 obtain ⟨t,e⟩:=L.hd
 unfold least
 rw [z41 (z3F GF).len N GF.go]
 have h0:(fun i:Int=>(z0e rows).getD i.toNat 0) 0=0:=by
  show (z0e rows).getD (0:Int).toNat 0=0
  rw [e];rfl
 have R':z6Q (z0S rows) (z0e (z0S rows)) (kf (z2C (z0S rows))):=by rw [z35 G];exact R
 have:=z5G (h:=fun i=>(z0e rows).getD i.toNat 0) GF.m G h0 (z9W G) (z2p G) R'
 rw [z35 G] at this
 exact this
end Gu
namespace L2
open PySem PySem.Spec PyProof.Rows
section
variable {X:Cx} {pins:List (Addr × Obj)} {σ:St} {H:Hp} {s:Shared} {a:Addr} {kvs:List (Key × V)} {k:Key} {u:Value} {A:Around} {E:Value→Shared→Prop}
end
section
variable {X:Cx} {o e f:Expr} {apos cpos:Pos} {td ty tx:TE}
end
end L2
namespace HT
open PySem PySem.Spec PyProof.Rows
section
variable {prog:Program} {w:World} {A:Around} {E:Value→Shared→Prop} {s:Shared}
end
end HT
namespace L2
open PySem PySem.Spec PyProof.Rows
section
variable {X:Cx} {e st:Expr} {te ts:TE} {pos p2:Pos}
end
end L2
namespace L2
open PySem PySem.Spec PyProof.Rows
section
variable {X:Cx} {elts:List Expr} {tk:Nat} {tp:Pos}
end
end L2
namespace L2
open PySem PySem.Spec PyProof.Rows
section
variable {X:Cx}
end
end L2
namespace Gu
open PySem L2
theorem BF.all {M:List Row} {i:Nat} {o res:List Int} {C:Int→Prop} (b:BF M i o res) (hc:∀ x,C x→∀ g∈(row M x).2,C g):(∀ x∈o,C x)→∀ x∈res,C x:=by
 induction b with
 | stop _=>exact fun h=>h
 | @step i o res r e b ih =>
  intro h
  refine ih fun x hx=>?_
  rcases z0I.mp hx with hx | hx
  ·exact h x hx
  ·exact hc r (h r (List.mem_of_getElem? e)) x hx
theorem z46:∀ l:List Row,D.depL (z0m l)≤2
 | []=>by unfold z0m;simp only [List.map_nil,D.depL];lia
 | r::l=>by
  have h:=z46 l
  unfold z0m at h ⊢
  have h2:D.dep (z2E r)=2:=by
   unfold z2E
   simp only [D.dep,D.depL,D.depL_ints]
   decide
  simp only [List.map_cons,D.depL]
  lia
end Gu
namespace L2
open PySem PySem.Spec PyProof.Rows
def Fly (h0:Heap) (H:Hp) (h:Heap) (ea C:Addr):Prop:=h0.get? ea=none∧H ea=none∧∃ a0 oe vs T oT ts,h.get? ea=some oe∧(oe.cls=.ref C∧vs[0]?=some a0)∧oe.data=.fields vs∧vs[1]?=some (.ref T)∧T≠ea∧h0.get? T=none∧H T=none∧h.get? T=some oT∧oT.data=.fields ts∧ts[3]?=some .none
def zeT (h0:Heap) (H:Hp) (h:Heap) (ea C:Addr):Prop:=h0.get? ea=none∧H ea=none∧∃ a0 oe vs,h.get? ea=some oe∧(oe.cls=.ref C∧vs[0]?=some a0)∧oe.data=.fields vs∧vs[1]?=some .none
theorem z2G {h base:Heap}:∀ {l:List Env},h.FunFrames base l→∀ b∈frs l,∃ o,h.get? b=some o∧∀ vs,o.data≠.fields vs
 | [],_,b,hb=>by simp [frs] at hb
 | env::r,hl,b,hb=>by
  obtain ⟨hk,⟨L,o,hf,hn,ho,hd⟩,hr⟩:=hl
  unfold frs at hb
  rw [List.filterMap_cons,hf] at hb
  rcases List.mem_cons.mp hb with z | z
  ·rw [z];exact ⟨o,ho,hd⟩
  ·exact z2G hr b z
theorem z26 {h base base':Heap}:∀ {l:List Env},h.FunFrames base l→(∀ b∈frs l,base'.get? b=none)→h.FunFrames base' l
 | [],_,_=>trivial
 | env::r,hl,hb=>by
  obtain ⟨hk,⟨L,o,hf,hn,ho,hd⟩,hr⟩:=hl
  have e:frs (env::r)=L::frs r:=by unfold frs;rw [List.filterMap_cons,hf]
  exact ⟨hk,⟨L,o,hf,hb L (by rw [e];simp),ho,hd⟩,z26 hr fun b hb'=>hb b (by rw [e];exact List.mem_cons_of_mem _ hb')⟩
section
variable {P:Program} {w:World}
theorem z8u {H:Hp} {h:Heap} {a:Addr} {o:HO} (x:z1R P w H h a o):∃ ob,h.get? a=some ob:=by
 cases o with
 | lst xs=>obtain ⟨_,_,_,_,e⟩:=x;exact ⟨_,e⟩
 | tup xs=>obtain ⟨_,_,_,_,e⟩:=x;exact ⟨_,e⟩
 | dK kvs=>obtain ⟨_,_,_,_,o,_,_,e,_⟩:=x;exact ⟨_,e⟩
 | dT kvs=>obtain ⟨_,_,_,_,o,_,_,e,_⟩:=x;exact ⟨_,e⟩
 | set S n=>obtain ⟨o,_,_,_,e,_⟩:=x;exact ⟨_,e⟩
 | ins C dx fs=>obtain ⟨_,_,_,e,_⟩:=x;exact ⟨_,e⟩
 | own y=>obtain ⟨_,e⟩:=x;exact ⟨_,e⟩
 | xd fs=>obtain ⟨_,⟨_,_,_,e,_⟩,_⟩:=x;exact ⟨_,e⟩
 | rng lo hi=>obtain ⟨_,_,_,e⟩:=x;exact ⟨_,e⟩
 | frz ob u=>obtain ⟨e,_⟩:=x;exact ⟨_,e⟩
 | tbl ps=>exact ⟨_,show h.get? a=some _ from x⟩
 | met f y=>exact ⟨_,show h.get? a=some _ from x⟩
 | ext φ=>obtain ⟨_,⟨_,e⟩,_⟩:=x;exact ⟨_,e⟩
theorem za3 {fr:List Addr} {H1 H':Hp} {h1 h h':Heap} {env:Env} {outer:List Env} {ea C:Addr} {a0:Value} {base:Heap} {hid:List Addr} (FF:h.FunFrames base (env::outer)) (u:Un fr [] H1 H' h1 h) (hok:HOk P w H' h)
  (hfr:∀ b∈frs (env::outer),H' b=none∧(b∈fr∨h1.get? b=none)) (hfr2:∀ b∈fr,b∈frs (env::outer)) (he1:h1.get? ea=none) (heH:H' ea=none) (hid1:∀ b∈hid,h1.get? b=none∧H' b=none)
  (lf:(PySem.W.hideAll h (ea::(hid++frs (env::outer)))).LeftW (env::outer) ea (.ref C) a0 h h') :
  Un fr [] H1 H' h1 h'∧HOk P w H' h'∧Fly h1 H' h' ea C:=by
 obtain ⟨st,ff,tr,sl⟩:=lf
 have keep:∀ b o,h.get? b=some o→b≠ea→b∉hid→b∉frs (env::outer)→h'.get? b=some o:=fun b o e n1 n2 n3 =>
  st b o (PySem.W.hideAll_get _ e fun z=>by
   rcases List.mem_cons.mp z with z | z
   ·exact n1 z
   ·rcases List.mem_append.mp z with z | z
    ·exact n2 z
    ·exact n3 z)
 have slot:∀ b o,h.get? b=some o→b∈frs (env::outer)→∃ s,h'.get? b=some { o with slots:=s }:=fun b o e hb=>by
  obtain ⟨o',e',hd⟩:=z2G FF b hb
  rw [e] at e'
  cases e'
  exact sl b o e hd
 have nh:∀ b o,h1.get? b=some o→b≠ea∧b∉hid:=fun b o e=>⟨fun z=>(by rw [z,he1] at e;cases e),fun z=>(by rw [(hid1 b z).1] at e;cases e)⟩
 refine ⟨⟨fun b o e n hb hx=>?_,fun b o e n hb hx=>?_,u.free,fun b o e hx=>?_,u.tups,u.frzs,u.tbls⟩,fun a o e=>?_,he1,heH,?_⟩
 ·have e2:=u.keep b o e n hb hx
  refine keep b o e2 (nh b o e).1 (nh b o e).2 fun z=>?_
  rcases (hfr b z).2 with z | z
  ·exact hb z
  ·rw [z] at e;cases e
 ·obtain ⟨s1,e2⟩:=u.slot b o e n hb hx
  obtain ⟨s2,e3⟩:=slot b _ e2 (hfr2 b hb)
  exact ⟨s2,e3⟩
 ·obtain ⟨o',e2⟩:=u.there b o e hx
  by_cases hb:b∈frs (env::outer)
  ·obtain ⟨s2,e3⟩:=slot b _ e2 hb
   exact ⟨_,e3⟩
  ·exact ⟨o',keep b o' e2 (nh b o e).1 (nh b o e).2 hb⟩
 ·refine (hok a o e).stay (fun b v hb q=>?_) (fun _ q=>q) fun _ _ q=>q
  have hbs:∃ ob,H' b=some ob:=by
   rcases hb with z | z
   ·rw [z];exact ⟨_,e⟩
   ·exact ⟨_,z⟩
  obtain ⟨ob,hob⟩:=hbs
  refine keep b v q (fun z=>?_) (fun z=>?_) fun z=>?_
  ·rw [z,heH] at hob;cases hob
  ·rw [(hid1 b z).2] at hob;cases hob
  ·rw [(hfr b z).1] at hob;cases hob
 ·obtain ⟨oe,vs,T,oT,ts,g1,g2,g3,g4,g5,g6,g7,g8,g9⟩:=tr
  have hT:h1.get? T=none∧H' T=none:=by
   cases eT:h.get? T with
   | none =>
    refine ⟨?_,?_⟩
    ·cases q:h1.get? T with
     | none=>rfl
     | some o =>
      obtain ⟨o',e2⟩:=u.there T o q (by simp)
      rw [eT] at e2;cases e2
    ·cases q:H' T with
     | none=>rfl
     | some o =>
      obtain ⟨ob,hob⟩:=z8u (hok T o q)
      rw [eT] at hob;cases hob
   | some oT' =>
    have hm:T∈ea::(hid++frs (env::outer)):=Classical.byContradiction fun nm=>by
     rw [PySem.W.hideAll_get _ eT nm] at g5;cases g5
    rcases List.mem_cons.mp hm with z | z
    ·exact absurd z g6
    ·rcases List.mem_append.mp z with z | z
     ·exact hid1 T z
     ·obtain ⟨o',e',hd⟩:=z2G ff T z
      rw [g7] at e'
      cases e'
      exact absurd g8 (hd ts)
  exact ⟨a0,oe,vs,T,oT,ts,g1,g2,g3,g4,g6,hT.1,hT.2,g7,g8,g9⟩
theorem zca {M:Model} {A:Around} {E:Value→Shared→Prop} {Q:Unit→Shared→Prop} {s:Shared} {fr:List Addr} {H1 H':Hp} {h1:Heap} {env:Env} {outer:List Env} {L ea C:Addr} {base:Heap} (hA:A.frames=some (env::outer)) (hL:env.frame=some L) (FF:s.heap.FunFrames base (env::outer)) (u:Un fr [] H1 H' h1 s.heap) (hok:HOk P w H' s.heap)
  (hfr:∀ b∈frs (env::outer),H' b=none∧(b∈fr∨h1.get? b=none)) (hfr2:∀ b∈fr,b∈frs (env::outer)) (hf:zeT h1 H' s.heap ea C∨Fly h1 H' s.heap ea C)
  (k:∀ h',Un fr [] H1 H' h1 h'→HOk P w H' h'→Fly h1 H' h' ea C→Q () { s with heap:=h' }):wpAny M A (leaving env (.ref ea)) Q E s:=by
 rcases hf with ⟨he1,heH,a0,oe,vs,g1,⟨g2,g20⟩,g3,g4⟩ | ⟨he1,heH,a0,oe,vs,T,oT,ts,g1,g2,g3,g4,g5,g6,g7,g8,g9,g10⟩
 ·have FF':s.heap.FunFrames (PySem.W.hideAll s.heap (ea::([]++frs (env::outer)))) (env::outer):=z26 FF fun b hb=>PySem.W.hideAll_none _ (by simp [hb])
  refine wpAny_leaving_firstW hA FF' hL g1 (fun b o e=>PySem.W.of_hideAll _ e) (PySem.W.hideAll_none _ (by simp)) g3 g4 g20 fun h' lf=>?_
  rw [g2] at lf
  obtain ⟨a,b,c⟩:=za3 (hid:=[]) FF u hok hfr hfr2 he1 heH (fun b hb=>by simp at hb) lf
  exact k h' a b c
 ·have FF':s.heap.FunFrames (PySem.W.hideAll s.heap (ea::([T]++frs (env::outer)))) (env::outer):=z26 FF fun b hb=>PySem.W.hideAll_none _ (by simp [hb])
  refine wpAny_leaving_nextW hA FF' hL ⟨oe,vs,T,oT,ts,g1,g2,g3,g4,PySem.W.hideAll_none _ (by simp),g5,g8,g9,g10⟩ (fun b o e=>PySem.W.of_hideAll _ e) (PySem.W.hideAll_none _ (by simp)) fun h' lf=>?_
  obtain ⟨a,b,c⟩:=za3 (hid:=[T]) FF u hok hfr hfr2 he1 heH (fun b hb=>by rw [List.mem_singleton.mp hb];exact ⟨g6,g7⟩) lf
  exact k h' a b c
def CXx (P:Program) (w:World):CXT:=fun outer H s E e s'=>∃ (ea C:Addr) (H':Hp),e=.ref ea∧s'.os=s.os∧AllBare s'.gens∧Un (frs outer) [] H H' s.heap s'.heap∧HOk P w H' s'.heap∧Fly s.heap H' s'.heap ea C∧E (.ref ea) (some C) H'
instance:NoE (CXx P w):=⟨fun ⟨_,_,_,_,_,_,_,_,_,h⟩=>h⟩
theorem zeN {K:PySem.W.Frag} {mg:Str→Option Value} {base:Heap} {N:List Str} {qual:Str} {scope:Scope} {f:Addr} {cd:Value} {A:Around} {outer:List Env} {s:Shared} {H:Hp} {E:XK} {pins:List (Addr × Obj)} {σ:St} {H':Hp} {s':Shared} {ea C:Addr}
  (J:Inv (z6H (CXx P w) P w K mg base N qual scope f cd A outer s H E) pins σ H' s') (hf:zeT s.heap H' s'.heap ea C∨Fly s.heap H' s'.heap ea C) (hE:E (.ref ea) (some C) H'):(z6H (CXx P w) P w K mg base N qual scope f cd A outer s H E).xe (.ref ea) s':=by
 have hsub:=J.stkSub
 have hfree:=J.stkFree
 have hst:=J.stack
 have hfrm:=J.ok.frames
 show wpAny (model P w) (A.deeper (envOfC qual scope s.heap.objs.size f cd)) (leaving (envOfC qual scope s.heap.objs.size f cd) (.ref ea)) (fun _ s''=>CXx P w outer H s E (.ref ea) s'') (fun e' s''=>CXx P w outer H s E e' s'') s'
 refine zca (P:=P) (w:=w) (fr:=frs outer) (H1:=H) (H':=H') (h1:=s.heap) (base:=base) hfrm rfl hst J.base J.hok (fun b hb=>⟨hfree b hb,?_⟩) (fun b hb=>List.mem_cons_of_mem _ hb) hf fun h' a b c=>?_
 ·rcases List.mem_cons.mp (hsub b hb) with z | z
  ·right
   rw [z]
   exact Heap.get?_none_of_le (Nat.le_refl _)
  ·exact .inl z
 ·exact ⟨ea,C,H',rfl,J.os,J.bare,a,b,c,hE⟩
theorem zaS {K:PySem.W.Frag} {mg:Str→Option Value} {base:Heap} {N:List Str} {qual:Str} {scope:Scope} {f:Addr} {cd:Value} {A:Around} {outer:List Env} {s:Shared} {H:Hp} {E E':XK} (hE:∀ e C H',E' e C H'→E e C H') :
  z6P (CXx P w) (z6H (CXx P w) P w K mg base N qual scope f cd A outer s H E) E':=by
 intro pins σ H1 s1 e s' I hx
 obtain ⟨ea,C,H',rfl,os,bare,un,hok,fly,q⟩:=hx
 have J:=I.call' (ch:=[]) os un hok bare (fun b z=>absurd z (by simp))
 refine zeN J (.inr ?_) (hE _ _ _ q)
 have up:∀ b,s1.heap.get? b=none→s.heap.get? b=none:=fun b z=>by
  cases q:s.heap.get? b with
  | none=>rfl
  | some o =>
   obtain ⟨o',e⟩:=I.base.there b o q (by simp [z6H])
   rw [z] at e;cases e
 obtain ⟨a1,a2,a0,oe,vs,T,oT,ts,g1,g2,g3,g4,g5,g6,r⟩:=fly
 exact ⟨up _ a1,a2,a0,oe,vs,T,oT,ts,g1,g2,g3,g4,g5,up _ g6,r⟩
end
end L2
namespace L2
open PySem PySem.Spec PyProof.Rows
theorem zdD {K:PySem.W.Frag} {h:Heap} {C:Addr} {bmB:List Value} {newId:String} (X:K.In h) (e:PySem.W.excIn K C bmB newId=true):∃ bm N nm q bs hdct sn sub ab col dd k0 k1 k2 k3 k5 mN,
  h.get? C=some (excClassObj nm q C N bs bm hdct sn sub ab col dd k0 k1 k2 k3 k5 newId)∧h.Ns N mN∧mN "__init__"=none∧OwnTail h bmB bm:=by
 unfold PySem.W.excIn at e
 split at e
 ·rename_i dict cd sl hl
  split at e
  ·rename_i C' bm a0 a1 a2 a3 n a5 hm hs
   simp only [Bool.and_eq_true,beq_iff_eq,Bool.not_eq_true'] at e
   obtain ⟨⟨⟨⟨⟨e1,e2⟩,e3⟩,e4⟩,e5⟩,e6⟩:=e
   have hC:=X C _ hl
   subst e1 e2
   have hsl:sl=#[a0,a1,a2,a3,some (Value.builtin n),a5]:=by rw [←Array.toArray_toList (xs:=sl),hs]
   obtain ⟨nm,bs,mro,ns,q,hd,sn,sub,ab,col,hdel⟩:=cd
   simp only at hm e3 e5 e6
   subst hm e3 hsl
   exact ⟨bm,ns,nm,q,bs,hd,sn,sub,ab,col,dict,a0,a1,a2,a3,a5,h.nsMap ns,hC,Heap.Ns.of_isNs (PySem.W.isNs_of_in X e5),PySem.W.nsMap_none_of_in X e5 e6,PySem.W.tail_of_in X e4⟩
  ·cases e
 ·cases e
theorem zcO {h:Heap} {bmB bm:List Value} {v:Value} (t:OwnTail h bmB bm) (hb:bmB.contains v=true):bm.contains v=true:=by
 induction t with
 | base=>exact hb
 | own _ _ _ _ ih=>rw [List.contains_cons,ih];simp
section
variable {P:Program} {w:World} {K:PySem.W.Frag} {mg:Str→Option Value} {base:Heap} {N:List Str} {qual:Str} {scope:Scope} {f:Addr} {cd:Value} {A:Around} {outer:List Env} {s0:Shared} {H0:Hp} {E:XK}
theorem z4e {x:Str} {C:Addr} {B newId initId:String} {bmB:List Value} {arg:Expr} {ta:TE} {np cpos pos:Pos} (hx:mg x=some (.ref C)) (hg:Gl (z6H (CXx P w) P w K mg base N qual scope f cd A outer s0 H0 E) x) (he:PySem.W.excIn K C bmB newId=true) (hB:ExcBaseFacts B newId initId bmB)
  (ha:PE (z6H (CXx P w) P w K mg base N qual scope f cd A outer s0 H0 E) arg ta)
  (htr:backTo cpos (starEach [arg] (z6H (CXx P w) P w K mg base N qual scope f cd A outer s0 H0 E).env)=[(false,eval arg (z6H (CXx P w) P w K mg base N qual scope f cd A outer s0 H0 E).env)]:=by rfl) (hdb:(x == ("__debug__":Str))=false:=by decide) :
  PS (z6H (CXx P w) P w K mg base N qual scope f cd A outer s0 H0 E) (.Raise (some (.Call (.Name x np) [arg] [] cpos)) none pos) (fun D σ H=>ta σ H fun v H1=>∀ ea,E (.ref ea) (some C) H1):=by
 intro pins s σ H D I h
 obtain ⟨bm,NN,nm,q,bs,hd,sn,sub,ab,col,dict,a0,a1,a2,a3,a5,mN,hC,hN,hi,ht⟩:=zdD I.ok.mod.kin he
 refine wpAny_Raise_call_subT (nm:=nm) (q:=q) (N:=NN) (bs:=bs) (hdct:=hd) (sn:=sn) (sub:=sub) (ab:=ab) (col:=col) (dd:=dict) (k0:=a0) (k1:=a1) (k2:=a2) (k3:=a3) (k5:=a5) hB (zcO ht hB.hasBase) (I.ok.hd rfl) (by rw [htr];rfl) hi (z5T I hg hx ⟨rfl,?_⟩ hdb)
 rw [htr]
 refine Calls.evalArgs_plain (Calls.spliced_cons (z1I (ha pins s σ H _ I h) fun u s2 v H2 I2 r2 q2=>Calls.spliced_nil ?_))
 have bk:=I2.bk
 refine ⟨rfl,by show 1≤sizeLine;decide,bk _ _ hC,hN.keeps bk,ht.keeps bk,fun h' e me=>?_⟩
 obtain ⟨kp,nw,t,g1,g2,g3⟩:=me
 have J:=I2.kept (h':=h') (t':=s2.toks) kp
 refine zeN J (.inl ⟨?_,?_,_,_,_,g1,⟨rfl,rfl⟩,rfl,rfl⟩) (q2 e)
 ·cases z:s0.heap.get? e with
  | none=>rfl
  | some o =>
   obtain ⟨o',e'⟩:=I2.base.there e o z (by simp [z6H])
   rw [nw] at e';cases e'
 ·cases z:H2 e with
  | none=>rfl
  | some o =>
   obtain ⟨ob,hob⟩:=z8u (I2.hok e o z)
   rw [nw] at hob;cases hob
end
end L2
namespace L2
open PySem PySem.Spec PyProof.Rows
section
variable {P:Program} {w:World}
end
end L2
namespace L2
open PySem PySem.Spec PyProof.Rows PySem.SeqAt
section
variable {X:Cx}
end
end L2
namespace Gu
open PySem L2
def zau (rows:List Row) (ks:List Int):Prop:=∃ (α:Type) (_:DecidableEq α) (key:Int→α),ks=z2d ((z0z rows.length).map key)
theorem zeF (rows:List Row):zau rows (z2d (rows.map (·.1))):=⟨List Int,inferInstance,fun x=>(row rows x).1,by rw [z4W rows (·.1)]⟩
theorem zdm {rows:List Row} {ks:List Int} (h:ks.length=rows.length):zau rows (z2d (z32 ks rows)):=⟨Int × List Int,inferInstance,zei rows ks,by rw [z3H h]⟩
theorem zcb {n:Nat} {rows:List Row} (G:z3M n rows) {ks:List Int} (h:zau rows ks):cnt ks≤cnt (z2d (z32 ks rows)):=by
 obtain ⟨α,ia,key,rfl⟩:=h
 rw [z3H (by rw [z3B,List.length_map,z0P]),z4d (z6s G.some),z4d (z6s G.some)]
 have h1:=z6n (L:=rows.length) (key:=key)
 have h2:=(z2y (kf (z2d ((z0z rows.length).map key))) (zei rows (z2d ((z0z rows.length).map key))) (z0z rows.length) fun x hx y hy e=>by
  unfold zei at e
  exact (Prod.mk.inj e).1).1
 lia
theorem z5A {n:Nat} {rows:List Row} (G:z3M n rows):∀ (m:Nat) (c:Int) (ks:List Int),zau rows ks→z5e rows ks→cnt ks≤cnt (z4T rows m c ks)
 | 0,c,ks,h,_=>Int.le_refl _
 | m+1,c,ks,h,hg=>by
  unfold z4T
  by_cases hc:c < cnt ks
  ·rw [if_pos hc]
   exact Int.le_trans (zcb G h) (z5A G m _ _ (zdm hg.len) (zbC hg))
  ·rw [if_neg hc];exact Int.le_refl _
theorem zdJ {n:Nat} {rows:List Row} (G:z0n n rows):((shr rows).length:Int)=cnt (z2C (z0S rows)):=by
 have GF:=z2q G
 obtain ⟨R,N⟩:=z59 GF
 rw [←z4o G]
 unfold least
 rw [z41 (z3F GF).len N GF.go]
 unfold z1N
 have hm:=z1C (kf (z2C (z0S rows))) (z0z (z0S rows).length)
 have:(z0E (kf (z2C (z0S rows))) (z0z (z0S rows).length)).length=(z0A ((z0z (z0S rows).length).map (kf (z2C (z0S rows))))).length:=by rw [←hm,List.length_map]
 rw [List.length_map,this]
 obtain ⟨α,ia,key,e⟩:=N
 rw [e,z6n,z4d (z6s GF.some)]
theorem z8r {n:Nat} {rows:List Row} (G:z0n n rows):(shr rows).length≤rows.length:=by
 obtain ⟨L,cl⟩:=z0t G
 have hl:=L.len
 have hh:=(z1f (kOf rows) (z0e rows)).2.2
 unfold shr z1N
 rw [List.length_map]
 lia
theorem z2s {n:Nat} {rows:List Row} (G:z0n n rows):z0n n (shr rows):=by
 obtain ⟨L,cl⟩:=z0t G
 obtain ⟨h1,h2,h3⟩:=z1f (kOf rows) (z0e rows)
 have hl:=z8r G
 have hf:=G.few
 obtain ⟨r0,t0,e0,_⟩:=zeA G
 have hm:∀ r∈shr rows,∃ x∈z0e rows,r=((row rows x).1,(row rows x).2.map fun g=>((((z0E (kOf rows) (z0e rows)).map (kOf rows)).idxOf (kOf rows g):Nat):Int)):=fun r hr=>by
  unfold shr z1N at hr
  obtain ⟨x,hx,e⟩:=List.mem_map.mp hr
  exact ⟨x,h2 x hx,e.symm⟩
 refine ⟨by lia,by rw [e0];simp,fun r hr=>?_,fun r hr=>?_,fun r hr g hg=>?_⟩
 ·obtain ⟨x,hx,rfl⟩:=hm r hr
  exact G.perm (row rows x) (z0o (L.rg x hx).1 (L.rg x hx).2)
 ·obtain ⟨x,hx,rfl⟩:=hm r hr
  show (List.map _ _).length=n
  rw [List.length_map]
  exact G.len _ (z0o (L.rg x hx).1 (L.rg x hx).2)
 ·obtain ⟨x,hx,rfl⟩:=hm r hr
  obtain ⟨y,hy,rfl⟩:=List.mem_map.mp hg
  have:=List.idxOf_lt_length_of_mem (h1 y (cl x hx y hy))
  rw [List.length_map] at this
  unfold shr z1N
  rw [List.length_map]
  lia
theorem zbw {n:Nat} {rows:List Row} (G:z0n n rows):shr (shr rows)=shr rows:=by
 obtain ⟨L,cl⟩:=z0t G
 have C:=z2v G
 have R:=z2p G
 obtain ⟨h1,h2,h3⟩:=z1f (kOf rows) (z0e rows)
 obtain ⟨t,et⟩:=L.hd
 refine (z68 (M':=rows) (M:=shr rows) (h:=fun x=>((((z0E (kOf rows) (z0e rows)).map (kOf rows)).idxOf (kOf rows x):Nat):Int)) G (z2s G) ?_ fun x hx=>?_).symm
 ·obtain ⟨t',et'⟩:=z6w (kOf rows) 0 t
  show ((((z0E (kOf rows) (z0e rows)).map (kOf rows)).idxOf (kOf rows 0):Nat):Int)=0
  rw [et,et',List.map_cons,List.idxOf_cons]
  simp
 ·have hy:∃ y,(z0E (kOf rows) (z0e rows))[((z0E (kOf rows) (z0e rows)).map (kOf rows)).idxOf (kOf rows x)]?=some y∧kOf rows y=kOf rows x:=by
   have hlt:=List.idxOf_lt_length_of_mem (h1 x hx)
   have hg:=List.getElem_idxOf hlt
   rw [List.length_map] at hlt
   rw [List.getElem_map] at hg
   exact ⟨_,List.getElem?_eq_getElem hlt,hg⟩
  show row (shr rows) ((((z0E (kOf rows) (z0e rows)).map (kOf rows)).idxOf (kOf rows x):Nat):Int)=_
  generalize ((z0E (kOf rows) (z0e rows)).map (kOf rows)).idxOf (kOf rows x)=j at hy ⊢
  obtain ⟨y,ey,hg⟩:=hy
  have hhd:y∈z0e rows:=h2 _ (List.mem_of_getElem? ey)
  have eb:=(R _ hhd x hx).mp hg
  have er:row (shr rows) ((j:Nat):Int)=((row rows y).1,(row rows y).2.map fun g=>((((z0E (kOf rows) (z0e rows)).map (kOf rows)).idxOf (kOf rows g):Nat):Int)):=by
   unfold row shr z1N
   have:((j:Nat):Int).toNat=j:=by lia
   rw [this,List.getD_eq_getElem?_getD,List.getElem?_map,ey]
   rfl
  rw [er]
  refine Prod.ext ?_ ?_
  ·exact congrFun eb []
  ·show List.map _ _=List.map _ _
   refine List.ext_getElem (by rw [List.length_map,List.length_map,C.len y hhd,C.len x hx]) fun i i1 i2=>?_
   rw [List.length_map] at i1 i2
   rw [List.getElem_map,List.getElem_map]
   have b1:(row rows y).2.getD i 0=(row rows y).2[i]:=by rw [List.getD_eq_getElem?_getD,List.getElem?_eq_getElem i1];rfl
   have b2:(row rows x).2.getD i 0=(row rows x).2[i]:=by rw [List.getD_eq_getElem?_getD,List.getElem?_eq_getElem i2];rfl
   have a1:=C.go hhd i
   have a2:=C.go hx i
   rw [b1] at a1
   rw [b2] at a2
   have hb:beh rows (row rows y).2[i]=beh rows (row rows x).2[i]:=by
    rw [←b1,←b2]
    exact funext fun w=>congrFun eb (i::w)
   rw [(R _ a1 _ a2).mpr hb]
def TMx (Ct:Addr) (E:XK) (H:Hp):Prop:=∀ (ea:Addr) (H':Hp),z0h H H'→E (.ref ea) (some Ct) H'
def z6d (K:PySem.W.Frag) (Ct:Addr):Sp:=fun vs H Q E=>∃ (a:Addr) (n:Nat) (rows:List Row),vs=[.ref a]∧z3X K H a rows∧z3M n rows∧n≤60∧(cnt (z2C rows)≤60→∀ (r:Addr) (H':Hp),z0h H H'→H' r=some (.lst ((z2C rows).map V.int))→Q (.ref r) H')∧(60 < cnt (z2C rows)→TMx Ct E H)
end Gu
namespace L2
open PySem PySem.Spec PyProof.Rows
theorem Fun.okx {CX:CXT} {P:Program} {w:World} {K:PySem.W.Frag} {mg:Str→Option Value} {base:Heap} {x qual:Str} {st:Stmt} {f:Addr} {fd:FuncData} {N ps:List Str} {k:Nat} {sp:Sp} (F:Fun K x qual st f fd) (S:z0p N ps (z06 st)) (len:∀ vs H Q E,sp vs H Q E→vs.length=ps.length)
  (hbody:∀ (cdv:Value) (A:Around) (outer:List Env) (s:Shared) (H:Hp) (vs:List V) (Q:VK) (E:XK),z3C k (A.deeper (envOfC qual (z06 st) s.heap.objs.size f cdv))→sp vs H Q E →
   ∃ t,PSs (z6H CX P w K mg base N qual (z06 st) f cdv A outer s H E) (z1k st) t∧t { nx:=fun _ H'=>Q .non H',rt:=Q } (z5g N vs) H):z0y P w K mg base CX (k+1) f fd ps sp:=by
 obtain ⟨oc,od,kV,doc,pm,an,cdv,ct,osl,rfl,lk,hcd⟩:=F.ex
 exact zem lk hcd S len fun A outer s H vs Q E hr hsp=>hbody cdv A outer s H vs Q E hr hsp
end L2
namespace L2
open PySem PySem.Spec PyProof.Rows PySem.SeqAt
section
variable {X:Cx}
theorem zaj:OpR X (binaryOp .Add) (fun x y H Q=>∃ (a b:Addr) (xs ys:List V),x=.ref a∧y=.ref b∧H a=some (.tup xs)∧H b=some (.tup ys)∧xs.length+ys.length≤sizeLine ∧
  ∀ (p:Addr) (H':Hp),z0h H H'→H' p=some (.tup (xs++ys))→Q (.ref p) H'):=by
 intro pins s σ H x y v u Q I rx ry h
 obtain ⟨a,b,xs,ys,rfl,rfl,ha,hb,hz,q⟩:=h
 by_cases hx:xs=[]
 ·subst hx
  cases rx
  cases ry
  obtain ⟨its,r1,p1,_⟩:=I.tuple (SqT.of ha)
  obtain ⟨its2,r2,p2,_⟩:=I.tuple (SqT.of hb)
  cases r1
  obtain ⟨⟨cls,dd,data,sl⟩,ho,hc,n,hd⟩:=id p1
  obtain ⟨⟨cls2,dd2,data2,sl2⟩,ho2,hc2,n2,hd2⟩:=id p2
  simp only at hc hd hc2 hd2
  subst hc hd hc2 hd2
  exact concat_meets ⟨_,ho,rfl⟩ ⟨_,ho2,rfl⟩ noFill_tuple_add seq_tuple_add PySem.F.slot_tuple_add PySem.F.entry_tuple_add (PySem.F.args_tuple_add_2 _ _)
   (tuple_addW0 a b _ _ n n2 dd dd2 sl sl2 (by simp)) ⟨ho,ho2,⟨.ref b,H,I,rfl,q b H (z0h.refl H) hb⟩⟩
 ·exact zdQ pins s σ H _ _ v u Q I rx ry ⟨a,b,xs,ys,rfl,rfl,SqT.of ha,SqT.of hb,hx,hz,fun e=>by subst e;exact q a H (z0h.refl H) (by rw [List.append_nil];exact ha),fun _ p hp=>q p _ (Gu.same_up (z0h.refl H) hp) z03⟩
theorem zc5 (xs:List V) (lo hi:Option Int) (h:HT.sIx xs.length 0 lo=0∧HT.sIx xs.length xs.length hi=xs.length):z3h xs lo hi=xs:=by
 unfold z3h
 rw [h.1,h.2]
 simp
theorem z38 {prog:Program} {w:World} {A:Around} {E:Value→Shared→Prop} {s:Shared} {t sl:Addr} {items:Array Value} {vl vu:Value} {lo hi:Option Int} {Q:Value→Shared→Prop} (ht:IsTup s.heap t items) (hs:s.heap.IsSliceOf sl vl vu .none) (pl:IsPart vl lo) (pu:IsPart vu hi)
  (hw:HT.sIx items.size 0 lo=0∧HT.sIx items.size items.size hi=items.size)
  (h:Q (.ref t) s):wpAny (model prog w) A (getItem (.ref t) (.ref sl)) Q E s:=by
 obtain ⟨os,hos,hcs,hds⟩:=id hs
 have hTs:s.TypeIs (.ref sl) "slice":=⟨os,hos,hcs⟩
 unfold getItem
 try with_reducible refine wpAny_holding ?_
 first | refine wpAny_bind (wpAny_pure ?_) | skip
 refine wpAny_bind (wpAny_sequenceKey ht.typeIs (by decide) ?_)
 refine wpAny_bind (wpAny_callSpecial?_slot (name:=Str.ofString "__getitem__") ht.typeIs PyProof.Rows.slot_tuple_getitem
  (wpAny_call_entry PyProof.Rows.slot_tuple_getitem ht.typeIs entry_tuple_getitem ?_ (args_tuple_getitem _ _)))
 show wpAny _ _ (Builtin.Tuple.tupleItemsOf (.ref t) >>= _) _ _ s
 refine wpAny_bind (tupleItemsOf_ ht ?_)
 refine wpAny_bind (wpAny_typeOf hTs ?_)
 rw [if_pos (by decide)]
 refine wpAny_bind (HT.sliceApplied_gen hs pl pu ?_)
 have hyes:(((HT.sIx items.size 0 lo:Nat):Int) == 0 && (1:Int) == 1 && (HT.sIx items.size items.size hi - HT.sIx items.size 0 lo) == items.size)=true:=by
  rw [hw.1,hw.2]
  simp
 show wpAny _ _ (if (((HT.sIx items.size 0 lo:Nat):Int) == 0 && (1:Int) == 1 && (HT.sIx items.size items.size hi - HT.sIx items.size 0 lo) == items.size)=true then _ else _) _ _ s
 rw [if_pos hyes]
 unfold Builtin.Tuple.tupleIsExact
 refine wpAny_bind (wpAny_bind (wpAny_typeOf ht.typeIs (wpAny_pure ?_)))
 rw [if_pos (by decide)]
 first
  | exact wpAny_bind (wpAny_bind (wpAny_pure ⟨_,rfl,wpAny_pure h⟩))
  | (wp_walk;exact ⟨_,rfl,h⟩)
  | (wp_walk;exact ⟨_,rfl,wpAny_pure h⟩)
theorem z3c:SlR X (fun x lo hi H Q=>∃ (a:Addr) (xs:List V),x=.ref a∧H a=some (.tup xs)∧∀ (p:Addr) (H':Hp),z0h H H'→H' p=some (.tup (z3h xs lo hi))→Q (.ref p) H'):=by
 intro pins s σ H x v vl vu lo hi sl Q I rx hs pl pu h
 obtain ⟨a,xs,rfl,hx,q⟩:=h
 by_cases hw:HT.sIx xs.length 0 lo=0∧HT.sIx xs.length xs.length hi=xs.length
 ·cases rx
  obtain ⟨its,r,ht,hz⟩:=I.tuple (SqT.of hx)
  have hlen:its.toArray.size=xs.length:=by rw [List.size_toArray];exact r.length.symm
  refine ⟨"tuple",_,PyProof.Rows.slot_tuple_getitem.lookup,ht.typeIs,?_⟩
  exact z38 ht hs pl pu (by rw [hlen];exact hw) ⟨.ref a,H,I,rfl,q a H (z0h.refl H) (by rw [zc5 xs lo hi hw];exact hx)⟩
 ·exact zfy pins s σ H _ v vl vu lo hi sl Q I rx hs pl pu ⟨a,xs,rfl,SqT.of hx,hw,fun p hp=>q p _ (Gu.same_up (z0h.refl H) hp) z03⟩
theorem zcs (l:Addr) (its:List Value) (n:Nat) (k:Int) (t:Tok) (h0:-1000≤k) (hk:k≤0) (hne:its≠[]) :
  Meets (Builtin.«tuple.__mul__» ⟨[.ref l,.int k t],[]⟩) (fun _ R s=>s.heap.get? l=some { cls:=.type "tuple",dict:=none,data:=.seq its.toArray n,slots:=#[] } ∧
   R (.ok (.ret (.ref s.heap.objs.size))) { s with heap:=s.heap.push { cls:=.type "tuple",data:=.seq #[] } }) :=
 .of_wp fun prog w A R s h=>by
  obtain ⟨hp,g,d,tk,os⟩:=s
  obtain ⟨hl,h⟩:=h
  have hie:its.toArray.isEmpty=false:=by cases its with | nil=>exact absurd rfl hne | cons a r=>simp
  wp_walk using wpAny_loadPart' hl
  refine wpAny_ite_split (fun hab=>absurd hab (by simp;lia)) (fun _=>?_)
  wp_walk using wpAny_loadPart' hl
  have hk1:(k == 1)=false:=by simpa using (show k≠1 by lia)
  have hk0:decide (k≤0)=true:=by simpa using hk
  refine wpAny_ite_split (fun hab=>absurd hab (by rw [hie,hk1];decide)) (fun _=>?_)
  refine wpAny_ite_split (fun _=>?_) (fun hab=>absurd (by rw [hk0];rfl) hab)
  unfold Builtin.Tuple.tupleExact
  refine wpAny_bind (wpAny_newObj_type ?_ (by show (#[]:Array Value).size≤sizeLine;decide))
  exact wpAny_pure ⟨_,rfl,h⟩
theorem zdS {ns ms:List Int}:(!((List.range (min ns.length ms.length)).all (fun j=>ns.getD j 0 == ms.getD j 0) && ns.length == ms.length))=!decide (ns=ms):=by
 congr 1
 rw [Bool.eq_iff_iff]
 simp only [Bool.and_eq_true,List.all_eq_true,List.mem_range,beq_iff_eq,decide_eq_true_eq]
 constructor
 ·rintro ⟨h,hl⟩
  refine List.ext_getElem hl fun i h1 h2=>?_
  have:=h i (by lia)
  rw [List.getD_eq_getElem?_getD,List.getD_eq_getElem?_getD,List.getElem?_eq_getElem h1,List.getElem?_eq_getElem h2] at this
  exact this
 ·rintro rfl
  exact ⟨fun _ _=>rfl,rfl⟩
theorem zdc (hu:X.A.units < cLine):OpR X (compareOp .NotEq) (fun x y H Q=>∃ (a b:Addr) (ns ms:List Int),x=.ref a∧y=.ref b∧H a=some (.tup (ns.map V.int))∧H b=some (.tup (ms.map V.int))∧Q (.bl (!decide (ns=ms))) H):=by
 intro pins s σ H x y v u Q I rx ry h
 obtain ⟨a,b,ns,ms,rfl,rfl,ha,hb,q⟩:=h
 cases rx
 cases ry
 obtain ⟨its,rv,pl,_⟩:=I.tuple (SqT.of ha)
 obtain ⟨itt,rv',pl',_⟩:=I.tuple (SqT.of hb)
 have l1:its.length=ns.length:=by have:=rv.length;rw [List.length_map] at this;exact this.symm
 have l2:itt.length=ms.length:=by have:=rv'.length;rw [List.length_map] at this;exact this.symm
 have R:=RcNeAt.tuples (A:=X.A) (e:=fun j=>ns.getD j 0 == ms.getD j 0) pl pl' hu (fun j h1 h2=>by
  have h1':j < its.length:=by simpa using h1
  have h2':j < itt.length:=by simpa using h2
  obtain ⟨u1,k1,t1,q1⟩:=rv.get (i:=j) (x:=V.int (ns.getD j 0)) (by rw [List.getElem?_map,List.getElem?_eq_getElem (by lia),List.getD_eq_getElem?_getD,List.getElem?_eq_getElem (by lia)];rfl)
  obtain ⟨u2,k2,t2,q2⟩:=rv'.get (i:=j) (x:=V.int (ms.getD j 0)) (by rw [List.getElem?_map,List.getElem?_eq_getElem (by lia),List.getD_eq_getElem?_getD,List.getElem?_eq_getElem (by lia)];rfl)
  have z1:its.toArray[j]=Value.int (ns.getD j 0) t1:=by
   rw [List.getElem?_eq_getElem h1'] at k1
   have:=Option.some.inj k1
   rw [←q1,←this]
   simp
  have z2:itt.toArray[j]=Value.int (ms.getD j 0) t2:=by
   rw [List.getElem?_eq_getElem h2'] at k2
   have:=Option.some.inj k2
   rw [←q2,←this]
   simp
  rw [z1,z2]
  exact fun prog w E Q h=>wpAny_eqBool_int h)
 rw [List.size_toArray,List.size_toArray,l1,l2,zdS] at R
 exact R _ _ _ _ ⟨.bl _,H,I,rfl,q⟩
end
end L2
namespace Gu
def lat (e:Row) (i:Nat):Int:=if i < e.1.length then e.1.getD i 0 else e.2.getD ((i - e.1.length) % e.2.length) 0
theorem z51 {e:Row} {i:Nat} (h:i < e.1.length):lat e i=e.1.getD i 0:=if_pos h
theorem z2S {e:Row} {i:Nat} (h:e.1.length≤i):lat e i=e.2.getD ((i - e.1.length) % e.2.length) 0:=if_neg (by lia)
def Pd (f:Nat→Int) (m p:Nat):Prop:=∀ i,m≤i→f (i+p)=f i
theorem zcZ {e:Row} (h:e.2≠[]):Pd (lat e) e.1.length e.2.length:=fun i hi=>by
 have hl:0 < e.2.length:=List.length_pos_iff.mpr h
 rw [z2S hi,z2S (by lia)]
 have:i+e.2.length - e.1.length=(i - e.1.length)+e.2.length:=by lia
 rw [this,Nat.add_mod_right]
theorem Pd.mul {f:Nat→Int} {m p:Nat} (h:Pd f m p) (k:Nat):Pd f m (p*k):=by
 induction k with
 | zero=>exact fun i _=>rfl
 | succ k ih =>
  intro i hi
  rw [Nat.mul_succ,←Nat.add_assoc,h (i+p*k) (by lia)]
  exact ih i hi
theorem Pd.mono {f:Nat→Int} {m m' p:Nat} (h:Pd f m p) (hm:m≤m'):Pd f m' p:=fun i hi=>h i (by lia)
theorem Pd.down {f:Nat→Int} {m m' p q:Nat} (h:Pd f m p) (h':Pd f m' q) (hp:0 < p):Pd f m q:=fun i hi=>by
 have a:=h.mul m' (i+q) (by lia)
 have b:=h.mul m' i hi
 have ge:m'≤p*m':=Nat.le_mul_of_pos_left m' hp
 have c:=h' (i+p*m') (by lia)
 rw [←a,←b]
 have:i+q+p*m'=i+p*m'+q:=by lia
 rw [this]
 exact c
theorem Pd.gcd {f:Nat→Int} {m:Nat}:∀ {p q:Nat},Pd f m p→Pd f m q→Pd f m (Nat.gcd p q):=by
 intro p q
 induction p,q using Nat.gcd.induction with
 | H0 q=>intro _ h;rw [Nat.gcd_zero_left];exact h
 | H1 p q hp ih =>
  intro h1 h2
  rw [Nat.gcd_rec]
  refine ih (fun i hi=>?_) h1
  have a:=h1.mul (q / p) (i+q % p) (by lia)
  have e:i+q % p+p*(q / p)=i+q:=by have:=Nat.mod_add_div q p;lia
  rw [e] at a
  rw [←a]
  exact h2 i hi
structure z84 (e:Row):Prop where
 ring:e.2≠[]
 least:∀ d,0 < d→d < e.2.length→¬ Pd (lat e) e.1.length d
 cut:e.1=[]∨lat e (e.1.length - 1)≠lat e (e.1.length - 1+e.2.length)
theorem z28 {l:List Int} {i:Nat} (h:i < l.length):l.getD i 0=l[i]:=by rw [List.getD_eq_getElem?_getD,List.getElem?_eq_getElem h];rfl
theorem zd5 {f:Nat→Int} {e:Row} (h1:∀ i,i < e.1.length→e.1.getD i 0=f i) (h2:∀ j,j < e.2.length→e.2.getD j 0=f (e.1.length+j)) (hp:Pd f e.1.length e.2.length) (h0:e.2≠[]):∀ i,lat e i=f i:=fun i=>by
 by_cases hi:i < e.1.length
 ·rw [z51 hi];exact h1 i hi
 ·have hl:0 < e.2.length:=List.length_pos_iff.mpr h0
  rw [z2S (by lia),h2 _ (Nat.mod_lt _ hl)]
  have a:=hp.mul ((i - e.1.length) / e.2.length) (e.1.length+(i - e.1.length) % e.2.length) (by lia)
  rw [←a]
  congr 1
  have:=Nat.mod_add_div (i - e.1.length) e.2.length
  lia
def Per (r:List Int) (s:Nat):Prop:=s ∣ r.length∧∀ i,i+s < r.length→r.getD (i+s) 0=r.getD i 0
theorem z6f {r:List Int} {s:Nat} (h:Per r s) (hs:0 < s):∀ i,i < r.length→r.getD i 0=r.getD (i % s) 0:=by
 intro i
 induction i using Nat.strongRecOn with
 | ind i ih =>
  intro hi
  by_cases c:i < s
  ·rw [Nat.mod_eq_of_lt c]
  ·have a:=h.2 (i - s) (by lia)
   have e:i - s+s=i:=by lia
   rw [e] at a
   rw [a,ih (i - s) (by lia) (by lia),←Nat.mod_eq_sub_mod (by lia)]
theorem z9l {r:List Int} {s:Nat} (hd:s ∣ r.length) (h:∀ i,i < r.length→r.getD i 0=r.getD (i % s) 0):Per r s:=⟨hd,fun i hi=>by rw [h (i+s) hi,h i (by lia),Nat.add_mod_right]⟩
theorem zfh {e:Row} (h:e.2≠[]) {d:Nat} (hd:d ∣ e.2.length):Per e.2 d↔Pd (lat e) e.1.length d:=by
 have hl:0 < e.2.length:=List.length_pos_iff.mpr h
 have hd0:0 < d:=Nat.pos_of_dvd_of_pos hd hl
 constructor
 ·intro hp i hi
  rw [z2S hi,z2S (by lia),z6f hp hd0 _ (Nat.mod_lt _ hl),z6f hp hd0 ((i - e.1.length) % e.2.length) (Nat.mod_lt _ hl),Nat.mod_mod_of_dvd _ hd,Nat.mod_mod_of_dvd _ hd]
  have:i+d - e.1.length=i - e.1.length+d:=by lia
  rw [this,Nat.add_mod_right]
 ·intro hp
  refine ⟨hd,fun i hi=>?_⟩
  have:=hp (e.1.length+i) (by lia)
  rw [z2S (by lia),z2S (by lia)] at this
  have e1:e.1.length+i+d - e.1.length=i+d:=by lia
  rw [e1,Nat.add_sub_cancel_left,Nat.mod_eq_of_lt hi,Nat.mod_eq_of_lt (by lia)] at this
  exact this
structure z67 (r:List Int) (s:Nat):Prop where
 pos:0 < s
 per:Per r s
 no:∀ d,0 < d→d < s→¬ Per r d
theorem z67.le {r:List Int} {s:Nat} (L:z67 r s) (h:r≠[]):s≤r.length:=Nat.le_of_dvd (List.length_pos_iff.mpr h) L.per.1
theorem z67.none {e:Row} (h:e.2≠[]) {s:Nat} (L:z67 e.2 s) {m d:Nat} (hd:0 < d) (hs:d < s):¬ Pd (lat e) m d:=fun hp=>by
 have hl:0 < e.2.length:=List.length_pos_iff.mpr h
 have P:=zcZ h
 have Q:=P.down hp hl
 have G:=Q.gcd P
 have g1:Nat.gcd d e.2.length ∣ e.2.length:=Nat.gcd_dvd_right _ _
 have g2:Nat.gcd d e.2.length≤d:=Nat.le_of_dvd hd (Nat.gcd_dvd_left _ _)
 exact L.no _ (Nat.gcd_pos_of_pos_left _ hd) (by lia) ((zfh h g1).mpr G)
structure z5x (b r:List Int) (s c:Nat):Prop where
 le:c≤b.length
 eq:∀ j,j < c→b.getD (b.length - 1 - j) 0=r.getD (s - 1 - j % s) 0
 no:c=b.length∨b.getD (b.length - 1 - c) 0≠r.getD (s - 1 - c % s) 0
theorem z8z {k s:Nat} (hs:0 < s):(-1 - (k:Int)) % (s:Int)=((s - 1 - k % s:Nat):Int):=by
 have h1:k % s < s:=Nat.mod_lt _ hs
 have h2:(-1 - (k:Int))=((s - 1 - k % s:Nat):Int)+(s:Int)*(-((k / s:Nat):Int) - 1):=by
  have:=Nat.mod_add_div k s
  have e:(k:Int)=((k % s:Nat):Int)+(s:Int)*((k / s:Nat):Int):=by rw [←Int.natCast_mul,←Int.natCast_add,this]
  have e2:((s - 1 - k % s:Nat):Int)=(s:Int) - 1 - ((k % s:Nat):Int):=by lia
  rw [e2,Int.mul_sub,Int.mul_neg,Int.mul_one]
  lia
 rw [h2,Int.add_mul_emod_self_left,Int.emod_eq_of_lt (by lia) (by lia)]
theorem zb7 {e:Row} (h:e.2≠[]) {s c:Nat} (L:z67 e.2 s) (R:z5x e.1 e.2 s c):∀ i,e.1.length - c≤i→lat e i=e.2.getD (((i:Int) - (e.1.length:Int)) % (s:Int)).toNat 0:=fun i hi=>by
 have hl:0 < e.2.length:=List.length_pos_iff.mpr h
 have hle:=R.le
 by_cases c1:i < e.1.length
 ·have e1:=R.eq (e.1.length - 1 - i) (by lia)
  have e2:e.1.length - 1 - (e.1.length - 1 - i)=i:=by lia
  rw [e2] at e1
  rw [z51 c1,e1]
  have e3:(i:Int) - (e.1.length:Int)=-1 - ((e.1.length - 1 - i:Nat):Int):=by lia
  rw [e3,z8z L.pos,Int.toNat_natCast]
 ·rw [z2S (by lia),z6f L.per L.pos _ (Nat.mod_lt _ hl),Nat.mod_mod_of_dvd _ L.per.1]
  have e3:(i:Int) - (e.1.length:Int)=((i - e.1.length:Nat):Int):=by lia
  rw [e3,←Int.natCast_emod,Int.toNat_natCast]
def z3i (e:Row) (s c:Nat):Row:=(e.1.take (e.1.length - c),(z0z s).map fun k=>e.2.getD ((k - (c:Int)) % (s:Int)).toNat 0)
theorem z3g {e:Row} {s c:Nat}:(z3i e s c).1.length=e.1.length - c∧(z3i e s c).2.length=s:=by
 refine ⟨?_,?_⟩
 ·show (e.1.take _).length=_
  rw [List.length_take];lia
 ·show ((z0z s).map _).length=_
  rw [List.length_map,z0P]
theorem z53 {e:Row} (h:e.2≠[]) {s c:Nat} (L:z67 e.2 s) (R:z5x e.1 e.2 s c):∀ i,lat (z3i e s c) i=lat e i:=by
 obtain ⟨l1,l2⟩:=z3g (e:=e) (s:=s) (c:=c)
 have hc:=zb7 h L R
 refine zd5 (fun i hi=>?_) (fun j hj=>?_) (fun i hi=>?_) (fun z=>?_)
 ·rw [l1] at hi
  rw [z51 (by lia)]
  show (e.1.take _).getD i 0=_
  rw [List.getD_eq_getElem?_getD,List.getElem?_take,if_pos hi,←List.getD_eq_getElem?_getD]
 ·rw [l2] at hj
  rw [l1,hc _ (by lia)]
  show ((z0z s).map _).getD j 0=_
  rw [List.getD_eq_getElem?_getD,List.getElem?_map,z1O hj]
  show e.2.getD (((j:Int) - (c:Int)) % (s:Int)).toNat 0=_
  have:=R.le
  have e1:((e.1.length - c+j:Nat):Int) - (e.1.length:Int)=(j:Int) - (c:Int):=by lia
  rw [e1]
 ·rw [l1] at hi
  rw [l2,hc _ hi,hc _ (by lia)]
  have e1:((i+s:Nat):Int) - (e.1.length:Int)=((i:Int) - (e.1.length:Int))+(s:Int):=by lia
  rw [e1,Int.add_emod_right]
 ·have:=L.pos
  rw [z] at l2
  simp at l2
  lia
theorem z5Y {e:Row} (h:e.2≠[]) {s c:Nat} (L:z67 e.2 s) (R:z5x e.1 e.2 s c):z84 (z3i e s c):=by
 obtain ⟨l1,l2⟩:=z3g (e:=e) (s:=s) (c:=c)
 have S:=z53 h L R
 have ef:lat (z3i e s c)=lat e:=funext S
 have hs:=L.pos
 refine ⟨fun z=>?_,fun d hd hds=>?_,?_⟩
 ·rw [z] at l2;simp at l2;lia
 ·rw [ef]
  rw [l2] at hds
  exact L.none h hd hds
 ·rcases R.no with z | z
  ·left
   exact List.length_eq_zero_iff.mp (by rw [l1];lia)
  ·by_cases hb:c=e.1.length
   ·left
    exact List.length_eq_zero_iff.mp (by rw [l1];lia)
   ·right
    have hle:=R.le
    rw [ef,l1,l2]
    have hl:0 < e.2.length:=List.length_pos_iff.mpr h
    have hc:=zb7 h L R (e.1.length - c - 1+s) (by lia)
    rw [hc,z51 (by lia)]
    have e1:((e.1.length - c - 1+s:Nat):Int) - (e.1.length:Int)=(-1 - (c:Int))+(s:Int):=by lia
    rw [e1,Int.add_emod_right,z8z hs,Int.toNat_natCast]
    have e2:e.1.length - c - 1=e.1.length - 1 - c:=by lia
    rw [e2]
    exact z
end Gu
namespace Gu
open PySem L2
def z3L (K:PySem.W.Frag) (Ct:Addr):Sp:=fun vs H Q E=>∃ (v:V) (e:Row) (p:Int),vs=[v,.int p]∧Dr K H (z2E e) v∧e.2≠[]∧(0≤p→Q (.int (lat e p.toNat)) H)∧(p < 0→TMx Ct E H)
def hdW (e:Row) (m:Nat):List Int:=(List.range m).map (lat e)
theorem za0 {e:Row} (h:e.2≠[]) {i:Nat}:(i < e.1.length→(e.1.map V.int)[i]?=some (V.int (lat e i)))∧(e.1.length≤i→(e.2.map V.int)[(i - e.1.length) % e.2.length]?=some (V.int (lat e i))):=by
 have hl:0 < e.2.length:=List.length_pos_iff.mpr h
 refine ⟨fun hi=>?_,fun hi=>?_⟩
 ·rw [z51 hi,List.getElem?_map,List.getElem?_eq_getElem hi,z28 hi];rfl
 ·have:=Nat.mod_lt (i - e.1.length) hl
  rw [z2S hi,List.getElem?_map,List.getElem?_eq_getElem this,z28 this];rfl
def z4g (ns:List Int) (lo hi:Option Int):List Int:=(ns.drop (HT.sIx ns.length 0 lo)).take (HT.sIx ns.length ns.length hi - HT.sIx ns.length 0 lo)
theorem z3m (ns:List Int) (lo hi:Option Int):z3h (ns.map V.int) lo hi=(z4g ns lo hi).map V.int:=by
 unfold z3h z4g
 rw [List.length_map,List.map_take,List.map_drop]
theorem zbY {ns:List Int} {lo hi:Option Int} {x:Int} (h:x∈z4g ns lo hi):x∈ns:=List.mem_of_mem_drop (List.mem_of_mem_take h)
theorem z6x {ns:List Int} {lo hi:Nat} (h:hi≤ns.length):(z4g ns (some (lo:Int)) (some (hi:Int))).length=hi - lo:=by
 unfold z4g
 rw [HT.sIx_nat,HT.sIx_nat,List.length_take,List.length_drop,Nat.min_eq_left h,Nat.min_eq_left (Nat.sub_le_sub_right h _)]
 rcases Nat.le_total lo ns.length with z | z
 ·rw [Nat.min_eq_left z]
 ·rw [Nat.min_eq_right z,Nat.sub_eq_zero_of_le h,Nat.sub_eq_zero_of_le (Nat.le_trans h z)]
theorem z5V (ns:List Int) (k:Nat):z4g ns none (some (k:Int))=ns.take k:=by
 unfold z4g
 rw [HT.sIx_none,HT.sIx_nat,List.drop_zero,Nat.sub_zero]
 rcases Nat.le_total k ns.length with h | h
 ·rw [Nat.min_eq_left h]
 ·rw [Nat.min_eq_right h,List.take_of_length_le (Nat.le_refl _),List.take_of_length_le h]
theorem zaI (ns:List Int) (k:Nat):z4g ns (some (k:Int)) none=ns.drop k:=by
 unfold z4g
 rw [HT.sIx_none,HT.sIx_nat]
 rcases Nat.le_total k ns.length with h | h
 ·rw [Nat.min_eq_left h,List.take_of_length_le (by rw [List.length_drop];lia)]
 ·rw [Nat.min_eq_right h,List.drop_of_length_le (Nat.le_refl _),List.drop_of_length_le h]
  simp
def InN (n:Nat) (ns:List Int):Prop:=∀ x∈ns,0≤x∧x < (n:Int)
theorem InN.app {n:Nat} {a b:List Int} (h:InN n a) (h':InN n b):InN n (a++b):=fun x hx=>(List.mem_append.mp hx).elim (h x) (h' x)
theorem InN.cut {n:Nat} {a:List Int} (h:InN n a) {lo hi:Option Int}:InN n (z4g a lo hi):=fun x hx=>h x (zbY hx)
theorem InN.rep {n:Nat} {a:List Int} (h:InN n a) {k:Nat}:InN n (List.replicate k a).flatten:=fun x hx=>by
 obtain ⟨l,hl,hx⟩:=List.mem_flatten.mp hx
 rw [(List.mem_replicate.mp hl).2] at hx
 exact h x hx
theorem z98 (k:Nat) (r:List Int):(List.replicate k (r.map V.int)).flatten=(List.replicate k r).flatten.map V.int:=by
 rw [List.map_flatten,List.map_replicate]
theorem z6h (k:Nat) (r:List Int):(List.replicate k r).flatten.length=k*r.length:=z3Q r k
def z5P (K:PySem.W.Frag):Sp:=fun vs H Q _=>∃ (n:Nat) (c:Int) (m:Nat),vs=[.int n,.int c,.int m]∧2≤n∧n≤5∧1≤m∧m≤100 ∧
 ∀ (v:V) (H':Hp) (e:Row),z0h H H'→Dr K H' (z2E e) v→e.2≠[]→e.1.length≤4*m→e.2.length≤3*m→InN n e.1→InN n e.2→Q v H'
def zg2 (n:Nat) (c:Int) (m:Nat) (ln:Addr) (ns:List Int) (H0:Hp) (σ:St) (H:Hp):Prop:=∃ (la lr:Addr) (as rs:List Int),σ=[some (.int n),some (.int c),some (.int m),some (.ref ln),some (.ref la),some (.ref lr)]∧z0h H0 H ∧
 H ln=some (.lst (ns.map V.int))∧H la=some (.lst (as.map V.int))∧H lr=some (.lst (rs.map V.int))∧rs≠[]∧as.length≤m∧rs.length≤3*m∧InN n as∧InN n rs
def tCo (n:Nat) (c:Int) (m:Nat) (ln:Addr) (ns:List Int) (H0:Hp):TS:=fun D σ H=>(∃ (la lr:Addr) (as rs:List Int),σ=[some (.int n),some (.int c),some (.int m),some (.ref ln),some (.ref la),some (.ref lr)]∧z0h H0 H ∧
 H ln=some (.lst (ns.map V.int))∧H la=some (.lst (as.map V.int))∧H lr=some (.lst (rs.map V.int))∧rs≠[]∧as.length≤m∧rs.length≤m∧InN n as∧InN n rs)∧∀ σ' H',zg2 n c m ln ns H0 σ' H'→D.nx σ' H'
theorem z6X (l:List Int):∀ (k j:Nat),j < k*l.length→(List.replicate k l).flatten.getD j 0=l.getD (j % l.length) 0
 | 0,j,h=>by simp at h
 | k+1,j,h=>by
  rw [List.replicate_succ,List.flatten_cons,List.getD_eq_getElem?_getD,List.getElem?_append]
  by_cases c:j < l.length
  ·rw [if_pos c,Nat.mod_eq_of_lt c,List.getD_eq_getElem?_getD]
  ·rw [if_neg c,←List.getD_eq_getElem?_getD,z6X l k (j - l.length) (by rw [Nat.succ_mul] at h;lia),←Nat.mod_eq_sub_mod (by lia)]
end Gu
namespace L2
open PySem PySem.Spec PyProof.Rows
abbrev frO (o:Obj):HO:=.frz o (.ext fun _=>True)
section
variable {P:Program} {w:World} {H H1:Hp} {h:Heap} {a:Addr} {o:Obj}
theorem z7z (e:h.get? a=some o):z1R P w H h a (frO o):=⟨e,trivial,⟨o,e⟩,fun _ _ _ _=>trivial⟩
theorem z3W (x:HOk P w H h) (e:H a=some (frO o)):h.get? a=some o:=(x a _ e).1
end
def utk (H:Hp) (cs:List Addr):Hp:=fun b=>if b∈cs then none else H b
def rtk (H H1:Hp) (cs:List Addr):Hp:=fun b=>if b∈cs then H b else H1 b
theorem z5F {H:Hp} {cs:List Addr} {b:Addr} (h:b∈cs):utk H cs b=none:=if_pos h
theorem z1i {H:Hp} {cs:List Addr} {b:Addr} (h:b∉cs):utk H cs b=H b:=if_neg h
theorem zae {H H1:Hp} {cs:List Addr} {b:Addr} (h:b∈cs):rtk H H1 cs b=H b:=if_pos h
theorem z3b {H H1:Hp} {cs:List Addr} {b:Addr} (h:b∉cs):rtk H H1 cs b=H1 b:=if_neg h
theorem z0h.rtk {H H1:Hp} {cs:List Addr} (s:z0h (utk H cs) H1):z0h H (L2.rtk H H1 cs):=fun b o e=>by
 by_cases hb:b∈cs
 ·rw [zae hb];exact e
 ·rw [z3b hb];exact s b o (by rw [z1i hb];exact e)
theorem z0h.rtk' {H H1:Hp} {cs:List Addr} (hn:∀ c∈cs,H1 c=none):z0h H1 (L2.rtk H H1 cs):=fun b o e=>by
 have hb:b∉cs:=fun z=>by rw [hn b z] at e;cases e
 rw [z3b hb];exact e
theorem z8i {H:Hp} {cs:List Addr} (hc:∀ c∈cs,∃ ob,H c=some (frO ob)) {b:Addr} {o:HO} (e:H b=some o) (ne:∀ ob,o≠frO ob):utk H cs b=some o:=by
 have hb:b∉cs:=fun z=>by
  obtain ⟨ob,q⟩:=hc b z
  rw [e] at q
  exact ne ob (Option.some.inj q)
 rw [z1i hb];exact e
def z7X (H:Hp) (f:Addr) (params:Arguments) (body:Expr) (scope:Scope) (qual:Str) (N:List Str) (fv:St):Prop :=
 ∃ (clos:List (Str × Addr)) (cs:List Addr) (pm:Value) (c':Addr) (ctv:Value) (oc:Obj) (vs:Array Value) (t:Tok),H f=some (frO (PySem.W.kla_obj "<lambda>" qual params body scope clos pm c' ctv))∧H c'=some (frO oc)∧oc.data=.fields vs∧vs[1]?=some (.str qual t) ∧
  (∀ x y c,clos.lookup x=some c→clos.lookup y=some c→x=y)∧(∀ x c,clos.lookup x=some c→c∈cs)∧(∀ c∈cs,(∃ x,clos.lookup x=some c)∧∃ o u,H c=some (frO o)∧o.data=.cell u)∧(∀ x,scope.names.lookup x=some .free→∃ c,clos.lookup x=some c) ∧
  ∀ (i:Nat) x v,N[i]?=some x→fv[i]?=some (some v)→∃ c o u,clos.lookup x=some c∧H c=some (frO o)∧o.data=.cell (some u)∧z1g v u
theorem z7X.mono {H H':Hp} {f:Addr} {params:Arguments} {body:Expr} {scope:Scope} {qual:Str} {N:List Str} {fv:St} (h:z7X H f params body scope qual N fv) (s:z0h H H'):z7X H' f params body scope qual N fv:=by
 obtain ⟨clos,cs,pm,c',ctv,oc,vs,t,e1,e2,e3,e4,e5,e5',e6,e7,e8⟩:=h
 refine ⟨clos,cs,pm,c',ctv,oc,vs,t,s _ _ e1,s _ _ e2,e3,e4,e5,e5',fun c hc=>?_,e7,fun i x v h1 h2=>?_⟩
 ·obtain ⟨hx,o,u,q,d⟩:=e6 c hc
  exact ⟨hx,o,u,s _ _ q,d⟩
 ·obtain ⟨c,o,u,q1,q2,q3⟩:=e8 i x v h1 h2
  exact ⟨c,o,u,q1,s _ _ q2,q3⟩
structure zgb (N ps:List Str) (sc:Scope):Prop where
 kind:sc.kind=.function
 co:sc.isCoroutine=false
 gen:sc.isGenerator=false
 nd:N.Nodup
 pre:N.take ps.length=ps
 par:∀ x∈ps,sc.names.lookup x=some .local
 nocell:∀ y∈sc.names,y.2≠.cell
 fr:∀ x∈N.drop ps.length,sc.names.lookup x=some .free
def z7L (vs:List V) (fv:St):St:=vs.map some++fv.drop vs.length
def zch (P:Program) (w:World) (K:PySem.W.Frag) (mg:Str→Option Value) (base:Heap) (N:List Str) (qual:Str) (scope:Scope) (f:Addr) (cd:Value) (clos:List (Str × Addr)) (A:Around) (outer:List Env) (s:Shared) (H:Hp):Cx where
 prog:=P
 w:=w
 K:=K
 mg:=mg
 base:=base
 A:=A.deeper (PySem.W.envX qual scope s.heap.objs.size f cd clos)
 N:=N
 s₀:=s
 H₀:=H
 env:=PySem.W.envX qual scope s.heap.objs.size f cd clos
 outer:=outer
 stack:=PySem.W.envX qual scope s.heap.objs.size f cd clos::outer
 ex:=[]
 calm:=true
 fn:=fun _=>false
 pn:=[]
 xe:=noE
theorem z71 {ps:List Str} {us:List Value} {i:Nat} {x:Str} {u:Value} (nd:ps.Nodup) (hp:ps[i]?=some x) (hu:us[i]?=some u):(ps.zip us).reverse.lookup x=some u:=by
 have hm:(x,u)∈(ps.zip us).reverse:=List.mem_reverse.mpr (List.mem_of_getElem? (i:=i) (by rw [List.getElem?_zip_eq_some];exact ⟨hp,hu⟩))
 have key:∀ l:List (Str × Value),(∀ v,(x,v)∈l→v=u)→(x,u)∈l→l.lookup x=some u:=by
  intro l
  induction l with
  | nil=>intro _ h;cases h
  | cons q r ih =>
   intro h1 h2
   obtain ⟨y,v⟩:=q
   rw [List.lookup_cons]
   by_cases e:x=y
   ·subst e
    rw [show (x == x)=true by simp]
    exact congrArg some (h1 v List.mem_cons_self)
   ·rw [show (x == y)=false by simpa using e]
    refine ih (fun v hv=>h1 v (List.mem_cons_of_mem _ hv)) ?_
    rcases List.mem_cons.mp h2 with z | z
    ·injection z with z1 _;exact absurd z1 e
    ·exact z
 refine key _ (fun v hv=>?_) hm
 obtain ⟨j,hj,ej⟩:=List.getElem_of_mem (List.mem_reverse.mp hv)
 have e1:(ps.zip us)[j]?=some (x,v):=by rw [List.getElem?_eq_getElem hj,ej]
 rw [List.getElem?_zip_eq_some] at e1
 have:j=i:=z6v nd e1.1 hp
 subst this
 rw [hu] at e1
 exact (Option.some.inj e1.2).symm
theorem zdK {CX:CXT} {P:Program} {w:World} {K:PySem.W.Frag} {mg:Str→Option Value} {base:Heap} {k:Nat} {H:Hp} {f:Addr} {params:Arguments} {body:Expr} {scope:Scope} {qual:Str} {N ps:List Str} {fv:St} (C:z7X H f params body scope qual N fv) (S:zgb N ps scope)
  (hbind:∀ (cl:List (Str × Addr)) (pm cdv ct:Value) (us:List Value),us.length=ps.length→bindArgs (PySem.W.kla_fn "<lambda>" qual params body scope cl pm cdv ct) ⟨us,[]⟩=pure (ps.zip us)) (hfv:fv.length=N.length)
  {A:Around} {outer:List Env} {s:Shared} {us:List Value} {vs:List V} {Q:VK} {E:XK} (hr:z3C (k+1) A) (e0:zed P w K mg base A outer s H) (r:z1e vs us) (hl:vs.length=ps.length)
  (hbody:∀ (cd:Value) (clos:List (Str × Addr)) (cs:List Addr),z3C k (A.deeper (PySem.W.envX qual scope s.heap.objs.size f cd clos))→(∀ c∈cs,∃ o,H c=some (frO o)) →
   ∃ t,PE (zch P w K mg base N qual scope f cd clos A outer s (utk H cs)) body t∧t (z7L vs fv) (utk H cs) fun v H1=>(∀ c∈cs,H1 c=none)→Q v (rtk H H1 cs)) :
  codeAny (model P w) A (.call (.ref f) ⟨us,[]⟩) (CR CX outer P w H s Q E) s:=by
 obtain ⟨clos,cs,pm,c',ctv,oc,vs',t,e1,e2,e3,e4,e5,hcl,e6',e7,e8⟩:=C
 have e6:∀ c∈cs,∃ o u,H c=some (frO o)∧o.data=.cell u:=fun c hc=>(e6' c hc).2
 obtain ⟨tb,hPE,hq⟩:=hbody (.ref c') clos cs (hr.deeper _) (fun c hc=>let ⟨o,_,q,_⟩:=e6 c hc;⟨o,q⟩)
 have KX:K.In s.heap:=e0.mod.kin.keeps fun b o e=>(e0.bs b o e).1
 have lim:s.heap.NoLimit:=e0.mod.nolimit.keeps fun b o e=>(e0.bs b o e).1
 have hul:us.length=ps.length:=by rw [←r.length];exact hl
 refine PySem.W.kla_callFunE hr.depth (z3W e0.hok e1) rfl S.co S.gen rfl ⟨c',oc,vs',t,rfl,z3W e0.hok e2,e3,e4⟩ ?_
 rw [hbind clos pm (.ref c') ctv us hul]
 refine wpAny_pure (wpAny_newFunctionEnv S.nocell (fun y hy=>S.par y.1 (List.of_mem_zip hy).1) (fun h₁ hns hsb=>?_) S.kind)
 have hk₁:∀ b o,s.heap.get? b=some o→h₁.get? b=some o:=fun b o e=>hsb.extBut b o (Nat.ne_of_lt (Heap.lt_size e)) (Heap.get?_push_of_some _ e)
 refine ⟨lim.keeps hk₁,?_⟩
 show codeAny _ _ (.expr body (PySem.W.envX qual scope s.heap.objs.size f (.ref c') clos)) _ _
 have hcu:∀ c∈cs,utk H cs c=none:=fun c hc=>z5F hc
 have hclt:∀ c∈cs,c < s.heap.objs.size:=fun c hc=>by
  obtain ⟨o,_,q,_⟩:=e6 c hc
  exact Heap.lt_size (z3W e0.hok q)
 have hokU:HOk P w (utk H cs) s.heap:=fun b u e=>by
  have hb:b∉cs:=fun z=>by rw [z5F z] at e;cases e
  rw [z1i hb] at e
  refine (e0.hok b u e).stay (fun _ _ _ q=>q) (fun c q=>?_) fun c xs q=>?_
  ·exact z8i (fun c hc=>let ⟨o,_,q,_⟩:=e6 c hc;⟨o,q⟩) q (fun ob z=>by cases z)
  ·exact z8i (fun c hc=>let ⟨o,_,q,_⟩:=e6 c hc;⟨o,q⟩) q (fun ob z=>by cases z)
 have noA:∀ b:Addr,b∉(zch P w K mg base N qual scope f (.ref c') clos A outer s (utk H cs)).ex:=fun b z=>absurd (show b∈([]:List Addr) from z) (by simp)
 have nonU:∀ {b:Addr},H b=none→utk H cs b=none:=fun {b} e=>by
  by_cases hb:b∈cs
  ·exact z5F hb
  ·rw [z1i hb];exact e
 have I:Inv (zch P w K mg base N qual scope f (.ref c') clos A outer s (utk H cs)) [] (z7L vs fv) (utk H cs) { s with heap:=h₁,toks:=s.toks+(ps.zip us).length }:=by
  refine ⟨⟨e0.mod,S.kind,rfl,rfl,Nat.le_refl _,e5,fun y hy=>?_,fun y c hf _=>?_,fun _=>hr.hd,Around.frames_deeper e0.frames,.inr ⟨rfl,rfl⟩,fun b z=>absurd z (noA b),fun b o e=>⟨(e0.bs b o e).1,nonU (e0.bs b o e).2⟩,e0.bsz,fun b _ _=>noA b,fun b z=>absurd z (noA b),e0.funs,fun b hb=>nonU (e0.frf b hb)⟩,
   rfl,e0.bare,Un.kept hk₁,⟨_,hns,fun i y v h1 h2 h3=>?_⟩,fun y c h=>?_,?_,fun y c h=>hcu c (hcl y c h),fun p hp=>absurd (show p∈([]:List (Addr × Obj)) from hp) (by simp),hokU.kept hk₁,?_⟩
  ·rcases hy with hy | hy
   ·exact absurd rfl (S.nocell _ (PySem.mem_of_lookup hy))
   ·exact e7 y hy
  ·exact absurd (show false=true from hf) Bool.false_ne_true
  ·by_cases hi:i < vs.length
   ·have ha:vs[i]?=some v:=by
     unfold z7L at h2
     rw [List.getElem?_append_left (by simpa using hi),List.getElem?_map] at h2
     cases e:vs[i]? with
     | none=>rw [e] at h2;cases h2
     | some a=>rw [e] at h2;cases h2;rfl
    obtain ⟨u,hu,rv⟩:=r.get ha
    have hp:ps[i]?=some y:=by
     rw [←S.pre,List.getElem?_take_of_lt (by lia)];exact h1
    have ndP:ps.Nodup:=by rw [←S.pre];exact S.nd.sublist (List.take_sublist _ _)
    exact ⟨u,rv,.inl ⟨S.par y (List.mem_of_getElem? hp),z71 ndP hp hu⟩⟩
   ·have h2':fv[i]?=some (some v):=by
     unfold z7L at h2
     rw [List.getElem?_append_right (by simpa using hi),List.length_map,List.getElem?_drop] at h2
     rw [show vs.length+(i - vs.length)=i by lia] at h2
     exact h2
    obtain ⟨c,o,u,q1,q2,q3,q4⟩:=e8 i y v h1 h2'
    have hkk:scope.names.lookup y=some .local∨scope.names.lookup y=some .cell∨scope.names.lookup y=some .free:=h3
    refine ⟨u,q4,?_⟩
    rcases hkk with z | z | z
    ·have hm:y∈N.drop ps.length:=List.mem_of_getElem? (i:=i - ps.length) (by rw [List.getElem?_drop,show ps.length+(i - ps.length)=i by lia];exact h1)
     rw [S.fr y hm] at z
     cases z
    ·exact absurd rfl (S.nocell _ (PySem.mem_of_lookup z))
    ·exact .inr ⟨.inr z,c,q1,⟨o,hk₁ _ _ (z3W e0.hok q2),q3⟩⟩
  ·obtain ⟨o,u,q,d⟩:=e6 c (hcl y c h)
   exact ⟨u,o,hk₁ _ _ (z3W e0.hok q),d⟩
  ·exact nonU (e0.hok.fresh (Nat.le_refl _))
  ·unfold z7L
   show _=N.length
   have hpl:ps.length≤N.length:=by have:=congrArg List.length S.pre;rw [List.length_take] at this;lia
   rw [List.length_append,List.length_map,List.length_drop,hfv]
   lia
 refine PySem.W.kla_codeExpr (wpAny_mono (hPE [] _ (z7L vs fv) (utk H cs) _ I hq) (fun v' s' hs=>?_) fun e' s' hs=>False.elim hs)
 obtain ⟨v,H1,J,rv,q1⟩:=hs
 have hn1:∀ c∈cs,H1 c=none:=fun c hc=>by
  obtain ⟨⟨x,hx⟩,_⟩:=e6' c hc
  exact J.freeC x c hx
 have U:Un (frs outer) [] (utk H cs) H1 s.heap s'.heap:=J.base
 have hcs':∀ c∈cs,∃ ob,H c=some (frO ob):=fun c hc=>let ⟨o,_,q,_⟩:=e6 c hc;⟨o,q⟩
 have out:∀ {b:Addr},H b=none→b∉cs:=fun {b} e z=>by obtain ⟨o,q⟩:=hcs' b z;rw [e] at q;cases q
 have got:∀ {b:Addr} {o:HO},(∀ ob,o≠frO ob)→H b=some o→b∉cs:=fun {b o} ne e z=>by obtain ⟨ob,q⟩:=hcs' b z;rw [e] at q;exact ne ob (Option.some.inj q)
 refine ⟨v,rtk H H1 cs,J.os,J.bare,⟨fun b o e n hb hx=>?_,fun b o e n hb hx=>?_,fun b o e n hx=>?_,fun b o e hx=>U.there b o e hx,fun b xs e=>?_,fun b o u e=>?_,fun b ps e=>?_⟩,fun b u e=>?_,rv,q1 hn1⟩
 ·exact U.keep b o e (nonU n) hb hx
 ·exact U.slot b o e (nonU n) hb hx
 ·rw [z3b (out n)];exact U.free b o e (nonU n) hx
 ·have hb:=got (fun ob z=>by cases z) e
  rw [z3b hb];exact U.tups b xs (by rw [z1i hb];exact e)
 ·by_cases hb:b∈cs
  ·rw [zae hb];exact e
  ·rw [z3b hb];exact U.frzs b o u (by rw [z1i hb];exact e)
 ·have hb:=got (fun ob z=>by cases z) e
  obtain ⟨more,q⟩:=U.tbls b ps (by rw [z1i hb];exact e)
  exact ⟨more,by rw [z3b hb];exact q⟩
 ·by_cases hb:b∈cs
  ·rw [zae hb] at e
   obtain ⟨ob,q⟩:=hcs' b hb
   rw [q] at e
   have:=Option.some.inj e
   subst this
   refine z7z (U.keep b ob (z3W e0.hok q) (hcu b hb) (fun z=>?_) (by simp))
   have:=e0.frf b z
   rw [q] at this
   cases this
  ·rw [z3b hb] at e
   refine (J.hok b u e).stay (fun _ _ _ q=>q) (fun c q=>?_) fun c xs q=>?_
   ·exact z0h.rtk' hn1 c _ q
   ·exact z0h.rtk' hn1 c _ q
def z5k (P:Program) (w:World) (K:PySem.W.Frag) (mg:Str→Option Value) (base:Heap) (CX:CXT) (k:Nat) (H:Hp) (f:Addr) (sp:List V→Hp→VK→Prop):Prop :=
 (∃ (o:Obj) (fd:FuncData),H f=some (frO o)∧o.data=.func fd) ∧
 ∀ (H':Hp),z0h H H'→∀ (A:Around) (outer:List Env) (s:Shared) (us:List Value) (vs:List V) (Q:VK),z3C k A→zed P w K mg base A outer s H'→z1e vs us→sp vs H' Q →
  codeAny (model P w) A (.call (.ref f) ⟨us,[]⟩) (CR CX outer P w H' s Q E0) s
theorem z5k.mono {P:Program} {w:World} {K:PySem.W.Frag} {mg:Str→Option Value} {base:Heap} {CX:CXT} {k:Nat} {H H1:Hp} {f:Addr} {sp:List V→Hp→VK→Prop} (h:z5k P w K mg base CX k H f sp) (s:z0h H H1):z5k P w K mg base CX k H1 f sp:=by
 obtain ⟨⟨o,fd,e,d⟩,r⟩:=h
 exact ⟨⟨o,fd,s _ _ e,d⟩,fun H' s'=>r H' (s.trans s')⟩
def zeV (P:Program) (w:World) (K:PySem.W.Frag) (mg:Str→Option Value) (base:Heap) (CX:CXT) (k:Nat) (i:Nat) (t:TA):TE:=fun σ H Q=>∃ (f:Addr) (sp:List V→Hp→VK→Prop),σ[i]?=some (some (.ref f))∧(∃ (o:Obj) (fd:FuncData),H f=some (frO o)∧o.data=.func fd) ∧
 t σ H fun vs H1=>z5k P w K mg base CX k H1 f sp∧sp vs H1 Q
section
variable {X:Cx} {CX:CXT} {k:Nat} {x:Str} {p pos:Pos} {e:Expr} {es:List Expr} {t:TA}
theorem zcp [N:NoE CX] (i:Nat) (hr:z3C k X.A) (ha:PA X (e::es) t) (hN:X.N[i]?=some x:=by rfl) (hv:Vis X.env.scope x:=by first | exact Or.inl rfl | exact Or.inr (Or.inl rfl) | exact Or.inr (Or.inr rfl)) (hd:(x == ("__debug__":Str))=false:=by decide)
  (hcd:(x == ("__classdict__":Str))=false:=by decide) (he:starEach (e::es) X.env=(false,eval e X.env)::starEach es X.env:=by rfl) (hpl:(backTo pos (starEach es X.env)).any (·.1)=false:=by rfl) :
  PE X (.Call (.Name x p) (e::es) [] pos) (zeV X.prog X.w X.K X.mg X.base CX k i t):=by
 intro pins s σ H Q I h
 obtain ⟨f,sp,ef,⟨o,fd,eo,od⟩,h⟩:=h
 refine wpAny_Call_Name_kw (z1I (zdh hN hv hd hcd pins s σ H (fun v H1=>v=.ref f∧H1=H) I ⟨_,ef,rfl,rfl⟩) fun u s1 v H1 I1 r1 hz9=>?_)
 obtain ⟨hv1,hH1⟩:=hz9
 subst hv1 hH1
 cases r1
 have h':=ha pos pins s1 σ H1 _ I1 h
 rw [he] at h' ⊢
 refine PySem.W.callWith_of (P:=fun hp=>hp.get? f=some o∨∃ o' fd',hp.get? f=some o'∧o'.data=.func fd') (by show ((false || (backTo pos (starEach es X.env)).any (·.1)) || false)=false;rw [hpl];rfl)
  (fun hp hX=>?_) (PySem.Calls.evalArgs_plain (thn h' fun us s2 ⟨vs,H2,I2,r,cv,q⟩=>?_))
 ·have hX':∃ o' fd',hp.get? f=some o'∧o'.data=.func fd':=hX.elim (fun z=>⟨o,fd,z,od⟩) id
  obtain ⟨o',fd',z,d'⟩:=hX'
  refine ⟨.frame,.inl rfl,?_⟩
  obtain ⟨cls,dd,data,sl⟩:=o'
  simp only at d'
  subst d'
  exact (PySem.W.Looks.ld (part:=none) z).andThen .now
 ·obtain ⟨⟨o',fd',z,d'⟩,run⟩:=cv
  refine ⟨.inr ⟨o',fd',z3W I2.hok z,d'⟩,?_⟩
  refine wpAny_call (codeAny_mono (run H2 (z0h.refl _) X.A X.stack s2 us vs Q hr I2.env0 r q) fun r s' hq=>?_)
  cases r with
  | error e=>exact absurd hq N.no
  | ok fl =>
   cases fl with
   | ret u=>exact I2.after hq
   | next=>exact False.elim hq
   | brk=>exact False.elim hq
   | cont=>exact False.elim hq
end
end L2
namespace L2
open PySem PySem.Spec PyProof.Rows
structure Tb where
 at_:Addr
 pos:Pos
 qual:Str
def zcm (T:Tb) (H:Hp):Prop:=H T.at_=some (.tbl #[])∨∃ (c':Addr) (oc:Obj) (vs:Array Value) (t:Tok),H T.at_=some (.tbl #[rawInt T.pos.line,rawInt T.pos.col,.ref c'])∧H c'=some (frO oc)∧oc.data=.fields vs∧vs[1]?=some (.str T.qual t)
def z4s (Ts:List Tb) (H:Hp):Prop:=∀ T∈Ts,zcm T H
structure z1S (Ts:List Tb) (H H':Hp):Prop where
 at_:∀ b o,(∀ ps,o≠.tbl ps)→H b=some o→H' b=some o
 tabs:z4s Ts H→z4s Ts H'
theorem zcm.mono {T:Tb} {H H':Hp} (h:zcm T H) (s:z0h H H'):zcm T H':=by
 rcases h with e | ⟨c',oc,vs,t,e1,e2,e3⟩
 ·exact .inl (s _ _ e)
 ·exact .inr ⟨c',oc,vs,t,s _ _ e1,s _ _ e2,e3⟩
theorem z0h.l {Ts:List Tb} {H H':Hp} (s:z0h H H'):z1S Ts H H':=⟨fun b o _ e=>s b o e,fun h T hT=>(h T hT).mono s⟩
theorem z1S.trans {Ts:List Tb} {H H1 H2:Hp} (a:z1S Ts H H1) (b:z1S Ts H1 H2):z1S Ts H H2:=⟨fun c o n e=>b.at_ c o n (a.at_ c o n e),fun h=>b.tabs (a.tabs h)⟩
class NT (o:HO):Prop where
 no:∀ ps,o≠.tbl ps
instance NT.lst {xs:List V}:NT (.lst xs):=⟨fun _ z=>by cases z⟩
instance NT.tup {xs:List V}:NT (.tup xs):=⟨fun _ z=>by cases z⟩
instance NT.dK {xs:List (Key × V)}:NT (.dK xs):=⟨fun _ z=>by cases z⟩
instance NT.ext {f:Heap→Prop}:NT (.ext f):=⟨fun _ z=>by cases z⟩
instance NT.frz {o:Obj} {u:HO}:NT (.frz o u):=⟨fun _ z=>by cases z⟩
theorem z1S.g {Ts:List Tb} {H H':Hp} (s:z1S Ts H H') {b:Addr} {o:HO} [n:NT o] (e:H b=some o):H' b=some o:=s.at_ b o n.no e
theorem z1S.seq {Ts:List Tb} {K:PySem.W.Frag} {H H':Hp} {a:Addr} {xs:List V} (s:z1S Ts H H') (h:SqL K H a xs):SqL K H' a xs:=by
 rcases h with (h | ⟨o,h⟩) | h
 ·exact .inl (.inl (s.g h))
 ·exact .inl (.inr ⟨o,s.g h⟩)
 ·exact .inr h
mutual
theorem Dr.monoL {Ts:List Tb} {K:PySem.W.Frag} {H H':Hp} (s:z1S Ts H H'):∀ {d:D} {v:V},Dr K H d v→Dr K H' d v
 | .non,_,h=>by simp only [Dr] at h ⊢;exact h
 | .bl _,_,h=>by simp only [Dr] at h ⊢;exact h
 | .int _,_,h=>by simp only [Dr] at h ⊢;exact h
 | .str _,_,h=>by simp only [Dr] at h ⊢;exact h
 | .tup ds,_,h=>by
  simp only [Dr] at h ⊢
  obtain ⟨a,vs,e,q,r⟩:=h
  exact ⟨a,vs,e,s.g q,DrL.monoL s r⟩
 | .lst ds,_,h=>by
  simp only [Dr] at h ⊢
  obtain ⟨a,vs,e,q,r⟩:=h
  exact ⟨a,vs,e,s.seq q,DrL.monoL s r⟩
theorem DrL.monoL {Ts:List Tb} {K:PySem.W.Frag} {H H':Hp} (s:z1S Ts H H'):∀ {ds:List D} {vs:List V},DrL K H ds vs→DrL K H' ds vs
 | [],_,h=>by simp only [DrL] at h ⊢;exact h
 | d::ds,_,h=>by
  simp only [DrL] at h ⊢
  obtain ⟨v,r,e,q,q'⟩:=h
  exact ⟨v,r,e,Dr.monoL s q,DrL.monoL s q'⟩
end
def zcC (H:Hp) (cs:List Addr) (ob:Addr→Obj):Hp:=fun b=>if b∈cs then some (frO (ob b)) else H b
theorem z55 {H:Hp} {cs:List Addr} {ob:Addr→Obj} {b:Addr} (h:b∈cs):zcC H cs ob b=some (frO (ob b)):=if_pos h
theorem z1n {H:Hp} {cs:List Addr} {ob:Addr→Obj} {b:Addr} (h:b∉cs):zcC H cs ob b=H b:=if_neg h
section
variable {X:Cx} {pins:List (Addr × Obj)} {σ:St} {H:Hp} {s s':Shared} {cs:List Addr} {ob:Addr→Obj}
theorem Inv.cellFree (I:Inv X pins σ H s) {x:Str} {c:Addr} (hc:X.env.cells.lookup x=some c) (hge:X.s₀.heap.objs.size≤c):c∉frs X.stack∧X.base.get? c=none:=by
 refine ⟨fun z=>?_,Heap.get?_none_of_le (Nat.le_trans I.ok.bsz hge)⟩
 rcases List.mem_cons.mp (I.stkSub c z) with q | q
 ·exact I.cne x c hc q
 ·obtain ⟨_,o,ho,_⟩:=I.ok.funs.mem q
  exact absurd (Nat.lt_of_lt_of_le (Heap.lt_size ho) hge) (Nat.lt_irrefl _)
theorem Inv.env0T (I:Inv X pins σ H s) (h1:∀ c∈cs,s.heap.get? c=some (ob c)) (h2:∀ c∈cs,H c=none) (h3:∀ c∈cs,c∉frs X.stack∧X.base.get? c=none):zed X.prog X.w X.K X.mg X.base X.A X.stack s (zcC H cs ob):=by
 have E:=I.env0
 have out:∀ {b:Addr} {o:HO},H b=some o→b∉cs:=fun {b o} e z=>by rw [h2 b z] at e;cases e
 refine ⟨E.frames,E.mod,fun b o e=>⟨(E.bs b o e).1,?_⟩,E.bsz,E.funs,fun b hb=>?_,fun b u e=>?_,E.bare⟩
 ·have hb:b∉cs:=fun z=>by rw [(h3 b z).2] at e;cases e
  rw [z1n hb];exact (E.bs b o e).2
 ·have hb':b∉cs:=fun z=>(h3 b z).1 hb
  rw [z1n hb'];exact E.frf b hb
 ·by_cases hb:b∈cs
  ·rw [z55 hb] at e
   have:=Option.some.inj e
   subst this
   exact z7z (h1 b hb)
  ·rw [z1n hb] at e
   exact (I.hok b u e).stay (fun _ _ _ q=>q) (fun c q=>by rw [z1n (out q)];exact q) fun c xs q=>by rw [z1n (out q)];exact q
theorem unT {fr:List Addr} {H':Hp} {h h':Heap} {P:Program} {w:World} (h1:∀ c∈cs,h.get? c=some (ob c)) (h2:∀ c∈cs,H c=none) (h3:∀ c∈cs,c∉fr) (U:Un fr [] (zcC H cs ob) H' h h') (hok:HOk P w H' h') :
  Un fr [] H (utk H' cs) h h'∧HOk P w (utk H' cs) h':=by
 have out:∀ {b:Addr} {o:HO},H b=some o→b∉cs:=fun {b o} e z=>by rw [h2 b z] at e;cases e
 have at':∀ c∈cs,H' c=some (frO (ob c)):=fun c hc=>U.frzs c _ _ (z55 hc)
 have got:∀ {b:Addr} {o:HO},(∀ x,o≠frO x)→H' b=some o→b∉cs:=fun {b o} ne e z=>by rw [at' b z] at e;exact ne _ (Option.some.inj e).symm
 refine ⟨⟨fun b o e n hb hx=>?_,fun b o e n hb hx=>?_,fun b o e n hx=>?_,fun b o e hx=>U.there b o e hx,fun b xs e=>?_,fun b o u e=>?_,fun b ps e=>?_⟩,fun b u e=>?_⟩
 ·by_cases hc:b∈cs
  ·have q:=z3W hok (at' b hc)
   have q':=h1 b hc
   rw [e] at q'
   rw [q,Option.some.inj q']
  ·exact U.keep b o e (by rw [z1n hc];exact n) hb hx
 ·have hc:b∉cs:=fun z=>h3 b z hb
  exact U.slot b o e (by rw [z1n hc];exact n) hb hx
 ·by_cases hc:b∈cs
  ·exact z5F hc
  ·rw [z1i hc];exact U.free b o e (by rw [z1n hc];exact n) hx
 ·rw [z1i (out e)];exact U.tups b xs (by rw [z1n (out e)];exact e)
 ·rw [z1i (out e)];exact U.frzs b o u (by rw [z1n (out e)];exact e)
 ·obtain ⟨more,q⟩:=U.tbls b ps (by rw [z1n (out e)];exact e)
  exact ⟨more,by rw [z1i (out e)];exact q⟩
 ·have hc:b∉cs:=fun z=>by rw [z5F z] at e;cases e
  rw [z1i hc] at e
  refine (hok b u e).stay (fun _ _ _ q=>q) (fun c q=>?_) fun c xs q=>?_
  ·rw [z1i (got (fun x z=>by cases z) q)];exact q
  ·rw [z1i (got (fun x z=>by cases z) q)];exact q
theorem Inv.afterT {Q:VK} {u:Value} (I:Inv X pins σ H s) (h1:∀ c∈cs,s.heap.get? c=some (ob c)) (h2:∀ c∈cs,H c=none) (h3:∀ c∈cs,c∉frs X.stack∧X.base.get? c=none)
  (h:CE X.stack X.prog X.w (zcC H cs ob) s (fun v H'=>Q v (utk H' cs)) u s'):EP X pins σ Q u s':=by
 obtain ⟨v,H',os,bare,un,hok,r,q⟩:=h
 obtain ⟨un2,hok2⟩:=unT h1 h2 (fun c hc=>(h3 c hc).1) un hok
 exact I.after ⟨v,utk H' cs,os,bare,un2,hok2,r,q⟩
theorem zha {P:Program} {w:World} {outer:List Env} {E:XK} {e:Value} (h1:∀ c∈cs,s.heap.get? c=some (ob c)) (h2:∀ c∈cs,H c=none) (h3:∀ c∈cs,c∉frs outer) (h:CXx P w outer (zcC H cs ob) s (fun e C H'=>E e C (utk H' cs)) e s'):CXx P w outer H s E e s':=by
 obtain ⟨ea,C,H',e1,os,bare,un,hok,fly,q⟩:=h
 obtain ⟨un2,hok2⟩:=unT h1 h2 h3 un hok
 have no:∀ {b:Addr},H' b=none→utk H' cs b=none:=fun {b} z=>by
  by_cases hc:b∈cs
  ·exact z5F hc
  ·rw [z1i hc];exact z
 obtain ⟨f1,f2,a0,oe,vs,T,oT,ts,g1,g2,g3,g4,g5,g6,g7,g8⟩:=fly
 exact ⟨ea,C,utk H' cs,e1,os,bare,un2,hok2,⟨f1,no f2,a0,oe,vs,T,oT,ts,g1,g2,g3,g4,g5,g6,no g7,g8⟩,q⟩
end
end L2
namespace L2
open PySem PySem.Spec PyProof.Rows
def z6D (base:Heap) (mg:Str→Option Value):Prop:=∃ bm o,mg "__builtins__"=some (.ref bm)∧bm≠builtinsNs∧bm≠mainGlobals∧base.get? bm=some o∧o.cls=.type "module"∧o.dict=some builtinsNs∧o.data=.plain
def zak (Ts:List Tb) (H H':Hp) (fa:Addr) (clos:List (Str × Addr)) (params:Arguments) (body:Expr) (scope:Scope) (qual:Str):Prop :=
 (∀ b o,(∀ ps,o≠.tbl ps)→H b=some o→H' b=some o)∧z4s Ts H'∧∃ (pm:Value) (c':Addr) (ctv:Value) (oc:Obj) (vs:Array Value) (t:Tok),H' fa=some (frO (PySem.W.kla_obj "<lambda>" qual params body scope clos pm c' ctv))∧H' c'=some (frO oc)∧oc.data=.fields vs∧vs[1]?=some (.str qual t)
def zgI (Ts:List Tb) (clos:List (Str × Addr)) (params:Arguments) (body:Expr) (scope:Scope) (qual:Str):TE:=fun _ H Q=>z4s Ts H∧∀ (fa:Addr) (H':Hp),zak Ts H H' fa clos params body scope qual→Q (.ref fa) H'
section
variable {X:Cx} {N:List Str} {ix:List (Option Nat)} {params:Arguments} {body:Expr} {lsc:Scope} {lpos:Pos} {c:Addr} {T:Tb} {Ts:List Tb}
theorem zff (S:z0Z X.N X.env.scope N ix lsc) (hcode:X.env.code=.ref c) (hC:PySem.W.CodeHd X.base c T.at_) (hB:z6D X.base X.mg) (hT:T∈Ts) (hTn:∀ T'∈Ts,T'.at_=T.at_→T'=T) (hTp:T.pos=lpos) (hTq:T.qual=X.env.qual++"<lambda>")
  (hdef:defaultsOf params X.env=([],[])):PE X (.Lambda params body lsc lpos) (zgI Ts (z0r X.env.cells lsc.names []) params body lsc T.qual):=by
 intro pins s σ H Q I h
 obtain ⟨ht,h⟩:=h
 subst hTp
 refine PySem.W.kla_eval hdef ?_
 rw [←hTq]
 have hcl:=z0U (scope:=lsc) (env:=X.env) (z0H I S)
 have hns:s.heap.Ns mainGlobals X.mg:=I.mod.glob.keeps I.bk
 have C:PySem.W.CodeHd s.heap c T.at_:=hC.keeps I.bk
 obtain ⟨bm,ob,b1,b2,b3,b4,b5,b6,b7⟩:=hB
 have tP:∀ {ps:Array Value},H T.at_=some (.tbl ps)→s.heap.get? T.at_=some (PySem.W.tabObj ps):=fun e=>I.hok _ _ e
 have neP:∀ {ps:Array Value} {b:Addr},H T.at_=some (.tbl ps)→H b=none→b≠T.at_:=fun e n z=>by rw [z,e] at n;cases n
 rcases ht T hT with e | ⟨c',oc,vs,t,e,ec,d1,d2⟩
 ·have hbP:bm≠T.at_:=neP e (I.bs _ _ b4).2
  have hgP:mainGlobals≠T.at_:=fun z=>by
   obtain ⟨o,es,ep,q,qd,_⟩:=hns
   rw [z,tP e] at q
   cases q
   cases qd
  refine PySem.W.kla_makeFunction (mg:=X.mg) hcl I.ok.glob hns hcode C (tP e) trivial rfl hgP ⟨bm,ob,b1,b2,b3,hbP,I.bk _ _ b4,b5,b6,b7⟩ fun c' ctv h' tk hx hge hlt hrec htb=>?_
  obtain ⟨c2,oc,vs,t,ee,hoc,d1,d2⟩:=hrec
  cases ee
  have hPlt:T.at_ < s.heap.objs.size:=Heap.lt_size (tP e)
  have nPc:T.at_≠c':=Nat.ne_of_lt (Nat.lt_of_lt_of_le hPlt hge)
  have nPf:T.at_≠h'.objs.size:=Nat.ne_of_lt (Nat.lt_trans (Nat.lt_of_lt_of_le hPlt hge) hlt)
  have ncf:c'≠h'.objs.size:=Nat.ne_of_lt hlt
  have Hc:H c'=none:=I.hok.fresh hge
  have Hf:H h'.objs.size=none:=I.hok.fresh (Nat.le_trans hge (Nat.le_of_lt hlt))
  generalize hfo:PySem.W.kla_obj "<lambda>" T.qual params body lsc (z0r X.env.cells lsc.names []) ((X.mg "__name__").getD .none) c' ctv=fo
  have hfg:(h'.push fo).get? h'.objs.size=some fo:=Heap.get?_push_size _ (by rw [←hfo];rfl)
  let H':Hp:=upd (upd (upd H T.at_ (.tbl #[rawInt T.pos.line,rawInt T.pos.col,.ref c'])) c' (frO oc)) h'.objs.size (frO fo)
  have gP:H' T.at_=some (.tbl #[rawInt T.pos.line,rawInt T.pos.col,.ref c']):=by show upd _ _ _ _=_;rw [z0a nPf,z0a nPc,z03]
  have gc:H' c'=some (frO oc):=by show upd _ _ _ _=_;rw [z0a ncf,z03]
  have gf:H' h'.objs.size=some (frO fo):=z03
  have go:∀ {b:Addr},b≠T.at_→b≠c'→b≠h'.objs.size→H' b=H b:=fun {b} n1 n2 n3=>by show upd _ _ _ _=_;rw [z0a n3,z0a n2,z0a n1]
  have gt:∀ {b:Addr} {o:HO},b≠T.at_→H b=some o→H' b=some o:=fun {b o} n1 q=>by rw [go n1 (z0g q Hc) (z0g q Hf)];exact q
  have hk:∀ b o,b≠T.at_→s.heap.get? b=some o→(h'.push fo).get? b=some o:=fun b o n q=>Heap.get?_push_of_some _ (hx b o n q)
  have I':Inv X pins σ H' { s with heap:=h'.push fo,toks:=tk }:=by
   refine I.un ⟨fun b o q n _ _=>hk b o (neP e n) q,fun b o q n _ _=>⟨o.slots,hk b o (neP e n) q⟩,fun b o q n _=>?_,fun b o q _=>?_,fun b xs q=>?_,fun b o u q=>?_,fun b ps q=>?_⟩ (fun b u q=>?_)
   ·have hb:=Heap.lt_size q
    rw [go (neP e n) (Nat.ne_of_lt (Nat.lt_of_lt_of_le hb hge)) (Nat.ne_of_lt (Nat.lt_trans (Nat.lt_of_lt_of_le hb hge) hlt))];exact n
   ·by_cases hb:b=T.at_
    ·exact ⟨_,by rw [hb];exact Heap.get?_push_of_some _ htb⟩
    ·exact ⟨_,hk b o hb q⟩
   ·exact gt (fun z=>by rw [z,e] at q;cases q) q
   ·exact gt (fun z=>by rw [z,e] at q;cases q) q
   ·by_cases hb:b=T.at_
    ·subst hb
     rw [e] at q
     cases q
     exact ⟨#[rawInt T.pos.line,rawInt T.pos.col,.ref c'],by rw [gP];simp⟩
    ·exact ⟨#[],by rw [gt hb q];simp⟩
   ·by_cases hf:b=h'.objs.size
    ·subst hf
     rw [gf] at q
     cases q
     exact z7z hfg
    ·by_cases hc:b=c'
     ·subst hc
      rw [gc] at q
      cases q
      exact z7z (Heap.get?_push_of_some _ hoc)
     ·by_cases hb:b=T.at_
      ·subst hb
       rw [gP] at q
       cases q
       show (h'.push fo).get? T.at_=some (PySem.W.tabObj _)
       have:=Heap.get?_push_of_some fo htb
       simpa using this
      ·rw [go hb hc hf] at q
       refine (I.hok b u q).stay (fun d o hd q'=>hk d o ?_ q') (fun d q'=>gt (fun z=>by rw [z,e] at q';cases q') q') fun d xs q'=>gt (fun z=>by rw [z,e] at q';cases q') q'
       rcases hd with z | z
       ·rw [z];exact hb
       ·exact fun z'=>by rw [z',e] at z;cases z
  refine ⟨.ref h'.objs.size,H',I',rfl,h _ _ ⟨fun b o no q=>gt (fun z=>by rw [z,e] at q;exact no _ (Option.some.inj q).symm) q,fun T' hT'=>?_,_,c',ctv,oc,vs,t,by rw [hfo];exact gf,gc,d1,d2⟩⟩
  by_cases hb:T'.at_=T.at_
  ·have:=hTn T' hT' hb
   subst this
   exact .inr ⟨c',oc,vs,t,gP,gc,d1,d2⟩
  ·rcases ht T' hT' with q | ⟨c3,oc3,vs3,t3,q1,q2,q3⟩
   ·exact .inl (gt hb q)
   ·exact .inr ⟨c3,oc3,vs3,t3,gt hb q1,gt (fun z=>by rw [z,e] at q2;cases q2) q2,q3⟩
 ·have hbP:bm≠T.at_:=neP e (I.bs _ _ b4).2
  refine PySem.W.kla_makeFunctionHit (mg:=X.mg) (cv:=.ref c') hcl I.ok.glob hns hcode C (tP e) (by simp [TriplesOk,rawInt]) (by simp [codeAmong,rawInt]) ⟨bm,ob,b1,b2,b3,hbP,I.bk _ _ b4,b5,b6,b7⟩ fun ctv h' tk hk hsz=>?_
  have Hf:H h'.objs.size=none:=I.hok.fresh hsz
  have gt:∀ {b:Addr} {o:HO} {u:HO},H b=some o→upd H h'.objs.size u b=some o:=fun q=>by rw [z0a (z0g q Hf)];exact q
  refine ⟨.ref h'.objs.size,_,I.laid (a:=h'.objs.size) (o:=frO (PySem.W.kla_obj "<lambda>" T.qual params body lsc (z0r X.env.cells lsc.names []) ((X.mg "__name__").getD .none) c' ctv)) (t':=tk) (fun b o q=>Heap.get?_push_of_some _ (hk b o q)) hsz (z7z (Heap.get?_push_size _ rfl)),rfl,h _ _ ⟨fun b o _ q=>gt q,fun T' hT'=>?_,_,c',ctv,oc,vs,t,z03,gt ec,d1,d2⟩⟩
  rcases ht T' hT' with q | ⟨c3,oc3,vs3,t3,q1,q2,q3⟩
  ·exact .inl (gt q)
  ·exact .inr ⟨c3,oc3,vs3,t3,gt q1,gt q2,q3⟩
def zfo (Ts:List Tb) (params:Arguments) (body:Expr) (lsc:Scope) (qual:Str) (N:List Str) (ix:List (Option Nat)) (sp:Sp) (E:XK) (t0:TE):TE:=fun σ H Q=>t0 σ H fun v0 H1=>z4s Ts H1∧∀ (fa:Addr) (H2:Hp) (cs:List Addr),(∀ b o,(∀ ps,o≠.tbl ps)→H1 b=some o→H2 b=some o) →
 (∀ H3,z0h H2 H3→z1S Ts H1 (utk H3 cs))→(∀ c∈cs,∃ ob,H2 c=some (frO ob))→z7X H2 fa params body lsc qual N (z0K ix σ)→sp [v0,.ref fa] H2 (fun v H3=>Q v (utk H3 cs)) (fun e C H3=>E e C (utk H3 cs))
variable {k:Nat} {g:Addr} {gd:FuncData} {ps:List Str} {sp:Sp} {E:XK} {x:Str} {p pos:Pos} {e0:Expr} {t0:TE}
theorem zbR (G:z0y X.prog X.w X.K X.mg X.base (CXx X.prog X.w) k g gd ps sp) (hr:z3C k X.A) (hg:Gl X x) (hm:X.mg x=some (.ref g)) (hk:PySem.W.keepIn X.K (.ref g)=true) (hb:z0l X.K gd ps []) (hx:z6P (CXx X.prog X.w) X E)
  (h0:PE X e0 t0) (m0:∀ σ H (Q Q':VK),(∀ v H1,Q v H1→Q' v H1)→t0 σ H Q→t0 σ H Q') (S:z0Z X.N X.env.scope N ix lsc) (hcode:X.env.code=.ref c) (hC:PySem.W.CodeHd X.base c T.at_) (hB:z6D X.base X.mg) (hfn:∀ y,X.fn y=true) (hT:T∈Ts) (hTn:∀ T'∈Ts,T'.at_=T.at_→T'=T) (hTp:T.pos=lpos) (hTq:T.qual=X.env.qual++"<lambda>")
  (hdef:defaultsOf params X.env=([],[]):=by rfl) (hdb:(x == ("__debug__":Str))=false:=by decide)
  (he:starEach [e0,.Lambda params body lsc lpos] X.env=(false,eval e0 X.env)::starEach [.Lambda params body lsc lpos] X.env:=by rfl) (he2:starEach [.Lambda params body lsc lpos] X.env=(false,eval (.Lambda params body lsc lpos) X.env)::starEach [] X.env:=by rfl) (hpl:(backTo pos (starEach [.Lambda params body lsc lpos] X.env)).any (·.1)=false:=by rfl) :
  PE X (.Call (.Name x p) [e0,.Lambda params body lsc lpos] [] pos) (zfo Ts params body lsc T.qual N ix sp E t0):=by
 intro pins s σ H Q I h
 refine wpAny_Call_Name_kw (z5T I hg hm ?_ hdb)
 have hPA:PA X [e0,.Lambda params body lsc lpos] (z8o t0 (z8o (zgI Ts (z0r X.env.cells lsc.names []) params body lsc T.qual) zfr)):=z02 h0 (z02 (zff S hcode hC hB hT hTn hTp hTq hdef) z05 he2) he
 refine PySem.W.callWith_K (h₀:=X.base) I.ok.mod.kin hk (thn (hPA pos pins s σ H (fun us H2=>∃ (v0:V) (fa:Addr) (H1:Hp),us=[v0,.ref fa]∧(z4s Ts H1∧∀ (fa:Addr) (H2:Hp) (cs:List Addr),(∀ b o,(∀ ps,o≠.tbl ps)→H1 b=some o→H2 b=some o) →
 (∀ H3,z0h H2 H3→z1S Ts H1 (utk H3 cs))→(∀ c∈cs,∃ ob,H2 c=some (frO ob))→z7X H2 fa params body lsc T.qual N (z0K ix σ)→sp [v0,.ref fa] H2 (fun v H3=>Q v (utk H3 cs)) (fun e C H3=>E e C (utk H3 cs)))∧zak Ts H1 H2 fa (z0r X.env.cells lsc.names []) params body lsc T.qual) I ?_) fun us s2 ⟨vs,H2,I2,r,q⟩=>⟨I2.kIn,?_⟩) he hpl
 ·exact m0 σ H _ _ (fun v0 H1 ⟨ht,hq⟩=>⟨ht,fun fa H' made=>⟨v0,fa,H1,rfl,⟨ht,hq⟩,made⟩⟩) h
 ·obtain ⟨v0,fa,H1,rfl,⟨ht,hq⟩,mfr,mtb,pm,c',ctv,oc,vsc,t,m1,m2,m3,m4⟩:=q
  let clos:=z0r X.env.cells lsc.names []
  let cs:List Addr:=(lsc.names.map (·.1)).filterMap (fun y=>List.lookup y clos)
  let ob:Addr→Obj:=fun c=>(s2.heap.get? c).getD { cls:=.none,data:=.plain }
  have lk:∀ {y:Str} {c:Addr},clos.lookup y=some c→X.env.cells.lookup y=some c:=fun e=>z1m I2 S e
  have mem:∀ {c:Addr},c∈cs→∃ y,clos.lookup y=some c:=fun {c} hc=>by
   obtain ⟨y,_,e⟩:=List.mem_filterMap.mp hc
   exact ⟨y,e⟩
  have inn:∀ y c,clos.lookup y=some c→c∈cs:=fun y c e=>by
   refine List.mem_filterMap.mpr ⟨y,?_,e⟩
   by_cases hm':(y,NameKind.free)∈lsc.names
   ·exact List.mem_map.mpr ⟨_,hm',rfl⟩
   ·have:=z3I (cells:=X.env.cells) lsc.names [] y hm'
    rw [show (z0r X.env.cells lsc.names []).lookup y=some c from e] at this
    cases this
  have h1:∀ c∈cs,s2.heap.get? c=some (ob c):=fun c hc=>by
   obtain ⟨y,e⟩:=mem hc
   obtain ⟨v,o,ho,_⟩:=I2.cell y c (lk e)
   show _=some ((s2.heap.get? c).getD _)
   rw [ho];rfl
  have h2:∀ c∈cs,H2 c=none:=fun c hc=>by
   obtain ⟨y,e⟩:=mem hc
   exact I2.freeC y c (lk e)
  have h3:∀ c∈cs,c∉frs X.stack∧X.base.get? c=none:=fun c hc=>by
   obtain ⟨y,e⟩:=mem hc
   exact I2.cellFree (lk e) (I2.ok.cab y c (hfn y) (lk e))
  have out:∀ {b:Addr} {o:HO},H2 b=some o→b∉cs:=fun {b o} e z=>by rw [h2 b z] at e;cases e
  have tr:∀ {b:Addr} {o:HO},H2 b=some o→zcC H2 cs ob b=some o:=fun e=>by rw [z1n (out e)];exact e
  have spq:=hq fa (zcC H2 cs ob) cs (fun b o no e=>tr (mfr b o no e)) (fun H3 s3=>?_) (fun c hc=>⟨ob c,z55 hc⟩) ?_
  ·refine wpAny_call (codeAny_mono (G.run X.A X.stack s2 (zcC H2 cs ob) ⟨us,[]⟩ us [v0,.ref fa] _ _ hr (I2.env0T h1 h2 h3) (by have:=hb s2 us I2.kIn (by rw [List.append_nil,←r.length];exact G.len _ _ _ _ spq);rw [List.append_nil] at this;exact this) r spq) fun r s' hq=>?_)
   cases r with
   | error e=>exact hx pins σ H2 s2 e s' I2 (zha h1 h2 (fun c hc=>(h3 c hc).1) hq)
   | ok fl =>
    cases fl with
    | ret u=>exact I2.afterT h1 h2 h3 hq
    | next=>exact False.elim hq
    | brk=>exact False.elim hq
    | cont=>exact False.elim hq
  ·have out3:∀ {b:Addr} {o:HO},H2 b=some o→utk H3 cs b=some o:=fun e=>by rw [z1i (out e)];exact s3 _ _ (tr e)
   refine ⟨fun b o no e=>out3 (mfr b o no e),fun _ T' hT'=>?_⟩
   rcases mtb T' hT' with q | ⟨c3,oc3,vs3,t3,q1,q2,q3⟩
   ·exact .inl (out3 q)
   ·exact .inr ⟨c3,oc3,vs3,t3,out3 q1,out3 q2,q3⟩
  ·refine ⟨clos,cs,pm,c',ctv,oc,vsc,t,tr m1,tr m2,m3,m4,fun y z c e1 e2=>I2.ok.inj y z c (lk e1) (lk e2),inn,fun c hc=>⟨mem hc,?_⟩,fun y hy=>?_,fun i y v e1 e2=>?_⟩
   ·obtain ⟨y,e⟩:=mem hc
    obtain ⟨v,o,ho,hd⟩:=I2.cell y c (lk e)
    refine ⟨ob c,v,z55 hc,?_⟩
    have:=h1 c hc
    rw [ho] at this
    rw [←Option.some.inj this];exact hd
   ·have hm':(y,NameKind.free)∈lsc.names:=PySem.mem_of_lookup hy
    obtain ⟨c,e⟩:=z0H I2 S y hm'
    exact ⟨c,(z1U lsc.names [] y (z0H I2 S) (.inl hm')).trans e⟩
   ·obtain ⟨j,f1,f2,f3⟩:=S.at_ e1 e2
    have hm':(y,NameKind.free)∈lsc.names:=PySem.mem_of_lookup f2
    obtain ⟨m,hn,hl⟩:=I2.loc
    have hvis:=S.frees _ hm' rfl
    obtain ⟨u,ru,look⟩:=hl j y v f1 f3 (.inr hvis)
    rcases look with ⟨hk',_⟩ | ⟨_,c,ec,cell⟩
    ·have hk'':X.env.scope.names.lookup y=some .local:=hk'
     rcases hvis with z | z
     ·rw [z] at hk'';cases hk''
     ·rw [z] at hk'';cases hk''
    ·have hcl:clos.lookup y=some c:=(z1U lsc.names [] y (z0H I2 S) (.inl hm')).trans ec
     have hc:=inn y c hcl
     obtain ⟨o,ho,hd⟩:=cell
     refine ⟨c,ob c,u,hcl,z55 hc,?_,ru⟩
     have:=h1 c hc
     rw [ho] at this
     rw [←Option.some.inj this];exact hd
end
end L2
namespace L2
open PySem PySem.Spec PyProof.Rows
def NFr (H H':Hp):Prop:=∀ b o,(∀ ob,o≠frO ob)→H b=some o→H' b=some o
theorem NFr.seq {K:PySem.W.Frag} {H H':Hp} {a:Addr} {xs:List V} (s:NFr H H') (h:SqL K H a xs):SqL K H' a xs:=by
 rcases h with (h | ⟨o,h⟩) | h
 ·exact .inl (.inl (s _ _ (fun _ z=>by cases z) h))
 ·exact .inl (.inr ⟨o,s _ _ (fun _ z=>by cases z) h⟩)
 ·exact .inr h
mutual
theorem Dr.nfr {K:PySem.W.Frag} {H H':Hp} (s:NFr H H'):∀ {d:D} {v:V},Dr K H d v→Dr K H' d v
 | .non,_,h=>by simp only [Dr] at h ⊢;exact h
 | .bl _,_,h=>by simp only [Dr] at h ⊢;exact h
 | .int _,_,h=>by simp only [Dr] at h ⊢;exact h
 | .str _,_,h=>by simp only [Dr] at h ⊢;exact h
 | .tup ds,_,h=>by
  simp only [Dr] at h ⊢
  obtain ⟨a,vs,e,q,r⟩:=h
  exact ⟨a,vs,e,s _ _ (fun _ z=>by cases z) q,DrL.nfr s r⟩
 | .lst ds,_,h=>by
  simp only [Dr] at h ⊢
  obtain ⟨a,vs,e,q,r⟩:=h
  exact ⟨a,vs,e,s.seq q,DrL.nfr s r⟩
theorem DrL.nfr {K:PySem.W.Frag} {H H':Hp} (s:NFr H H'):∀ {ds:List D} {vs:List V},DrL K H ds vs→DrL K H' ds vs
 | [],_,h=>by simp only [DrL] at h ⊢;exact h
 | d::ds,_,h=>by
  simp only [DrL] at h ⊢
  obtain ⟨v,r,e,q,q'⟩:=h
  exact ⟨v,r,e,Dr.nfr s q,DrL.nfr s q'⟩
end
theorem NFr.utk {H H3:Hp} {cs:List Addr} (hc:∀ c∈cs,∃ ob,H c=some (frO ob)) (s:z0h H H3):NFr H3 (L2.utk H3 cs):=fun b o n e=>z8i (fun c h=>let ⟨ob,q⟩:=hc c h;⟨ob,s _ _ q⟩) e n
theorem Fun.okL {CX:CXT} {P:Program} {w:World} {K:PySem.W.Frag} {mg:Str→Option Value} {base:Heap} {x qual:Str} {st:Stmt} {f c:Addr} {fd:FuncData} {N ps:List Str} {k:Nat} {sp:Sp} (F:Fun K x qual st f fd) (hc:fd.code=.ref c) (S:z0p N ps (z06 st)) (len:∀ vs H Q E,sp vs H Q E→vs.length=ps.length)
  (hbody:∀ (A:Around) (outer:List Env) (s:Shared) (H:Hp) (vs:List V) (Q:VK) (E:XK),z3C k (A.deeper (envOfC qual (z06 st) s.heap.objs.size f (.ref c)))→sp vs H Q E →
   ∃ t,PSs (z6H CX P w K mg base N qual (z06 st) f (.ref c) A outer s H E) (z1k st) t∧t { nx:=fun _ H'=>Q .non H',rt:=Q } (z5g N vs) H):z0y P w K mg base CX (k+1) f fd ps sp:=by
 obtain ⟨oc,od,kV,doc,pm,an,cdv,ct,osl,rfl,lk,hcd⟩:=F.ex
 have:cdv=.ref c:=hc
 subst this
 exact zem lk hcd S len fun A outer s H vs Q E hr hsp=>hbody A outer s H vs Q E hr hsp
theorem zap {P:Program} {w:World} {K:PySem.W.Frag} {mg mb:Str→Option Value} {CX:CXT} {k:Nat} {fa a:Addr} {fd:FuncData} {x:Str} {sp:Sp} {s₁:Shared} {vs:List Value} {ns:List Int} {Ts:List Tb}
  (KX:K.In s₁.heap) (hns:s₁.heap.Ns mainGlobals mg) (hb:s₁.heap.Ns builtinsNs mb) (hbb:∀ x:Str,x≠"__name__"→mb x=bootBuiltins x) (hlim:s₁.heap.NoLimit) (hg:s₁.gens=#[])
  (ha:s₁.heap.get? a=some { cls:=.type "list",data:=.seq vs.toArray }) (hi:IntsAre vs ns) (hl:ns.length≤sizeLine) (hr:z3C k callerA)
  (hT:∀ T∈Ts,s₁.heap.get? T.at_=some (PySem.W.tabObj #[])∧K.lookup T.at_=none∧∃ c,PySem.W.CodeHd s₁.heap c T.at_) (hbm:z6D s₁.heap mg)
  (F:∀ base:Heap,K.In base→base.Ns mainGlobals mg→z6D base mg→z0y P w K mg base CX k fa fd [x] sp) (hbind:∀ (s:Shared) (u:Value),BindsTo s fd ⟨[u],[]⟩ [(x,u)])
  (hsp:∀ H:Hp,z4s Ts H→SqL K H a (ns.map V.int)→sp [.ref a] H (fun v _=>v=.bl true) fun _ _ _=>False)
  (hCX:∀ H e s',CX [] H s₁ (fun _ _ _=>False) e s'→False) :
  codeAny (model P w) callerA (.call (.ref fa) ⟨[.ref a],[]⟩) (fun r s'=>r=.ok (.ret (.bool true))∧OldK s₁.heap s'.heap∧s'.os=s₁.os∧AllBare s'.gens) s₁:=by
 have rv:=z6L hi
 have lenV:=hi.length
 have isT:∀ b,(∃ T∈Ts,T.at_=b)→s₁.heap.get? b=some (PySem.W.tabObj #[])∧K.lookup b=none∧∃ c,PySem.W.CodeHd s₁.heap c b:=fun b ⟨T,hT1,e⟩=>e ▸ hT T hT1
 have core:∀ H:Hp,z4s Ts H→SqL K H a (ns.map V.int)→HOk P w H s₁.heap→(∀ b,H b≠none→(b=a∧K.lookup a=none∧∃ o xs,H b=some (.frz o (.lst xs)))∨((∃ T∈Ts,T.at_=b)∧H b=some (.tbl #[]))) →
   codeAny (model P w) callerA (.call (.ref fa) ⟨[.ref a],[]⟩) (fun r s'=>r=.ok (.ret (.bool true))∧OldK s₁.heap s'.heap∧s'.os=s₁.os∧AllBare s'.gens) s₁:=by
  intro H hO hS hok hA
  have base_of:∀ {b:Addr} {o:Obj},s₁.heap.get? b=some o→H b=none→(zbJ s₁.heap H).get? b=some o:=fun e n=>zcw e n
  have noA:∀ {b:Addr} {o:Obj},s₁.heap.get? b=some o→(∀ xs,o.data≠.seq xs)→(∀ xs,o.data≠.fields xs)→H b=none:=fun {b o} e d1 d2=>by
   cases q:H b with
   | none=>rfl
   | some u =>
    rcases hA b (by rw [q];simp) with ⟨e',_⟩ | ⟨e',_⟩
    ·subst e'
     rw [ha] at e;cases e
     exact absurd rfl (d1 _)
    ·rw [(isT b e').1] at e;cases e
     exact absurd rfl (d2 _)
  have nsK:∀ {b:Addr} {m:Str→Option Value},s₁.heap.Ns b m→(zbJ s₁.heap H).Ns b m:=fun {b m} ⟨o,es,ep,e,d,r⟩=>⟨o,es,ep,base_of e (noA e (fun xs z=>by rw [z] at d;cases d) (fun xs z=>by rw [z] at d;cases d)),d,r⟩
  have hKb:K.In (zbJ s₁.heap H):=fun b o e=>base_of (KX b o e) (by
   cases q:H b with
   | none=>rfl
   | some u =>
    rcases hA b (by rw [q];simp) with ⟨e',hk,_⟩ | ⟨e',_⟩
    ·subst e'
     rw [hk] at e;cases e
    ·rw [(isT b e').2.1] at e;cases e)
  have hM:Mod K mg (zbJ s₁.heap H):=⟨hKb,nsK hns,⟨mb,nsK hb,hbb⟩,let ⟨mc,h1,h2⟩:=hlim;⟨mc,nsK h1,h2⟩⟩
  have hBM:z6D (zbJ s₁.heap H) mg:=by
   obtain ⟨bm,o,b1,b2,b3,b4,b5,b6,b7⟩:=hbm
   exact ⟨bm,o,b1,b2,b3,base_of b4 (noA b4 (fun xs z=>by rw [z] at b7;cases b7) (fun xs z=>by rw [z] at b7;cases b7)),b5,b6,b7⟩
  have e0:zed P w K mg (zbJ s₁.heap H) callerA [] s₁ H:=⟨rfl,hM,fun b o e=>ze3 e,Nat.le_of_eq (z9X _ _),trivial,fun b hb=>absurd (show b∈([]:List Addr) from hb) (by simp),hok,.of_eq hg⟩
  refine codeAny_mono ((F _ hKb (nsK hns) hBM).run callerA [] s₁ H ⟨[.ref a],[]⟩ [.ref a] [.ref a] _ _ hr e0 (hbind s₁ (.ref a)) (.cons rfl .nil) (hsp H hO hS)) fun r s' h=>?_
  cases r with
  | error e=>exact (hCX H e s' h).elim
  | ok fl =>
   cases fl with
   | next=>exact False.elim h
   | brk=>exact False.elim h
   | cont=>exact False.elim h
   | ret u =>
    obtain ⟨v,H',os,bare,un,hok',r',q⟩:=h
    have q':v=.bl true:=q
    subst q'
    obtain rfl:u=Value.bool true:=r'
    have key:∀ b o,s₁.heap.get? b=some o→s'.heap.get? b=some o∨((∃ T∈Ts,T.at_=b)∧∃ more,s'.heap.get? b=some (PySem.W.tabObj (#[]++more))):=fun b o e=>by
     cases q:H b with
     | none=>exact .inl (un.keep b o e q (by intro z;exact absurd (show b∈([]:List Addr) from z) (by simp)) (by simp))
     | some u =>
      rcases hA b (by rw [q];simp) with ⟨_,_,ob,xs,z⟩ | ⟨e',z⟩
      ·have z2:=un.frzs b ob _ z
       obtain ⟨e1,_⟩:=hok b _ z
       obtain ⟨e2,_⟩:=hok' b _ z2
       rw [e] at e1;cases e1
       exact .inl e2
      ·obtain ⟨more,z2⟩:=un.tbls b #[] z
       exact .inr ⟨e',more,hok' b _ z2⟩
    refine ⟨rfl,⟨fun b o e=>?_,fun b o e=>?_⟩,os,bare⟩
    ·rcases key b o e with z | ⟨e',more,z⟩
     ·exact .inl z
     ·obtain ⟨h1,_,c,hc⟩:=isT b e'
      rw [e] at h1
      cases h1
      refine .inr (.inl ⟨?_,rfl,#[],more,rfl,z⟩)
      obtain ⟨o,vs,_,_,_,_,_,_,_,g1,g2,g3,g4,_⟩:=hc
      exact ⟨c,o,vs,g1,g2,g3,g4⟩
    ·rcases key b o e with z | ⟨e',more,z⟩
     ·exact ⟨_,z⟩
     ·exact ⟨_,z⟩
 have naT:∀ T∈Ts,T.at_≠a:=fun T h z=>by
  have:=(hT T h).1
  rw [z,ha] at this
  cases this
 open Classical in
 cases hk:K.lookup a with
 | some o =>
  have e:=KX a o hk
  rw [ha] at e
  cases e
  refine core (fun b=>if (∃ T∈Ts,T.at_=b) then some (.tbl #[]) else none) (fun T h=>.inl (if_pos ⟨T,h,rfl⟩)) (.inr ⟨_,vs.toArray,_,hk,rfl,rfl,rfl,by rw [List.size_toArray,lenV];exact hl,by simpa using rv⟩) (fun b u z=>?_) fun b z=>?_
  ·by_cases hb:∃ T∈Ts,T.at_=b
   ·have z':=(if_pos hb).symm.trans z
    cases z'
    exact (isT b hb).1
   ·have z':=(if_neg hb).symm.trans z
    cases z'
  ·by_cases hb:∃ T∈Ts,T.at_=b
   ·exact .inr ⟨hb,if_pos hb⟩
   ·exact absurd (if_neg hb) z
 | none =>
  have cA:∀ b,b=a→(if b=a then some (HO.frz { cls:=.type "list",data:=.seq vs.toArray } (.lst (ns.map V.int))) else if (∃ T∈Ts,T.at_=b) then some (.tbl #[]) else none)=some (HO.frz { cls:=.type "list",data:=.seq vs.toArray } (.lst (ns.map V.int))):=fun b e=>if_pos e
  have cT:∀ b,b≠a→(∃ T∈Ts,T.at_=b)→(if b=a then some (HO.frz { cls:=.type "list",data:=.seq vs.toArray } (.lst (ns.map V.int))) else if (∃ T∈Ts,T.at_=b) then some (.tbl #[]) else none)=some (.tbl #[]):=fun b e h=>by rw [if_neg e,if_pos h]
  have cN:∀ b,b≠a→¬ (∃ T∈Ts,T.at_=b)→(if b=a then some (HO.frz { cls:=.type "list",data:=.seq vs.toArray } (.lst (ns.map V.int))) else if (∃ T∈Ts,T.at_=b) then some (.tbl #[]) else none)=none:=fun b e h=>by rw [if_neg e,if_neg h]
  refine core (fun b=>if b=a then some (.frz { cls:=.type "list",data:=.seq vs.toArray } (.lst (ns.map V.int))) else if (∃ T∈Ts,T.at_=b) then some (.tbl #[]) else none) (fun T h=>.inl (cT _ (naT T h) ⟨T,h,rfl⟩)) (.inl (.inr ⟨{ cls:=.type "list",data:=.seq vs.toArray },if_pos rfl⟩)) (fun b u z=>?_) (fun b z=>?_)
  ·by_cases hb:b=a
   ·have z':=(cA b hb).symm.trans z
    cases z'
    subst hb
    exact ⟨ha,by rw [List.length_map];exact hl,vs,_,rv,ha⟩
   ·by_cases hb2:∃ T∈Ts,T.at_=b
    ·have z':=(cT b hb hb2).symm.trans z
     cases z'
     exact (isT b hb2).1
    ·have z':=(cN b hb hb2).symm.trans z
     cases z'
  ·by_cases hb:b=a
   ·exact .inl ⟨hb,hk,_,_,cA b hb⟩
   ·by_cases hb2:∃ T∈Ts,T.at_=b
    ·exact .inr ⟨hb2,cT b hb hb2⟩
    ·exact absurd (cN b hb hb2) z
theorem walk_of2 {l:PySem.W.OpenLaw} {n k:Nat} {q:Program} {loose:List Str} {XP:(Str→Option Value)→Heap→Prop} {YP:World→Heap→Prop} {d:DefRec} {K:Params→PySem.W.Frag} {CX:World→CXT} {sp:World→Sp} {x:Str} {Ts:List Tb}
  (hn:l.most=some n) (hn2:n≤sizeLine) (hdf:d.params.defaults=[]) (hr:z3C k callerA)
  (hY:∀ (w:World) (h:Heap),YP w h→(K w.params).In h∧∀ P∈Ts.map (·.at_),h.get? P=some (PySem.W.tabObj #[]))
  (F:∀ (w:World) (mg:Str→Option Value) (fa:Addr) (h:Heap),(K w.params).In h→h.Ns mainGlobals mg→mg d.name=some (.ref fa) →
   ∃ fd:FuncData,(∀ (s:Shared) (u:Value),BindsTo s fd ⟨[u],[]⟩ [(x,u)])∧(∀ T∈Ts,(K w.params).lookup T.at_=none∧∃ c,PySem.W.codeHdIn (K w.params) c T.at_=true) ∧
    ∀ base:Heap,(K w.params).In base→base.Ns mainGlobals mg→z6D base mg→z0y l.prog w (K w.params) mg base (CX w) k fa fd [x] (sp w))
  (hsp:∀ (w:World) (H:Hp) (a:Addr) (ns:List Int),ns.length≤n→z4s Ts H→SqL (K w.params) H a (ns.map V.int)→sp w [.ref a] H (fun v _=>v=.bl true) fun _ _ _=>False)
  (hCX:∀ (w:World) (H:Hp) (s:Shared) (e:Value) (s':Shared),CX w [] H s (fun _ _ _=>False) e s'→False) :
  PySem.W.WalkO q loose XP YP l.row.toRowW d [] (fun f vs=>PySem.call f vs):=by
 refine Att.attach_call hn hdf fun w s₀ s₁ mg mb fa o pm cd doc a vs ns G Y ho hd hcd hmg hobj hints hlen hg=>?_
 obtain ⟨KX,hTb⟩:=hY w _ Y
 obtain ⟨fd,hb,hT,hF⟩:=F w mg fa _ KX G.T.g hmg
 refine zap (Ts:=Ts) KX G.T.g G.T.b G.T.builtins G.T.nolimit hg hobj hints (Nat.le_trans hlen hn2) hr (fun T h=>⟨hTb _ (List.mem_map.mpr ⟨T,h,rfl⟩),(hT T h).1,?_⟩) ?_ hF hb (fun H hO hS=>hsp w H a ns hlen hO hS) fun H e s'=>hCX w H s₁ e s'
 ·obtain ⟨c,e⟩:=(hT T h).2
  exact ⟨c,PySem.W.codeHd_of_K KX e⟩
 ·obtain ⟨bm,ob,b1,b2,b3,b4,b5,b6⟩:=G.T.bmain
  refine ⟨bm,ob,b1,b2,fun z=>?_,b3,b4,b5,b6⟩
  obtain ⟨o,es,ep,e,d,_⟩:=G.T.g
  rw [z] at b3
  rw [b3] at e
  cases e
  rw [b6] at d
  cases d
theorem zdB {Ts:List Tb} {T:Tb} (h:(Ts.map (·.at_)).Nodup) (hT:T∈Ts):∀ T'∈Ts,T'.at_=T.at_→T'=T:=by
 induction Ts with
 | nil=>cases hT
 | cons a r ih =>
  rw [List.map_cons,List.nodup_cons] at h
  intro T' hT' e
  rcases List.mem_cons.mp hT with z | z
  ·rcases List.mem_cons.mp hT' with y | y
   ·rw [y,z]
   ·exact absurd (List.mem_map.mpr ⟨T',y,by rw [e,z]⟩) h.1
  ·rcases List.mem_cons.mp hT' with y | y
   ·exact absurd (List.mem_map.mpr ⟨T,z,by rw [←e,y]⟩) h.1
   ·exact ih h.2 z T' y e
end L2
namespace Gu
open PySem L2
abbrev nV (nm:Int→Int) (i:Int):V:=.int (nm i)
abbrev kN (nm:Int→Int) (i:Int):Key:=Sum.inl (nm i)
theorem zay {nm:Int→Int} (h:∀ x y,nm x=nm y→x=y) (x y:Int) (e:kN nm x=kN nm y):x=y:=h x y (Sum.inl.inj e)
def z6F (nm:Int→Int) (r:Row):Row:=(r.1,r.2.map nm)
theorem zdM (r:Row):z6F (fun i=>i) r=r:=by unfold z6F;rw [List.map_id']
def zcL (K:PySem.W.Frag) (rows:List Row) (nm:Int→Int):List V→Hp→VK→Prop:=fun vs H Q=>∃ i:Int,vs=[.int (nm i)]∧0≤i∧i < (rows.length:Int)∧z4I K H Q (z2E (z6F nm (row rows i)))
section
variable (P:Program) (w:World) (K:PySem.W.Frag) (mg:Str→Option Value) (base:Heap) (CX:CXT) (k:Nat)
def z7O:Sp:=fun vs H Q _=>∃ (f:Addr) (n:Nat) (rows:List Row) (nm:Int→Int),vs=[.int (nm 0),.ref f]∧(∀ x y,nm x=nm y→x=y)∧z5k P w K mg base CX k H f (zcL K rows nm)∧z0n n rows∧n≤60∧∀ (r:Addr) (H':Hp),z0h H H'→z3X K H' r (z0S rows)→Q (.ref r) H'
def z61 (Ct:Addr):Sp:=fun vs H Q E=>∃ (f:Addr) (n:Nat) (rows:List Row) (nm:Int→Int),vs=[.int (nm 0),.ref f]∧(∀ x y,nm x=nm y→x=y)∧z5k P w K mg base CX k H f (zcL K rows nm)∧z0n n rows∧n≤60 ∧
 ((shr rows).length≤60→z4I K H Q (D.tup (z0m (shr rows))))∧(60 < (shr rows).length→TMx Ct E H)
end
def zbt (Ts:List Tb) (K:PySem.W.Frag) (H:Hp) (Q:VK) (d:D):Prop:=∀ v H',z1S Ts H H'→Dr K H' d v→Q v H'
def zh6 (Ts:List Tb) (Ct:Addr) (E:XK) (H:Hp):Prop:=∀ (ea:Addr) (H':Hp),z1S Ts H H'→E (.ref ea) (some Ct) H'
def z8W (Ts:List Tb) (K:PySem.W.Frag):Sp:=fun vs H Q _=>∃ (a:Addr) (ns:List Int),vs=[.ref a]∧SqL K H a (ns.map V.int)∧ns.length≤63∧z4s Ts H∧∀ H',Q (.bl true) H'
theorem z4s.mono {Ts:List Tb} {H H':Hp} (h:z4s Ts H) (s:z0h H H'):z4s Ts H':=(z0h.l s).tabs h
def z9T:List Stmt→Pos
 | [.Return (some (.Call _ [_,.Lambda _ _ _ p] _ _)) _]=>p
 | _::r=>z9T r
 | []=>⟨0,0,0,0⟩
end Gu
namespace L2
open PySem PySem.Spec PyProof.Rows
theorem z5k.lam {CX:CXT} {P:Program} {w:World} {K:PySem.W.Frag} {mg:Str→Option Value} {base:Heap} {k:Nat} {H:Hp} {f:Addr} {params:Arguments} {body:Expr} {scope:Scope} {qual:Str} {N ps:List Str} {fv:St} {sp:List V→Hp→VK→Prop} (C:z7X H f params body scope qual N fv) (S:zgb N ps scope)
  (hbind:∀ (cl:List (Str × Addr)) (pm cdv ct:Value) (us:List Value),us.length=ps.length→bindArgs (PySem.W.kla_fn "<lambda>" qual params body scope cl pm cdv ct) ⟨us,[]⟩=pure (ps.zip us)) (hfv:fv.length=N.length)
  (len:∀ vs H Q,sp vs H Q→vs.length=ps.length)
  (hbody:∀ (H':Hp),z0h H H'→∀ (A:Around) (outer:List Env) (s:Shared) (cd:Value) (clos:List (Str × Addr)) (cs:List Addr) (vs:List V) (Q:VK),z3C k (A.deeper (PySem.W.envX qual scope s.heap.objs.size f cd clos))→NFr H' (utk H' cs)→sp vs H' Q →
   ∃ t,PE (zch P w K mg base N qual scope f cd clos A outer s (utk H' cs)) body t∧t (z7L vs fv) (utk H' cs) fun v H1=>(∀ c∈cs,H1 c=none)→Q v (rtk H' H1 cs)):z5k P w K mg base CX (k+1) H f sp:=by
 obtain ⟨clos,cs,pm,c',ctv,oc,vs',t,e1,_⟩:=id C
 refine ⟨⟨_,_,e1,rfl⟩,fun H' s' A outer s us vs Q hr e0 r hsp=>?_⟩
 exact zdK (C.mono s') S hbind hfv hr e0 r (len _ _ _ hsp) fun cd clos cs hr' hcs=>hbody H' s' A outer s cd clos cs vs Q hr' (NFr.utk hcs (z0h.refl _)) hsp
theorem z4s.over {Ts:List Tb} {H:Hp} {a:Addr} {xs:List V} {o:HO} (h:z4s Ts H) (e:H a=some (.lst xs)):z4s Ts (upd H a o):=fun T hT=>by
 have ne:∀ {b:Addr} {u:HO},H b=some u→(∀ xs,u≠.lst xs)→upd H a o b=some u:=fun {b u} q n=>by
  have:b≠a:=fun z=>by rw [z,e] at q;exact n xs (Option.some.inj q).symm
  rw [z0a this];exact q
 rcases h T hT with q | ⟨c',oc,vs,t,q1,q2,q3⟩
 ·exact .inl (ne q (fun _ z=>by cases z))
 ·exact .inr ⟨c',oc,vs,t,ne q1 (fun _ z=>by cases z),ne q2 (fun _ z=>by cases z),q3⟩
def SqS (K:PySem.W.Frag) (H:Hp) (a:Addr) (xs:List V):Prop:=SqL K H a xs∨SqT K H a xs
theorem SqS.mono {K:PySem.W.Frag} {H H':Hp} {a:Addr} {xs:List V} (h:SqS K H a xs) (s:z0h H H'):SqS K H' a xs:=by
 rcases h with h | h
 ·exact .inl (s.seq h)
 ·refine .inr ?_
  rcases h with (h | ⟨o,h⟩) | h
  ·exact .inl (.inl (s _ _ h))
  ·exact .inl (.inr ⟨o,s _ _ h⟩)
  ·exact .inr h
def zgW (K:PySem.W.Frag):R2:=fun x y H Q=>∃ p xs i v,x=.ref p∧y=.int i∧SqS K H p xs∧atI xs i=some v∧Q v H
theorem ixQ {X:Cx} (K:PySem.W.Frag) (h:X.K=K):IxR X (zgW K):=by
 subst h
 intro value slice pins s σ H x y v u Q I rx ry q hs
 obtain ⟨p,xs,i,z,e1,e2,hq,e3,q⟩:=q
 rcases hq with hq | hq
 ·exact z0X value slice pins s σ H x y v u Q I rx ry ⟨p,xs,i,z,e1,e2,hq,e3,q⟩ hs
 ·exact z1G value slice pins s σ H x y v u Q I rx ry ⟨p,xs,i,z,e1,e2,hq,e3,q⟩ hs
end L2
namespace Gu
open PySem L2
def z6q (K:PySem.W.Frag) (H:Hp) (us:List V) (rows:List Row) (nm:Int→Int):Prop:=∀ i:Int,0≤i→i < (rows.length:Int)→0≤nm i∧∃ v,us[(nm i).toNat]?=some v∧Dr K H (z2E (z6F nm (row rows i))) v
theorem z6q.mono {K:PySem.W.Frag} {H H':Hp} {us:List V} {rows:List Row} {nm:Int→Int} (h:z6q K H us rows nm) (s:z0h H H'):z6q K H' us rows nm:=fun i h0 h1=>by
 obtain ⟨a,v,e,d⟩:=h i h0 h1
 exact ⟨a,v,e,d.mono s⟩
theorem z6q.of {K:PySem.W.Frag} {H:Hp} {us:List V} {rows:List Row} (h:DrL K H (z0m rows) us):z6q K H us rows (fun i=>i):=fun i h0 h1=>by
 obtain ⟨v,ev,dv⟩:=z2J h (z4x h0 h1)
 exact ⟨h0,v,ev,by rw [zdM];exact dv⟩
section
variable {K:PySem.W.Frag} {H H':Hp} {f:Int→D} {r:Int} {nm:Int→Int}
def MkN (nm:Int→Int) (K:PySem.W.Frag) (H:Hp) (o:List Int) (f:Int→D) (kvs:List (Key × V)):Prop:=∃ vs,kvs=mk (o.map nm) vs∧DrL K H (o.map f) vs
theorem MkN.nil:MkN nm K H [] f []:=⟨[],rfl,DrL.nil⟩
theorem MkN.get (ni:∀ x y,nm x=nm y→x=y):∀ {o:List Int} {kvs:List (Key × V)},MkN nm K H o f kvs→r∈o→∃ v,z33 kvs (kN nm r)=some v∧Dr K H (f r) v
 | [],_,_,h=>by simp at h
 | b::o,_,⟨vs,rfl,d⟩,h=>by
  rw [List.map_cons] at d
  simp only [DrL] at d
  obtain ⟨v,r',rfl,d1,d2⟩:=d
  by_cases e:b=r
  ·subst e
   exact ⟨v,z2X (p:=(kN nm b,v)) rfl,d1⟩
  ·obtain ⟨v',h1,h2⟩:=MkN.get ni (o:=o) ⟨r',rfl,d2⟩ (by rcases List.mem_cons.mp h with z | z;exact absurd z.symm e;exact z)
   refine ⟨v',?_,h2⟩
   show z33 ((kN nm b,v)::mk (o.map nm) r') (kN nm r)=_
   rw [z2t (p:=(kN nm b,v)) (fun z=>e (ni _ _ (Sum.inl.inj z)))]
   exact h1
theorem MkN.no (ni:∀ x y,nm x=nm y→x=y):∀ {o:List Int} {kvs:List (Key × V)},MkN nm K H o f kvs→r∉o→z33 kvs (kN nm r)=none
 | [],_,⟨vs,rfl,d⟩,_=>rfl
 | b::o,_,⟨vs,rfl,d⟩,h=>by
  rw [List.map_cons] at d
  simp only [DrL] at d
  obtain ⟨v,r',rfl,d1,d2⟩:=d
  show z33 ((kN nm b,v)::mk (o.map nm) r') (kN nm r)=_
  rw [z2t (p:=(kN nm b,v)) (fun z=>h (by rw [ni _ _ (Sum.inl.inj z)];simp))]
  exact MkN.no ni (o:=o) ⟨r',rfl,d2⟩ (fun z=>h (List.mem_cons_of_mem _ z))
theorem MkN.len {o:List Int} {kvs:List (Key × V)} (h:MkN nm K H o f kvs):kvs.length=o.length:=by
 obtain ⟨vs,rfl,d⟩:=h
 have:=d.length
 rw [List.length_map] at this
 unfold mk
 rw [List.length_map,List.length_zip,List.length_map];lia
theorem MkN.put (ni:∀ x y,nm x=nm y→x=y) {v:V} {o:List Int} {kvs:List (Key × V)} (h:MkN nm K H o f kvs) (hr:r∉o) (h':MkN nm K H' o f kvs) (dv:Dr K H' (f r) v):MkN nm K H' (o++[r]) f (z1Y kvs (kN nm r) v):=by
 rw [z8A _ (h.no ni hr)]
 obtain ⟨vs,rfl,d⟩:=h'
 have hl:=d.length
 rw [List.length_map] at hl
 refine ⟨vs++[v],?_,by rw [List.map_append];exact DrL.append d (DrL.one dv)⟩
 unfold mk
 rw [List.map_append,List.zip_append (by rw [List.length_map];exact hl),List.map_append]
 rfl
theorem MkN.mono {o:List Int} {kvs:List (Key × V)} (h:MkN nm K H o f kvs) (s:z0h H H'):MkN nm K H' o f kvs:=by
 obtain ⟨vs,e,d⟩:=h
 exact ⟨vs,e,d.mono s⟩
theorem MkN.keyed {o:List Int} {kvs:List (Key × V)} (h:MkN nm K H o f kvs) (k:z1h H H') (hf:FK f):MkN nm K H' o f kvs:=by
 obtain ⟨vs,e,d⟩:=h
 exact ⟨vs,e,d.keyed k (hf.keyL o)⟩
end
def z4n (K:PySem.W.Frag):Sp:=fun vs H Q _=>∃ (a l m:Addr) (n:Nat) (rows:List Row) (nm:Int→Int) (us:List V) (o:List Int) (k:Int→Int) (kvs:List (Key × V)),vs=[.ref a,.ref l,.ref m]∧SqS K H a us∧z6q K H us rows nm∧(∀ x y,nm x=nm y→x=y)∧z0n n rows∧n≤60∧H l=some (.lst (o.map (nV nm)))∧H m=some (.dK kvs) ∧
 MkN nm K H o (fun r=>D.int (k r)) kvs∧z7G rows o∧(∀ r∈o,∀ g∈(row rows r).2,g∈o)∧z4I K H Q (D.tup (z0m (z1N rows k o)))
def z4z (K:PySem.W.Frag):Sp:=fun vs H Q _=>∃ (a:Addr) (n:Nat) (rows:List Row) (nm:Int→Int) (us:List V),vs=[.ref a,.int (nm 0)]∧SqS K H a us∧z6q K H us rows nm∧(∀ x y,nm x=nm y→x=y)∧z0n n rows∧n≤60∧z4I K H Q (D.tup (z0m (shr rows)))
theorem z8C {n:Nat} {rows:List Row} (G:z0n n rows):∃ h:Int→Int,h 0=0∧Mor rows (shr rows) (z0e rows) h:=by
 obtain ⟨L,cl⟩:=z0t G
 have C:=z2v G
 have R:=z2p G
 obtain ⟨h1,h2,h3⟩:=z1f (kOf rows) (z0e rows)
 obtain ⟨t,et⟩:=L.hd
 refine ⟨fun x=>((((z0E (kOf rows) (z0e rows)).map (kOf rows)).idxOf (kOf rows x):Nat):Int),?_,fun x hx=>?_⟩
 ·obtain ⟨t',et'⟩:=z6w (kOf rows) 0 t
  show ((((z0E (kOf rows) (z0e rows)).map (kOf rows)).idxOf (kOf rows 0):Nat):Int)=0
  rw [et,et',List.map_cons,List.idxOf_cons]
  simp
 ·have hy:∃ y,(z0E (kOf rows) (z0e rows))[((z0E (kOf rows) (z0e rows)).map (kOf rows)).idxOf (kOf rows x)]?=some y∧kOf rows y=kOf rows x:=by
   have hlt:=List.idxOf_lt_length_of_mem (h1 x hx)
   have hg:=List.getElem_idxOf hlt
   rw [List.length_map] at hlt
   rw [List.getElem_map] at hg
   exact ⟨_,List.getElem?_eq_getElem hlt,hg⟩
  show row (shr rows) ((((z0E (kOf rows) (z0e rows)).map (kOf rows)).idxOf (kOf rows x):Nat):Int)=_
  generalize ((z0E (kOf rows) (z0e rows)).map (kOf rows)).idxOf (kOf rows x)=j at hy ⊢
  obtain ⟨y,ey,hg⟩:=hy
  have hhd:y∈z0e rows:=h2 _ (List.mem_of_getElem? ey)
  have eb:=(R _ hhd x hx).mp hg
  have er:row (shr rows) ((j:Nat):Int)=((row rows y).1,(row rows y).2.map fun g=>((((z0E (kOf rows) (z0e rows)).map (kOf rows)).idxOf (kOf rows g):Nat):Int)):=by
   unfold row shr z1N
   have:((j:Nat):Int).toNat=j:=by lia
   rw [this,List.getD_eq_getElem?_getD,List.getElem?_map,ey]
   rfl
  rw [er]
  refine Prod.ext ?_ ?_
  ·exact congrFun eb []
  ·show List.map _ _=List.map _ _
   refine List.ext_getElem (by rw [List.length_map,List.length_map,C.len y hhd,C.len x hx]) fun i i1 i2=>?_
   rw [List.length_map] at i1 i2
   rw [List.getElem_map,List.getElem_map]
   have b1:(row rows y).2.getD i 0=(row rows y).2[i]:=by rw [List.getD_eq_getElem?_getD,List.getElem?_eq_getElem i1];rfl
   have b2:(row rows x).2.getD i 0=(row rows x).2[i]:=by rw [List.getD_eq_getElem?_getD,List.getElem?_eq_getElem i2];rfl
   have a1:=C.go hhd i
   have a2:=C.go hx i
   rw [b1] at a1
   rw [b2] at a2
   have hb:beh rows (row rows y).2[i]=beh rows (row rows x).2[i]:=by
    rw [←b1,←b2]
    exact funext fun w=>congrFun eb (i::w)
   rw [(R _ a1 _ a2).mpr hb]
theorem zel {n:Nat} {M F:List Row} {h:Int→Int} (G:z0n n M) (GF:z0n n F) (hz:h 0=0) (mo:Mor M F (z0e M) h) {x:Int} (hx:x∈z0e M):0≤h x∧h x < (F.length:Int):=by
 have hs:=GF.some
 have:=(z2W G).all (C:=fun x=>x∈z0e M∧0≤h x∧h x < (F.length:Int)) (fun x hx g hg=>?_) (fun x hx=>?_) x hx
 ·exact this.2
 ·obtain ⟨hm,x0,x1⟩:=hx
  refine ⟨(z2v G).cl x hm g hg,?_⟩
  refine GF.go _ (z0o x0 x1) (h g) ?_
  rw [mo x hm]
  exact List.mem_map.mpr ⟨g,hg,rfl⟩
 ·rw [List.mem_singleton.mp hx]
  exact ⟨(z2v G).zero,by rw [hz];lia⟩
def sw (s i:Int):Int:=if i=0 then s else if i=s then 0 else i
theorem z3f (s:Int):sw s 0=s:=if_pos rfl
theorem z4B (s:Int):sw s s=0:=by
 unfold sw
 by_cases h:s=0
 ·rw [if_pos h];exact h
 ·rw [if_neg h,if_pos rfl]
theorem z43 (s i:Int):sw s (sw s i)=i:=by
 by_cases h:i=0
 ·rw [h,z3f,z4B]
 ·by_cases h2:i=s
  ·rw [h2,z4B,z3f]
  ·have e:sw s i=i:=by unfold sw;rw [if_neg h,if_neg h2]
   rw [e,e]
theorem zeM (s:Int) (x y:Int) (e:sw s x=sw s y):x=y:=by rw [←z43 s x,e,z43]
theorem z5d {s i:Int} {L:Nat} (h0:0≤s) (h1:s < (L:Int)) (i0:0≤i) (i1:i < (L:Int)):0≤sw s i∧sw s i < (L:Int):=by
 unfold sw
 by_cases h:i=0
 ·rw [if_pos h];exact ⟨h0,h1⟩
 ·by_cases h2:i=s
  ·rw [if_neg h,if_pos h2];lia
  ·rw [if_neg h,if_neg h2];exact ⟨i0,i1⟩
theorem zeJ (i:Int):sw 0 i=i:=by
 unfold sw
 by_cases h:i=0
 ·rw [if_pos h,h]
 ·rw [if_neg h,if_neg h]
def swM (rows:List Row) (s:Int):List Row:=(z0z rows.length).map fun i=>z6F (sw s) (row rows (sw s i))
theorem z1K (rows:List Row) (s:Int):(swM rows s).length=rows.length:=by unfold swM;rw [List.length_map,z0P]
theorem z7g {L:Nat} {i:Int} (h0:0≤i) (h1:i < (L:Int)):(z0z L)[i.toNat]?=some i:=by
 unfold z0z
 rw [List.getElem?_map,List.getElem?_range (by lia)]
 show some ((i.toNat:Nat):Int)=some i
 congr 1;lia
theorem z29 {rows:List Row} {s i:Int} (h0:0≤i) (h1:i < (rows.length:Int)):row (swM rows s) i=z6F (sw s) (row rows (sw s i)):=by
 unfold row swM
 rw [List.getD_eq_getElem?_getD,List.getElem?_map,z7g h0 h1]
 rfl
theorem z6K {s:Int} (r:Row):z6F (sw s) (z6F (sw s) r)=r:=by
 unfold z6F
 rw [List.map_map]
 have:(sw s ∘ sw s)=id:=funext fun x=>z43 s x
 rw [this,List.map_id]
theorem z9k {rows:List Row} {s i:Int} (h0:0≤i) (h1:i < (rows.length:Int)):row rows (sw s i)=z6F (sw s) (row (swM rows s) i):=by
 rw [z29 h0 h1,z6K]
theorem z1s {n:Nat} {rows:List Row} {s:Int} (G:z0n n rows) (h0:0≤s) (h1:s < (rows.length:Int)):z0n n (swM rows s):=by
 have hm:∀ r∈swM rows s,∃ q∈rows,r=z6F (sw s) q:=fun r hr=>by
  unfold swM at hr
  obtain ⟨i,hi,e⟩:=List.mem_map.mp hr
  obtain ⟨i0,i1⟩:=z1t.mp hi
  obtain ⟨j0,j1⟩:=z5d h0 h1 i0 i1
  exact ⟨_,z0o j0 j1,e.symm⟩
 refine ⟨by rw [z1K];exact G.few,by rw [z1K];exact G.some,fun r hr=>?_,fun r hr=>?_,fun r hr g hg=>?_⟩
 ·obtain ⟨q,hq,rfl⟩:=hm r hr
  exact G.perm q hq
 ·obtain ⟨q,hq,rfl⟩:=hm r hr
  show (q.2.map _).length=n
  rw [List.length_map];exact G.len q hq
 ·obtain ⟨q,hq,rfl⟩:=hm r hr
  obtain ⟨y,hy,rfl⟩:=List.mem_map.mp hg
  obtain ⟨y0,y1⟩:=G.go q hq y hy
  rw [z1K]
  exact z5d h0 h1 y0 y1
theorem z9Z {K:PySem.W.Frag} {H:Hp} {us:List V} {rows:List Row} {s:Int} (h0:0≤s) (h1:s < (rows.length:Int)) (h:DrL K H (z0m rows) us):z6q K H us (swM rows s) (sw s):=fun i i0 i1=>by
 rw [z1K] at i1
 obtain ⟨j0,j1⟩:=z5d h0 h1 i0 i1
 obtain ⟨v,ev,dv⟩:=z2J h (z4x j0 j1)
 refine ⟨j0,v,ev,?_⟩
 rw [z29 i0 i1,z6K]
 exact dv
theorem z8F {n:Nat} {rows:List Row} (G:z0n n rows):shr (swM rows 0)=shr rows:=by
 have h1:=G.some
 have G':=z1s (s:=0) G (by lia) (by lia)
 refine z68 (h:=fun x=>x) G' G rfl fun x hx=>?_
 obtain ⟨x0,x1⟩:=(z0t G').1.rg x hx
 rw [z1K] at x1
 have e:=z9k (s:=0) x0 x1
 rw [zeJ] at e
 rw [e]
 unfold z6F
 have:(sw 0)=fun x=>x:=funext zeJ
 rw [this]
def goW (M:List Row):Int→List Int→Int
 | x,[]=>x
 | x,l::w=>goW M ((row M x).2.getD l.toNat 0) w
theorem z1z (M:List Row):∀ (w w':List Int) (x:Int),goW M x (w++w')=goW M (goW M x w) w'
 | [],_,_=>rfl
 | l::w,w',x=>z1z M w w' _
def LW (n:Nat) (w:List Int):Prop:=∀ l∈w,0≤l∧l < (n:Int)
theorem LW.tail {n:Nat} {l:Int} {w:List Int} (h:LW n (l::w)):LW n w:=fun x hx=>h x (List.mem_cons_of_mem _ hx)
theorem LW.app {n:Nat} {w w':List Int} (h:LW n w) (h':LW n w'):LW n (w++w'):=fun x hx=>(List.mem_append.mp hx).elim (h x) (h' x)
theorem z4R {n:Nat} {M:List Row} {C:Int→Prop} (hl:∀ x,C x→(row M x).2.length=n) (hc:∀ x,C x→∀ g∈(row M x).2,C g):∀ (w:List Int) (x:Int),LW n w→C x→C (goW M x w)
 | [],_,_,h=>h
 | l::w,x,hw,h=>by
  obtain ⟨l0,l1⟩:=hw l List.mem_cons_self
  have hi:l.toNat < (row M x).2.length:=by rw [hl x h];lia
  refine z4R hl hc w _ hw.tail ?_
  rw [List.getD_eq_getElem?_getD,List.getElem?_eq_getElem hi]
  exact hc x h _ (List.getElem_mem hi)
theorem z5b {n:Nat} {M' M:List Row} {h:Int→Int} {C:Int→Prop} (hl:∀ x,C x→(row M' x).2.length=n) (hc:∀ x,C x→∀ g∈(row M' x).2,C g) (mo:∀ x,C x→row M (h x)=z6F h (row M' x)):∀ (w:List Int) (x:Int),LW n w→C x→goW M (h x) w=h (goW M' x w)
 | [],_,_,_=>rfl
 | l::w,x,hw,hx=>by
  obtain ⟨l0,l1⟩:=hw l List.mem_cons_self
  have hi:l.toNat < (row M' x).2.length:=by rw [hl x hx];lia
  have e:(row M (h x)).2.getD l.toNat 0=h ((row M' x).2.getD l.toNat 0):=by
   rw [mo x hx]
   show ((row M' x).2.map h).getD l.toNat 0=_
   rw [List.getD_eq_getElem?_getD,List.getD_eq_getElem?_getD,List.getElem?_map,List.getElem?_eq_getElem hi]
   rfl
  show goW M ((row M (h x)).2.getD l.toNat 0) w=h (goW M' ((row M' x).2.getD l.toNat 0) w)
  rw [e]
  refine z5b hl hc mo w _ hw.tail ?_
  rw [List.getD_eq_getElem?_getD,List.getElem?_eq_getElem hi]
  exact hc x hx _ (List.getElem_mem hi)
theorem z1F {n:Nat} {M:List Row} (G:z0n n M) {w:List Int} {x:Int} (hw:LW n w) (h0:0≤x) (h1:x < (M.length:Int)):0≤goW M x w∧goW M x w < (M.length:Int) :=
 z4R (n:=n) (C:=fun x=>0≤x∧x < (M.length:Int)) (fun x hx=>G.len _ (z0o hx.1 hx.2)) (fun x hx=>G.go _ (z0o hx.1 hx.2)) w x hw ⟨h0,h1⟩
theorem z9C {n:Nat} {M:List Row} {s:Int} {w:List Int} (G:z0n n M) (h0:0≤s) (h1:s < (M.length:Int)) (hw:LW n w) :
  shr (swM (shr (swM M s)) (goW (shr (swM M s)) 0 w))=shr (swM M (goW M s w)):=by
 have G1:=z1s G h0 h1
 have GF:=z2s G1
 obtain ⟨h,hz,mo⟩:=z8C G1
 have C1:=z2v G1
 have L1:=(z0t G1).1
 have hF:0 < (shr (swM M s)).length:=GF.some
 obtain ⟨t0,t1⟩:=z1F GF hw (Int.le_refl 0) (by lia)
 obtain ⟨u0,u1⟩:=z1F G hw h0 h1
 have e1:goW (shr (swM M s)) 0 w=h (goW (swM M s) 0 w):=by
  have:=z5b (n:=n) (M':=swM M s) (M:=shr (swM M s)) (h:=h) (C:=fun x=>x∈z0e (swM M s)) (fun x hx=>C1.len x hx) (fun x hx=>C1.cl x hx) (fun x hx=>mo x hx) w 0 hw C1.zero
  rw [hz] at this
  exact this
 have e2:goW M s w=sw s (goW (swM M s) 0 w):=by
  have:=z5b (n:=n) (M':=swM M s) (M:=M) (h:=sw s) (C:=fun x=>0≤x∧x < ((swM M s).length:Int)) (fun x hx=>G1.len _ (z0o hx.1 hx.2)) (fun x hx=>G1.go _ (z0o hx.1 hx.2)) (fun x hx=>z9k hx.1 (by have:=hx.2;rw [z1K] at this;exact this)) w 0 hw ⟨Int.le_refl 0,by rw [z1K];lia⟩
  rw [z3f] at this
  exact this
 have c1:goW (swM M s) 0 w∈z0e (swM M s):=z4R (n:=n) (C:=fun x=>x∈z0e (swM M s)) (fun x hx=>C1.len x hx) (fun x hx=>C1.cl x hx) w 0 hw C1.zero
 generalize goW (shr (swM M s)) 0 w=t at *
 generalize goW M s w=u at *
 generalize goW (swM M s) 0 w=v at *
 have G2:=z1s G u0 u1
 have GN:=z1s GF t0 t1
 have L2':=(z0t G2).1
 have hC:∀ x∈z0e (swM M u),sw s (sw u x)∈z0e (swM M s):=by
  have:=(z2W G2).all (C:=fun x=>0≤x∧x < (M.length:Int)∧sw s (sw u x)∈z0e (swM M s)) (fun x hx g hg=>?_) (fun x hx=>?_)
  ·exact fun x hx=>(this x hx).2.2
  ·obtain ⟨x0,x1,xm⟩:=hx
   have gr:=G2.go _ (z0o x0 (by rw [z1K];exact x1)) g hg
   rw [z1K] at gr
   refine ⟨gr.1,gr.2,?_⟩
   rw [z29 x0 x1] at hg
   obtain ⟨y,hy,rfl⟩:=List.mem_map.mp hg
   rw [z43]
   obtain ⟨j0,j1⟩:=z5d u0 u1 x0 x1
   obtain ⟨k0,k1⟩:=z5d h0 h1 j0 j1
   refine C1.cl _ xm _ ?_
   rw [z29 k0 k1,z43]
   exact List.mem_map.mpr ⟨y,hy,rfl⟩
  ·rw [List.mem_singleton.mp hx]
   have:=G.some
   refine ⟨Int.le_refl 0,by lia,?_⟩
   rw [z3f,e2,z43]
   exact c1
 refine (z68 (M':=swM M u) (M:=swM (shr (swM M s)) t) (h:=fun x=>sw t (h (sw s (sw u x)))) G2 GN ?_ fun x hx=>?_).symm
 ·show sw t (h (sw s (sw u 0)))=0
  rw [z3f,e2,z43,←e1,z4B]
 ·have xm:=hC x hx
  obtain ⟨x0,x1⟩:=L2'.rg x hx
  rw [z1K] at x1
  obtain ⟨j0,j1⟩:=z5d u0 u1 x0 x1
  obtain ⟨k0,k1⟩:=z5d h0 h1 j0 j1
  have hFr:0≤h (sw s (sw u x))∧h (sw s (sw u x)) < ((shr (swM M s)).length:Int):=zel G1 GF hz mo xm
  obtain ⟨p0,p1⟩:=z5d t0 t1 hFr.1 hFr.2
  show row (swM (shr (swM M s)) t) (sw t (h (sw s (sw u x))))=_
  rw [z29 p0 p1,z43,mo _ xm,z29 k0 k1,z43,z29 x0 x1]
  unfold z6F
  simp only [List.map_map]
  refine Prod.ext rfl ?_
  show List.map _ _=List.map _ _
  refine List.map_congr_left fun y hy=>?_
  show sw t (h (sw s y))=sw t (h (sw s (sw u (sw u y))))
  rw [z43]
end Gu
namespace L2
open PySem PySem.Spec PyProof.Rows
theorem z0y.sub {P:Program} {w:World} {K:PySem.W.Frag} {mg:Str→Option Value} {base:Heap} {CX:CXT} {k:Nat} {f:Addr} {fd:FuncData} {ps:List Str} {sp sp':Sp} (h:z0y P w K mg base CX k f fd ps sp) (i:∀ vs H Q E,sp' vs H Q E→sp vs H Q E):z0y P w K mg base CX k f fd ps sp' :=
 { h with len:=fun vs H Q E q=>h.len vs H Q E (i vs H Q E q),run:=fun A outer s H args us vs Q E hr e0 b r q=>h.run A outer s H args us vs Q E hr e0 b r (i vs H Q E q) }
end L2
namespace Gu
open PySem L2
theorem z5p {K:PySem.W.Frag} (vs:List V) (H:Hp) (Q:VK) (E:XK) (h:z6z K vs H Q E):z4z K vs H Q E:=by
 obtain ⟨a,n,rows,rfl,⟨us,ea,da⟩,GM,hn,q⟩:=h
 exact ⟨a,n,rows,fun i=>i,us,rfl,.inl (SqL.of ea),z6q.of da,fun _ _ e=>e,GM,hn,q⟩
instance LW.dec (n:Nat) (w:List Int):Decidable (LW n w):=by unfold LW;infer_instance
def z3A (K:PySem.W.Frag) (Ct:Addr):Sp:=fun vs H Q E=>∃ (n:Nat) (u:V) (w:List Int),vs=[.int n,u]∧Dr K H (D.its w) u∧w.length≤5000∧(LW n w→∀ H',z0h H H'→Q .non H')∧(¬ LW n w→TMx Ct E H)
def z6t (Ts:List Tb) (K:PySem.W.Frag) (Ct:Addr):Sp:=fun vs H Q E=>∃ (v u:V) (rows:List Row) (n:Nat) (w:List Int),vs=[v,u]∧z4s Ts H∧Dr K H (D.tup (z0m rows)) v∧Dr K H (D.its w) u∧z0n n rows∧n≤60∧rows.length≤60∧w.length≤4900 ∧
 (LW n w→zbt Ts K H Q (D.tup (z0m (shr (swM rows (goW rows 0 w))))))∧(¬ LW n w→zh6 Ts Ct E H)
def z8g (K:PySem.W.Frag):Sp:=fun vs H Q _=>∃ (n:Nat) (c:Int) (m:Nat),vs=[.int n,.int c,.int m]∧2≤n∧n≤5∧m≤100∧∀ (v:V) (H':Hp) (w:List Int),z0h H H'→Dr K H' (D.its w) v→LW n w→w.length≤m→Q v H'
def hds:Nat→List (List Row)→List Int
 | _,[]=>[]
 | o,g::gs=>(o:Int)::hds (o+g.length) gs
theorem zaA:∀ gs:List (List Row),D.keyL (gs.map fun g=>D.tup (z0m g))
 | []=>by simp only [List.map_nil,D.keyL]
 | g::gs=>by simp only [List.map_cons,D.keyL,D.key];exact ⟨z2u g,zaA gs⟩
theorem z1S.over {Ts:List Tb} {H H':Hp} {l:Addr} {xs:List V} {o:HO} (s:z1S Ts H H') (h:H l=none) (e:H' l=some (.lst xs)):z1S Ts H (upd H' l o) :=
 ⟨fun b u n q=>by rw [z0a (z0g q h)];exact s.at_ b u n q,fun t=>z4s.over (s.tabs t) e⟩
end Gu
namespace L2
open PySem PySem.Spec PyProof.Rows
section
variable {X:Cx} {K:PySem.W.Frag} {k v:Expr} {tk tv:TE} {pos:Pos}
end
end L2
namespace L2
open PySem PySem.Spec PyProof.Rows
section
variable {prog:Program} {w:World} {A:Around} {E:Value→Shared→Prop} {s:Shared} {z TI TO i1 i2:Addr} {fp1 fp2:List Addr} {n1 n2:Nat} {P1 P2:Nat→Value→Prop} {S1 S2:Nat→Heap→Prop}
end
end L2
namespace L2
open PySem PySem.Spec PyProof.Rows
section
variable {prog:Program} {w:World} {A:Around} {E:Value→Shared→Prop} {s:Shared}
end
section
variable {X:Cx} {elts:List Expr} {tk:Nat} {tp:Pos}
end
end L2
namespace Gu
open PySem L2
section
variable (P:Program) (w:World) (K:PySem.W.Frag) (mg:Str→Option Value) (base:Heap) (CX:CXT) (k:Nat)
end
end Gu
namespace Gu
open PySem L2
theorem zct {n:Nat} {M:List Row} (G:z0n n M) (h:∀ x∈z0e M,(row M x).1=z0z n):shr M=[(z0z n,List.replicate n 0)]:=by
 have GS:z0n n [(z0z n,List.replicate n (0:Int))]:=⟨by simp,by simp,fun r hr=>by rw [List.mem_singleton.mp hr];exact z6m n,fun r hr=>by rw [List.mem_singleton.mp hr];simp,fun r hr g hg=>by
  rw [List.mem_singleton.mp hr] at hg
  have:=(List.mem_replicate.mp (show g∈List.replicate n (0:Int) from hg)).2
  rw [this];simp⟩
 have e:=z68 (M':=M) (M:=[(z0z n,List.replicate n (0:Int))]) (h:=fun _=>0) G GS rfl fun x hx=>?_
 ·rw [e,←z4o GS]
  exact z9u GS fun r hr=>by rw [List.mem_singleton.mp hr]
 ·obtain ⟨x0,x1⟩:=(z0t G).1.rg x hx
  show (z0z n,List.replicate n (0:Int))=_
  rw [h x hx]
  refine Prod.ext rfl ?_
  show List.replicate n (0:Int)=(row M x).2.map fun _=>0
  rw [List.map_const',G.len _ (z0o x0 x1)]
theorem z52 {r:List Int} {s i:Nat} (h:i < s):(r.take s).getD i 0=r.getD i 0:=by
 rw [List.getD_eq_getElem?_getD,List.getElem?_take,if_pos h,←List.getD_eq_getElem?_getD]
theorem zaT {r:List Int} {s:Nat} (hs:0 < s) (hle:s≤r.length) (hd:s ∣ r.length):(List.replicate (r.length / s) (r.take s)).flatten=r↔Per r s:=by
 have lt:(r.take s).length=s:=by rw [List.length_take];lia
 have e1:r.length / s*s=r.length:=Nat.div_mul_cancel hd
 have lf:(List.replicate (r.length / s) (r.take s)).flatten.length=r.length:=by rw [z6h,lt,e1]
 have g:∀ i,i < r.length→(List.replicate (r.length / s) (r.take s)).flatten.getD i 0=r.getD (i % s) 0:=fun i hi=>by
  rw [z6X _ _ _ (by rw [lt,e1];exact hi),lt,z52 (Nat.mod_lt _ hs)]
 constructor
 ·intro h
  rw [h] at g
  exact z9l hd g
 ·intro h
  refine List.ext_getElem lf fun i h1 h2=>?_
  have a:=g i h2
  rw [←z6f h hs i h2,z28 h1,z28 h2] at a
  exact a
theorem zdP {r:List Int}:Per r r.length:=⟨Nat.dvd_refl _,fun i hi=>by lia⟩
theorem zdy {α:Type} {xs:List α} {c:Nat} (h:c < xs.length):atI xs (-1 - (c:Int))=xs[xs.length - 1 - c]?:=by
 have e:ixN xs.length (-1 - (c:Int))=some (xs.length - 1 - c):=by
  unfold ixN
  rw [if_neg (by lia),if_pos (by lia)]
  congr 1
  lia
 unfold atI
 rw [e]
 rfl
theorem za7 {r:List Int} {c:Nat} (h:c < r.length):atI (r.map V.int) (-1 - (c:Int))=some (V.int (r.getD (r.length - 1 - c) 0)):=by
 rw [zdy (by rw [List.length_map];exact h),List.length_map,List.getElem?_map,List.getElem?_eq_getElem (by lia),z28 (by lia)]
 rfl
theorem z7J {b r:List Int} {s c:Nat} (hs:0 < s) (h:z5x b (r.take s) s c):z5x b r s c:=by
 have g:∀ j,(r.take s).getD (s - 1 - j % s) 0=r.getD (s - 1 - j % s) 0:=fun j=>z52 (by have:=Nat.mod_lt j hs;lia)
 exact ⟨h.le,fun j hj=>by rw [h.eq j hj,g],by have:=h.no;rw [g] at this;exact this⟩
theorem zce {r:List Int} {s c:Nat} (hs:0 < s) (hle:s≤r.length):(r.take s).drop (s - c % s)++(r.take s).take (s - c % s)=(z0z s).map fun k=>r.getD ((k - (c:Int)) % (s:Int)).toNat 0:=by
 have hm:c % s < s:=Nat.mod_lt _ hs
 have lt:(r.take s).length=s:=by rw [List.length_take];lia
 have e2:∀ i:Nat,(((i:Int) - (c:Int)) % (s:Int))=(((s - c % s+i) % s:Nat):Int):=fun i=>by
  rw [Int.natCast_emod]
  have e3:((s - c % s+i:Nat):Int)=((i:Int) - (c:Int))+(s:Int)*(((c / s:Nat):Int)+1):=by
   have:=Nat.mod_add_div c s
   have e4:(c:Int)=((c % s:Nat):Int)+(s:Int)*((c / s:Nat):Int):=by rw [←Int.natCast_mul,←Int.natCast_add,this]
   rw [Int.mul_add,Int.mul_one]
   lia
  rw [e3,Int.add_mul_emod_self_left]
 have gt:∀ i,i < s→(r.take s)[i]?=some (r.getD i 0):=fun i hi=>by rw [List.getElem?_take,if_pos hi,List.getElem?_eq_getElem (by lia),z28 (by lia)]
 have e0:∀ (k:Nat) (l:List Int),k≤s→l.length=s→(l.drop k++l.take k).length=s:=fun k l hk hl=>by rw [List.length_append,List.length_drop,List.length_take];lia
 generalize r.take s=l at *
 obtain ⟨k,hk⟩:∃ k,k=s - c % s:=⟨_,rfl⟩
 have hk0:0 < k:=by lia
 have hks:k≤s:=by lia
 rw [←hk]
 refine List.ext_getElem (by rw [e0 _ _ hks lt,List.length_map,z0P]) fun i h1 h2=>?_
 have hi:i < s:=by rw [e0 _ _ hks lt] at h1;exact h1
 have e1:((z0z s).map fun k=>r.getD ((k - (c:Int)) % (s:Int)).toNat 0)[i]?=some (r.getD ((k+i) % s) 0):=by
  rw [List.getElem?_map,z1O hi]
  show some (r.getD (((i:Int) - (c:Int)) % (s:Int)).toNat 0)=_
  rw [e2 i,←hk,Int.toNat_natCast]
 have e5:(l.drop k++l.take k)[i]?=some (r.getD ((k+i) % s) 0):=by
  rw [List.getElem?_append,List.length_drop,lt]
  by_cases h:i < s - k
  ·rw [if_pos h,List.getElem?_drop,gt _ (by lia),Nat.mod_eq_of_lt (by lia)]
  ·have e6:(k+i) % s=i - (s - k):=by
    rw [show k+i=(i - (s - k))+s by lia,Nat.add_mod_right,Nat.mod_eq_of_lt (by lia)]
   rw [if_neg h,List.getElem?_take,if_pos (by lia),gt _ (by lia),e6]
 rw [List.getElem?_eq_getElem h1] at e5
 rw [List.getElem?_eq_getElem h2] at e1
 exact (Option.some.inj e5).trans (Option.some.inj e1).symm
def z6c (K:PySem.W.Frag):Sp:=fun vs H Q _=>∃ (v u:V) (b r:List Int),vs=[v,u]∧Dr K H (D.its b) v∧Dr K H (D.its r) u∧r≠[]∧∀ (c:Nat),z5x b r r.length c→Q (.int c) H
def zdG (K:PySem.W.Frag) (H:Hp) (Q:VK) (b r:List Int):Prop:=∀ (x:V) (H':Hp) (e:Row),z0h H H'→Dr K H' (z2E e) x→z84 e→(∀ i,lat e i=lat (b,r) i)→e.1.length≤b.length→e.2.length≤r.length→Q x H'
def z20 (M:List Row):Int→List Int→List Int
 | _,[]=>[]
 | x,l::w=>(row M x).1.getD l.toNat 0::z20 M ((row M x).2.getD l.toNat 0) w
theorem z17 (M:List Row):∀ (w:List Int) (x:Int),(z20 M x w).length=w.length
 | [],_=>rfl
 | _::w,x=>by show (z20 M _ w).length+1=w.length+1;rw [z17 M w]
theorem z30 (M:List Row):∀ (w w':List Int) (x:Int),z20 M x (w++w')=z20 M x w++z20 M (goW M x w) w'
 | [],_,_=>rfl
 | l::w,w',x=>by show _::z20 M _ (w++w')=_::(z20 M _ w++z20 M (goW M _ w) w');rw [z30 M w w']
theorem za8 (M:List Row) (w:List Int) (x:Int) (k:Nat):(z20 M x w).take k=z20 M x (w.take k):=by
 have e:=z30 M (w.take k) (w.drop k) x
 rw [List.take_append_drop] at e
 rw [e]
 by_cases h:k≤w.length
 ·have hl:(z20 M x (w.take k)).length=k:=by rw [z17,List.length_take];lia
  rw [List.take_append_of_le_length (by lia),List.take_of_length_le (by lia)]
 ·have:w.drop k=[]:=List.drop_eq_nil_of_le (by lia)
  rw [this]
  show (z20 M x (w.take k)++[]).take k=_
  rw [List.append_nil,List.take_of_length_le (by rw [z17,List.length_take];lia)]
def z8U (K:PySem.W.Frag) (Ct:Addr):Sp:=fun vs H Q E=>∃ (u:V) (r:List Int),vs=[u]∧Dr K H (D.its r) u∧(r≠[]→Q .non H)∧(r=[]→TMx Ct E H)
def z4Y (K:PySem.W.Frag):Sp:=fun vs H Q _=>∃ (v u:V) (rows:List Row) (n:Nat) (w:List Int) (s:Int),vs=[v,.int s,u]∧Dr K H (D.tup (z0m rows)) v∧Dr K H (D.its w) u∧z0n n rows∧n≤60∧w.length≤4900∧LW n w∧0≤s∧s < (rows.length:Int) ∧
 ∀ (r t:Addr) (H':Hp),z0h H H'→H' r=some (.tup [.ref t,.int (goW rows s w)])→H' t=some (.tup ((z20 rows s w).map V.int))→Q (.ref r) H'
def z8X (Ts:List Tb) (K:PySem.W.Frag):Sp:=fun vs H Q _=>∃ (v:V) (rows:List Row) (n:Nat) (g:Int),vs=[v,.int g]∧z4s Ts H∧Dr K H (D.tup (z0m rows)) v∧z0n n rows∧n≤60∧rows.length≤60∧0≤g∧g < (rows.length:Int)∧zbt Ts K H Q (D.tup (z0m (shr (swM rows g))))
def zaY (K:PySem.W.Frag) (Ct:Addr):Sp:=fun vs H Q E=>∃ (v u:V) (rows:List Row) (n:Nat) (w:List Int),vs=[v,u]∧Dr K H (D.tup (z0m rows)) v∧Dr K H (D.its w) u∧z0n n rows∧n≤60∧w.length≤4900∧(LW n w→∀ (t:Addr) (H':Hp),z0h H H'→H' t=some (.tup ((z20 rows 0 w).map V.int))→Q (.ref t) H')∧(¬ LW n w→TMx Ct E H)
end Gu
namespace L2
open PySem PySem.Spec PyProof.Rows
section
variable {M:Model} {A:Around} {E:Value→Shared→Prop}
variable {nm q:Str} {C N:Addr} {bs bm:List Value} {hdct:Bool} {sn:List Str} {sub:List Value} {ab:Bool} {col:Option Bool} {dd:Option Addr} {k0 k1 k2 k3 k5:Option Value} {newId:String}
variable {nm' q':Str} {C' N':Addr} {bs' bm':List Value} {hdct':Bool} {sn':List Str} {sub':List Value} {ab':Bool} {col':Option Bool} {dd':Option Addr} {k0' k1' k2' k3' k5':Option Value} {newId':String}
end
end L2
namespace Gu
open PySem L2
theorem z7v {n:Nat} {M:List Row} (G:z0n n M) {x:Int} (x0:0≤x) (x1:x < (M.length:Int)) {k:Nat} (hk:k < n):0≤(row M x).2.getD k 0∧(row M x).2.getD k 0 < (M.length:Int)∧(row M x).2.getD k 0∈(row M x).2:=by
 have hm:=z0o x0 x1
 have hl:=G.len _ hm
 rw [List.getD_eq_getElem?_getD,List.getElem?_eq_getElem (by lia)]
 have:=List.getElem_mem (show k < (row M x).2.length by lia)
 exact ⟨(G.go _ hm _ this).1,(G.go _ hm _ this).2,this⟩
def z1r (n:Nat):List Row:=[(z0z n,List.replicate n 0)]
theorem zeE {L:Nat} {k:Nat} (h:k < L):(z0z L)[k]?=some (k:Int):=by
 have:=z7g (L:=L) (i:=(k:Int)) (by lia) (by lia)
 rw [Int.toNat_natCast] at this
 exact this
theorem z8D (r q:Row) (e:z2E r=z2E q):r=q:=by
 unfold z2E at e
 injection e with e
 injection e with e1 e2
 injection e2 with e2 _
 exact Prod.ext (z4D e1) (z4D e2)
theorem z7w:∀ (X Y:List Row),z0m X=z0m Y→X=Y
 | [],[],_=>rfl
 | [],_::_,e=>by simp [z0m] at e
 | _::_,[],e=>by simp [z0m] at e
 | r::X,q::Y,e=>by
  simp only [z0m,List.map_cons,List.cons.injEq] at e
  rw [z8D r q e.1,z7w X Y e.2]
theorem z3v:∀ (X Y:List Row),D.okL (z0m X) (z0m Y)
 | [],[]=>by simp [z0m,D.okL]
 | [],_::_=>by simp [z0m,D.okL]
 | _::_,[]=>by simp [z0m,D.okL]
 | r::X,q::Y=>by
  simp only [z0m,List.map_cons,D.okL]
  refine ⟨?_,z3v X Y⟩
  unfold z2E
  simp only [D.ok,D.okL]
  exact ⟨z5Z _ _,z5Z _ _,trivial⟩
theorem za6 (X Y:List Row):D.eq (.tup (z0m X)) (.tup (z0m Y))=decide (X=Y):=by
 by_cases h:X=Y
 ·subst h
  rw [decide_eq_true rfl]
  exact D.eq_refl _
 ·rw [decide_eq_false h]
  cases e:D.eq (.tup (z0m X)) (.tup (z0m Y)) with
  | false=>rfl
  | true =>
   have:=D.eq_of e
   injection this with this
   exact absurd (z7w X Y this) h
theorem z9F (X:List Row):D.dep (.tup (z0m X))≤50:=by
 have:=z46 X
 simp only [D.dep]
 lia
end Gu
namespace L2
open PySem PySem.Spec PyProof.Rows
section
variable {X:Cx} {e st:Expr} {te ts:TE} {pos p2:Pos}
end
end L2
namespace Gu
open PySem L2
def lit (n:Int):Nat→Int→List Int
 | 0,_=>[]
 | k+1,x=>x % n::lit n k (x / n)
theorem zbu {L:Nat} {f:Nat→Int} (h:¬ ((List.range L).map f).Nodup):∃ i j,i < j∧j < L∧f i=f j:=by
 refine Classical.byContradiction fun z=>h ?_
 rw [List.nodup_iff_pairwise_ne,List.pairwise_map]
 refine List.Pairwise.imp_of_mem (R:=fun a b=>a < b) (fun {a b} ha hb hab e=>?_) List.pairwise_lt_range
 exact z ⟨a,b,hab,List.mem_range.mp hb,e⟩
theorem zg6 {α:Type} {us:List α} (h:us.length=1):∃ a,us=[a]:=by
 cases us with
 | nil=>cases h
 | cons a r =>
  cases r with
  | nil=>exact ⟨a,rfl⟩
  | cons _ _=>simp at h
theorem zgt {α:Type} {us:List α} (h:us.length=2):∃ a b,us=[a,b]:=by
 cases us with
 | nil=>cases h
 | cons a r =>
  obtain ⟨b,rfl⟩:=zg6 (show r.length=1 by simpa using h)
  exact ⟨a,b,rfl⟩
theorem zhi {α:Type} {us:List α} (h:us.length=3):∃ a b c,us=[a,b,c]:=by
 cases us with
 | nil=>cases h
 | cons a r =>
  obtain ⟨b,c,rfl⟩:=zgt (show r.length=2 by simpa using h)
  exact ⟨a,b,c,rfl⟩
section
variable (P:Program) (w:World) (K:PySem.W.Frag) (mg:Str→Option Value) (base:Heap) (CX:CXT) (k:Nat)
def zal (Cm:V→Addr→Hp→List Row→Prop):Sp:=fun vs H Q _=>∃ (f:Addr) (v0:V) (n:Nat) (rows:List Row),vs=[v0,.ref f]∧Cm v0 f H rows∧z0n n rows∧n≤60∧∀ (r:Addr) (H':Hp),z0h H H'→z3X K H' r (z0S rows)→Q (.ref r) H'
def z9h (Cm:V→Addr→Hp→List Row→Prop) (Ct:Addr):Sp:=fun vs H Q E=>∃ (f:Addr) (v0:V) (n:Nat) (rows:List Row),vs=[v0,.ref f]∧Cm v0 f H rows∧z0n n rows∧n≤60 ∧
 ((shr rows).length≤60→z4I K H Q (D.tup (z0m (shr rows))))∧(60 < (shr rows).length→TMx Ct E H)
def CmF:V→Addr→Hp→List Row→Prop:=fun v0 f H rows=>∃ nm:Int→Int,v0=.int (nm 0)∧(∀ x y,nm x=nm y→x=y)∧z5k P w K mg base CX k H f (zcL K rows nm)
end
section
variable {P:Program} {w:World} {K:PySem.W.Frag} {mg:Str→Option Value} {base:Heap} {CX:CXT} {k:Nat} {Ct:Addr}
theorem zfn (vs:List V) (H:Hp) (Q:VK) (E:XK) (h:zal K (CmF P w K mg base CX k) vs H Q E):z7O P w K mg base CX k vs H Q E:=by
 obtain ⟨f,v0,n,rows,rfl,⟨nm,rfl,ni,hV⟩,G,hn,q⟩:=h
 exact ⟨f,n,rows,nm,rfl,ni,hV,G,hn,q⟩
theorem zdV (vs:List V) (H:Hp) (Q:VK) (E:XK) (h:z61 P w K mg base CX k Ct vs H Q E):z9h K (CmF P w K mg base CX k) Ct vs H Q E:=by
 obtain ⟨f,n,rows,nm,rfl,ni,hV,G,hn,q⟩:=h
 exact ⟨f,_,n,rows,rfl,⟨nm,rfl,ni,hV⟩,G,hn,q⟩
end
end Gu
namespace L2
open PySem PySem.Spec PyProof.Rows
section
variable {prog:Program} {w:World} {A:Around} {R:Result→Shared→Prop} {s:Shared}
theorem z7Y {elt tg iter cx:Expr} {scope:Scope} {pos:Pos} {it acc:Value} {env:Env} (I:Nat→Shared→Prop)
  (z4a:∀ n s,I n s→wpAny (model prog w) A (pyNext it) (fun r s1=>match r with
   | none=>R (.ok .next) s1
   | some v=>wpAny (model prog w) A (letOwnedTupleGo tg it v) (fun _ s2=>wpAny (model prog w) A (assign tg env v) (fun _ s3=>wpAny (model prog w) A (isTrue cx env (eval cx env)) (fun ok s35 =>
     match ok with
     | true=>wpAny (model prog w) A (eval elt env) (fun x s4=>wpAny (model prog w) A (call (.builtin "list.append") [acc,x]) (fun _ s5=>∃ m,m < n∧I m s5) noE s4) noE s35
     | false=>∃ m,m < n∧I m s35) noE s3) noE s2) noE s1) noE s)
  (n:Nat) (h:I n s):codeAny (model prog w) A (.compLoop (.ListComp elt [⟨tg,iter,[cx],0⟩] scope pos) 0 it acc env) R s:=by
 have no:∀ (P:Value→Shared→Prop) (a:Value) (b:Shared),noE a b→P a b:=fun _ _ _ z=>False.elim z
 refine codeAny_loop rfl I (fun n s hI=>?_) n h
 show wpAny _ _ ((compTurn (.ListComp elt [⟨tg,iter,[cx],0⟩] scope pos) 0 it acc env).onRaise
  (fun x=>do noteFrame x env;theTreesLotGoes x)) _ _ s
 refine wpAny_noted ?_
 rw [compTurn_list]
 refine wpAny_bind (wpAny_standAt (wpAny_bind (wpAny_mono (z4a n s hI) (fun r s1 h1=>?_) (no _))))
 cases r with
 | none=>exact wpAny_pure h1
 | some v =>
  refine wpAny_bind (wpAny_mono h1 (fun _ s2 h2=>?_) (no _))
  refine wpAny_bind (wpAny_mono h2 (fun _ s3 h3=>wpAny_bind (wpAny_tests_one (wpAny_mono h3 (fun ok s35 h35=>?_) (no _)))) (no _))
  cases ok with
  | false=>exact wpAny_pure ⟨rfl,h35⟩
  | true=>exact wpAny_bind (wpAny_bind (wpAny_mono h35 (fun x s4 h4=>wpAny_bind (wpAny_mono h4 (fun _ s5 h5=>wpAny_pure (wpAny_pure ⟨rfl,h5⟩)) (no _))) (no _)))
end
def z8H (ix:List (Option Nat)) (J:It) (g:TG) (tt:TT) (te:TE) (σ:St) (l:Addr) (H0:Hp) (Qe:Hp→Prop):Prop :=
 ∃ W:Nat→Nat→List V→Hp→Prop,(∃ m,W 0 m [] H0)∧∀ i m ys H,W i m ys H→H l=some (.lst ys) →
  (J.stop i H∧Qe H)∨(J.go i H∧ys.length < sizeLine∧∃ N:List V→Hp→Prop,(∀ zs H',N zs H'→∃ m',m' < m∧W (i+1) m' zs H')∧∀ x H',J.yld i H x H'→g x (z0K ix σ) H' fun σ2 H2=>tt σ2 H2 fun b H3 =>
   match b with
   | true=>te σ2 H3 fun v H4=>H4 l=some (.lst ys)∧N (ys++[v]) (upd H4 l (.lst (ys++[v])))
   | false=>H3 l=some (.lst ys)∧N ys H3)
def zdo (ix:List (Option Nat)) (wi:TI) (g:TG) (tt:TT) (te:TE):TE:=fun σ H Q=>wi σ H fun J H1=>∀ l,H1 l=none→z8H ix J g tt te σ l (upd H1 l (.lst [])) fun H'=>Q (.ref l) H'
section
variable {X:Cx} {pins:List (Addr × Obj)} {σ:St} {H:Hp} {s:Shared} {N:List Str} {ix:List (Option Nat)} {scope:Scope} {elt iter tg cx:Expr} {pos:Pos} {g:TG} {tt:TT} {te:TE} {E:Value→Shared→Prop}
theorem z4y {it:Addr} {fp:List Addr} {tn:Nat→Heap→Prop} {J:It} {Qe:Addr→Hp→Prop} {RR:Value→Addr→Result→Shared→Prop} (hc:X.calm=true) (S:z0Z X.N X.env.scope N ix scope)
  (hg:∀ cl C ex s H,PG (z0q X N scope cl C ex s H) tg g) (ht:∀ cl C ex s H,PT (z0q X N scope cl C ex s H) cx tt) (he:∀ cl C ex s H,PE (z0q X N scope cl C ex s H) elt te)
  (I:Inv X pins σ H s) (T:zbN X.prog X.w X.K tg J fp it tn) (st:tn 0 s.heap) (hf:∀ b∈fp,z3G X pins H b)
  (hw:∀ l,H l=none→z8H ix J g tt te σ l (upd H l (.lst [])) (Qe l))
  (hRR:∀ l C s' H' m,s'.heap.Ns C m→Inv X pins σ H' s'→z3G X pins H' C→Qe l H'→RR (.ref l) C (.ok .next) s') :
  wpAny (model X.prog X.w) X.A (newList []) (fun acc s3=>wpAny (model X.prog X.w) X.A (newFunctionEnv scope X.env.globals (z0r X.env.cells scope.names []) [] X.env.qual none .none (some X.env)) (fun cenv s4 =>
   codeAny (model X.prog X.w) X.A (.compStart (.ListComp elt [⟨tg,iter,[cx],0⟩] scope pos) 0 (.ref it) acc { cenv with scope:=relabel scope X.env }) (RR acc cenv.locals) s4) E s3) E s:=by
 have hlt:∀ b∈fp,b < s.heap.objs.size:=fun b hb=>by
  obtain ⟨o,e,_⟩:=T.obj 0 s.heap st b hb
  exact Heap.lt_size e
 have hl0:H s.heap.objs.size=none:=I.fresh
 obtain ⟨W,⟨m0,w0⟩,z4a⟩:=hw s.heap.objs.size hl0
 refine wpAny_newObj_type ?_
 generalize hs3:({ s with heap:=s.heap.push { cls:=.type "list",dict:=none,data:=.seq ([]:List Value).toArray } }:Shared)=s3
 have I3:Inv X pins σ (upd H s.heap.objs.size (.lst [])) s3:=by
  rw [←hs3]
  exact I.lnew (its:=[]) (t':=s.toks) .nil (Nat.zero_le _)
 have k3:∀ b o,s.heap.get? b=some o→s3.heap.get? b=some o:=fun b o e=>by
  rw [←hs3];exact Heap.get?_push_of_some _ e
 have sz3:s3.heap.objs.size=s.heap.objs.size+1:=by rw [←hs3];exact Heap.size_push ..
 have lnfp:s.heap.objs.size∉fp:=fun hb=>Nat.lt_irrefl _ (hlt _ hb)
 have st3:tn 0 s3.heap:=T.keep 0 _ _ st fun b _ o e=>k3 b o e
 have hf3:∀ b∈fp,z3G X pins (upd H s.heap.objs.size (.lst [])) b:=fun b hb=>by
  obtain ⟨f0,f⟩:=hf b hb
  have nb:b≠s.heap.objs.size:=fun e=>lnfp (by rw [←e];exact hb)
  exact ⟨by rw [z0a nb];exact f0,f⟩
 have hlt3:∀ b∈fp,b < s3.heap.objs.size:=fun b hb=>by rw [sz3];exact Nat.lt_succ_of_lt (hlt b hb)
 clear hs3
 refine wpAny_newFunctionEnv S.nocell (by intro y hy;simp at hy) (fun h1 hn1 hb1=>?_) S.kind
 have hk1:∀ b o,s3.heap.get? b=some o→h1.get? b=some o:=fun b o e =>
  (hb1.2 b (Nat.ne_of_lt (Heap.lt_size e))).trans (Heap.get?_push_of_some _ e)
 have J0:Inv (z0q X N scope (z0r X.env.cells scope.names []) s3.heap.objs.size fp s3 (upd H s.heap.objs.size (.lst []))) [] (z0K ix σ) (upd H s.heap.objs.size (.lst [])) { s3 with heap:=h1,toks:=s3.toks+([]:List (Str × Value)).length } :=
  z4j I3 S rfl hf3 hlt3 hn1 hk1
 have st1:tn 0 h1:=T.keep 0 _ _ st3 fun b _ o e=>hk1 b o e
 have fpY:∀ {Hc:Hp},(∀ b∈fp,Hc b=none)→∀ b∈fp,z3G (z0q X N scope (z0r X.env.cells scope.names []) s3.heap.objs.size fp s3 (upd H s.heap.objs.size (.lst []))) [] Hc b:=fun {Hc} hn b hb=>by
  obtain ⟨_,f1,f2,_,f4,_⟩:=hf3 b hb
  refine ⟨hn b hb,Nat.ne_of_lt (hlt3 b hb),fun hb2=>(List.mem_cons.mp (I3.stkSub b hb2)).elim f1 f2,.inl hb,fun x c e=>f4 x c (z1m I3 S e),fun p hp=>absurd (show p∈([]:List (Addr × Obj)) from hp) (by simp)⟩
 have loop:∀ s4:Shared,s4=({ s3 with heap:=h1,toks:=s3.toks+([]:List (Str × Value)).length }:Shared)→codeAny (model X.prog X.w) X.A (.compLoop (.ListComp elt [⟨tg,iter,[cx],0⟩] scope pos) 0 (.ref it) (.ref s.heap.objs.size)
   (compEnvC scope (z0r X.env.cells scope.names []) s3.heap.objs.size X.env)) (RR (.ref s.heap.objs.size) s3.heap.objs.size) s4:=by
  intro s4 hs4
  subst hs4
  refine z7Y (fun n s'=>∃ i ys Hc,Inv (z0q X N scope (z0r X.env.cells scope.names []) s3.heap.objs.size fp s3 (upd H s.heap.objs.size (.lst []))) [] (z0K ix σ) Hc s'∧tn i s'.heap∧(∀ b∈fp,Hc b=none)∧Hc s.heap.objs.size=some (.lst ys)∧W i n ys Hc) ?_ m0 ⟨0,[],_,J0,st1,fun b hb=>(hf3 b hb).1,z03,w0⟩
  rintro n s5 ⟨i,ys,Hc,J5,st5,fr5,hl5,w5⟩
  rcases z4a i n ys Hc w5 hl5 with ⟨stop,qe⟩ | ⟨go,hz,NN,hNN,step⟩
  ·refine thn (T.done (z0q X N scope (z0r X.env.cells scope.names []) s3.heap.objs.size fp s3 (upd H s.heap.objs.size (.lst []))) rfl rfl rfl hc i [] s5 _ Hc noE J5 (fpY fr5) st5 stop) fun r s6 hz8=>?_
   obtain ⟨hr,J6⟩:=hz8
   subst hr
   have I6:Inv X pins σ Hc s6:=I3.call' (ch:=fp) J6.os J6.base J6.hok J6.bare fun b hb=>by
    obtain ⟨_,f1,f2,f3,f4,f5⟩:=hf3 b hb
    exact ⟨f3,f1,f4,f5⟩
   obtain ⟨m6,hn6,_⟩:=J6.loc
   exact hRR _ _ s6 Hc m6 hn6 I6 (I3.fpOk (Nat.le_refl _) J6.free) qe
  ·refine thn (T.item (z0q X N scope (z0r X.env.cells scope.names []) s3.heap.objs.size fp s3 (upd H s.heap.objs.size (.lst []))) rfl rfl rfl hc i [] s5 _ Hc noE J5 (fpY fr5) st5 go) fun r s6 hz8=>?_
   obtain ⟨u,hr,h6⟩:=hz8
   subst hr
   refine thn h6 fun _ s7 hz8=>?_
   obtain ⟨x,H7,J7,r7,y7,st7,fr7⟩:=hz8
   have J7':=J7.pinned (fpY fr7) (T.obj _ _ st7)
   refine thn (hg _ _ _ _ _ _ s7 _ H7 x u _ J7' r7 (step x H7 y7)) fun _ s8 hz8=>?_
   obtain ⟨σ8,H8,J8,q8⟩:=hz8
   refine thn (ht _ _ _ _ _ _ s8 σ8 H8 _ J8 q8) fun ok s85 hz8=>?_
   obtain ⟨H85,J85,q85⟩:=hz8
   cases ok with
   | false =>
    have q85':H85 s.heap.objs.size=some (.lst ys)∧NN ys H85:=q85
    obtain ⟨hl85,n85⟩:=q85'
    obtain ⟨m',hm',w9⟩:=hNN _ _ n85
    refine ⟨m',hm',i+1,ys,_,?_,T.keep _ _ _ st7 fun b hb o e=>(J85.pin (b,o) (List.mem_append_right _ (List.mem_append_right _ (z0J hb e)))).1,fun b hb=>?_,hl85,w9⟩
    ·exact z2g I3 S J85
    ·obtain ⟨o,e,d⟩:=T.obj _ _ st7 b hb
     exact (J85.pin (b,o) (List.mem_append_right _ (List.mem_append_right _ (z0J hb e)))).2.1
   | true =>
    refine z1I (he _ _ _ _ _ _ s85 σ8 H85 _ J85 q85) fun y s9 v H9 J9 r9 hz9=>?_
    obtain ⟨hl9,n9⟩:=hz9
    obtain ⟨m',hm',w9⟩:=hNN _ _ n9
    refine thn (z0L (X:=z0q X N scope (z0r X.env.cells scope.names []) s3.heap.objs.size fp s3 (upd H s.heap.objs.size (.lst []))) _ s9 σ8 H9 (.ref s.heap.objs.size) [v] (.ref s.heap.objs.size) [y]
     (fun z Hz=>z=.non∧Hz=upd H9 s.heap.objs.size (.lst (ys++[v]))) J9 rfl (.cons r9 .nil) ⟨_,ys,v,rfl,rfl,hl9,hz,rfl,rfl⟩) fun _ s10 ⟨_,H10,J10,_,_,e10⟩=>?_
    subst e10
    refine ⟨m',hm',i+1,ys++[v],_,?_,T.keep _ _ _ st7 fun b hb o e=>(J10.pin (b,o) (List.mem_append_right _ (List.mem_append_right _ (z0J hb e)))).1,fun b hb=>?_,z03,w9⟩
    ·exact z2g I3 S J10
    ·obtain ⟨o,e,d⟩:=T.obj _ _ st7 b hb
     exact (J10.pin (b,o) (List.mem_append_right _ (List.mem_append_right _ (z0J hb e)))).2.1
 exact codeAny_compStart_list (loop _ rfl) (T.self _ 0 _ _ _ st1 (loop _ rfl))
theorem z8T {wi:TI} (hc:X.calm=true) (S:z0Z X.N X.env.scope N ix scope) (hi:PI X tg iter wi)
  (hg:∀ cl C ex s H,PG (z0q X N scope cl C ex s H) tg g) (ht:∀ cl C ex s H,PT (z0q X N scope cl C ex s H) cx tt) (he:∀ cl C ex s H,PE (z0q X N scope cl C ex s H) elt te)
  (hs:∀ x,foldedSetIterable iter X.env x=pure x:=by intro _;rfl):PE X (.ListComp elt [⟨tg,iter,[cx],0⟩] scope pos) (zdo ix wi g tt te):=by
 intro pins s σ H Q I h
 rw [eval_ListComp]
 refine wpAny_comprehension_free (use:=none) rfl hs (z0U (z0H I S)) S.kind S.names (thn (hi pins s σ H _ I h) fun v s1 h1=>thn h1 fun itv s2 h2=>?_)
 obtain ⟨it,fp,tn,J,H2,e,I2,T,st2,f2,hw⟩:=h2
 subst e
 refine z4y (RR:=fun acc C=>compPost (model X.prog X.w) X.A X.xe none (EP X pins σ Q) acc C) hc S hg ht he I2 T st2 f2 hw fun l C s' H' m hn I' fC q=>⟨m,hn,fun h' hs'=>?_⟩
 obtain ⟨c0,c1,_,c3,c4,c5⟩:=fC
 exact ⟨.ref l,H',I'.turned (t':=s'.toks) (fun b o hb e=>(hs'.2 b hb).trans e) c0 c1 c3 c4 c5,rfl,q⟩
end
theorem z5o {K:PySem.W.Frag} {a l:Addr} {xs:List V} {ix:List (Option Nat)} {g:TG} {tt:TT} {te:TE} {σ:St} {H0:Hp} {Qe:Hp→Prop} (Pv:Nat→List V→Hp→Prop) (h0:Pv 0 [] H0) (hl:∀ i ys H,i≤xs.length→Pv i ys H→SqL K H a xs) (hz:xs.length≤sizeLine)
  (hn:∀ i ys H,Pv i ys H→ys.length≤i)
  (hs:∀ i x ys H,xs[i]?=some x→Pv i ys H→H l=some (.lst ys)→g x (z0K ix σ) H fun σ2 H2=>tt σ2 H2 fun b H3=>match b with
   | true=>te σ2 H3 fun v H4=>H4 l=some (.lst ys)∧Pv (i+1) (ys++[v]) (upd H4 l (.lst (ys++[v])))
   | false=>H3 l=some (.lst ys)∧Pv (i+1) ys H3)
  (hd:∀ ys H,Pv xs.length ys H→H l=some (.lst ys)→Qe H):z8H ix (Itl K a) g tt te σ l H0 Qe:=by
 refine ⟨fun i m ys H=>m=xs.length - i∧i≤xs.length∧Pv i ys H,⟨xs.length,by simp,Nat.zero_le _,h0⟩,?_⟩
 rintro i m ys H ⟨rfl,hi,p⟩ hy
 have q:=hl i ys H hi p
 by_cases hlt:i < xs.length
 ·refine .inr ⟨⟨xs,xs[i],q,by simp [hlt]⟩,Nat.lt_of_le_of_lt (hn i ys H p) (Nat.lt_of_lt_of_le hlt hz),Pv (i+1),fun zs H' r=>⟨xs.length - (i+1),by lia,rfl,hlt,r⟩,fun x H' y=>?_⟩
  obtain ⟨e,y⟩:=y
  subst e
  exact hs i x ys _ (y xs q) p hy
 ·have e:i=xs.length:=by lia
  subst e
  exact .inl ⟨⟨xs,q,Nat.le_refl _⟩,hd ys H p hy⟩
theorem z8p {lo:Int} {n:Nat} {l:Addr} {ix:List (Option Nat)} {g:TG} {tt:TT} {te:TE} {σ:St} {H0:Hp} {Qe:Hp→Prop} (Pv:Nat→List V→Hp→Prop) (h0:Pv 0 [] H0) (hz:n≤sizeLine)
  (hn:∀ i ys H,Pv i ys H→ys.length≤i)
  (hs:∀ i ys H,i < n→Pv i ys H→H l=some (.lst ys)→g (.int (lo+i)) (z0K ix σ) H fun σ2 H2=>tt σ2 H2 fun b H3=>match b with
   | true=>te σ2 H3 fun v H4=>H4 l=some (.lst ys)∧Pv (i+1) (ys++[v]) (upd H4 l (.lst (ys++[v])))
   | false=>H3 l=some (.lst ys)∧Pv (i+1) ys H3)
  (hd:∀ ys H,Pv n ys H→H l=some (.lst ys)→Qe H):z8H ix (Itr lo n) g tt te σ l H0 Qe:=by
 refine ⟨fun i m ys H=>m=n - i∧i≤n∧Pv i ys H,⟨n,by simp,Nat.zero_le _,h0⟩,?_⟩
 rintro i m ys H ⟨rfl,hi,p⟩ hy
 by_cases hlt:i < n
 ·refine .inr ⟨hlt,Nat.lt_of_le_of_lt (hn i ys H p) (Nat.lt_of_lt_of_le hlt hz),Pv (i+1),fun zs H' r=>⟨n - (i+1),by lia,rfl,hlt,r⟩,fun x H' y=>?_⟩
  obtain ⟨e,y⟩:=y
  subst e y
  exact hs i ys _ hlt p hy
 ·have e:i=n:=by lia
  subst e
  exact .inl ⟨Nat.le_refl _,hd ys H p hy⟩
end L2
namespace Gu
open PySem L2
theorem zan {K:PySem.W.Frag} {a:Addr} {xs:List V} {g:TG} {tb:TS} {D:z44} {σ:St} {H:Hp} (Pv:Nat→St→Hp→Prop) (h0:Pv 0 σ H) (hl:∀ i σ H,i≤xs.length→Pv i σ H→SqL K H a xs)
  (hs:∀ i x σ H,xs[i]?=some x→Pv i σ H→∀ Ed:z44,(∀ σ' H',Pv (i+1) σ' H'→Ed.nx σ' H')→g x σ H fun σ2 H2=>tb Ed σ2 H2) (hd:∀ σ H,Pv xs.length σ H→D.nx σ H) :
  ∃ W:Nat→Nat→St→Hp→Prop,(∃ m,W 0 m σ H)∧∀ i m σ H,W i m σ H →
   ((Itl K a).stop i H∧D.nx σ H)∨((Itl K a).go i H∧∃ N:St→Hp→Prop,(∀ σ' H',N σ' H'→∃ m',m' < m∧W (i+1) m' σ' H')∧∀ x H',(Itl K a).yld i H x H'→g x σ H' fun σ2 H2=>tb { D with nx:=N,ct:=N,bk:=D.nx } σ2 H2) :=
 zcH Pv h0 hl (fun i x σ H hx p=>hs i x σ H hx p _ fun _ _ z=>z) hd
theorem zgr {K:PySem.W.Frag} {a:Addr} {xs:List V} {g:TG} {tb:TS} {D:z44} {σ:St} {H:Hp} (Pv:Nat→St→Hp→Prop) (h0:Pv 0 σ H) (hl:∀ i σ H,i≤xs.length→Pv i σ H→SqT K H a xs)
  (hs:∀ i x σ H,xs[i]?=some x→Pv i σ H→∀ Ed:z44,(∀ σ' H',Pv (i+1) σ' H'→Ed.nx σ' H')→g x σ H fun σ2 H2=>tb Ed σ2 H2) (hd:∀ σ H,Pv xs.length σ H→D.nx σ H) :
  ∃ W:Nat→Nat→St→Hp→Prop,(∃ m,W 0 m σ H)∧∀ i m σ H,W i m σ H →
   ((Itt K a).stop i H∧D.nx σ H)∨((Itt K a).go i H∧∃ N:St→Hp→Prop,(∀ σ' H',N σ' H'→∃ m',m' < m∧W (i+1) m' σ' H')∧∀ x H',(Itt K a).yld i H x H'→g x σ H' fun σ2 H2=>tb { D with nx:=N,ct:=N,bk:=D.nx } σ2 H2) :=
 zbq Pv h0 hl (fun i x σ H hx p=>hs i x σ H hx p _ fun _ _ z=>z) hd
theorem zd1 {W:Nat→St→Hp→Prop} {m:Nat} {T:(St→Hp→Prop)→Prop} (h:∀ N:St→Hp→Prop,(∀ m' σ' H',m' < m→W m' σ' H'→N σ' H')→T N):∃ N:St→Hp→Prop,(∀ σ' H',N σ' H'→∃ m',m' < m∧W m' σ' H')∧T N :=
 ⟨fun σ' H'=>∃ m',m' < m∧W m' σ' H',fun _ _ z=>z,h _ fun m' σ' H' a b=>⟨m',a,b⟩⟩
theorem z8E {lo:Int} {n:Nat} {g:TG} {tb:TS} {D:z44} {σ:St} {H:Hp} (Pv:Nat→St→Hp→Prop) (h0:Pv 0 σ H)
  (hs:∀ i σ H,i < n→Pv i σ H→∀ Ed:z44,(∀ σ' H',Pv (i+1) σ' H'→Ed.nx σ' H')→g (.int (lo+i)) σ H fun σ2 H2=>tb Ed σ2 H2) (hd:∀ σ H,Pv n σ H→D.nx σ H) :
  ∃ W:Nat→Nat→St→Hp→Prop,(∃ m,W 0 m σ H)∧∀ i m σ H,W i m σ H →
   ((Itr lo n).stop i H∧D.nx σ H)∨((Itr lo n).go i H∧∃ N:St→Hp→Prop,(∀ σ' H',N σ' H'→∃ m',m' < m∧W (i+1) m' σ' H')∧∀ x H',(Itr lo n).yld i H x H'→g x σ H' fun σ2 H2=>tb { D with nx:=N,ct:=N,bk:=D.nx } σ2 H2) :=
 z70 Pv h0 (fun i σ H hi p=>hs i σ H hi p _ fun _ _ z=>z) hd
theorem zgT {c:TT} {tb:TS} {D:z44} {σ:St} {H:Hp} (Post:St→Hp→Prop) (h1:∀ Ed:z44,(∀ σ' H',Post σ' H'→Ed.nx σ' H')→z7y c tb Ed σ H) (h2:∀ σ' H',Post σ' H'→D.nx σ' H'):z7y c tb D σ H:=h1 D h2
theorem zgz {t1 t2:TS} {D:z44} {σ:St} {H:Hp} (Post:St→Hp→Prop) (h1:∀ Ed:z44,(∀ σ' H',Post σ' H'→Ed.nx σ' H')→t1 Ed σ H) (h2:∀ σ' H',Post σ' H'→t2 D σ' H'):zfH t1 t2 D σ H:=h1 _ h2
theorem zfi {lo:Int} {n:Nat} {g:TG} {tb:TS} {D:z44} {σ:St} {H:Hp} (Pv:Nat→St→Hp→Prop) (h0:Pv 0 σ H)
  (hs:∀ i σ H,i < n→Pv i σ H→∀ Ed:z44,(∀ σ' H',Pv (i+1) σ' H'→Ed.nx σ' H')→(∀ v H',D.rt v H'→Ed.rt v H')→g (.int (lo+i)) σ H fun σ2 H2=>tb Ed σ2 H2) (hd:∀ σ H,Pv n σ H→D.nx σ H) :
  ∃ W:Nat→Nat→St→Hp→Prop,(∃ m,W 0 m σ H)∧∀ i m σ H,W i m σ H →
   ((Itr lo n).stop i H∧D.nx σ H)∨((Itr lo n).go i H∧∃ N:St→Hp→Prop,(∀ σ' H',N σ' H'→∃ m',m' < m∧W (i+1) m' σ' H')∧∀ x H',(Itr lo n).yld i H x H'→g x σ H' fun σ2 H2=>tb { D with nx:=N,ct:=N,bk:=D.nx } σ2 H2) :=
 z70 Pv h0 (fun i σ H hi p=>hs i σ H hi p _ (fun _ _ z=>z) fun _ _ z=>z) hd
theorem zhl {K:PySem.W.Frag} {a b:Addr} {xs ys:List V} {g:TG} {tb:TS} {D:z44} {σ:St} {H:Hp} (hlen:xs.length=ys.length) (Pv:Nat→St→Hp→Prop) (h0:Pv 0 σ H) (hl:∀ i σ H,i≤xs.length→Pv i σ H→SqL K H a xs∧SqL K H b ys)
  (hs:∀ i x y p σ H,xs[i]?=some x→ys[i]?=some y→Pv i σ H→H p=none→∀ Ed:z44,(∀ σ' H',Pv (i+1) σ' H'→Ed.nx σ' H')→g (.ref p) σ (upd H p (.tup [x,y])) fun σ2 H2=>tb Ed σ2 H2) (hd:∀ σ H,Pv xs.length σ H→D.nx σ H) :
  ∃ W:Nat→Nat→St→Hp→Prop,(∃ m,W 0 m σ H)∧∀ i m σ H,W i m σ H →
   ((Itz K a b).stop i H∧D.nx σ H)∨((Itz K a b).go i H∧∃ N:St→Hp→Prop,(∀ σ' H',N σ' H'→∃ m',m' < m∧W (i+1) m' σ' H')∧∀ x H',(Itz K a b).yld i H x H'→g x σ H' fun σ2 H2=>tb { D with nx:=N,ct:=N,bk:=D.nx } σ2 H2) :=
 zeb hlen Pv h0 hl (fun i x y p σ H hx hy h hp=>hs i x y p σ H hx hy h hp _ fun _ _ z=>z) hd
end Gu
namespace L2
open PySem PySem.Spec PyProof.Rows PySem.SeqAt
section
variable {X:Cx} (K:PySem.W.Frag)
theorem zfz (hK:X.K=K) (hu:X.A.units+64 < cLine):OpR X (compareOp .NotEq) (fun x y H Q=>∃ (ds es:List D),Dr K H (.tup ds) x∧Dr K H (.tup es) y∧D.okL ds es∧D.depL ds≤50∧Q (.bl (!D.eq (.tup ds) (.tup es))) H):=by
 subst hK
 intro pins s σ H x y v u Q I rx ry h
 obtain ⟨ds,es,hx,hy,o,hd,q⟩:=h
 simp only [Dr] at hx hy
 obtain ⟨l,vs,rfl,q1,r⟩:=hx
 obtain ⟨b,us,rfl,q2,r'⟩:=hy
 cases rx
 cases ry
 obtain ⟨its,rv,pl,_⟩:=I.tuple (SqT.of q1)
 obtain ⟨itt,rv',pl',_⟩:=I.tuple (SqT.of q2)
 have R:=RcNeAt.tuples (A:=X.A) (e:=D.at_ ds es) pl pl' (by lia) (fun j h1 h2=>by
  have l1:=rv.length
  have l2:=rv'.length
  have l3:=r.length
  have l4:=r'.length
  have h1':j < its.length:=by simpa using h1
  have h2':j < itt.length:=by simpa using h2
  have e1:ds[j]?=some ds[j]:=List.getElem?_eq_getElem (by lia)
  have e2:es[j]?=some es[j]:=List.getElem?_eq_getElem (by lia)
  obtain ⟨x1,g1,d1⟩:=r.get e1
  obtain ⟨x2,g2,d2⟩:=r'.get e2
  obtain ⟨u1,k1,z5⟩:=rv.get g1
  obtain ⟨u2,k2,z6⟩:=rv'.get g2
  have z1:u1=its.toArray[j]:=by
   rw [List.getElem?_eq_getElem h1'] at k1
   have:=Option.some.inj k1
   simpa using this.symm
  have z2:u2=itt.toArray[j]:=by
   rw [List.getElem?_eq_getElem h2'] at k2
   have:=Option.some.inj k2
   simpa using this.symm
  have z3:D.at_ ds es j=D.eq ds[j] es[j]:=by unfold D.at_;rw [e1,e2]
  rw [z3,←z1,←z2]
  exact (zeq I 50 X.A.in1 (Nat.le_trans (D.depL_get e1) hd) (by show X.A.units+1+50 < cLine;lia) d1 d2 (D.okL_get o e1 e2) z5 z6).1)
 have e1:its.toArray.size=ds.length:=by rw [r.length,rv.length];simp
 have e2:itt.toArray.size=es.length:=by rw [r'.length,rv'.length];simp
 rw [e1,e2,D.all_eqL] at R
 have e3:D.eq (.tup ds) (.tup es)=D.eqL ds es:=by simp only [D.eq]
 rw [e3] at q
 exact R _ _ _ _ ⟨.bl _,H,I,rfl,q⟩
end
end L2
namespace Gu
open PySem L2
theorem zb4 {K:PySem.W.Frag} {H:Hp} {ds:List D} {v:V} (h:Dr K H (.tup ds) v):∃ a,v=.ref a:=by
 simp only [Dr] at h
 obtain ⟨a,_,e,_⟩:=h
 exact ⟨a,e⟩
def fuL:List Int→List Int→Nat
 | a::as,b::bs=>if a=b then fuL as bs+1 else 0
 | _,_=>0
def pgo (m:Nat) (R S:Row):List Int:=(List.range R.2.length).map fun k=>R.2.getD k 0*(m:Int)+S.2.getD k 0
def prM (one other:List Row):List Row:=(z0z (one.length*other.length)).map fun c=>((row one (c / (other.length:Int))).1,pgo other.length (row one (c / (other.length:Int))) (row other (c % (other.length:Int))))
def zej (w:List Int):List Int→List (List Int)→Nat→List Int→List (List Int)
 | _,ws,_,[]=>ws
 | o,ws,k,g::gs=>if g∈o then zej w o ws (k+1) gs else zej w (o++[g]) (ws++[w++[(k:Int)]]) (k+1) gs
def pb (one other:List Row):Nat→List Int→List (List Int)→Nat→Option (List Int)
 | 0,_,_,_=>none
 | f+1,o,ws,i=>match o[i]?,ws[i]? with
  | some c,some w=>if (row one (c / (other.length:Int))).1=(row other (c % (other.length:Int))).1 then pb one other f (z0d o (row (prM one other) c).2) (zej w o ws 0 (row (prM one other) c).2) (i+1)
   else some (w++[((fuL (row one (c / (other.length:Int))).1 (row other (c % (other.length:Int))).1:Nat):Int)])
  | _,_=>none
def zg9 (one other:List Row):Option (List Int):=pb one other (one.length*other.length+1) [0] [[]] 0
end Gu
namespace L2
open PySem PySem.Spec PyProof.Rows
section
variable {prog:Program} {w:World} {A:Around} {E:Value→Shared→Prop} {s:Shared} {z TI TO i1 i2:Addr} {fp1 fp2:List Addr} {n1 n2:Nat} {P1 P2:Nat→Value→Prop} {S1 S2:Nat→Heap→Prop}
end
end L2
namespace L2
open PySem PySem.Spec PyProof.Rows
section
variable {X:Cx} {elts:List Expr} {tk:Nat} {tp:Pos}
end
end L2
namespace Gu
open PySem L2
theorem z6C:∀ ws:List (List Int),D.keyL (ws.map D.its)
 | []=>by simp only [List.map_nil,D.keyL]
 | w::ws=>by simp only [List.map_cons,D.keyL];exact ⟨z2T w,z6C ws⟩
theorem its_inv {K:PySem.W.Frag} {H:Hp} {w:List Int} {v:V} (h:Dr K H (D.its w) v):∃ a,v=.ref a∧H a=some (.tup (w.map V.int)):=by
 simp only [Dr] at h
 obtain ⟨a,vs,e,s,d⟩:=h
 rw [DrL.ints_inv d] at s
 exact ⟨a,e,s⟩
theorem z3j {K:PySem.W.Frag} {H:Hp} {w:List Int} {a:Addr} (h:H a=some (.tup (w.map V.int))):Dr K H (D.its w) (.ref a):=Dr.tup h (DrL.ints _)
theorem z88 {n:Nat} {v:List Int} {k:Nat} (h:LW n v) (hk:k < n):LW n (v++[(k:Int)]):=fun x hx=>by
 rcases List.mem_append.mp hx with z | z
 ·exact h x z
 ·have:x=(k:Int):=by simpa using z
  lia
theorem z8j (M:List Row) (v:List Int) (l:Int):goW M 0 (v++[l])=(row M (goW M 0 v)).2.getD l.toNat 0:=by rw [z1z];rfl
end Gu
namespace L2
open PySem PySem.Spec PyProof.Rows
variable {X:Cx}
end L2
namespace Gu
open PySem L2
end Gu
namespace L2
open PySem PySem.Spec PyProof.Rows
section
variable {prog:Program} {w:World} {A:Around} {R:Result→Shared→Prop} {s:Shared}
theorem z7P (elt t1 i1 t2 i2:Expr) (scope:Scope) (pos:Pos) (it acc:Value) (env:Env) :
  compTurn (.ListComp elt [⟨t1,i1,[],0⟩,⟨t2,i2,[],0⟩] scope pos) 1 it acc env=(standAt i2.pos >>= fun _=>pyNext it >>= fun r=>match r with
   | none=>pure (.done .next)
   | some v=>letOwnedTupleGo t2 it v >>= fun _=>assign t2 env v >>= fun _ =>
    (eval elt env >>= fun x=>call (.builtin "list.append") [acc,x] >>= fun _=>pure ()) >>= fun _ =>
     again (.compLoop (.ListComp elt [⟨t1,i1,[],0⟩,⟨t2,i2,[],0⟩] scope pos) 1 it acc env)):=by rfl
theorem z7f (elt t1 i1 t2 i2:Expr) (scope:Scope) (pos:Pos) (it acc:Value) (env:Env) :
  compTurn (.ListComp elt [⟨t1,i1,[],0⟩,⟨t2,i2,[],0⟩] scope pos) 0 it acc env=(standAt i1.pos >>= fun _=>pyNext it >>= fun r=>match r with
   | none=>pure (.done .next)
   | some v=>letOwnedTupleGo t1 it v >>= fun _=>assign t1 env v >>= fun _ =>
    eval i2 env >>= fun x=>standAt i2.pos >>= fun _=>foldedSetIterable i2 env x >>= fun x=>holding [x] (pyIter x) >>= fun it2=>runOwn (.compStart (.ListComp elt [⟨t1,i1,[],0⟩,⟨t2,i2,[],0⟩] scope pos) 1 it2 acc env) env >>= fun _ =>
     again (.compLoop (.ListComp elt [⟨t1,i1,[],0⟩,⟨t2,i2,[],0⟩] scope pos) 0 it acc env)):=by rfl
theorem z8l {elt t1 i1 t2 i2:Expr} {scope:Scope} {pos:Pos} {it acc:Value} {env:Env} (I:Nat→Shared→Prop)
  (z4a:∀ n s,I n s→wpAny (model prog w) A (pyNext it) (fun r s1=>match r with
   | none=>R (.ok .next) s1
   | some v=>wpAny (model prog w) A (letOwnedTupleGo t2 it v) (fun _ s2=>wpAny (model prog w) A (assign t2 env v) (fun _ s3=>wpAny (model prog w) A (eval elt env) (fun x s4 =>
     wpAny (model prog w) A (call (.builtin "list.append") [acc,x]) (fun _ s5=>∃ m,m < n∧I m s5) noE s4) noE s3) noE s2) noE s1) noE s)
  (n:Nat) (h:I n s):codeAny (model prog w) A (.compLoop (.ListComp elt [⟨t1,i1,[],0⟩,⟨t2,i2,[],0⟩] scope pos) 1 it acc env) R s:=by
 have no:∀ (P:Value→Shared→Prop) (a:Value) (b:Shared),noE a b→P a b:=fun _ _ _ z=>False.elim z
 refine codeAny_loop rfl I (fun n s hI=>?_) n h
 show wpAny _ _ ((compTurn (.ListComp elt [⟨t1,i1,[],0⟩,⟨t2,i2,[],0⟩] scope pos) 1 it acc env).onRaise
  (fun x=>do noteFrame x env;theTreesLotGoes x)) _ _ s
 refine wpAny_noted ?_
 rw [z7P]
 refine wpAny_bind (wpAny_standAt (wpAny_bind (wpAny_mono (z4a n s hI) (fun r s1 h1=>?_) (no _))))
 cases r with
 | none=>exact wpAny_pure h1
 | some v =>
  refine wpAny_bind (wpAny_mono h1 (fun _ s2 h2=>?_) (no _))
  refine wpAny_bind (wpAny_mono h2 (fun _ s3 h3=>?_) (no _))
  refine wpAny_bind (wpAny_bind (wpAny_mono h3 (fun x s4 h4=>?_) (no _)))
  exact wpAny_bind (wpAny_mono h4 (fun _ s5 h5=>wpAny_pure (wpAny_pure ⟨rfl,h5⟩)) (no _))
theorem z8m {elt t1 i1 t2 i2:Expr} {scope:Scope} {pos:Pos} {it acc:Value} {env:Env} (hs:∀ x,foldedSetIterable i2 env x=pure x) (I:Nat→Shared→Prop)
  (z4a:∀ n s,I n s→wpAny (model prog w) A (pyNext it) (fun r s1=>match r with
   | none=>R (.ok .next) s1
   | some v=>wpAny (model prog w) A (letOwnedTupleGo t1 it v) (fun _ s2=>wpAny (model prog w) A (assign t1 env v) (fun _ s3=>wpAny (model prog w) A (eval i2 env) (fun x s4 =>
     wpAny (model prog w) A (pyIter x) (fun it2 s5=>∀ R':Result→Shared→Prop,(∀ s6,(∃ m,m < n∧I m s6)→R' (.ok .next) s6)→codeAny (model prog w) A (.compStart (.ListComp elt [⟨t1,i1,[],0⟩,⟨t2,i2,[],0⟩] scope pos) 1 it2 acc env) R' s5) noE s4) noE s3) noE s2) noE s1) noE s)
  (n:Nat) (h:I n s):codeAny (model prog w) A (.compLoop (.ListComp elt [⟨t1,i1,[],0⟩,⟨t2,i2,[],0⟩] scope pos) 0 it acc env) R s:=by
 have no:∀ (P:Value→Shared→Prop) (a:Value) (b:Shared),noE a b→P a b:=fun _ _ _ z=>False.elim z
 refine codeAny_loop rfl I (fun n s hI=>?_) n h
 show wpAny _ _ ((compTurn (.ListComp elt [⟨t1,i1,[],0⟩,⟨t2,i2,[],0⟩] scope pos) 0 it acc env).onRaise
  (fun x=>do noteFrame x env;theTreesLotGoes x)) _ _ s
 refine wpAny_noted ?_
 rw [z7f]
 refine wpAny_bind (wpAny_standAt (wpAny_bind (wpAny_mono (z4a n s hI) (fun r s1 h1=>?_) (no _))))
 cases r with
 | none=>exact wpAny_pure h1
 | some v =>
  refine wpAny_bind (wpAny_mono h1 (fun _ s2 h2=>?_) (no _))
  refine wpAny_bind (wpAny_mono h2 (fun _ s3 h3=>?_) (no _))
  refine wpAny_bind (wpAny_mono h3 (fun x s4 h4=>?_) (no _))
  refine wpAny_bind (wpAny_standAt ?_)
  rw [hs]
  refine wpAny_bind (wpAny_pure (wpAny_bind (wpAny_holding (wpAny_mono h4 (fun it2 s5 h5=>?_) (no _)))))
  exact wpAny_bind (wpAny_runOwn (h5 _ fun s6 h6=>wpAny_pure ⟨rfl,h6⟩))
theorem z6N {elt t1 i1 t2 i2 scope pos it acc env}
  (h0:codeAny (model prog w) A (.compLoop (.ListComp elt [⟨t1,i1,[],0⟩,⟨t2,i2,[],0⟩] scope pos) 1 it acc env) R s)
  (h:wpAny (model prog w) A (pyIter it) (fun it' s'=>codeAny (model prog w) A (.compLoop (.ListComp elt [⟨t1,i1,[],0⟩,⟨t2,i2,[],0⟩] scope pos) 1 it' acc env) R s')
   (notedBy (model prog w) A env fun x s'=>R (.error x) s') s) :
  codeAny (model prog w) A (.compStart (.ListComp elt [⟨t1,i1,[],0⟩,⟨t2,i2,[],0⟩] scope pos) 1 it acc env) R s:=by
 refine codeAny_of_tree ?_
 show wpAny _ _ ((compStart (.ListComp elt [⟨t1,i1,[],0⟩,⟨t2,i2,[],0⟩] scope pos) 1 it acc env).onRaise (fun x=>do noteFrame x env;standAt theWindowsPlace)) _ _ s
 refine wpAny_notedAt ?_
 unfold compStart
 show wpAny _ _ (ask >>= _) _ _ s
 refine wpAny_bind (wpAny_askSetting (wpAny_ite ?_))
 split
 ·first
   | exact wpAny_bind (wpAny_pure (wpAny_pure (And.intro rfl h0)))
   | exact wpAny_pure (And.intro rfl h0)
 ·refine wpAny_bind (wpAny_rule ?_)
  refine wpAny_bind (wpAny_standAt (wpAny_bind (wpAny_mono h (fun it' s' h'=>wpAny_pure (And.intro rfl h')) fun _ _ z=>z)))
end
def inW (J2:It) (g2:TG) (te:TE) (σ2:St) (l:Addr) (ys:List V) (H3:Hp) (N:List V→Hp→Prop):Prop :=
 ∃ W:Nat→Nat→List V→St→Hp→Prop,(∃ m,W 0 m ys σ2 H3)∧∀ j m zs σ3 H,W j m zs σ3 H→H l=some (.lst zs) →
  (J2.stop j H∧N zs H)∨(J2.go j H∧zs.length < sizeLine∧∃ N2:List V→St→Hp→Prop,(∀ zs' σ' H',N2 zs' σ' H'→∃ m',m' < m∧W (j+1) m' zs' σ' H')∧∀ x H',J2.yld j H x H'→g2 x σ3 H' fun σ4 H4=>te σ4 H4 fun v H5 =>
   H5 l=some (.lst zs)∧N2 (zs++[v]) σ4 (upd H5 l (.lst (zs++[v]))))
def zba (ix:List (Option Nat)) (J:It) (g:TG) (wi2:TI) (g2:TG) (te:TE) (σ:St) (l:Addr) (H0:Hp) (Qe:Hp→Prop):Prop :=
 ∃ W:Nat→Nat→List V→Hp→Prop,(∃ m,W 0 m [] H0)∧∀ i m ys H,W i m ys H→H l=some (.lst ys) →
  (J.stop i H∧Qe H)∨(J.go i H∧∃ N:List V→Hp→Prop,(∀ zs H',N zs H'→∃ m',m' < m∧W (i+1) m' zs H')∧∀ x H',J.yld i H x H'→g x (z0K ix σ) H' fun σ2 H2=>wi2 σ2 H2 fun J2 H3 =>
   H3 l=some (.lst ys)∧inW J2 g2 te σ2 l ys H3 N)
def zfx (ix:List (Option Nat)) (wi:TI) (g:TG) (wi2:TI) (g2:TG) (te:TE):TE:=fun σ H Q=>wi σ H fun J H1=>∀ l,H1 l=none→zba ix J g wi2 g2 te σ l (upd H1 l (.lst [])) fun H'=>Q (.ref l) H'
section
variable {X:Cx} {pins:List (Addr × Obj)} {σ:St} {H:Hp} {s:Shared} {N:List Str} {ix:List (Option Nat)} {scope:Scope} {elt iter tg iter2 tg2:Expr} {pos:Pos} {g g2:TG} {wi2:TI} {te:TE} {E:Value→Shared→Prop}
theorem z9p {Y:Cx} {l it2:Addr} {t1 i1:Expr} {fp2:List Addr} {tn2:Nat→Heap→Prop} {J2:It} {pins:List (Addr × Obj)} {σ2:St} {H3:Hp} {s:Shared} {ys:List V} {NN:List V→Hp→Prop} {R:Result→Shared→Prop} (hx:Y.xe=noE) (hc:Y.calm=true)
  (hg:PG Y tg2 g2) (he:PE Y elt te) (I:Inv Y pins σ2 H3 s) (T:zbN Y.prog Y.w Y.K tg2 J2 fp2 it2 tn2) (st:tn2 0 s.heap) (hf:∀ b∈fp2,z3G Y pins H3 b) (hl:H3 l=some (.lst ys)) (hw:inW J2 g2 te σ2 l ys H3 NN)
  (hR:∀ s' σ' H' zs,Inv Y pins σ' H' s'→H' l=some (.lst zs)→NN zs H'→R (.ok .next) s') :
  codeAny (model Y.prog Y.w) Y.A (.compStart (.ListComp elt [⟨t1,i1,[],0⟩,⟨tg2,iter2,[],0⟩] scope pos) 1 (.ref it2) (.ref l) Y.env) R s:=by
 obtain ⟨W,⟨m0,w0⟩,z4a⟩:=hw
 have stat:∀ {H':Hp},(∀ b∈fp2,H' b=none)→∀ b∈fp2,z3G Y pins H' b:=fun hn b hb=>⟨hn b hb,(hf b hb).2⟩
 have loop:codeAny (model Y.prog Y.w) Y.A (.compLoop (.ListComp elt [⟨t1,i1,[],0⟩,⟨tg2,iter2,[],0⟩] scope pos) 1 (.ref it2) (.ref l) Y.env) R s:=by
  refine z8l (fun n s'=>∃ j zs σ' Hc,Inv Y pins σ' Hc s'∧tn2 j s'.heap∧(∀ b∈fp2,Hc b=none)∧Hc l=some (.lst zs)∧W j n zs σ' Hc) ?_ m0 ⟨0,ys,σ2,H3,I,st,fun b hb=>(hf b hb).1,hl,w0⟩
  rintro n s5 ⟨j,zs,σ5,Hc,J5,st5,fr5,hl5,w5⟩
  rcases z4a j n zs σ5 Hc w5 hl5 with ⟨stop,qe⟩ | ⟨go,hz,N2,hN2,step⟩
  ·refine thn (T.done Y rfl rfl rfl hc j pins s5 σ5 Hc noE J5 (stat fr5) st5 stop) fun r s6 h6=>?_
   obtain ⟨hr,J6⟩:=h6
   subst hr
   exact hR s6 σ5 Hc zs J6 hl5 qe
  ·refine thn (T.item Y rfl rfl rfl hc j pins s5 σ5 Hc noE J5 (stat fr5) st5 go) fun r s6 h6=>?_
   obtain ⟨u,hr,h6⟩:=h6
   subst hr
   refine thn h6 fun _ s7 h7=>?_
   obtain ⟨x,H7,J7,r7,y7,st7,fr7⟩:=h7
   have J7':=J7.pinned (stat fr7) (T.obj _ _ st7)
   have hgY:=hg _ s7 σ5 H7 x u _ J7' r7 (step x H7 y7)
   rw [hx] at hgY
   refine thn hgY fun _ s8 h8=>?_
   obtain ⟨σ8,H8,J8,q8⟩:=h8
   have heY:=he _ s8 σ8 H8 _ J8 q8
   rw [hx] at heY
   refine thn heY fun y s9 h9=>?_
   obtain ⟨v,H9,J9,r9,hl9,n9⟩:=h9
   obtain ⟨m',hm',w9⟩:=hN2 _ _ _ n9
   have hmt:=z0L (X:=Y) _ s9 σ8 H9 (.ref l) [v] (.ref l) [y] (fun z Hz=>z=.non∧Hz=upd H9 l (.lst (zs++[v]))) J9 rfl (.cons r9 .nil) ⟨_,zs,v,rfl,rfl,hl9,hz,rfl,rfl⟩
   rw [hx] at hmt
   refine thn hmt fun _ s10 h10=>?_
   obtain ⟨_,H10,J10,_,_,e10⟩:=h10
   subst e10
   refine ⟨m',hm',j+1,zs++[v],σ8,_,J10.unpinned,T.keep _ _ _ st7 fun b hb o e=>(J10.pin (b,o) (List.mem_append_right _ (List.mem_append_right _ (z0J hb e)))).1,fun b hb=>?_,z03,w9⟩
   obtain ⟨o,e,d⟩:=T.obj _ _ st7 b hb
   exact (J10.pin (b,o) (List.mem_append_right _ (List.mem_append_right _ (z0J hb e)))).2.1
 exact z6N loop (T.self _ 0 _ _ _ st loop)
theorem z8e {it:Addr} {fp:List Addr} {tn:Nat→Heap→Prop} {J:It} {Qe:Addr→Hp→Prop} {RR:Value→Addr→Result→Shared→Prop} (hc:X.calm=true) (S:z0Z X.N X.env.scope N ix scope)
  (hg:∀ cl C ex s H,PG (z0q X N scope cl C ex s H) tg g) (hi2:∀ cl C ex s H,PI (z0q X N scope cl C ex s H) tg2 iter2 wi2) (hg2:∀ cl C ex s H,PG (z0q X N scope cl C ex s H) tg2 g2) (he:∀ cl C ex s H,PE (z0q X N scope cl C ex s H) elt te)
  (hs2:∀ env x,foldedSetIterable iter2 env x=pure x)
  (I:Inv X pins σ H s) (T:zbN X.prog X.w X.K tg J fp it tn) (st:tn 0 s.heap) (hf:∀ b∈fp,z3G X pins H b)
  (hw:∀ l,H l=none→zba ix J g wi2 g2 te σ l (upd H l (.lst [])) (Qe l))
  (hRR:∀ l C s' H' m,s'.heap.Ns C m→Inv X pins σ H' s'→z3G X pins H' C→Qe l H'→RR (.ref l) C (.ok .next) s') :
  wpAny (model X.prog X.w) X.A (newList []) (fun acc s3=>wpAny (model X.prog X.w) X.A (newFunctionEnv scope X.env.globals (z0r X.env.cells scope.names []) [] X.env.qual none .none (some X.env)) (fun cenv s4 =>
   codeAny (model X.prog X.w) X.A (.compStart (.ListComp elt [⟨tg,iter,[],0⟩,⟨tg2,iter2,[],0⟩] scope pos) 0 (.ref it) acc { cenv with scope:=relabel scope X.env }) (RR acc cenv.locals) s4) E s3) E s:=by
 have hlt:∀ b∈fp,b < s.heap.objs.size:=fun b hb=>by
  obtain ⟨o,e,_⟩:=T.obj 0 s.heap st b hb
  exact Heap.lt_size e
 have hl0:H s.heap.objs.size=none:=I.fresh
 obtain ⟨W,⟨m0,w0⟩,z4a⟩:=hw s.heap.objs.size hl0
 refine wpAny_newObj_type ?_
 generalize hs3:({ s with heap:=s.heap.push { cls:=.type "list",dict:=none,data:=.seq ([]:List Value).toArray } }:Shared)=s3
 have I3:Inv X pins σ (upd H s.heap.objs.size (.lst [])) s3:=by
  rw [←hs3]
  exact I.lnew (its:=[]) (t':=s.toks) .nil (Nat.zero_le _)
 have k3:∀ b o,s.heap.get? b=some o→s3.heap.get? b=some o:=fun b o e=>by
  rw [←hs3];exact Heap.get?_push_of_some _ e
 have sz3:s3.heap.objs.size=s.heap.objs.size+1:=by rw [←hs3];exact Heap.size_push ..
 have lnfp:s.heap.objs.size∉fp:=fun hb=>Nat.lt_irrefl _ (hlt _ hb)
 have st3:tn 0 s3.heap:=T.keep 0 _ _ st fun b _ o e=>k3 b o e
 have hf3:∀ b∈fp,z3G X pins (upd H s.heap.objs.size (.lst [])) b:=fun b hb=>by
  obtain ⟨f0,f⟩:=hf b hb
  have nb:b≠s.heap.objs.size:=fun e=>lnfp (by rw [←e];exact hb)
  exact ⟨by rw [z0a nb];exact f0,f⟩
 have hlt3:∀ b∈fp,b < s3.heap.objs.size:=fun b hb=>by rw [sz3];exact Nat.lt_succ_of_lt (hlt b hb)
 clear hs3
 refine wpAny_newFunctionEnv S.nocell (by intro y hy;simp at hy) (fun h1 hn1 hb1=>?_) S.kind
 have hk1:∀ b o,s3.heap.get? b=some o→h1.get? b=some o:=fun b o e =>
  (hb1.2 b (Nat.ne_of_lt (Heap.lt_size e))).trans (Heap.get?_push_of_some _ e)
 have J0:Inv (z0q X N scope (z0r X.env.cells scope.names []) s3.heap.objs.size fp s3 (upd H s.heap.objs.size (.lst []))) [] (z0K ix σ) (upd H s.heap.objs.size (.lst [])) { s3 with heap:=h1,toks:=s3.toks+([]:List (Str × Value)).length } :=
  z4j I3 S rfl hf3 hlt3 hn1 hk1
 have st1:tn 0 h1:=T.keep 0 _ _ st3 fun b _ o e=>hk1 b o e
 have fpY:∀ {Hc:Hp},(∀ b∈fp,Hc b=none)→∀ b∈fp,z3G (z0q X N scope (z0r X.env.cells scope.names []) s3.heap.objs.size fp s3 (upd H s.heap.objs.size (.lst []))) [] Hc b:=fun {Hc} hn b hb=>by
  obtain ⟨_,f1,f2,_,f4,_⟩:=hf3 b hb
  refine ⟨hn b hb,Nat.ne_of_lt (hlt3 b hb),fun hb2=>(List.mem_cons.mp (I3.stkSub b hb2)).elim f1 f2,.inl hb,fun x c e=>f4 x c (z1m I3 S e),fun p hp=>absurd (show p∈([]:List (Addr × Obj)) from hp) (by simp)⟩
 have loop:∀ s4:Shared,s4=({ s3 with heap:=h1,toks:=s3.toks+([]:List (Str × Value)).length }:Shared)→codeAny (model X.prog X.w) X.A (.compLoop (.ListComp elt [⟨tg,iter,[],0⟩,⟨tg2,iter2,[],0⟩] scope pos) 0 (.ref it) (.ref s.heap.objs.size)
   (compEnvC scope (z0r X.env.cells scope.names []) s3.heap.objs.size X.env)) (RR (.ref s.heap.objs.size) s3.heap.objs.size) s4:=by
  intro s4 hs4
  subst hs4
  refine z8m (hs2 _) (fun n s'=>∃ i ys Hc,Inv (z0q X N scope (z0r X.env.cells scope.names []) s3.heap.objs.size fp s3 (upd H s.heap.objs.size (.lst []))) [] (z0K ix σ) Hc s'∧tn i s'.heap∧(∀ b∈fp,Hc b=none)∧Hc s.heap.objs.size=some (.lst ys)∧W i n ys Hc) ?_ m0 ⟨0,[],_,J0,st1,fun b hb=>(hf3 b hb).1,z03,w0⟩
  rintro n s5 ⟨i,ys,Hc,J5,st5,fr5,hl5,w5⟩
  rcases z4a i n ys Hc w5 hl5 with ⟨stop,qe⟩ | ⟨go,NN,hNN,step⟩
  ·refine thn (T.done (z0q X N scope (z0r X.env.cells scope.names []) s3.heap.objs.size fp s3 (upd H s.heap.objs.size (.lst []))) rfl rfl rfl hc i [] s5 _ Hc noE J5 (fpY fr5) st5 stop) fun r s6 h6=>?_
   obtain ⟨hr,J6⟩:=h6
   subst hr
   have I6:Inv X pins σ Hc s6:=I3.call' (ch:=fp) J6.os J6.base J6.hok J6.bare fun b hb=>by
    obtain ⟨_,f1,f2,f3,f4,f5⟩:=hf3 b hb
    exact ⟨f3,f1,f4,f5⟩
   obtain ⟨m6,hn6,_⟩:=J6.loc
   exact hRR _ _ s6 Hc m6 hn6 I6 (I3.fpOk (Nat.le_refl _) J6.free) qe
  ·refine thn (T.item (z0q X N scope (z0r X.env.cells scope.names []) s3.heap.objs.size fp s3 (upd H s.heap.objs.size (.lst []))) rfl rfl rfl hc i [] s5 _ Hc noE J5 (fpY fr5) st5 go) fun r s6 h6=>?_
   obtain ⟨u,hr,h6⟩:=h6
   subst hr
   refine thn h6 fun _ s7 h7=>?_
   obtain ⟨x,H7,J7,r7,y7,st7,fr7⟩:=h7
   have J7':=J7.pinned (fpY fr7) (T.obj _ _ st7)
   refine thn (hg _ _ _ _ _ _ s7 _ H7 x u _ J7' r7 (step x H7 y7)) fun _ s8 h8=>?_
   obtain ⟨σ8,H8,J8,q8⟩:=h8
   refine thn (hi2 _ _ _ _ _ _ s8 σ8 H8 _ J8 q8) fun x2 s9 h9=>thn h9 fun it2 s10 h10=>?_
   obtain ⟨a2,fp2,tn2,J2,H10,e2,J10,T2,st10,f10,hl10,hw10⟩:=h10
   subst e2
   intro R' hR'
   refine z9p (Y:=z0q X N scope (z0r X.env.cells scope.names []) s3.heap.objs.size fp s3 (upd H s.heap.objs.size (.lst []))) rfl hc (hg2 _ _ _ _ _) (he _ _ _ _ _) J10 T2 st10 f10 hl10 hw10 fun s' σ' H' zs J' hl' n'=>hR' s' ?_
   obtain ⟨m',hm',w9⟩:=hNN _ _ n'
   refine ⟨m',hm',i+1,zs,H',z2g I3 S J',T.keep _ _ _ st7 fun b hb o e=>(J'.pin (b,o) (List.mem_append_right _ (List.mem_append_right _ (z0J hb e)))).1,fun b hb=>?_,hl',w9⟩
   obtain ⟨o,e,d⟩:=T.obj _ _ st7 b hb
   exact (J'.pin (b,o) (List.mem_append_right _ (List.mem_append_right _ (z0J hb e)))).2.1
 exact codeAny_compStart_list (loop _ rfl) (T.self _ 0 _ _ _ st1 (loop _ rfl))
theorem zcX {wi:TI} (hc:X.calm=true) (S:z0Z X.N X.env.scope N ix scope) (hi:PI X tg iter wi)
  (hg:∀ cl C ex s H,PG (z0q X N scope cl C ex s H) tg g) (hi2:∀ cl C ex s H,PI (z0q X N scope cl C ex s H) tg2 iter2 wi2) (hg2:∀ cl C ex s H,PG (z0q X N scope cl C ex s H) tg2 g2) (he:∀ cl C ex s H,PE (z0q X N scope cl C ex s H) elt te)
  (hs2:∀ env x,foldedSetIterable iter2 env x=pure x:=by intro _ _;rfl)
  (hs:∀ x,foldedSetIterable iter X.env x=pure x:=by intro _;rfl):PE X (.ListComp elt [⟨tg,iter,[],0⟩,⟨tg2,iter2,[],0⟩] scope pos) (zfx ix wi g wi2 g2 te):=by
 intro pins s σ H Q I h
 rw [eval_ListComp]
 refine wpAny_comprehension_free (use:=none) rfl hs (z0U (z0H I S)) S.kind S.names (thn (hi pins s σ H _ I h) fun v s1 h1=>thn h1 fun itv s2 h2=>?_)
 obtain ⟨it,fp,tn,J,H2,e,I2,T,st2,f2,hw⟩:=h2
 subst e
 refine z8e (RR:=fun acc C=>compPost (model X.prog X.w) X.A X.xe none (EP X pins σ Q) acc C) hc S hg hi2 hg2 he hs2 I2 T st2 f2 hw fun l C s' H' m hn I' fC q=>⟨m,hn,fun h' hs'=>?_⟩
 obtain ⟨c0,c1,_,c3,c4,c5⟩:=fC
 exact ⟨.ref l,H',I'.turned (t':=s'.toks) (fun b o hb e=>(hs'.2 b hb).trans e) c0 c1 c3 c4 c5,rfl,q⟩
end
theorem z9A {K:PySem.W.Frag} {a l:Addr} {xs:List V} {ix:List (Option Nat)} {g:TG} {wi2:TI} {g2:TG} {te:TE} {σ:St} {H0:Hp} {Qe:Hp→Prop} (Pv:Nat→List V→Hp→Prop) (h0:Pv 0 [] H0) (hl:∀ i ys H,i≤xs.length→Pv i ys H→SqL K H a xs)
  (hs:∀ i x ys H,xs[i]?=some x→Pv i ys H→H l=some (.lst ys)→g x (z0K ix σ) H fun σ2 H2=>wi2 σ2 H2 fun J2 H3=>H3 l=some (.lst ys)∧inW J2 g2 te σ2 l ys H3 (Pv (i+1)))
  (hd:∀ ys H,Pv xs.length ys H→H l=some (.lst ys)→Qe H):zba ix (Itl K a) g wi2 g2 te σ l H0 Qe:=by
 refine ⟨fun i m ys H=>m=xs.length - i∧i≤xs.length∧Pv i ys H,⟨xs.length,by simp,Nat.zero_le _,h0⟩,?_⟩
 rintro i m ys H ⟨rfl,hi,p⟩ hy
 have q:=hl i ys H hi p
 by_cases hlt:i < xs.length
 ·refine .inr ⟨⟨xs,xs[i],q,by simp [hlt]⟩,Pv (i+1),fun zs H' r=>⟨xs.length - (i+1),by lia,rfl,hlt,r⟩,fun x H' y=>?_⟩
  obtain ⟨e,y⟩:=y
  subst e
  exact hs i x ys _ (y xs q) p hy
 ·have e:i=xs.length:=by lia
  subst e
  exact .inl ⟨⟨xs,q,Nat.le_refl _⟩,hd ys H p hy⟩
theorem zf1 {K:PySem.W.Frag} {a l:Addr} {xs ys:List V} {g2:TG} {te:TE} {σ2:St} {H3:Hp} {N:List V→Hp→Prop} (Pv:Nat→List V→St→Hp→Prop) (h0:Pv 0 ys σ2 H3) (hl:∀ j zs σ H,j≤xs.length→Pv j zs σ H→SqT K H a xs) (hz:∀ j zs σ H,j≤xs.length→Pv j zs σ H→zs.length < sizeLine)
  (hs:∀ j x zs σ H,xs[j]?=some x→Pv j zs σ H→H l=some (.lst zs)→g2 x σ H fun σ4 H4=>te σ4 H4 fun v H5=>H5 l=some (.lst zs)∧Pv (j+1) (zs++[v]) σ4 (upd H5 l (.lst (zs++[v]))))
  (hd:∀ zs σ H,Pv xs.length zs σ H→H l=some (.lst zs)→N zs H):inW (Itt K a) g2 te σ2 l ys H3 N:=by
 refine ⟨fun j m zs σ H=>m=xs.length - j∧j≤xs.length∧Pv j zs σ H,⟨xs.length,by simp,Nat.zero_le _,h0⟩,?_⟩
 rintro j m zs σ H ⟨rfl,hj,p⟩ hy
 have q:=hl j zs σ H hj p
 by_cases hlt:j < xs.length
 ·refine .inr ⟨⟨xs,xs[j],q,by simp [hlt]⟩,hz j zs σ H hj p,fun zs' σ' H'=>Pv (j+1) zs' σ' H',fun zs' σ' H' r=>⟨xs.length - (j+1),by lia,rfl,hlt,r⟩,fun x H' y=>?_⟩
  obtain ⟨e,y⟩:=y
  subst e
  exact hs j x zs σ _ (y xs q) p hy
 ·have e:j=xs.length:=by lia
  subst e
  exact .inl ⟨⟨xs,q,Nat.le_refl _⟩,hd zs σ H p hy⟩
end L2
namespace Gu
open PySem L2
theorem z1J (e:Row) (m:Nat):(hdW e m).length=m:=by unfold hdW;rw [List.length_map,List.length_range]
theorem z8R (e:Row) (m:Nat):hdW e (m+1)=hdW e m++[lat e m]:=by unfold hdW;rw [List.range_succ,List.map_append];rfl
theorem zcM (e:Row) {k m:Nat} (h:k≤m):(hdW e m).take k=hdW e k:=by
 unfold hdW
 rw [←List.map_take,List.take_range,Nat.min_eq_left h]
def stS (M:List Row) (e:Row) (i:Nat):Int:=goW M 0 (hdW e i)
def oS (M:List Row) (e:Row) (i:Nat):Int:=(row M (stS M e i)).1.getD (lat e i).toNat 0
theorem z8O (M:List Row) (e:Row) (i:Nat):stS M e (i+1)=(row M (stS M e i)).2.getD (lat e i).toNat 0:=by
 unfold stS
 rw [z8R,z1z]
 rfl
theorem zc8 (M:List Row) (e:Row) (i:Nat):z20 M 0 (hdW e (i+1))=z20 M 0 (hdW e i)++[oS M e i]:=by
 rw [z8R,z30]
 rfl
theorem z8x (M:List Row) (e:Row) {i m:Nat} (h:i < m):(z20 M 0 (hdW e m)).getD i 0=oS M e i:=by
 have h1:(z20 M 0 (hdW e m)).take (i+1)=z20 M 0 (hdW e (i+1)):=by rw [za8,zcM e h]
 have h2:(z20 M 0 (hdW e m)).getD i 0=(z20 M 0 (hdW e (i+1))).getD i 0:=by rw [←h1,z52 (Nat.lt_succ_self i)]
 rw [h2,zc8,List.getD_eq_getElem?_getD,List.getElem?_append_right (by rw [z17,z1J];exact Nat.le_refl _),z17,z1J,Nat.sub_self]
 rfl
def z3D (M:List Row) (e:Row):Nat→Int
 | 0=>goW M 0 e.1
 | t+1=>goW M (z3D M e t) e.2
def z2N (M:List Row) (e:Row) (t:Nat):List (List Int):=(List.range t).map fun j=>z20 M (z3D M e j) e.2
theorem z4w (M:List Row) (e:Row) (t:Nat):z2N M e (t+1)=z2N M e t++[z20 M (z3D M e t) e.2]:=by unfold z2N;rw [List.range_succ,List.map_append];rfl
theorem zcf (M:List Row) (e:Row) (t:Nat):(z2N M e t).length=t:=by unfold z2N;rw [List.length_map,List.length_range]
theorem z2L (M:List Row) (e:Row):∀ t,(z2N M e t).flatten.length=t*e.2.length
 | 0=>by unfold z2N;simp
 | t+1=>by rw [z4w,List.flatten_append,List.length_append,z2L M e t];simp only [List.flatten_cons,List.flatten_nil,List.append_nil];rw [z17,Nat.add_mul,Nat.one_mul]
theorem z7Z (e:Row) (m i:Nat) (h:i < (hdW e m).length):(hdW e m)[i]=lat e i:=by
 have h':i < m:=by rw [z1J] at h;exact h
 have:(hdW e m)[i]?=some (lat e i):=by
  unfold hdW
  rw [List.getElem?_map,List.getElem?_range h']
  rfl
 rw [List.getElem?_eq_getElem h] at this
 exact Option.some.inj this
theorem zcd (e:Row):hdW e e.1.length=e.1:=by
 refine List.ext_getElem (z1J _ _) fun i i1 i2=>?_
 rw [z7Z,z51 i2,z28 i2]
theorem zfb {e:Row} (h:e.2≠[]) (t:Nat):hdW e (e.1.length+(t+1)*e.2.length)=hdW e (e.1.length+t*e.2.length)++e.2:=by
 have hl:0 < e.2.length:=List.length_pos_iff.mpr h
 refine List.ext_getElem (by rw [List.length_append,z1J,z1J,Nat.add_mul,Nat.one_mul];lia) fun i i1 i2=>?_
 have e1:(hdW e (e.1.length+(t+1)*e.2.length))[i]=lat e i:=z7Z _ _ _ _
 rw [e1]
 rw [z1J] at i1
 by_cases hi:i < e.1.length+t*e.2.length
 ·rw [List.getElem_append_left (by rw [z1J];exact hi)]
  rw [z7Z]
 ·rw [List.getElem_append_right (by rw [z1J];lia)]
  rw [z2S (by have:=Nat.zero_le (t*e.2.length);lia)]
  have em:(i - e.1.length) % e.2.length=i - (e.1.length+t*e.2.length):=by
   have:i - e.1.length=(i - (e.1.length+t*e.2.length))+t*e.2.length:=by lia
   rw [this,Nat.add_mul_mod_self_right,Nat.mod_eq_of_lt]
   rw [Nat.add_mul,Nat.one_mul] at i1
   lia
  rw [em]
  have hj:i - (e.1.length+t*e.2.length) < e.2.length:=by rw [Nat.add_mul,Nat.one_mul] at i1;lia
  rw [z28 hj]
  congr 1
  rw [z1J]
theorem z64 (M:List Row) {e:Row} (h:e.2≠[]):∀ t,z20 M 0 (hdW e (e.1.length+t*e.2.length))=z20 M 0 e.1++(z2N M e t).flatten∧stS M e (e.1.length+t*e.2.length)=z3D M e t
 | 0=>by
  unfold stS
  rw [Nat.zero_mul,Nat.add_zero,zcd]
  exact ⟨by unfold z2N;simp,rfl⟩
 | t+1=>by
  obtain ⟨i1,i2⟩:=z64 M h t
  unfold stS at i2 ⊢
  rw [zfb h t,z30,z1z,i1,i2,z4w,List.flatten_append]
  exact ⟨by rw [List.append_assoc];simp,rfl⟩
theorem zcV (M:List Row) {e:Row} (h:e.2≠[]) {k first:Nat} (hf:first < k) (hk:z3D M e k=z3D M e first) :
  ∀ i,lat (z20 M 0 e.1++((z2N M e k).take first).flatten,((z2N M e k).drop first).flatten) i=oS M e i:=by
 have hl:0 < e.2.length:=List.length_pos_iff.mpr h
 have htk:(z2N M e k).take first=z2N M e first:=by
  unfold z2N
  rw [←List.map_take,List.take_range,Nat.min_eq_left (Nat.le_of_lt hf)]
 have hall:(z20 M 0 e.1++((z2N M e k).take first).flatten)++((z2N M e k).drop first).flatten=z20 M 0 (hdW e (e.1.length+k*e.2.length)):=by
  rw [(z64 M h k).1,List.append_assoc,←List.flatten_append,List.take_append_drop]
 have l1:(z20 M 0 e.1++((z2N M e k).take first).flatten).length=e.1.length+first*e.2.length:=by rw [htk,List.length_append,z17,z2L]
 have l2:(z20 M 0 e.1++((z2N M e k).take first).flatten).length+((z2N M e k).drop first).flatten.length=e.1.length+k*e.2.length:=by
  rw [←List.length_append,hall,z17,z1J]
 have hmul:first*e.2.length+(k - first)*e.2.length=k*e.2.length:=by rw [←Nat.add_mul];congr 1;lia
 have l3:((z2N M e k).drop first).flatten.length=(k - first)*e.2.length:=by lia
 have hpos:0 < (k - first)*e.2.length:=Nat.mul_pos (by lia) hl
 generalize z20 M 0 e.1++((z2N M e k).take first).flatten=A at *
 generalize ((z2N M e k).drop first).flatten=B at *
 refine zd5 (fun i hi=>?_) (fun j hj=>?_) ?_ (fun z=>?_)
 ·have hi:i < A.length:=hi
  rw [←z8x M e (i:=i) (m:=e.1.length+k*e.2.length) (by lia),←hall,List.getD_eq_getElem?_getD,List.getD_eq_getElem?_getD,List.getElem?_append_left hi]
 ·have hj:j < B.length:=hj
  show B.getD j 0=oS M e (A.length+j)
  rw [←z8x M e (i:=A.length+j) (m:=e.1.length+k*e.2.length) (by lia),←hall,List.getD_eq_getElem?_getD,List.getD_eq_getElem?_getD,List.getElem?_append_right (by lia),Nat.add_sub_cancel_left]
 ·show Pd (oS M e) A.length B.length
  have pl:Pd (lat e) A.length B.length:=by
   have:=(zcZ h).mul (k - first)
   rw [Nat.mul_comm] at this
   rw [l3]
   exact this.mono (by lia)
  have ps:∀ d,stS M e (A.length+d+B.length)=stS M e (A.length+d):=by
   intro d
   induction d with
   | zero =>
    rw [Nat.add_zero,l2,l1,(z64 M h k).2,(z64 M h first).2,hk]
   | succ d ih =>
    rw [show A.length+(d+1)+B.length=(A.length+d+B.length)+1 by lia,show A.length+(d+1)=A.length+d+1 by lia,z8O,z8O,ih,pl (A.length+d) (by lia)]
  intro i hi
  unfold oS
  have:=ps (i - A.length)
  rw [show A.length+(i - A.length)=i by lia] at this
  rw [this,pl i hi]
 ·have:B=[]:=z
  rw [this] at l3
  simp at l3
  lia
theorem zeD {n:Nat} {e:Row} (h:e.2≠[]) (h1:InN n e.1) (h2:InN n e.2) (i:Nat):0≤lat e i∧lat e i < (n:Int):=by
 by_cases hi:i < e.1.length
 ·rw [z51 hi,z28 hi];exact h1 _ (List.getElem_mem hi)
 ·have hl:0 < e.2.length:=List.length_pos_iff.mpr h
  rw [z2S (by lia),z28 (Nat.mod_lt _ hl)];exact h2 _ (List.getElem_mem (Nat.mod_lt _ hl))
def z65 (K:PySem.W.Frag):Sp:=fun vs H Q _=>∃ (n:Nat) (u:V) (e:Row),vs=[.int n,u]∧Dr K H (z2E e) u∧e.2≠[]∧LW n e.1∧LW n e.2∧e.1.length≤4900∧e.2.length≤4900∧∀ H',z0h H H'→Q .non H'
def z60 (K:PySem.W.Frag):Sp:=fun vs H Q _=>∃ (a:Addr) (us:List V) (ls:List (List Int)),vs=[.ref a]∧H a=some (.lst us)∧DrL K H (ls.map D.its) us∧ls.flatten.length≤4900∧∀ (t:Addr) (H':Hp),z0h H H'→H' t=some (.tup (ls.flatten.map V.int))→Q (.ref t) H'
theorem zdE (xs:List V) (k:Nat) (h:k≤xs.length):z3h xs none (some (k:Int))=xs.take k:=by
 unfold z3h
 rw [HT.sIx_none,HT.sIx_nat,List.drop_zero,Nat.sub_zero,Nat.min_eq_left h]
theorem z7c (xs:List V) (k:Nat) (h:k≤xs.length):z3h xs (some (k:Int)) none=xs.drop k:=by
 unfold z3h
 rw [HT.sIx_none,HT.sIx_nat,Nat.min_eq_left h]
 exact List.take_of_length_le (by rw [List.length_drop];exact Nat.le_refl _)
theorem z8Q {K:PySem.W.Frag} {H:Hp}:∀ {ds:List D} {us:List V} (k:Nat),DrL K H ds us→DrL K H (ds.take k) (us.take k)
 | _,_,0,_=>by rw [List.take_zero,List.take_zero];exact DrL.nil
 | [],_,k+1,h=>by simp only [DrL] at h;subst h;exact DrL.nil
 | d::ds,_,k+1,h=>by
  simp only [DrL] at h
  obtain ⟨v,r,rfl,h1,h2⟩:=h
  rw [List.take_succ_cons,List.take_succ_cons]
  exact DrL.cons h1 (z8Q k h2)
theorem z9d {K:PySem.W.Frag} {H:Hp}:∀ {ds:List D} {us:List V} (k:Nat),DrL K H ds us→DrL K H (ds.drop k) (us.drop k)
 | _,_,0,h=>h
 | [],_,k+1,h=>by simp only [DrL] at h;subst h;exact DrL.nil
 | d::ds,_,k+1,h=>by
  simp only [DrL] at h
  obtain ⟨v,r,rfl,h1,h2⟩:=h
  rw [List.drop_succ_cons,List.drop_succ_cons]
  exact z9d k h2
end Gu
namespace L2
open PySem PySem.Spec PyProof.Rows PySem.SeqAt
section
variable {X:Cx}
end
end L2
namespace L2
open PySem PySem.Spec PyProof.Rows
open PySem.AutoSeq1 (wpAny_loadPart')
section
variable {X:Cx}
theorem zcW (l:Addr) (its:List Value) (n:Nat) (k:Int) (t:Tok) (h2:2≤k) (hk:k≤1000000) (hne:its≠[]) (hz:its.length*k.toNat≤sizeLine) :
  Meets (Builtin.«tuple.__mul__» ⟨[.ref l,.int k t],[]⟩) (fun _ R s=>s.heap.get? l=some { cls:=.type "tuple",dict:=none,data:=.seq its.toArray n,slots:=#[] } ∧
   R (.ok (.ret (.ref s.heap.objs.size))) { s with heap:=s.heap.push { cls:=.type "tuple",data:=.seq (List.replicate k.toNat its).flatten.toArray } }) :=
 .of_wp fun prog w A R s h=>by
  obtain ⟨hp,g,d,tk,os⟩:=s
  obtain ⟨hl,h⟩:=h
  have hie:its.toArray.isEmpty=false:=by cases its with | nil=>exact absurd rfl hne | cons a r=>simp
  have hcap:¬ ((its.toArray.size:Int)*k > (2 ^ 63 - 1) / 8):=by
   have h1:((its.length*k.toNat:Nat):Int)≤sizeLine:=by lia
   have h3:((its.length*k.toNat:Nat):Int)=(its.length:Int)*k:=by rw [Int.natCast_mul];congr 1;lia
   have h4:(sizeLine:Int)≤(2 ^ 63 - 1) / 8:=by rw [sizeLine_eq];decide
   simp only [List.size_toArray]
   lia
  wp_walk using wpAny_loadPart' hl
  refine wpAny_ite_split (fun hab=>absurd hab (by simp;lia)) (fun _=>?_)
  wp_walk using wpAny_loadPart' hl
  have hk1:(k == 1)=false:=by simpa using (show k≠1 by lia)
  have hk0:decide (k≤0)=false:=by simpa using (show ¬ k≤0 by lia)
  refine wpAny_ite_split (fun hab=>absurd hab (by rw [hie,hk1];decide)) (fun _=>?_)
  refine wpAny_ite_split (fun hab=>absurd hab (by rw [hie,hk0];decide)) (fun _=>?_)
  refine wpAny_ite_split (fun hab=>absurd hab hcap) (fun _=>?_)
  have htm:Builtin.Tuple.tupleTooMany ((its.toArray.size:Int)*k)=false:=by
   have h1:((its.length*k.toNat:Nat):Int)≤sizeLine:=by lia
   have h3:((its.length*k.toNat:Nat):Int)=(its.length:Int)*k:=by rw [Int.natCast_mul];congr 1;lia
   unfold Builtin.Tuple.tupleTooMany
   simp only [List.size_toArray]
   exact decide_eq_false (by lia)
  refine wpAny_ite_split (fun hab=>absurd hab (by rw [htm];decide)) (fun _=>?_)
  have hnew:List.foldl (fun x1 x2=>x1++x2) #[] (List.replicate k.toNat its.toArray)=(List.replicate k.toNat its).flatten.toArray:=by
   have q:=z3w its k.toNat []
   rw [List.nil_append] at q
   exact q
  rw [hnew]
  unfold Builtin.Tuple.tupleExact
  refine wpAny_bind (wpAny_newObj_type ?_ (by show (List.replicate k.toNat its).flatten.toArray.size≤sizeLine;rw [List.size_toArray,z3Q,Nat.mul_comm];exact hz))
  exact wpAny_pure ⟨_,rfl,h⟩
theorem zcg:OpR X (binaryOp .Mult) (fun x y H Q=>∃ (l:Addr) (k:Int) (xs:List V),x=.ref l∧y=.int k∧H l=some (.tup xs)∧xs≠[]∧2≤k∧k≤1000000∧xs.length*k.toNat≤sizeLine ∧
  ∀ p,H p=none→Q (.ref p) (upd H p (.tup (List.replicate k.toNat xs).flatten))):=by
 intro pins s σ H x y v u Q I rx ry h
 obtain ⟨l,k,xs,rfl,rfl,hH,hne,h2,hk,hz,q⟩:=h
 cases rx
 obtain ⟨t,rfl⟩:=ry
 obtain ⟨z,its,n,r,e⟩:=I.hok l _ hH
 have hl:=r.length
 have hne':its≠[]:=fun w=>by subst w;exact hne (List.length_eq_zero_iff.mp (by simpa using hl))
 refine wpAny_binaryOp_repeat_ref (T:="tuple") (U:="int") (by decide) ⟨_,e,rfl⟩ (fun s'=>typeIs_int s' k t) z24 F.fills_int_mul F.slot_int_rmul z2Z F.slot_int_index.lookup
  (call_meets F.slot_int_rmul (typeIs_int s k t) F.entry_int_rmul (F.args_int_rmul_2 _ _) (z21 k t l its.toArray n)
   ⟨e,rfl,⟨_,e,rfl⟩,call_meets F.slot_tuple_mul ⟨_,e,rfl⟩ F.entry_tuple_mul (F.args_tuple_mul_2 _ _) (zcW l its n k t h2 hk hne' (by rw [←hl];exact hz)) ⟨e,?_⟩⟩)
 exact ⟨.ref _,_,I.laid (o:=.tup (List.replicate k.toNat xs).flatten) (t':=s.toks) (fun b u q=>Heap.get?_push_of_some _ q) (Nat.le_refl _) ⟨by rw [z3Q,Nat.mul_comm];exact hz,_,0,r.rep k.toNat,Heap.get?_push_size _ rfl⟩,rfl,q _ I.fresh⟩
theorem zbr (l:Addr) (its:List Value) (n:Nat) (k:Int) (t:Tok) (h0:-1000≤k) (hk:k≤1000000) (hne:its=[]∨k=1) :
  Meets (Builtin.«tuple.__mul__» ⟨[.ref l,.int k t],[]⟩) (fun _ R s=>s.heap.get? l=some { cls:=.type "tuple",dict:=none,data:=.seq its.toArray n,slots:=#[] }∧R (.ok (.ret (.ref l))) s) :=
 .of_wp fun prog w A R s h=>by
  obtain ⟨hp,g,d,tk,os⟩:=s
  obtain ⟨hl,h⟩:=h
  have hyes:(its.toArray.isEmpty || k == 1)=true:=by
   rcases hne with e | e
   ·subst e;simp
   ·subst e;simp
  wp_walk using wpAny_loadPart' hl
  refine wpAny_ite_split (fun hab=>absurd hab (by simp;lia)) (fun _=>?_)
  wp_walk using wpAny_loadPart' hl
  exact ⟨_,rfl,h⟩
theorem zc4:OpR X (binaryOp .Mult) (fun x y H Q=>∃ (l:Addr) (k:Int) (xs:List V),x=.ref l∧y=.int k∧H l=some (.tup xs)∧-1000≤k∧k≤1000000∧xs.length*k.toNat≤sizeLine ∧
  ∀ (p:Addr) (H':Hp),z0h H H'→H' p=some (.tup (List.replicate k.toNat xs).flatten)→Q (.ref p) H'):=by
 intro pins s σ H x y v u Q I rx ry h
 obtain ⟨l,k,xs,rfl,rfl,hH,h0,hk,hz,q⟩:=h
 by_cases hs:xs≠[]∧2≤k
 ·exact zcg pins s σ H _ _ v u Q I rx ry ⟨l,k,xs,rfl,rfl,hH,hs.1,hs.2,hk,hz,fun p hp=>q p _ (Gu.same_up (z0h.refl H) hp) z03⟩
 ·cases rx
  obtain ⟨t,rfl⟩:=ry
  obtain ⟨z,its,n,r,e⟩:=I.hok l _ hH
  have hl:=r.length
  by_cases h1:its=[]∨k=1
  ·refine wpAny_binaryOp_repeat_ref (T:="tuple") (U:="int") (by decide) ⟨_,e,rfl⟩ (fun s'=>typeIs_int s' k t) z24 F.fills_int_mul F.slot_int_rmul z2Z F.slot_int_index.lookup
    (call_meets F.slot_int_rmul (typeIs_int s k t) F.entry_int_rmul (F.args_int_rmul_2 _ _) (z21 k t l its.toArray n)
     ⟨e,rfl,⟨_,e,rfl⟩,call_meets F.slot_tuple_mul ⟨_,e,rfl⟩ F.entry_tuple_mul (F.args_tuple_mul_2 _ _) (zbr l its n k t h0 hk h1) ⟨e,?_⟩⟩)
   refine ⟨.ref l,H,I,rfl,q l H (z0h.refl H) ?_⟩
   have:(List.replicate k.toNat xs).flatten=xs:=by
    rcases h1 with w | w
    ·subst w
     have:xs=[]:=List.length_eq_zero_iff.mp (by simpa using hl)
     subst this
     simp
    ·subst w
     simp
   rw [this]
   exact hH
  ·have hne:its≠[]:=fun w=>h1 (.inl w)
   have hxs:xs≠[]:=fun w=>hne (List.length_eq_zero_iff.mp (by rw [←hl,w];rfl))
   have hk0:k≤0:=by
    have a1:k≠1:=fun w=>h1 (.inr w)
    have a2:¬ 2≤k:=fun w=>hs ⟨hxs,w⟩
    lia
   refine wpAny_binaryOp_repeat_ref (T:="tuple") (U:="int") (by decide) ⟨_,e,rfl⟩ (fun s'=>typeIs_int s' k t) z24 F.fills_int_mul F.slot_int_rmul z2Z F.slot_int_index.lookup
    (call_meets F.slot_int_rmul (typeIs_int s k t) F.entry_int_rmul (F.args_int_rmul_2 _ _) (z21 k t l its.toArray n)
     ⟨e,rfl,⟨_,e,rfl⟩,call_meets F.slot_tuple_mul ⟨_,e,rfl⟩ F.entry_tuple_mul (F.args_tuple_mul_2 _ _) (zcs l its n k t h0 hk0 hne) ⟨e,?_⟩⟩)
   have e0:k.toNat=0:=by lia
   rw [e0] at q
   exact ⟨.ref _,_,I.laid (o:=.tup []) (t':=s.toks) (fun b u q=>Heap.get?_push_of_some _ q) (Nat.le_refl _) ⟨Nat.zero_le _,[],0,.nil,Heap.get?_push_size _ rfl⟩,rfl,q _ _ (Gu.same_up (z0h.refl H) I.fresh) z03⟩
end
end L2
namespace Gu
open PySem L2
theorem z8Z {n:Nat} (h:n≤1000000):n≤sizeLine:=Nat.le_trans h (by decide)
def z56 (K:PySem.W.Frag):Sp:=fun vs H Q _=>∃ (v:V) (r:List Int),vs=[v]∧Dr K H (D.its r) v∧r≠[]∧r.length≤40000∧∀ (s:Nat),z67 r s→z4I K H Q (D.its (r.take s))
def z4G (K:PySem.W.Frag) (Ct:Addr):Sp:=fun vs H Q E=>∃ (v u:V) (b r:List Int),vs=[v,u]∧Dr K H (D.its b) v∧Dr K H (D.its r) u∧b.length≤40000∧r.length≤40000∧(r≠[]→zdG K H Q b r)∧(r=[]→TMx Ct E H)
theorem z82 {n:Nat} {M:List Row} (G:z0n n M) {e:Row} (l1:LW n e.1) (l2:LW n e.2):∀ t,0≤z3D M e t∧z3D M e t < (M.length:Int)
 | 0=>by have:=G.some;exact z1F G l1 (by lia) (by lia)
 | t+1=>by
  obtain ⟨a,b⟩:=z82 G l1 l2 t
  exact z1F G l2 a b
def kI:Int→Key:=fun a=>Sum.inl a
theorem zdk (x y:Int) (e:kI x=kI y):x=y:=Sum.inl.inj e
def z6G (M:List Row) (e:Row) (t:Nat):List Int:=(List.range t).map (z3D M e)
theorem z75 (M:List Row) (e:Row) (t:Nat):z6G M e (t+1)=z6G M e t++[z3D M e t]:=by unfold z6G;rw [List.range_succ,List.map_append];rfl
theorem z4l (M:List Row) (e:Row) (t:Nat):(z6G M e t).length=t:=by unfold z6G;rw [List.length_map,List.length_range]
theorem zgd {n:Nat} {e:Row} (hl:∀ i,0≤lat e i∧lat e i < (n:Int)) (m:Nat):LW n (hdW e m):=fun l h=>by
 unfold hdW at h
 obtain ⟨j,_,rfl⟩:=List.mem_map.mp h
 exact hl j
def z7V (K:PySem.W.Frag):Sp:=fun vs H Q _=>∃ (v u:V) (one:List Row) (e:Row) (n:Nat),vs=[v,u]∧Dr K H (D.tup (z0m one)) v∧Dr K H (z2E e) u∧z0n n one∧n≤60∧e.2≠[]∧LW n e.1∧LW n e.2∧e.1.length+one.length*e.2.length≤4900 ∧
 ∀ (x:V) (H':Hp) (E:Row),z0h H H'→Dr K H' (z2E E) x→z84 E→(∀ i,lat E i=oS one e i)→E.1.length≤e.1.length+one.length*e.2.length→E.2.length≤one.length*e.2.length→Q x H'
theorem zfC (e:Row):D.depL [D.its e.1,D.its e.2]≤1:=by
 have:=z5U e.1
 have:=z5U e.2
 simp only [D.depL] at *
 lia
theorem zbI {a b:TS} {D:z44} {σ:St} {H:Hp} (h:∀ R:TS,R=b→zfH a R D σ H):zfH a b D σ H:=h b rfl
theorem atR {R b:TS} {D:z44} {σ:St} {H:Hp} (e:R=b) (h:b D σ H):R D σ H:=by rw [e];exact h
theorem z6W {α:Type} [DecidableEq α]:∀ (l:List α),(z0A l.reverse).length=l.length→l.reverse.Nodup
 | [],_=>by simp
 | x::l,h=>by
  rw [List.reverse_cons,z1x] at h
  rw [List.reverse_cons]
  have hl:=z3K l.reverse
  rw [List.length_reverse] at hl
  by_cases hx:x∈z0A l.reverse
  ·rw [z0w hx] at h
   simp at h
   lia
  ·rw [z0u hx] at h
   simp at h
   have ih:=z6W l h
   refine List.nodup_append.mpr ⟨ih,by simp,fun a ha b hb=>?_⟩
   rw [List.mem_singleton] at hb
   subst hb
   exact fun z=>hx (z0B.mpr (by rw [←z];exact ha))
theorem z9o {α:Type} [DecidableEq α] {l:List α} (h:(z0A l).length=l.length):l.Nodup:=by
 have:=z6W l.reverse (by rw [List.reverse_reverse,List.length_reverse];exact h)
 rwa [List.reverse_reverse] at this
theorem z5l {n:Nat} {F:List Row} (G:z0n n F) (hf:shr F=F):(∀ x,0≤x→x < (F.length:Int)→x∈z0e F)∧∀ x∈z0e F,∀ y∈z0e F,beh F x=beh F y→x=y:=by
 obtain ⟨L,cl⟩:=z0t G
 obtain ⟨h1,h2,h3⟩:=z1f (kOf F) (z0e F)
 have e1:(z0E (kOf F) (z0e F)).length=F.length:=by
  have:(shr F).length=(z0E (kOf F) (z0e F)).length:=by unfold shr z1N;rw [List.length_map]
  rw [←this,hf]
 have e2:=L.len
 have e3:(z0A ((z0e F).map (kOf F))).length=((z0e F).map (kOf F)).length:=by
  rw [←z1C,List.length_map,List.length_map]
  lia
 have nd:=z9o e3
 refine ⟨fun x x0 x1=>Classical.byContradiction fun z=>?_,fun x hx y hy e=>?_⟩
 ·have:=z1w (n:=F.length) (List.nodup_cons.mpr ⟨z,L.nd⟩) fun y hy=>by
   rcases List.mem_cons.mp hy with r | r
   ·rw [r];exact ⟨x0,x1⟩
   ·exact L.rg y r
  rw [List.length_cons] at this
  lia
 ·have ek:=(z2p G x hx y hy).mpr e
  obtain ⟨i,hi,rfl⟩:=List.mem_iff_getElem.mp hx
  obtain ⟨j,hj,rfl⟩:=List.mem_iff_getElem.mp hy
  have:i=j:=by
   refine (List.getElem_inj (h₀:=by rw [List.length_map];exact hi) (h₁:=by rw [List.length_map];exact hj) nd).mp ?_
   rw [List.getElem_map,List.getElem_map]
   exact ek
  subst this
  rfl
def Alk (n:Nat) (M:List Row) (x y:Int):Prop:=∀ w,LW n w→(row M (goW M x w)).1=(row M (goW M y w)).1
theorem zaV {n:Nat} {M:List Row} (G:z0n n M):∀ (w:List Nat) (x y:Int),0≤x→x < (M.length:Int)→0≤y→y < (M.length:Int)→Alk n M x y→beh M x w=beh M y w
 | [],x,y,_,_,_,_,h=>h [] (fun _ z=>by simp at z)
 | i::w,x,y,x0,x1,y0,y1,h=>by
  show beh M ((row M x).2.getD i 0) w=beh M ((row M y).2.getD i 0) w
  by_cases hi:i < n
  ·obtain ⟨a0,a1,_⟩:=z7v G x0 x1 hi
   obtain ⟨b0,b1,_⟩:=z7v G y0 y1 hi
   refine zaV G w _ _ a0 a1 b0 b1 fun u hu=>?_
   have:=h ((i:Int)::u) (fun z hz=>by
    rcases List.mem_cons.mp hz with r | r
    ·rw [r];lia
    ·exact hu z r)
   simpa [goW] using this
  ·have hx:=G.len _ (z0o x0 x1)
   have hy:=G.len _ (z0o y0 y1)
   rw [List.getD_eq_getElem?_getD,List.getElem?_eq_none (by lia),List.getD_eq_getElem?_getD,List.getElem?_eq_none (by lia)]
theorem z92 {n:Nat} {F:List Row} (G:z0n n F) (hf:shr F=F) {x y:Int} (x0:0≤x) (x1:x < (F.length:Int)) (y0:0≤y) (y1:y < (F.length:Int)) (h:Alk n F x y):x=y:=by
 obtain ⟨c,i⟩:=z5l G hf
 exact i x (c x x0 x1) y (c y y0 y1) (funext fun w=>zaV G w x y x0 x1 y0 y1 h)
theorem zcz {n:Nat} {M:List Row} (G:z0n n M) {x:Int} (x0:0≤x) (x1:x < (M.length:Int)) {w:List Int} (hw:LW n w):(row (shr (swM M x)) (goW (shr (swM M x)) 0 w)).1=(row M (goW M x w)).1:=by
 have G1:=z1s G x0 x1
 obtain ⟨h,h0,mo⟩:=z8C G1
 obtain ⟨L,cl⟩:=z0t G1
 have hz:(0:Int)∈z0e (swM M x):=by obtain ⟨t,ht⟩:=L.hd;rw [ht];exact List.mem_cons_self
 have e1:=z5b (n:=n) (M':=swM M x) (M:=shr (swM M x)) (h:=h) (C:=fun z=>z∈z0e (swM M x)) (fun z hz=>G1.len _ (z0o (L.rg z hz).1 (L.rg z hz).2)) (fun z hz g hg=>cl z hz g hg) (fun z hz=>mo z hz) w 0 hw hz
 have m1:=z4R (n:=n) (M:=swM M x) (C:=fun z=>z∈z0e (swM M x)) (fun z hz=>G1.len _ (z0o (L.rg z hz).1 (L.rg z hz).2)) (fun z hz g hg=>cl z hz g hg) w 0 hw hz
 rw [h0] at e1
 rw [e1,mo _ m1]
 have e2:=z5b (n:=n) (M':=M) (M:=swM M x) (h:=sw x) (C:=fun z=>0≤z∧z < (M.length:Int)) (fun z hz=>G.len _ (z0o hz.1 hz.2)) (fun z hz g hg=>G.go _ (z0o hz.1 hz.2) g hg) (fun z hz=>by
  obtain ⟨s0,s1⟩:=z5d x0 x1 hz.1 hz.2
  rw [z29 s0 s1,z43]) w x hw ⟨x0,x1⟩
 rw [z4B] at e2
 rw [e2]
 obtain ⟨t0,t1⟩:=z1F G hw x0 x1
 obtain ⟨s0,s1⟩:=z5d x0 x1 t0 t1
 rw [z29 s0 s1,z43]
 rfl
def StR (n:Nat) (M:List Row) (r:Int):Prop:=row M r=(z0z n,List.replicate n r)
instance (n:Nat) (M:List Row) (r:Int):Decidable (StR n M r):=inferInstanceAs (Decidable (_=_))
theorem z7R {n:Nat} {M:List Row} (G:z0n n M) {r:Int} (r0:0≤r) (r1:r < (M.length:Int)) (h:StR n M r):shr (swM M r)=z1r n:=by
 have G1:=z1s G r0 r1
 have hp:=G.some
 have e0:row (swM M r) 0=(z0z n,List.replicate n 0):=by
  rw [z29 (Int.le_refl 0) (by lia),z3f,h]
  show (z0z n,(List.replicate n r).map (sw r))=_
  rw [List.map_replicate,z4B]
 have hall:=(z2W G1).all (C:=fun x=>x=0) (fun x hx g hg=>by
  subst hx
  rw [e0] at hg
  exact List.eq_of_mem_replicate hg) (fun x hx=>List.mem_singleton.mp hx)
 exact zct G1 fun x hx=>by rw [hall x hx,e0]
theorem z62 {n:Nat}:∀ (w:List Int),LW n w→goW (z1r n) 0 w=0
 | [],_=>rfl
 | l::w,hw=>by
  obtain ⟨l0,l1⟩:=hw l List.mem_cons_self
  show goW (z1r n) ((List.replicate n (0:Int)).getD l.toNat 0) w=0
  rw [List.getD_eq_getElem?_getD,List.getElem?_replicate,if_pos (by lia)]
  exact z62 w hw.tail
theorem zgs {n:Nat} {F:List Row} (G:z0n n F) (hf:shr F=F) {r:Int} (r0:0≤r) (r1:r < (F.length:Int)) (h:shr (swM F r)=z1r n):StR n F r:=by
 have al:∀ w,LW n w→(row F (goW F r w)).1=z0z n:=fun w hw=>by
  rw [←zcz G r0 r1 hw,h,z62 w hw]
  rfl
 have hl:=G.len _ (z0o r0 r1)
 refine Prod.ext (al [] fun _ z=>by simp at z) (List.ext_getElem (by rw [hl];simp) fun i h1 h2=>?_)
 have hi:i < n:=by lia
 obtain ⟨g0,g1,g2⟩:=z7v G r0 r1 hi
 have e:(row F r).2.getD i 0=(row F r).2[i]:=by rw [List.getD_eq_getElem?_getD,List.getElem?_eq_getElem h1];rfl
 rw [List.getElem_replicate,←e]
 refine z92 G hf g0 g1 r0 r1 fun w hw=>?_
 have lw:LW n ((i:Int)::w):=fun z hz=>by
  rcases List.mem_cons.mp hz with q | q
  ·rw [q];lia
  ·exact hw z q
 have:=al _ lw
 rw [al w hw]
 simpa [goW] using this
theorem zah {n:Nat} {F:List Row} (G:z0n n F) (hf:shr F=F) {r:Int} (r0:0≤r) (r1:r < (F.length:Int)):StR n F r↔shr (swM F r)=z1r n:=⟨z7R G r0 r1,zgs G hf r0 r1⟩
theorem z39 {n:Nat} {M:List Row} {r:Int} (h:StR n M r):∀ (w:List Int),LW n w→goW M r w=r
 | [],_=>rfl
 | l::w,hw=>by
  obtain ⟨l0,l1⟩:=hw l List.mem_cons_self
  show goW M ((row M r).2.getD l.toNat 0) w=r
  rw [h]
  show goW M ((List.replicate n r).getD l.toNat 0) w=r
  rw [List.getD_eq_getElem?_getD,List.getElem?_replicate,if_pos (by lia)]
  exact z39 h w hw.tail
def z2I (M:List Row) (rs:List Int):List Int:=z0A (rs.flatMap fun r=>(row M r).2)
theorem z2Y {M:List Row} {rs:List Int} {x:Int}:x∈z2I M rs↔∃ r∈rs,x∈(row M r).2:=by
 unfold z2I
 rw [z0B,List.mem_flatMap]
def mvF (n:Nat) (M:List Row) (rs:List Int):List Int:=rs.filter fun r=>!decide (StR n M r)
theorem z4Z {n:Nat} {M:List Row} {rs:List Int} {x:Int}:x∈mvF n M rs↔x∈rs∧¬ StR n M x:=by
 unfold mvF
 rw [List.mem_filter]
 simp
def mvs (n:Nat) (M:List Row):Nat→List Int
 | 0=>[0]
 | k+1=>z2I M (mvF n M (mvs n M k))
def dlp (n:Nat) (M:List Row):Nat→Nat→Option Nat
 | 0,_=>none
 | f+1,k=>if mvF n M (mvs n M k)=[] then some k else dlp n M f (k+1)
def dep (n:Nat) (M:List Row):Option Nat:=dlp n M M.length 0
theorem zfG {n:Nat} {u v:List Int} (h:LW n (u++v)):LW n u∧LW n v:=⟨fun x hx=>h x (List.mem_append_left _ hx),fun x hx=>h x (List.mem_append_right _ hx)⟩
theorem z7t {n:Nat} {M:List Row} (G:z0n n M):∀ k,∀ x∈mvs n M k,0≤x∧x < (M.length:Int)
 | 0,x,hx=>by
  have:=G.some
  rw [List.mem_singleton.mp hx]
  lia
 | k+1,x,hx=>by
  obtain ⟨r,hr,hg⟩:=z2Y.mp hx
  obtain ⟨a,b⟩:=z7t G k r (z4Z.mp hr).1
  exact G.go _ (z0o a b) x hg
theorem z3k {n:Nat} {M:List Row} (G:z0n n M):∀ (k:Nat) (x:Int),x∈mvF n M (mvs n M k)↔∃ w,LW n w∧w.length=k∧goW M 0 w=x∧¬ StR n M x
 | 0,x=>by
  rw [z4Z]
  constructor
  ·rintro ⟨h,s⟩
   exact ⟨[],fun _ z=>by simp at z,rfl,(List.mem_singleton.mp h).symm,s⟩
  ·rintro ⟨w,_,hl,e,s⟩
   rw [List.length_eq_zero_iff.mp hl] at e
   exact ⟨by rw [←e];exact List.mem_singleton.mpr rfl,s⟩
 | k+1,x=>by
  rw [z4Z]
  constructor
  ·rintro ⟨h,s⟩
   obtain ⟨r,hr,hg⟩:=z2Y.mp h
   obtain ⟨w,lw,hl,e,_⟩:=(z3k G k r).mp hr
   obtain ⟨a,b⟩:=z7t G k r (z4Z.mp hr).1
   obtain ⟨i,hi,ei⟩:=List.mem_iff_getElem.mp hg
   have hn:=G.len _ (z0o a b)
   refine ⟨w++[(i:Int)],z88 lw (by lia),by rw [List.length_append,hl];rfl,?_,s⟩
   rw [z8j,e,Int.toNat_natCast,List.getD_eq_getElem?_getD,List.getElem?_eq_getElem hi]
   exact ei
  ·rintro ⟨w,lw,hl,e,s⟩
   obtain ⟨u,l,rfl⟩:∃ u l,w=u++[l]:=⟨w.dropLast,w.getLast (fun z=>by rw [z] at hl;simp at hl),(List.dropLast_concat_getLast _).symm⟩
   obtain ⟨lu,ll⟩:=zfG lw
   obtain ⟨l0,l1⟩:=ll l (List.mem_singleton.mpr rfl)
   have hu:u.length=k:=by rw [List.length_append] at hl;simpa using hl
   have hp:=G.some
   obtain ⟨a,b⟩:=z1F G lu (Int.le_refl 0) (show (0:Int) < (M.length:Int) by lia)
   rw [z8j] at e
   have ns:¬ StR n M (goW M 0 u):=fun z=>s (by
    have:=z39 z [l] ll
    have e2:goW M (goW M 0 u) [l]=(row M (goW M 0 u)).2.getD l.toNat 0:=rfl
    rw [e2,e] at this
    rw [this]
    exact z)
   obtain ⟨_,_,g2⟩:=z7v G a b (show l.toNat < n by lia)
   refine ⟨z2Y.mpr ⟨_,(z3k G k _).mpr ⟨u,lu,hu,rfl,ns⟩,?_⟩,s⟩
   rw [←e]
   exact g2
theorem zaD {n:Nat} {M:List Row} (G:z0n n M) (k:Nat):mvF n M (mvs n M k)=[]↔∀ w,LW n w→w.length=k→StR n M (goW M 0 w):=by
 constructor
 ·intro h w lw hl
  refine Classical.byContradiction fun z=>?_
  have:=(z3k G k _).mpr ⟨w,lw,hl,rfl,z⟩
  rw [h] at this
  simp at this
 ·intro h
  refine List.eq_nil_iff_forall_not_mem.mpr fun x hx=>?_
  obtain ⟨w,lw,hl,e,s⟩:=(z3k G k x).mp hx
  exact s (by rw [←e];exact h w lw hl)
theorem z6l {n:Nat} {M:List Row}:∀ (f k r:Nat),dlp n M f k=some r→k≤r∧r < k+f∧mvF n M (mvs n M r)=[]∧∀ j,k≤j→j < r→mvF n M (mvs n M j)≠[]
 | 0,k,r,h=>by cases h
 | f+1,k,r,h=>by
  unfold dlp at h
  by_cases c:mvF n M (mvs n M k)=[]
  ·rw [if_pos c] at h
   cases h
   exact ⟨Nat.le_refl _,by lia,c,fun j a b=>absurd b (by lia)⟩
  ·rw [if_neg c] at h
   obtain ⟨a,b,d,e⟩:=z6l f (k+1) r h
   refine ⟨by lia,by lia,d,fun j j1 j2=>?_⟩
   by_cases z:j=k
   ·rw [z];exact c
   ·exact e j (by lia) j2
theorem z9a {n:Nat} {M:List Row}:∀ (f k:Nat),dlp n M f k=none→∀ j,k≤j→j < k+f→mvF n M (mvs n M j)≠[]
 | 0,k,_,j,a,b=>absurd b (by lia)
 | f+1,k,h,j,a,b=>by
  unfold dlp at h
  by_cases c:mvF n M (mvs n M k)=[]
  ·rw [if_pos c] at h;cases h
  ·rw [if_neg c] at h
   by_cases z:j=k
   ·rw [z];exact c
   ·exact z9a f (k+1) h j (by lia) (by lia)
def Lp (n:Nat) (M:List Row) (r:Int):Prop:=∃ v,v≠[]∧LW n v∧goW M r v=r
theorem z6i {n:Nat} {M:List Row} (G:z0n n M) (n0:0 < n) (h:dep n M=none):∃ u,LW n u∧¬ StR n M (goW M 0 u)∧Lp n M (goW M 0 u):=by
 have hp:=G.some
 have ne:=z9a _ _ h (M.length - 1) (by lia) (by lia)
 obtain ⟨x,hx⟩:=List.exists_mem_of_ne_nil _ ne
 obtain ⟨w,lw,hl,e,s⟩:=(z3k G _ x).mp hx
 have lw2:LW n (w++[0]):=fun z hz=>by
  rcases List.mem_append.mp hz with q | q
  ·exact lw z q
  ·rw [List.mem_singleton.mp q];lia
 have hl2:(w++[0]).length=M.length:=by rw [List.length_append,hl];simp;lia
 have nn:¬ ((List.range (M.length+1)).map fun k=>goW M 0 ((w++[0]).take k)).Nodup:=fun z=>by
  have:=z1w (n:=M.length) z fun y hy=>by
   obtain ⟨k,_,rfl⟩:=List.mem_map.mp hy
   exact z1F G (fun q hq=>lw2 q (List.mem_of_mem_take hq)) (Int.le_refl 0) (by lia)
  rw [List.length_map,List.length_range] at this
  lia
 obtain ⟨i,j,hij,hj,hk⟩:=zbu nn
 have lj:LW n ((w++[0]).take j):=fun q hq=>lw2 q (List.mem_of_mem_take hq)
 have ej:(w++[0]).take j=(w++[0]).take i++((w++[0]).take j).drop i:=by
  have:=List.take_append_drop i ((w++[0]).take j)
  rw [List.take_take,Nat.min_eq_left (by lia)] at this
  exact this.symm
 have li:LW n ((w++[0]).take i):=fun q hq=>lw2 q (List.mem_of_mem_take hq)
 refine ⟨(w++[0]).take i,li,fun z=>?_,((w++[0]).take j).drop i,fun z=>?_,fun q hq=>lj q (List.mem_of_mem_drop hq),?_⟩
 ·have ei:(w++[0]).take i=w.take i:=by rw [List.take_append_of_le_length (by lia)]
  rw [ei] at z
  have ew:w=w.take i++w.drop i:=(List.take_append_drop i w).symm
  have:=z39 z (w.drop i) (fun q hq=>lw q (List.mem_of_mem_drop hq))
  rw [←z1z,←ew,e] at this
  exact s (by rw [this];exact z)
 ·have:=congrArg List.length z
  rw [List.length_drop,List.length_take,hl2] at this
  simp at this
  lia
 ·rw [←z1z,←ej]
  exact hk.symm
theorem zbd {M:List Row} {r:Int} {v:List Int} (h:goW M r v=r):∀ q,goW M r (List.replicate q v).flatten=r
 | 0=>rfl
 | q+1=>by rw [List.replicate_succ,List.flatten_cons,z1z,h,zbd h q]
theorem zen {n:Nat} {M:List Row} {k:Nat} (h:∀ w,LW n w→w.length=k→StR n M (goW M 0 w)) {w:List Int} (lw:LW n w) (hl:k≤w.length):StR n M (goW M 0 w):=by
 have h1:=h (w.take k) (fun q hq=>lw q (List.mem_of_mem_take hq)) (by rw [List.length_take];lia)
 have:=z39 h1 (w.drop k) (fun q hq=>lw q (List.mem_of_mem_drop hq))
 rw [←z1z,List.take_append_drop] at this
 rw [this]
 exact h1
theorem z8a {n:Nat} {M:List Row} {k:Nat} (h:∀ w,LW n w→w.length=k→StR n M (goW M 0 w)) {u:List Int} (lu:LW n u) (l:Lp n M (goW M 0 u)):StR n M (goW M 0 u):=by
 obtain ⟨v,vne,lv,e⟩:=l
 have hv:0 < v.length:=List.length_pos_iff.mpr vne
 have lr:LW n (List.replicate k v).flatten:=fun x hx=>by
  obtain ⟨y,hy,hxy⟩:=List.mem_flatten.mp hx
  rw [List.eq_of_mem_replicate hy] at hxy
  exact lv x hxy
 have hlen:(List.replicate k v).flatten.length=k*v.length:=by rw [List.length_flatten,List.map_replicate,List.sum_replicate_nat]
 have hk:k≤k*v.length:=Nat.le_mul_of_pos_right k hv
 have:=zen h (lu.app lr) (by rw [List.length_append,hlen];lia)
 rw [z1z,zbd e] at this
 exact this
theorem z37 {n:Nat} {M:List Row} (G:z0n n M) (n0:0 < n) (k:Nat):dep n M=some k↔(∀ w,LW n w→w.length=k→StR n M (goW M 0 w))∧∀ j,j < k→∃ w,LW n w∧w.length=j∧¬ StR n M (goW M 0 w):=by
 have some_of:∀ r,dep n M=some r→(∀ w,LW n w→w.length=r→StR n M (goW M 0 w))∧∀ j,j < r→∃ w,LW n w∧w.length=j∧¬ StR n M (goW M 0 w):=fun r h=>by
  obtain ⟨_,_,a,b⟩:=z6l _ _ _ h
  refine ⟨(zaD G r).mp a,fun j hj=>?_⟩
  have:=b j (Nat.zero_le _) hj
  refine Classical.byContradiction fun z=>this ((zaD G j).mpr fun w lw hl=>Classical.byContradiction fun s=>z ⟨w,lw,hl,s⟩)
 refine ⟨some_of k,fun hz8=>?_⟩
 obtain ⟨a,b⟩:=hz8
 cases h:dep n M with
 | none =>
  obtain ⟨u,lu,s,l⟩:=z6i G n0 h
  exact absurd (z8a a lu l) s
 | some r =>
  obtain ⟨c,d⟩:=some_of r h
  by_cases z:r < k
  ·obtain ⟨w,lw,hl,s⟩:=b r z
   exact absurd (c w lw hl) s
  ·by_cases z':k < r
   ·obtain ⟨w,lw,hl,s⟩:=d k z'
    exact absurd (a w lw hl) s
   ·rw [show r=k by lia]
theorem zaB {n:Nat} {F:List Row} (G:z0n n F) (hf:shr F=F) {g:Int} (g0:0≤g) (g1:g < (F.length:Int)) {w:List Int} (lw:LW n w):StR n (shr (swM F g)) (goW (shr (swM F g)) 0 w)↔StR n F (goW F g w):=by
 have G1:=z1s G g0 g1
 have GF:=z2s G1
 have hp:=GF.some
 obtain ⟨a,b⟩:=z1F GF lw (Int.le_refl 0) (show (0:Int) < ((shr (swM F g)).length:Int) by lia)
 obtain ⟨c,d⟩:=z1F G lw g0 g1
 rw [zah GF (zbw G1) a b,zah G hf c d,z9C G g0 g1 lw]
theorem z50 {n:Nat} {l:Nat} {w:List Int} (h:l < n) (lw:LW n w):LW n ((l:Int)::w):=fun x hx=>by
 rcases List.mem_cons.mp hx with q | q
 ·rw [q];lia
 ·exact lw x q
theorem zb1 {n:Nat} {F:List Row} (G:z0n n F) (hf:shr F=F) (n0:0 < n) {k:Nat} (h:dep n F=some (k+1)) {l:Nat} (hl:l < n):∃ d,dep n (shr (swM F (goW F 0 [(l:Int)])))=some d∧d≤k:=by
 obtain ⟨a,b⟩:=(z37 G n0 (k+1)).mp h
 have hp:=G.some
 obtain ⟨g0,g1⟩:=z1F G (z50 hl (w:=[]) fun _ z=>by simp at z) (Int.le_refl 0) (show (0:Int) < (F.length:Int) by lia)
 have G1:=z2s (z1s G g0 g1)
 have al:∀ w,LW n w→w.length=k→StR n (shr (swM F (goW F 0 [(l:Int)]))) (goW (shr (swM F (goW F 0 [(l:Int)]))) 0 w):=fun w lw hk=>by
  rw [zaB G hf g0 g1 lw,←z1z]
  exact a _ (z50 hl lw) (by simp [hk])
 cases e:dep n (shr (swM F (goW F 0 [(l:Int)]))) with
 | none =>
  obtain ⟨u,lu,s,lp⟩:=z6i G1 n0 e
  exact absurd (z8a al lu lp) s
 | some d =>
  refine ⟨d,rfl,Nat.le_of_not_lt fun z=>?_⟩
  obtain ⟨w,lw,hk,s⟩:=((z37 G1 n0 d).mp e).2 k z
  exact s (al w lw hk)
theorem zdA {n:Nat} {F:List Row} (G:z0n n F) (hf:shr F=F) (n0:0 < n) {k:Nat} (h:dep n F=some (k+1)):∃ l,l < n∧dep n (shr (swM F (goW F 0 [(l:Int)])))=some k:=by
 obtain ⟨a,b⟩:=(z37 G n0 (k+1)).mp h
 obtain ⟨w,lw,hk,s⟩:=b k (by lia)
 have hp:=G.some
 cases w with
 | nil =>
  obtain ⟨d,e,hd⟩:=zb1 G hf n0 h (l:=0) n0
  refine ⟨0,n0,?_⟩
  have hk':0=k:=hk
  rw [e]
  congr 1
  lia
 | cons x u =>
  obtain ⟨x0,x1⟩:=lw x List.mem_cons_self
  have ex:((x.toNat:Nat):Int)=x:=Int.toNat_of_nonneg x0
  have hx:x.toNat < n:=by lia
  obtain ⟨d,e,hd⟩:=zb1 G hf n0 h hx
  refine ⟨x.toNat,hx,?_⟩
  rw [e]
  congr 1
  refine Nat.le_antisymm hd (Nat.le_of_not_lt fun z=>s ?_)
  obtain ⟨g0,g1⟩:=z1F G (z50 hx (w:=[]) fun _ z=>by simp at z) (Int.le_refl 0) (show (0:Int) < (F.length:Int) by lia)
  have G1:=z2s (z1s G g0 g1)
  have hu:u.length+1=k:=hk
  have:=zen ((z37 G1 n0 d).mp e).1 lw.tail (by lia)
  rw [zaB G hf g0 g1 lw.tail,←z1z,ex] at this
  exact this
theorem z9s {n:Nat} {F:List Row} (G:z0n n F) (hf:shr F=F) {x:Int} (x0:0≤x) (x1:x < (F.length:Int)):∃ u,LW n u∧goW F 0 u=x:=by
 have hp:=G.some
 refine (z2W G).all (C:=fun x=>(0≤x∧x < (F.length:Int))∧∃ u,LW n u∧goW F 0 u=x) (fun y hy g hg=>?_) (fun y hy=>?_) x ((z5l G hf).1 x x0 x1) |>.2
 ·obtain ⟨⟨a,b⟩,u,lu,e⟩:=hy
  refine ⟨G.go _ (z0o a b) g hg,?_⟩
  obtain ⟨i,hi,ei⟩:=List.mem_iff_getElem.mp hg
  have hn:=G.len _ (z0o a b)
  refine ⟨u++[(i:Int)],z88 lu (by lia),?_⟩
  rw [z8j,e,Int.toNat_natCast,List.getD_eq_getElem?_getD,List.getElem?_eq_getElem hi]
  exact ei
 ·rw [List.mem_singleton.mp hy]
  exact ⟨⟨Int.le_refl 0,by lia⟩,[],fun _ z=>by simp at z,rfl⟩
theorem zez {n:Nat} {F:List Row} (G:z0n n F) (hf:shr F=F) {x y:Int} (x0:0≤x) (x1:x < (F.length:Int)) (y0:0≤y) (y1:y < (F.length:Int)) (hx:StR n F x) (hy:StR n F y):x=y :=
 z92 G hf x0 x1 y0 y1 fun w lw=>by rw [z39 hx w lw,z39 hy w lw,hx,hy]
noncomputable def lpB (n:Nat) (M:List Row) (j:Nat):Bool:=@decide (Lp n M (j:Int)) (Classical.propDecidable _)
theorem z6j {n:Nat} {M:List Row} {j:Nat}:lpB n M j=true↔Lp n M (j:Int):=by
 unfold lpB
 exact @decide_eq_true_iff _ (Classical.propDecidable _)
noncomputable def z2r (n:Nat) (M:List Row) (i:Nat):List (List Row):=((List.range i).filter (lpB n M)).map fun (j:Nat)=>shr (swM M (j:Int))
theorem zaH {n:Nat} {M:List Row} {i:Nat} (h:lpB n M i=true):z2r n M (i+1)=z2r n M i++[shr (swM M (i:Int))]:=by
 unfold z2r
 rw [List.range_succ,List.filter_append,List.map_append]
 simp [h]
theorem zci {n:Nat} {M:List Row} {i:Nat} (h:lpB n M i=false):z2r n M (i+1)=z2r n M i:=by
 unfold z2r
 rw [List.range_succ,List.filter_append,List.map_append]
 simp [h]
theorem zcy (n:Nat) (M:List Row) (i:Nat):(z2r n M i).length≤i:=by
 unfold z2r
 rw [List.length_map]
 exact Nat.le_trans (List.length_filter_le _ _) (by rw [List.length_range];lia)
theorem z5O {p:Nat→Bool} {a:Nat}:∀ m,a < m→(∀ j,j < m→(p j=true↔j=a))→(List.range m).filter p=[a]
 | 0,h,_=>absurd h (by lia)
 | m+1,h,hp=>by
  rw [List.range_succ,List.filter_append]
  by_cases e:a=m
  ·subst e
   have z:(List.range a).filter p=[]:=List.filter_eq_nil_iff.mpr fun j hj hz=>by
    have:=(hp j (by have:=List.mem_range.mp hj;lia)).mp hz
    have:=List.mem_range.mp hj
    lia
   have y:p a=true:=(hp a (by lia)).mpr rfl
   rw [z]
   simp [y]
  ·have z:p m=false:=by
    cases q:p m with
    | false=>rfl
    | true=>exact absurd ((hp m (by lia)).mp q).symm e
   rw [z5O m (by lia) fun j hj=>hp j (by lia)]
   simp [z]
theorem z85 {n:Nat} {F:List Row} (G:z0n n F) (hf:shr F=F) (n0:0 < n) {k:Nat} (h:dep n F=some k):z2r n F F.length=[z1r n]:=by
 obtain ⟨a,b⟩:=(z37 G n0 k).mp h
 have hp:=G.some
 have lz:LW n (List.replicate k 0):=fun x hx=>by rw [List.eq_of_mem_replicate hx];lia
 have ss:=a _ lz (by simp)
 obtain ⟨s0,s1⟩:=z1F G lz (Int.le_refl 0) (show (0:Int) < (F.length:Int) by lia)
 have es:(((goW F 0 (List.replicate k 0)).toNat:Nat):Int)=goW F 0 (List.replicate k 0):=Int.toNat_of_nonneg s0
 have fo:=z5O (p:=lpB n F) (a:=(goW F 0 (List.replicate k 0)).toNat) F.length (by lia) fun j hj=>by
  rw [z6j]
  constructor
  ·intro lp
   obtain ⟨u,lu,eu⟩:=z9s G hf (x:=(j:Int)) (by lia) (by lia)
   have sj:=z8a a lu (by rw [eu];exact lp)
   rw [eu] at sj
   have:=zez G hf (x:=(j:Int)) (by lia) (by lia) s0 s1 sj ss
   lia
  ·intro e
   rw [e,es]
   exact ⟨[0],by simp,fun x hx=>by rw [List.mem_singleton.mp hx];lia,z39 ss [0] fun x hx=>by rw [List.mem_singleton.mp hx];lia⟩
 unfold z2r
 rw [fo]
 show [shr (swM F (((goW F 0 (List.replicate k 0)).toNat:Nat):Int))]=_
 rw [es,z7R G s0 s1 ss]
theorem z6T {n:Nat} {F:List Row} (G:z0n n F) (hf:shr F=F) (n0:0 < n) (h:dep n F=none):∃ g∈z2r n F F.length,g≠z1r n:=by
 obtain ⟨u,lu,s,lp⟩:=z6i G n0 h
 have hp:=G.some
 obtain ⟨s0,s1⟩:=z1F G lu (Int.le_refl 0) (show (0:Int) < (F.length:Int) by lia)
 have es:(((goW F 0 u).toNat:Nat):Int)=goW F 0 u:=Int.toNat_of_nonneg s0
 refine ⟨shr (swM F (goW F 0 u)),List.mem_map.mpr ⟨(goW F 0 u).toNat,List.mem_filter.mpr ⟨List.mem_range.mpr (by lia),by rw [z6j,es];exact lp⟩,by rw [es]⟩,fun z=>s ((zah G hf s0 s1).mpr z)⟩
theorem zbW {n:Nat} {F:List Row} {k:Nat} (h:∀ w,LW n w→w.length=k→StR n F (goW F 0 w)) {e:Row} (hl:∀ i,0≤lat e i∧lat e i < (n:Int)) {i:Nat} (hi:k≤i):oS F e i=lat e i:=by
 have:=zen h (zgd hl i) (by rw [z1J];exact hi)
 obtain ⟨l0,l1⟩:=hl i
 unfold oS stS
 rw [this]
 show (z0z n).getD (lat e i).toNat 0=_
 rw [List.getD_eq_getElem?_getD,zeE (by lia)]
 exact Int.toNat_of_nonneg l0
theorem zd9 {n:Nat} {M:List Row} {r:Int} (h:StR n M r):∀ (w:List Int),LW n w→z20 M r w=w
 | [],_=>rfl
 | l::w,hw=>by
  obtain ⟨l0,l1⟩:=hw l List.mem_cons_self
  show (row M r).1.getD l.toNat 0::z20 M ((row M r).2.getD l.toNat 0) w=l::w
  rw [h]
  show (z0z n).getD l.toNat 0::z20 M ((List.replicate n r).getD l.toNat 0) w=l::w
  rw [List.getD_eq_getElem?_getD,zeE (by lia),List.getD_eq_getElem?_getD,List.getElem?_replicate,if_pos (by lia)]
  show ((l.toNat:Nat):Int)::z20 M r w=l::w
  rw [zd9 h w hw.tail,Int.toNat_of_nonneg l0]
theorem zcD {n:Nat} {F:List Row} {k:Nat} (h:∀ w,LW n w→w.length=k→StR n F (goW F 0 w)) {w:List Int} (lw:LW n w):(z20 F 0 w).drop k=w.drop k:=by
 by_cases hk:k≤w.length
 ·have e:w=w.take k++w.drop k:=(List.take_append_drop k w).symm
  have l1:LW n (w.take k):=fun q hq=>lw q (List.mem_of_mem_take hq)
  have l2:LW n (w.drop k):=fun q hq=>lw q (List.mem_of_mem_drop hq)
  have hl:(w.take k).length=k:=by rw [List.length_take];lia
  have s:=h _ l1 hl
  have e2:z20 F 0 w=z20 F 0 (w.take k)++w.drop k:=by
   have:=z30 F (w.take k) (w.drop k) 0
   rw [←e,zd9 s _ l2] at this
   exact this
  rw [e2,List.drop_append_of_le_length (by rw [z17,hl];lia),List.drop_of_length_le (by rw [z17,hl];lia),List.nil_append]
 ·rw [List.drop_of_length_le (by rw [z17];lia),List.drop_of_length_le (by lia)]
theorem z9j {n:Nat} {F:List Row} (G:z0n n F) (hf:shr F=F) (n0:0 < n) (h:dep n F=some 0):F=z1r n:=by
 have hp:=G.some
 have:=((z37 G n0 0).mp h).1 [] (fun _ z=>by simp at z) rfl
 have e:=z7R G (Int.le_refl 0) (by lia) this
 have e2:=z8F G
 rw [e,hf] at e2
 exact e2.symm
theorem zf8 {n:Nat} {F:List Row} {k:Nat} (h:dep n F=some k):k < F.length:=by
 have:=(z6l _ _ _ h).2.1
 lia
end Gu
namespace L2
open PySem PySem.Spec PyProof.Rows
section
variable {X:Cx}
theorem zaL:∀ {xs:List V} {us:List Value},us.length=xs.length→(∀ (i:Nat) (u:Value),us[i]?=some u→∃ x,xs[i]?=some x∧z1g x u)→z1e xs us
 | [],[],_,_=>.nil
 | [],_::_,h,_=>by cases h
 | _::_,[],h,_=>by cases h
 | x::xs,u::us,h,f=>by
  obtain ⟨y,e,r⟩:=f 0 u rfl
  have e':x=y:=Option.some.inj e
  subst e'
  exact .cons r (zaL (Nat.succ.inj h) fun i v hv=>f (i+1) v hv)
theorem z7d {α β:Type} {F:α→β→Prop}:∀ {l:List α} {r:List β} {i:Nat} {a:α} {b:β},Paired F l r→l[i]?=some a→r[i]?=some b→F a b
 | _,_,0,_,_,.cons q _,ha,hb=>by
  have e1:=Option.some.inj ha
  have e2:=Option.some.inj hb
  rw [←e1,←e2];exact q
 | _,_,_+1,_,_,.cons _ t,ha,hb=>z7d t ha hb
theorem z7D (hc:X.calm=true):z3y X (.type "list") (fun xs H Q=>∃ (p:Addr) (kvs:List (Key × V)),xs=[.ref p]∧H p=some (.dK kvs)∧∀ l,H l=none→Q (.ref l) (upd H l (.lst (kvs.map fun e=>kV e.1)))):=by
 intro pins s σ H xs us Q I r h
 obtain ⟨p,kvs,rfl,hp,q⟩:=h
 obtain ⟨u,rfl,ru⟩:=z6k r
 cases ru
 obtain ⟨hz,hsm,vs,hkv,hd⟩:=I.hok p _ hp
 obtain ⟨ep,hat⟩:=hd.dictAt
 have hlen:vs.length=kvs.length:=hkv.length.symm
 refine PySem.W.kdl_call (PySem.W.kdl_dict (knd:=z1d X.prog X.w) (kvs:=vs) (ep:=ep) hsm) (I.ok.hd hc) hat (by rw [hlen];exact hz) fun h' tk acc c' hk hl hacc=>?_
 have hv:z1e (kvs.map fun e=>kV e.1) acc.toList:=by
  refine zaL (by rw [Array.length_toList,hacc.1,hlen,List.length_map]) fun i v hi=>?_
  obtain ⟨k,x,hx,hks⟩:=hacc.2 i v (by rw [←Array.getElem?_toList];exact hi)
  have hil:i < kvs.length:=by rw [←hlen];exact (List.getElem?_eq_some_iff.mp hx).1
  refine ⟨kV kvs[i].1,by rw [List.getElem?_map,List.getElem?_eq_getElem hil];rfl,?_⟩
  have hp2:=z7d hkv (List.getElem?_eq_getElem hil) hx
  rw [hp2.1]
  rcases z0V hks with ⟨j,t,e1,rfl⟩ | ⟨y,t,e1,rfl⟩
  ·have:k=Sum.inl j:=e1
   rw [this]
   exact ⟨t,rfl⟩
  ·have:k=Sum.inr y:=e1
   rw [this]
   exact ⟨t,rfl⟩
 exact ⟨.ref _,_,I.laid (o:=.lst (kvs.map fun e=>kV e.1)) (fun b u e=>hk b u e) (Nat.le_refl _) ⟨by rw [List.length_map];exact hz,acc.toList,c',hv,by simpa using hl⟩,rfl,q _ I.fresh⟩
end
end L2
namespace L2
open PySem PySem.Spec PyProof.Rows
section
variable {prog:Program} {w:World} {A:Around} {R:Result→Shared→Prop} {s:Shared}
theorem z89 {kx vx tg iter:Expr} {scope:Scope} {pos:Pos} {it:Value} {d:Addr} {env:Env} (I:Nat→Shared→Prop)
  (z4a:∀ n s,I n s→wpAny (model prog w) A (pyNext it) (fun r s1=>match r with
   | none=>R (.ok .next) s1
   | some v=>wpAny (model prog w) A (letOwnedTupleGo tg it v) (fun _ s2=>wpAny (model prog w) A (assign tg env v) (fun _ s3=>wpAny (model prog w) A (eval kx env) (fun x s4=>wpAny (model prog w) A (eval vx env) (fun y s5 =>
     wpAny (model prog w) A (dictSet d x y) (fun _ s6=>∃ m,m < n∧I m s6) noE s5) noE s4) noE s3) noE s2) noE s1) noE s)
  (n:Nat) (h:I n s):codeAny (model prog w) A (.compLoop (.DictComp kx vx [⟨tg,iter,[],0⟩] scope pos) 0 it (.ref d) env) R s:=by
 have no:∀ (P:Value→Shared→Prop) (a:Value) (b:Shared),noE a b→P a b:=fun _ _ _ z=>False.elim z
 refine codeAny_loop rfl I (fun n s hI=>?_) n h
 show wpAny _ _ ((compTurn (.DictComp kx vx [⟨tg,iter,[],0⟩] scope pos) 0 it (.ref d) env).onRaise
  (fun x=>do noteFrame x env;theTreesLotGoes x)) _ _ s
 refine wpAny_noted ?_
 rw [compTurn_dict]
 refine wpAny_bind (wpAny_standAt (wpAny_bind (wpAny_mono (z4a n s hI) (fun r s1 h1=>?_) (no _))))
 cases r with
 | none=>exact wpAny_pure h1
 | some v =>
  refine wpAny_bind (wpAny_mono h1 (fun _ s2 h2=>?_) (no _))
  refine wpAny_bind (wpAny_mono h2 (fun _ s3 h3=>?_) (no _))
  refine wpAny_bind (wpAny_pure ?_)
  exact wpAny_bind (wpAny_bind (wpAny_mono h3 (fun x s4 h4=>wpAny_bind (wpAny_holding (wpAny_mono h4 (fun y s5 h5=>wpAny_bind (wpAny_standAt (wpAny_holding (wpAny_mono h5 (fun _ s6 h6=>wpAny_pure ⟨rfl,h6⟩) (no _))))) (no _)))) (no _)))
end
def zbi (ix:List (Option Nat)) (J:It) (g:TG) (tk tv:TE) (σ:St) (l:Addr) (H0:Hp) (Qe:Hp→Prop):Prop :=
 ∃ W:Nat→Nat→List (Key × V)→Hp→Prop,(∃ m,W 0 m [] H0)∧∀ i m ys H,W i m ys H→H l=some (.dK ys) →
  (J.stop i H∧Qe H)∨(J.go i H∧ys.length < sizeLine∧∃ N:List (Key × V)→Hp→Prop,(∀ zs H',N zs H'→∃ m',m' < m∧W (i+1) m' zs H')∧∀ x H',J.yld i H x H'→g x (z0K ix σ) H' fun σ2 H2=>tk σ2 H2 fun y H3=>tv σ2 H3 fun v H4 =>
   ∃ k,y=kV k∧H4 l=some (.dK ys)∧N (z1Y ys k v) (upd H4 l (.dK (z1Y ys k v))))
def zfE (ix:List (Option Nat)) (wi:TI) (g:TG) (tk tv:TE):TE:=fun σ H Q=>wi σ H fun J H1=>∀ l,H1 l=none→zbi ix J g tk tv σ l (upd H1 l (.dK [])) fun H'=>Q (.ref l) H'
section
variable {X:Cx} {pins:List (Addr × Obj)} {σ:St} {H:Hp} {s:Shared} {N:List Str} {ix:List (Option Nat)} {scope:Scope} {kx vx iter tg:Expr} {pos:Pos} {g:TG} {tk tv:TE} {E:Value→Shared→Prop}
theorem zaP {a:Addr} {kvs:List (Key × V)} {k:Key} {u r:Value} {v:V} {A:Around} {Q:Unit→Shared→Prop} (I:Inv X pins σ H s) (e:H a=some (.dK kvs)) (hl:kvs.length < sizeLine) (ry:z1g (kV k) u) (rv:z1g v r) (h:∀ s',Inv X pins σ (upd H a (.dK (z1Y kvs k v))) s'→Q () s') :
  wpAny (model X.prog X.w) A (dictSet a u r) Q E s:=by
 obtain ⟨z,hd,vs,rel,dd⟩:=zdN I.hok e
 have hz:vs.length≤sizeLine:=by rw [←rel.length];exact z
 have hl:(z1Y kvs k v).length≤sizeLine:=by have:=z1T kvs k v;lia
 refine wpAny_dictSet_pairs (hsz:=hz) (z7T ry) dd fun h' dd' hs=>h _ ?_
 have he:∃ q,h'.get? a=some q:=let ⟨q,_,_,hq,_⟩:=dd';⟨q,hq⟩
 exact z4t I (by rw [e];exact True.intro) hs he (zbs hl hd (rel.put k rv) dd')
theorem z8k {it:Addr} {fp:List Addr} {tn:Nat→Heap→Prop} {J:It} {Qe:Addr→Hp→Prop} {RR:Value→Addr→Result→Shared→Prop} (hc:X.calm=true) (S:z0Z X.N X.env.scope N ix scope)
  (hg:∀ cl C ex s H,PG (z0q X N scope cl C ex s H) tg g) (hk:∀ cl C ex s H,PE (z0q X N scope cl C ex s H) kx tk) (hv:∀ cl C ex s H,PE (z0q X N scope cl C ex s H) vx tv)
  (I:Inv X pins σ H s) (T:zbN X.prog X.w X.K tg J fp it tn) (st:tn 0 s.heap) (hf:∀ b∈fp,z3G X pins H b)
  (hw:∀ l,H l=none→zbi ix J g tk tv σ l (upd H l (.dK [])) (Qe l))
  (hRR:∀ l C s' H' m,s'.heap.Ns C m→Inv X pins σ H' s'→z3G X pins H' C→Qe l H'→RR (.ref l) C (.ok .next) s') :
  wpAny (model X.prog X.w) X.A newDict (fun acc s3=>wpAny (model X.prog X.w) X.A (newFunctionEnv scope X.env.globals (z0r X.env.cells scope.names []) [] X.env.qual none .none (some X.env)) (fun cenv s4 =>
   codeAny (model X.prog X.w) X.A (.compStart (.DictComp kx vx [⟨tg,iter,[],0⟩] scope pos) 0 (.ref it) acc { cenv with scope:=relabel scope X.env }) (RR acc cenv.locals) s4) E s3) E s:=by
 have hlt:∀ b∈fp,b < s.heap.objs.size:=fun b hb=>by
  obtain ⟨o,e,_⟩:=T.obj 0 s.heap st b hb
  exact Heap.lt_size e
 have hl0:H s.heap.objs.size=none:=I.fresh
 obtain ⟨W,⟨m0,w0⟩,z4a⟩:=hw s.heap.objs.size hl0
 refine wpAny_newObj_type ?_
 generalize hs3:({ s with heap:=s.heap.push { cls:=.type "dict",data:=.dict #[] } }:Shared)=s3
 have I3:Inv X pins σ (upd H s.heap.objs.size (.dK [])) s3:=by
  rw [←hs3]
  exact I.laid (a:=s.heap.objs.size) (o:=.dK []) (t':=s.toks) (fun _ _ q=>Heap.get?_push_of_some _ q) (Nat.le_refl _) (z6B s.heap I.big)
 have k3:∀ b o,s.heap.get? b=some o→s3.heap.get? b=some o:=fun b o e=>by
  rw [←hs3];exact Heap.get?_push_of_some _ e
 have sz3:s3.heap.objs.size=s.heap.objs.size+1:=by rw [←hs3];exact Heap.size_push ..
 have lnfp:s.heap.objs.size∉fp:=fun hb=>Nat.lt_irrefl _ (hlt _ hb)
 have st3:tn 0 s3.heap:=T.keep 0 _ _ st fun b _ o e=>k3 b o e
 have hf3:∀ b∈fp,z3G X pins (upd H s.heap.objs.size (.dK [])) b:=fun b hb=>by
  obtain ⟨f0,f⟩:=hf b hb
  have nb:b≠s.heap.objs.size:=fun e=>lnfp (by rw [←e];exact hb)
  exact ⟨by rw [z0a nb];exact f0,f⟩
 have hlt3:∀ b∈fp,b < s3.heap.objs.size:=fun b hb=>by rw [sz3];exact Nat.lt_succ_of_lt (hlt b hb)
 clear hs3
 refine wpAny_newFunctionEnv S.nocell (by intro y hy;simp at hy) (fun h1 hn1 hb1=>?_) S.kind
 have hk1:∀ b o,s3.heap.get? b=some o→h1.get? b=some o:=fun b o e =>
  (hb1.2 b (Nat.ne_of_lt (Heap.lt_size e))).trans (Heap.get?_push_of_some _ e)
 have J0:Inv (z0q X N scope (z0r X.env.cells scope.names []) s3.heap.objs.size fp s3 (upd H s.heap.objs.size (.dK []))) [] (z0K ix σ) (upd H s.heap.objs.size (.dK [])) { s3 with heap:=h1,toks:=s3.toks+([]:List (Str × Value)).length } :=
  z4j I3 S rfl hf3 hlt3 hn1 hk1
 have st1:tn 0 h1:=T.keep 0 _ _ st3 fun b _ o e=>hk1 b o e
 have fpY:∀ {Hc:Hp},(∀ b∈fp,Hc b=none)→∀ b∈fp,z3G (z0q X N scope (z0r X.env.cells scope.names []) s3.heap.objs.size fp s3 (upd H s.heap.objs.size (.dK []))) [] Hc b:=fun {Hc} hn b hb=>by
  obtain ⟨_,f1,f2,_,f4,_⟩:=hf3 b hb
  refine ⟨hn b hb,Nat.ne_of_lt (hlt3 b hb),fun hb2=>(List.mem_cons.mp (I3.stkSub b hb2)).elim f1 f2,.inl hb,fun x c e=>f4 x c (z1m I3 S e),fun p hp=>absurd (show p∈([]:List (Addr × Obj)) from hp) (by simp)⟩
 have loop:∀ s4:Shared,s4=({ s3 with heap:=h1,toks:=s3.toks+([]:List (Str × Value)).length }:Shared)→codeAny (model X.prog X.w) X.A (.compLoop (.DictComp kx vx [⟨tg,iter,[],0⟩] scope pos) 0 (.ref it) (.ref s.heap.objs.size)
   (compEnvC scope (z0r X.env.cells scope.names []) s3.heap.objs.size X.env)) (RR (.ref s.heap.objs.size) s3.heap.objs.size) s4:=by
  intro s4 hs4
  subst hs4
  refine z89 (fun n s'=>∃ i ys Hc,Inv (z0q X N scope (z0r X.env.cells scope.names []) s3.heap.objs.size fp s3 (upd H s.heap.objs.size (.dK []))) [] (z0K ix σ) Hc s'∧tn i s'.heap∧(∀ b∈fp,Hc b=none)∧Hc s.heap.objs.size=some (.dK ys)∧W i n ys Hc) ?_ m0 ⟨0,[],_,J0,st1,fun b hb=>(hf3 b hb).1,z03,w0⟩
  rintro n s5 ⟨i,ys,Hc,J5,st5,fr5,hl5,w5⟩
  rcases z4a i n ys Hc w5 hl5 with ⟨stop,qe⟩ | ⟨go,hz,NN,hNN,step⟩
  ·refine thn (T.done (z0q X N scope (z0r X.env.cells scope.names []) s3.heap.objs.size fp s3 (upd H s.heap.objs.size (.dK []))) rfl rfl rfl hc i [] s5 _ Hc noE J5 (fpY fr5) st5 stop) fun r s6 hz8=>?_
   obtain ⟨hr,J6⟩:=hz8
   subst hr
   have I6:Inv X pins σ Hc s6:=I3.call' (ch:=fp) J6.os J6.base J6.hok J6.bare fun b hb=>by
    obtain ⟨_,f1,f2,f3,f4,f5⟩:=hf3 b hb
    exact ⟨f3,f1,f4,f5⟩
   obtain ⟨m6,hn6,_⟩:=J6.loc
   exact hRR _ _ s6 Hc m6 hn6 I6 (I3.fpOk (Nat.le_refl _) J6.free) qe
  ·refine thn (T.item (z0q X N scope (z0r X.env.cells scope.names []) s3.heap.objs.size fp s3 (upd H s.heap.objs.size (.dK []))) rfl rfl rfl hc i [] s5 _ Hc noE J5 (fpY fr5) st5 go) fun r s6 hz8=>?_
   obtain ⟨u,hr,h6⟩:=hz8
   subst hr
   refine thn h6 fun _ s7 hz8=>?_
   obtain ⟨x,H7,J7,r7,y7,st7,fr7⟩:=hz8
   have J7':=J7.pinned (fpY fr7) (T.obj _ _ st7)
   refine thn (hg _ _ _ _ _ _ s7 _ H7 x u _ J7' r7 (step x H7 y7)) fun _ s8 hz8=>?_
   obtain ⟨σ8,H8,J8,q8⟩:=hz8
   refine thn (hk _ _ _ _ _ _ s8 σ8 H8 _ J8 q8) fun yk s9 hz8=>?_
   obtain ⟨vk,H9,J9,r9,q9⟩:=hz8
   refine thn (hv _ _ _ _ _ _ s9 σ8 H9 _ J9 q9) fun yv s95 hz8=>?_
   obtain ⟨v,H95,J95,r95,kk,ek,hl9,n9⟩:=hz8
   obtain ⟨m',hm',w9⟩:=hNN _ _ n9
   subst ek
   refine zaP (X:=z0q X N scope (z0r X.env.cells scope.names []) s3.heap.objs.size fp s3 (upd H s.heap.objs.size (.dK []))) J95 hl9 hz r9 r95 fun s10 J10=>?_
   have len8:(z0K ix σ).length=σ8.length:=by
    rw [J10.len]
    unfold z0K
    rw [List.length_map]
    exact S.len
   refine ⟨m',hm',i+1,z1Y ys kk v,_,?_,T.keep _ _ _ st7 fun b hb o e=>(J10.pin (b,o) (List.mem_append_right _ (List.mem_append_right _ (z0J hb e)))).1,fun b hb=>?_,z03,w9⟩
   ·exact z2g I3 S J10
   ·obtain ⟨o,e,d⟩:=T.obj _ _ st7 b hb
    exact (J10.pin (b,o) (List.mem_append_right _ (List.mem_append_right _ (z0J hb e)))).2.1
 exact codeAny_compStart_dict (loop _ rfl) (T.self _ 0 _ _ _ st1 (loop _ rfl))
theorem zcR {wi:TI} {i:Nat} {x:Str} {spos pos':Pos} (hc:X.calm=true) (S:z0Z X.N X.env.scope N ix scope) (hi:PI X tg iter wi)
  (hg:∀ cl C ex s H,PG (z0q X N scope cl C ex s H) tg g) (hk:∀ cl C ex s H,PE (z0q X N scope cl C ex s H) kx tk) (hv:∀ cl C ex s H,PE (z0q X N scope cl C ex s H) vx tv)
  (hN:X.N.Nodup) (hx:X.N[i]?=some x) (hl:X.env.scope.names.lookup x=some .local)
  (hsw:swapsWith (.DictComp kx vx [⟨tg,iter,[],0⟩] scope pos) (some (.Name x pos')) spos.line X.env=pure true:=by rfl)
  (hs:∀ x,foldedSetIterable iter X.env x=pure x:=by intro _;rfl):PS X (.Assign [.Name x pos'] (.DictComp kx vx [⟨tg,iter,[],0⟩] scope pos) spos) (zeB (zfE ix wi g tk tv) (z9J i)):=by
 intro pins s σ H D I h
 rw [exec_Assign_Name_used _ _ _ _ hsw]
 refine wpAny_bind (wpAny_standAt (wpAny_bind ?_))
 show wpAny _ _ (comprehension (.DictComp kx vx [⟨tg,iter,[],0⟩] scope pos) scope X.env _ newDict false (eval iter X.env) (some (assign (.Name x pos') X.env)) >>= fun _=>pure ()) _ _ s
 refine wpAny_bind (wpAny_mono (wpAny_comprehension_free (use:=some (assign (.Name x pos') X.env)) (Q:=fun _ s'=>SP X pins D .next s') rfl hs (z0U (z0H I S)) S.kind S.names
  (thn (hi pins s σ H _ I h) fun v s1 h1=>thn h1 fun itv s2 h2=>?_)) (fun _ s' q=>wpAny_pure (wpAny_pure q)) fun _ _ e=>e)
 obtain ⟨it,fp,tn,J,H2,e,I2,T,st2,f2,hw⟩:=h2
 subst e
 refine z8k (RR:=fun acc C=>compPost (model X.prog X.w) X.A X.xe (some (assign (.Name x pos') X.env)) (fun _ s'=>SP X pins D .next s') acc C) hc S hg hk hv I2 T st2 f2 hw fun l C s' H' m hn I' fC q=>?_
 obtain ⟨c0,c1,c2,c3,c4,c5⟩:=fC
 show wpAny _ _ (assign (.Name x pos') X.env (.ref l)) _ _ _
 refine wpAny_assign_Name (z3r I' hN hx (.inl hl) (v:=.ref l) rfl (fun s'' I'' hz8=>?_) (.inr hl))
 obtain ⟨a,sb,ha⟩:=hz8
 have haC:C≠a:=by
  rcases ha with ha | ha
  ·rw [ha];exact c1
  ·exact fun z=>c4 x a ha z.symm
 refine ⟨m,hn.sameBut sb haC,fun h' hs'=>?_⟩
 exact ⟨_,H',I''.turned (t':=s''.toks) (fun b o hb e=>(hs'.2 b hb).trans e) c0 c1 c3 c4 c5,q⟩
end
section
variable {X:Cx} {pins:List (Addr × Obj)} {σ:St} {H:Hp} {s:Shared} {N:List Str} {ix:List (Option Nat)} {scope:Scope} {elt iter tg cx:Expr} {pos:Pos} {g:TG} {tt:TT} {te:TE} {E:Value→Shared→Prop}
theorem zcT {wi:TI} {i:Nat} {x:Str} {spos pos':Pos} (hc:X.calm=true) (S:z0Z X.N X.env.scope N ix scope) (hi:PI X tg iter wi)
  (hg:∀ cl C ex s H,PG (z0q X N scope cl C ex s H) tg g) (ht:∀ cl C ex s H,PT (z0q X N scope cl C ex s H) cx tt) (he:∀ cl C ex s H,PE (z0q X N scope cl C ex s H) elt te)
  (hN:X.N.Nodup) (hx:X.N[i]?=some x) (hl:X.env.scope.names.lookup x=some .local)
  (hsw:swapsWith (.ListComp elt [⟨tg,iter,[cx],0⟩] scope pos) (some (.Name x pos')) spos.line X.env=pure true:=by rfl)
  (hs:∀ x,foldedSetIterable iter X.env x=pure x:=by intro _;rfl):PS X (.Assign [.Name x pos'] (.ListComp elt [⟨tg,iter,[cx],0⟩] scope pos) spos) (zeB (zdo ix wi g tt te) (z9J i)):=by
 intro pins s σ H D I h
 rw [exec_Assign_Name_used _ _ _ _ hsw]
 refine wpAny_bind (wpAny_standAt (wpAny_bind ?_))
 show wpAny _ _ (comprehension (.ListComp elt [⟨tg,iter,[cx],0⟩] scope pos) scope X.env _ (newList []) false (eval iter X.env) (some (assign (.Name x pos') X.env)) >>= fun _=>pure ()) _ _ s
 refine wpAny_bind (wpAny_mono (wpAny_comprehension_free (use:=some (assign (.Name x pos') X.env)) (Q:=fun _ s'=>SP X pins D .next s') rfl hs (z0U (z0H I S)) S.kind S.names
  (thn (hi pins s σ H _ I h) fun v s1 h1=>thn h1 fun itv s2 h2=>?_)) (fun _ s' q=>wpAny_pure (wpAny_pure q)) fun _ _ e=>e)
 obtain ⟨it,fp,tn,J,H2,e,I2,T,st2,f2,hw⟩:=h2
 subst e
 refine z4y (RR:=fun acc C=>compPost (model X.prog X.w) X.A X.xe (some (assign (.Name x pos') X.env)) (fun _ s'=>SP X pins D .next s') acc C) hc S hg ht he I2 T st2 f2 hw fun l C s' H' m hn I' fC q=>?_
 obtain ⟨c0,c1,c2,c3,c4,c5⟩:=fC
 show wpAny _ _ (assign (.Name x pos') X.env (.ref l)) _ _ _
 refine wpAny_assign_Name (z3r I' hN hx (.inl hl) (v:=.ref l) rfl (fun s'' I'' hz8=>?_) (.inr hl))
 obtain ⟨a,sb,ha⟩:=hz8
 have haC:C≠a:=by
  rcases ha with ha | ha
  ·rw [ha];exact c1
  ·exact fun z=>c4 x a ha z.symm
 refine ⟨m,hn.sameBut sb haC,fun h' hs'=>?_⟩
 exact ⟨_,H',I''.turned (t':=s''.toks) (fun b o hb e=>(hs'.2 b hb).trans e) c0 c1 c3 c4 c5,q⟩
end
theorem z9M {K:PySem.W.Frag} {a l:Addr} {xs:List V} {ix:List (Option Nat)} {g:TG} {tk tv:TE} {σ:St} {H0:Hp} {Qe:Hp→Prop} (Pv:Nat→List (Key × V)→Hp→Prop) (h0:Pv 0 [] H0) (hl:∀ i ys H,i≤xs.length→Pv i ys H→SqL K H a xs)
  (hz:∀ i ys H,i < xs.length→Pv i ys H→ys.length < sizeLine)
  (hs:∀ i x ys H,xs[i]?=some x→Pv i ys H→H l=some (.dK ys)→g x (z0K ix σ) H fun σ2 H2=>tk σ2 H2 fun y H3=>tv σ2 H3 fun v H4=>∃ k,y=kV k∧H4 l=some (.dK ys)∧Pv (i+1) (z1Y ys k v) (upd H4 l (.dK (z1Y ys k v))))
  (hd:∀ ys H,Pv xs.length ys H→H l=some (.dK ys)→Qe H):zbi ix (Itl K a) g tk tv σ l H0 Qe:=by
 refine ⟨fun i m ys H=>m=xs.length - i∧i≤xs.length∧Pv i ys H,⟨_,rfl,Nat.zero_le _,h0⟩,fun i m ys H w hy=>?_⟩
 obtain ⟨rfl,hi,p⟩:=w
 have q:=hl i ys H hi p
 by_cases e:i=xs.length
 ·subst e
  exact .inl ⟨⟨xs,q,Nat.le_refl _⟩,hd ys H p hy⟩
 ·have hi':i < xs.length:=by lia
  refine .inr ⟨⟨xs,xs[i],q,by simp [hi']⟩,hz i ys H hi' p,fun zs H'=>Pv (i+1) zs H',fun zs H' z=>⟨xs.length - (i+1),by lia,rfl,by lia,z⟩,fun x H' y=>?_⟩
  obtain ⟨e',y⟩:=y
  subst e'
  exact hs i x ys _ (y xs q) p hy
end L2
namespace L2
open PySem PySem.Spec PyProof.Rows PySem.SeqAt
section
variable {X:Cx} (K:PySem.W.Frag)
theorem zdX (hK:X.K=K) (hu:X.A.units+64 < cLine):OpR X (compareOp .NotEq) (fun x y H Q=>∃ (ds es:List D),Dr K H (.lst ds) x∧Dr K H (.lst es) y∧ds.length=es.length∧D.okL ds es∧D.depL ds≤50∧Q (.bl (!D.eq (.lst ds) (.lst es))) H):=by
 subst hK
 intro pins s σ H x y v u Q I rx ry h
 obtain ⟨ds,es,hx,hy,hln,o,hd,q⟩:=h
 simp only [Dr] at hx hy
 obtain ⟨l,vs,rfl,q1,r⟩:=hx
 obtain ⟨b,us,rfl,q2,r'⟩:=hy
 cases rx
 cases ry
 obtain ⟨its,rv,pl,_⟩:=I.list q1
 obtain ⟨itt,rv',pl',_⟩:=I.list q2
 have e1:its.toArray.size=ds.length:=by rw [r.length,rv.length];simp
 have e2:itt.toArray.size=es.length:=by rw [r'.length,rv'.length];simp
 have R:=RcNeAt.lists (A:=X.A) (e:=D.at_ ds es) pl.isList pl'.isList (by rw [e1,e2,hln]) (by lia) (fun j h1 h2=>by
  have l1:=rv.length
  have l2:=rv'.length
  have l3:=r.length
  have l4:=r'.length
  have h1':j < its.length:=by simpa using h1
  have h2':j < itt.length:=by simpa using h2
  have e1:ds[j]?=some ds[j]:=List.getElem?_eq_getElem (by lia)
  have e2:es[j]?=some es[j]:=List.getElem?_eq_getElem (by lia)
  obtain ⟨x1,g1,d1⟩:=r.get e1
  obtain ⟨x2,g2,d2⟩:=r'.get e2
  obtain ⟨u1,k1,z5⟩:=rv.get g1
  obtain ⟨u2,k2,z6⟩:=rv'.get g2
  have z1:u1=its.toArray[j]:=by
   rw [List.getElem?_eq_getElem h1'] at k1
   have:=Option.some.inj k1
   simpa using this.symm
  have z2:u2=itt.toArray[j]:=by
   rw [List.getElem?_eq_getElem h2'] at k2
   have:=Option.some.inj k2
   simpa using this.symm
  have z3:D.at_ ds es j=D.eq ds[j] es[j]:=by unfold D.at_;rw [e1,e2]
  rw [z3,←z1,←z2]
  exact (zeq I 50 X.A.in1 (Nat.le_trans (D.depL_get e1) hd) (by show X.A.units+1+50 < cLine;lia) d1 d2 (D.okL_get o e1 e2) z5 z6).1)
 rw [e1,D.all_eqL' hln] at R
 have e3:D.eq (.lst ds) (.lst es)=D.eqL ds es:=by simp only [D.eq]
 rw [e3] at q
 exact R _ _ _ _ ⟨.bl _,H,I,rfl,q⟩
end
end L2
namespace Gu
open PySem L2
def fmD (gs:List (List Row)):List D:=gs.map fun g=>D.tup (z0m g)
theorem zbS (gs:List (List Row)) (g:List Row):fmD (gs++[g])=fmD gs++[D.tup (z0m g)]:=by
 unfold fmD
 rw [List.map_append]
 rfl
theorem zep (gs:List (List Row)):(fmD gs).length=gs.length:=List.length_map _
theorem z8B {H:Hp} {l:Addr} {ys:List V} {o:HO} (e:H l=some (.lst ys)):∀ b xs,H b=some (.tup xs)→upd H l o b=some (.tup xs):=fun b xs h=>by
 rw [z0a (fun z=>by subst z;rw [e] at h;cases h)]
 exact h
def kvT (o:List Int):List (Key × V):=o.map fun r=>(Sum.inl r,V.bl true)
theorem z7U (o:List Int):(kvT o).length=o.length:=List.length_map _
theorem zcj (o:List Int):(kvT o).map (fun e=>kV e.1)=o.map V.int:=by
 unfold kvT
 rw [List.map_map]
 rfl
theorem zbj (o:List Int) (g:Int):((kvT o).any fun kv=>decide (kv.1=Sum.inl g))=decide (g∈o):=by
 unfold kvT
 rw [List.any_map,Bool.eq_iff_iff]
 simp only [List.any_eq_true,Function.comp,decide_eq_true_eq]
 constructor
 ·rintro ⟨x,hx,e⟩
  rw [←Sum.inl.inj e];exact hx
 ·intro h
  exact ⟨g,h,rfl⟩
theorem z7I (o:List Int) (g:Int):z1Y (kvT o) (Sum.inl g) (V.bl true)=kvT (z1Z o g):=by
 unfold z1Y
 rw [zbj]
 by_cases h:g∈o
 ·rw [if_pos (decide_eq_true h),z0w h]
  unfold kvT
  rw [List.map_map]
  refine List.map_congr_left fun x _=>?_
  simp
 ·rw [if_neg (by simp [h]),z0u h]
  unfold kvT
  rw [List.map_append]
  rfl
theorem zag (o:List Int) (g:Int):(z33 (kvT o) (Sum.inl g)).isSome=decide (g∈o):=by
 unfold z33
 rw [Option.isSome_map,←zbj,Bool.eq_iff_iff,List.find?_isSome,List.any_eq_true]
theorem z7j {l:List Int} {i:Nat} {x:Int} (h:l[i]?=some x) (o:List Int):z0d o (l.take (i+1))=z1Z (z0d o (l.take i)) x:=by
 rw [List.take_add_one,h]
 exact z1A _ _ _
def z4i (K:PySem.W.Frag):Sp:=fun vs H Q _=>∃ (v:V) (a:Addr) (rows:List Row) (n:Nat) (rs:List Int),vs=[v,.ref a]∧Dr K H (D.tup (z0m rows)) v∧H a=some (.lst (rs.map V.int))∧z0n n rows∧rows.length≤60∧(∀ r∈rs,0≤r∧r < (rows.length:Int))∧∀ (b:Addr) (H':Hp),z0h H H'→H b=none→H' b=some (.lst ((z2I rows rs).map V.int))→Q (.ref b) H'
def z57 (K:PySem.W.Frag):Sp:=fun vs H Q _=>∃ (v:V) (rows:List Row) (n:Nat) (r:Int),vs=[v,.int r]∧Dr K H (D.tup (z0m rows)) v∧z0n n rows∧2≤n∧n≤60∧0≤r∧r < (rows.length:Int)∧∀ H',z0h H H'→Q (.bl (decide (StR n rows r))) H'
def zcr (n:Nat) (rows:List Row):V:=match dep n rows with
 | some k=>.int (k:Int)
 | none=>.non
def z83 (K:PySem.W.Frag):Sp:=fun vs H Q _=>∃ (v:V) (rows:List Row) (n:Nat),vs=[v]∧Dr K H (D.tup (z0m rows)) v∧z0n n rows∧2≤n∧n≤60∧rows.length≤60∧∀ H',z0h H H'→Q (zcr n rows) H'
def z6y (K:PySem.W.Frag):Sp:=fun vs H Q _=>∃ (v:V) (rows:List Row) (n:Nat) (r:Int),vs=[v,.int r]∧Dr K H (D.tup (z0m rows)) v∧z0n n rows∧2≤n∧rows.length≤60∧0≤r∧r < (rows.length:Int)∧∀ b:Bool,(b=true↔Lp n rows r)→∀ H',z0h H H'→Q (.bl b) H'
def z4F (Ts:List Tb) (K:PySem.W.Frag):Sp:=fun vs H Q _=>∃ (v:V) (rows:List Row) (n:Nat),vs=[v]∧z4s Ts H∧Dr K H (D.tup (z0m rows)) v∧z0n n rows∧2≤n∧n≤60∧rows.length≤60∧zbt Ts K H Q (D.lst (fmD (z2r n rows rows.length)))
def zam (K:PySem.W.Frag):Sp:=fun vs H Q _=>∃ (n:Nat) (c:Int),vs=[.int n,.int c]∧2≤n∧n≤5∧∀ (v:V) (H':Hp) (rows:List Row),z0h H H'→z0n n rows→rows.length≤9→Dr K H' (D.tup (z0m (shr rows))) v→Q v H'
theorem z5N (M:List Row) (r:Int):z2I M [r]=z0A (row M r).2:=by
 unfold z2I
 simp
theorem zao {n:Nat} {M:List Row} (G:z0n n M) {rs:List Int} (h:∀ r∈rs,0≤r∧r < (M.length:Int)):∀ x∈z2I M rs,0≤x∧x < (M.length:Int):=fun x hx=>by
 obtain ⟨r,hr,hg⟩:=z2Y.mp hx
 obtain ⟨a,b⟩:=h r hr
 exact G.go _ (z0o a b) x hg
end Gu
namespace Gu
open PySem L2
section
variable {P:Program} {w:World} {K:PySem.W.Frag} {mg:Str→Option Value} {base:Heap} {f g:Addr} {fd gd:FuncData} {CX:CXT} [NoE CX]
abbrev nGt:List Str:=["guise","rows","seen","row","rearranging","goings","going"]
theorem zet:z0p nGt ["guise","rows"] (z06 z6p):=⟨rfl,rfl,rfl,by decide +kernel,rfl,by decide +kernel,by decide +kernel⟩
theorem zav (mli:mg "list"=none) (F:Fun K "gone_to" "gone_to" z6p f fd):z0y P w K mg base CX 1 f fd ["guise","rows"] (z4i K):=by
 refine F.okc zet (fun vs H Q E h=>?_) (fun cdv A outer s H vs Q E hr h=>?_)
 ·obtain ⟨v,a,rows,n,rs,rfl,_⟩:=h
  rfl
 obtain ⟨v,a,rows,n,rs,rfl,dv,ea,GM,h60,hrs,q⟩:=h
 have hu:=z9w hr
 refine ⟨_,z04 (z0i (i:=2) zet.nd rfl (Or.inl rfl) z4f)
  (z04 (z1X PassesOwn.never rfl (z1j (pv 1)) (z0c (i:=3) zet.nd rfl (Or.inl rfl))
   (z04 (z2Q (z0Q z1G (pv 0) (pv 3) (fun _ _=>rfl)) (z22 rfl (z0s (z0c (i:=4) zet.nd rfl (Or.inl rfl)) (z0s (z0c (i:=5) zet.nd rfl (Or.inl rfl)) z1l))))
   (z08 (z1X PassesOwn.never rfl (z3t (pv 5)) (z0c (i:=6) zet.nd rfl (Or.inl rfl))
    (z08 (z3a hu (pv 2) (pv 6) z9L rfl))))))
  (z08 (z0D (z0x (z7D rfl) rfl mli PyProof.Rows.boot_list (z02 (pv 2) z05))))),?_⟩
 obtain ⟨av,us,rfl,eav,dus⟩:∃ (av:Addr) (us:List V),v=.ref av∧H av=some (.tup us)∧DrL K H (z0m rows) us:=by
  simp only [Dr] at dv
  exact dv
 intro d hd0
 have s0:z0h H (upd H d (.dK [])):=same_up (z0h.refl H) hd0
 have few:∀ o:List Int,o.Nodup→(∀ x∈o,0≤x∧x < (rows.length:Int))→o.length≤60:=fun o h1 h2=>Nat.le_trans (z1w h1 h2) h60
 refine ⟨_,rfl,a,rfl,⟨_,SqL.of (s0 _ _ ea)⟩,zan (xs:=rs.map V.int) (fun i σ H2=>∃ u3 u4 u5 u6:Option V,σ=[some (.ref av),some (.ref a),some (.ref d),u3,u4,u5,u6]∧z0h H H2∧H2 d=some (.dK (kvT (z2I rows (rs.take i)))))
  ⟨none,none,none,none,rfl,s0,z03⟩ (fun i σ H2 _ h=>by obtain ⟨_,_,_,_,_,s2,_⟩:=h;exact SqL.of (s2 _ _ ea)) (fun i x σ H2 hx h Ed nx=>?_) (fun σ H2 h=>?_)⟩
 ·obtain ⟨u3,u4,u5,u6,rfl,s2,ed⟩:=h
  rw [List.getElem?_map] at hx
  obtain ⟨r,er,rfl⟩:=Option.map_eq_some_iff.mp hx
  have hrm:r∈rs:=List.mem_of_getElem? er
  obtain ⟨r0,r1⟩:=hrs r hrm
  have hti:∀ y∈rs.take i,0≤y∧y < (rows.length:Int):=fun y hy=>hrs y (List.mem_of_mem_take hy)
  obtain ⟨x0,ex0,dx0⟩:=z2J dus (z4x r0 r1)
  obtain ⟨t,b,c,rfl,et,eb,ec⟩:=z0W dx0
  refine (exA rfl (exA rfl ⟨av,_,_,.ref t,rfl,rfl,SqT.of (s2 _ _ eav),(by have:=z0F (j:=r.toNat) ex0;rw [Int.toNat_of_nonneg r0] at this;exact this),exF t rfl (SqT.of (s2 _ _ et)) rfl (exB rfl (exC rfl rfl ?_))⟩))
  refine ⟨_,rfl,c,rfl,⟨_,SqT.of (s2 _ _ ec)⟩,zgr (xs:=(row rows r).2.map V.int) (fun j σ H3=>∃ u:Option V,σ=[some (.ref av),some (.ref a),some (.ref d),some (.int r),some (.ref b),some (.ref c),u]∧z0h H H3∧H3 d=some (.dK (kvT (z0d (z2I rows (rs.take i)) ((row rows r).2.take j)))))
   ⟨_,rfl,s2,ed⟩ (fun j σ H3 _ h=>by obtain ⟨_,_,s3,_⟩:=h;exact SqT.of (s3 _ _ ec)) (fun j x σ H3 hx h Ed2 nx2=>?_) (fun σ H3 h=>?_)⟩
  ·obtain ⟨u,rfl,s3,ed3⟩:=h
   rw [List.getElem?_map] at hx
   obtain ⟨g,eg,rfl⟩:=Option.map_eq_some_iff.mp hx
   have hl:(z0d (z2I rows (rs.take i)) ((row rows r).2.take j)).length≤60:=few _ (z1E _ _ (z3J _)) fun y hy=>by
    rcases z0I.mp hy with z | z
    ·exact zao GM hti y z
    ·exact GM.go _ (z0o r0 r1) y (List.mem_of_mem_take z)
   refine (exA rfl (exA rfl ⟨d,exA rfl ⟨zat.k (k:=Sum.inl g) ed3 (by rw [z7U];exact z1p (by lia)),?_⟩⟩))
   refine nx2 _ _ (exA rfl ⟨z0f s3 hd0,?_⟩)
   rw [z7j eg,←z7I]
   exact z03
  ·obtain ⟨u,rfl,s3,ed3⟩:=h
   refine nx _ _ ⟨_,_,exB rfl ⟨s3,?_⟩⟩
   rw [List.length_map,List.take_length] at ed3
   rw [ed3]
   unfold z2I
   rw [List.take_add_one,er,List.flatMap_append,z6A]
   simp
 ·obtain ⟨u3,u4,u5,u6,rfl,s2,ed⟩:=h
  rw [List.length_map,List.take_length] at ed
  refine (exA rfl ⟨d,exA rfl ⟨ed,fun l hl=>?_⟩⟩)
  rw [zcj]
  exact q l _ (same_up s2 hl) (s2.free hl) z03
abbrev nIs:List Str:=["guise","row","letters"]
theorem zgB:z0p nIs ["guise","row"] (z06 z49):=⟨rfl,rfl,rfl,by decide +kernel,rfl,by decide +kernel,by decide +kernel⟩
theorem z9D (F:Fun K "is_still" "is_still" z49 f fd)
  {aB:Addr} {dB:FuncData} (B:z0y P w K mg base CX 1 aB dB ["guise"] (z2l K)) (bB:z0l K dB ["guise"] []) (kB:PySem.W.keepIn K (.ref aB)=true) (mB:mg "breadth"=some (.ref aB))
  {aL:Addr} {dL:FuncData} (L:z0y P w K mg base CX 1 aL dL ["letters"] (z8Y K)) (bL:z0l K dL ["letters"] []) (kL:PySem.W.keepIn K (.ref aL)=true) (mL:mg "same_letters"=some (.ref aL)):z0y P w K mg base CX 2 f fd ["guise","row"] (z57 K):=by
 refine F.okc zgB (fun vs H Q E h=>?_) (fun cdv A outer s H vs Q E hr h=>?_)
 ·obtain ⟨v,rows,n,r,rfl,_⟩:=h
  rfl
 obtain ⟨v,rows,n,r,rfl,dv,GM,n2,hn,r0,r1,q⟩:=h
 refine ⟨_,z04 (z0i (i:=2) zgB.nd rfl (Or.inl rfl) (z0b B hr rfl mB kB bB .nil z0C (z02 (pv 0) z05)))
  (z08 (z0D (z3R (zdi hr.units) (z0Q z1G (pv 0) (pv 1) (fun _ _=>rfl)) (z1y (z02 (z0b L hr rfl mL kL bL .nil z0C (z02 (pv 2) z05)) (z02 (z0k z8n (z1y (z02 (pv 1) z05)) (pv 2)) z05))) (z19 _)))),?_⟩
 obtain ⟨q0,qt,er⟩:∃ q0 qt,rows=q0::qt:=by
  cases rows with
  | nil=>simp at r1;lia
  | cons q0 qt=>exact ⟨q0,qt,rfl⟩
 have hl0:=(GM.perm q0 (by rw [er];simp)).len
 refine (exA rfl ⟨v,q0,z0m qt,rfl,(by rw [er] at dv;exact dv),by lia,fun H1 s1=>?_⟩)
 rw [hl0]
 obtain ⟨av,us,rfl,eav,dus⟩:∃ (av:Addr) (us:List V),v=.ref av∧H av=some (.tup us)∧DrL K H (z0m rows) us:=by
  simp only [Dr] at dv
  exact dv
 obtain ⟨x0,ex0,dx0⟩:=z2J dus (z4x r0 r1)
 obtain ⟨t,b,c,rfl,et,eb,ec⟩:=z0W dx0
 refine (exA rfl (exA rfl ⟨av,_,_,.ref t,rfl,rfl,SqT.of (s1 _ _ eav),(by have:=z0F (j:=r.toNat) ex0;rw [Int.toNat_of_nonneg r0] at this;exact this),?_⟩))
 refine (exA rfl ⟨n,rfl,by lia,fun v1 H2 s2 d2=>?_⟩)
 obtain ⟨b2,rfl,eb2⟩:=Dr.its_inv d2
 refine (exA rfl ⟨by show 1≤sizeLine;decide,fun z hz=>(exA rfl ⟨z,(n:Int),exA rfl ⟨rfl,z03,by simp,by lia,by lia,?_,fun c2 hc2=>⟨by show 2≤sizeLine;decide,fun t2 ht2=>?_⟩⟩⟩)⟩)
 ·show 1*(n:Int).toNat≤sizeLine
  exact z0G (by lia)
 have e:(List.replicate ((n:Int).toNat) [V.int r]).flatten=(List.replicate n r).map V.int:=by simp
 rw [e] at ht2 ⊢
 have s3:z0h H2 (upd H2 z (.tup [.int r])):=same_up (z0h.refl H2) hz
 have s4:z0h H2 (upd (upd H2 z (.tup [.int r])) c2 (.tup ((List.replicate n r).map V.int))):=same_up s3 hc2
 have s5:=same_up (o:=HO.tup [.ref b2,.ref c2]) s4 ht2
 have dr1:Dr K (upd (upd (upd H2 z (.tup [.int r])) c2 (.tup ((List.replicate n r).map V.int))) t2 (.tup [.ref b2,.ref c2])) (z2E (row rows r)) (.ref t):=((dx0.mono s1).mono s2).mono s5
 have dr2:Dr K (upd (upd (upd H2 z (.tup [.int r])) c2 (.tup ((List.replicate n r).map V.int))) t2 (.tup [.ref b2,.ref c2])) (z2E (z0z n,List.replicate n r)) (.ref t2):=by
  refine z2c (b:=b2) (c:=c2) z03 (s5 _ _ eb2) ?_
  rw [z0a (z0g z03 ht2)]
  exact z03
 have okk:D.ok (z2E (row rows r)) (z2E (z0z n,List.replicate n r)):=by
  have:=z3v [row rows r] [(z0z n,List.replicate n r)]
  simp only [z0m,List.map_cons,List.map_nil,D.okL] at this
  exact this.1
 have dp:D.dep (z2E (row rows r))≤50:=by
  have:=zfC (row rows r)
  unfold z2E
  simp only [D.dep]
  lia
 refine ⟨t,t2,exC rfl rfl ⟨dr1,dr2,okk,dp,?_⟩⟩
 have ee:D.eq (z2E (row rows r)) (z2E (z0z n,List.replicate n r))=decide (StR n rows r):=by
  by_cases h:StR n rows r
  ·rw [decide_eq_true h,show row rows r=_ from h]
   exact D.eq_refl _
  ·rw [decide_eq_false h]
   cases z:D.eq (z2E (row rows r)) (z2E (z0z n,List.replicate n r)) with
   | false=>rfl
   | true=>exact absurd (z8D _ _ (D.eq_of z)) h
 rw [ee]
 exact q _ (s1.trans (s2.trans s5))
abbrev nDp:List Str:=["guise","moving","many"]
theorem zfd:z0p nDp ["guise"] (z06 z7h):=⟨rfl,rfl,rfl,by decide +kernel,rfl,by decide +kernel,by decide +kernel⟩
theorem zgD:z0Z nDp (z06 z7h) ["row","guise"] [none,some 0] (csc [(".0",.local),("row",.local),("is_still",.globalImplicit),("guise",.free)]):=⟨rfl,by decide +kernel,by decide +kernel,by decide +kernel,rfl,by decide +kernel,by decide +kernel⟩
theorem zcB (ml:mg "len"=none) (mr:mg "range"=none) (F:Fun K "depth" "depth" z7h f fd)
  {aI:Addr} {dI:FuncData} (I:z0y P w K mg base CX 2 aI dI ["guise","row"] (z57 K)) (bI:z0l K dI ["guise","row"] []) (kI:PySem.W.keepIn K (.ref aI)=true) (mI:mg "is_still"=some (.ref aI))
  {aG:Addr} {dG:FuncData} (G:z0y P w K mg base CX 2 aG dG ["guise","rows"] (z4i K)) (bG:z0l K dG ["guise","rows"] []) (kG:PySem.W.keepIn K (.ref aG)=true) (mG:mg "gone_to"=some (.ref aG)):z0y P w K mg base CX 3 f fd ["guise"] (z83 K):=by
 refine F.okc zfd (fun vs H Q E h=>?_) (fun cdv A outer s H vs Q E hr h=>?_)
 ·obtain ⟨v,rows,n,rfl,_⟩:=h
  rfl
 obtain ⟨v,rows,n,rfl,dv,GM,n2,hn,h60,q⟩:=h
 refine ⟨_,z04 (z0i (i:=1) zfd.nd rfl (Or.inl rfl) (z1H (z02 z07 z05)))
  (z04 (z1X PassesOwn.never rfl (z1v rfl mr (z02 (z0j z09 rfl ml PySem.boot_len (z02 (pv 0) z05)) z05)) (z0c (i:=2) zfd.nd rfl (Or.inl rfl))
   (z04 (zcT (i:=1) rfl zgD (z1j (pv 1)) (fun _ _ _ _ _=>z0c (i:=0) zgD.nd rfl (Or.inl rfl)) (fun _ _ _ _ _=>zdb (z9g (z0b I hr rfl mI kI bI .nil z0C (z02 (pv 1) (z02 (pv 0) z05))))) (fun _ _ _ _ _=>pv 0) zfd.nd rfl rfl)
   (z04 (z1Q (zdb (zcP (pv 1) (fun _=>rfl))) (z08 (z0D (pv 2))) z0M)
   (z08 (z0i (i:=1) zfd.nd rfl (Or.inl rfl) (z0b G hr rfl mG kG bG .nil z0C (z02 (pv 0) (z02 (pv 1) z05))))))))
  (z08 (z0D zd8))),?_⟩
 obtain ⟨av,us,rfl,eav,dus⟩:∃ (av:Addr) (us:List V),v=.ref av∧H av=some (.tup us)∧DrL K H (z0m rows) us:=by
  simp only [Dr] at dv
  exact dv
 have hlu:us.length=rows.length:=by rw [←dus.length];unfold z0m;rw [List.length_map]
 have few:∀ i,(mvs n rows i).length≤60:=fun i=>by
  have h1:(mvs n rows i).Nodup:=by
   cases i with
   | zero=>exact List.nodup_cons.mpr ⟨by simp,List.nodup_nil⟩
   | succ i=>exact z3J _
  exact Nat.le_trans (z1w h1 (z7t GM i)) h60
 refine ⟨by show 1≤sizeLine;decide,fun l0 hl0=>?_⟩
 have s0:=same_up (o:=HO.lst [V.int 0]) (z0h.refl H) hl0
 refine (exA rfl (exG av rfl (.inr (SqT.of (s0 _ _ eav))) ?_))
 rw [hlu]
 refine ⟨((rows.length:Nat):Int),rfl,by lia,by lia,zfi (n:=((rows.length:Nat):Int).toNat) (fun i σ H2=>∃ (lm:Addr) (u2:Option V),σ=[some (.ref av),some (.ref lm),u2]∧z0h H H2∧H2 lm=some (.lst ((mvs n rows i).map V.int))∧dep n rows=dlp n rows (rows.length - i) i)
  ⟨l0,none,rfl,s0,z03,rfl⟩ (fun i σ H2 hi h Ed nx rt=>?_) (fun σ H2 h=>?_)⟩
 ·obtain ⟨lm,u2,rfl,s2,em,hd⟩:=h
  rw [Int.toNat_natCast] at hi
  refine ⟨_,rfl,lm,rfl,⟨_,SqL.of em⟩,fun lc hlc=>z5o (xs:=(mvs n rows i).map V.int) (fun j ys H3=>ys=(mvF n rows ((mvs n rows i).take j)).map V.int∧ys.length≤j∧z0h H2 H3) ⟨rfl,Nat.le_refl _,same_up (z0h.refl H2) hlc⟩
   (fun j ys H3 _ h=>SqL.of (h.2.2 _ _ em)) (by rw [List.length_map];exact z0G (by have:=few i;lia)) (fun j ys H3 h=>h.2.1) (fun j x ys H3 hx h hy=>?_) (fun ys H3 h hy=>?_)⟩
  ·obtain ⟨rfl,hjl,s3⟩:=h
   rw [List.getElem?_map] at hx
   obtain ⟨r,er,rfl⟩:=Option.map_eq_some_iff.mp hx
   obtain ⟨r0,r1⟩:=z7t GM i r (List.mem_of_getElem? er)
   refine (exA rfl (exA rfl ⟨.ref av,rows,n,r,rfl,dv.mono (s2.trans s3),GM,n2,hn,r0,r1,fun H4 s4=>(exA rfl ?_)⟩))
   have e4:=s4 _ _ hy
   have et:mvF n rows ((mvs n rows i).take (j+1))=mvF n rows ((mvs n rows i).take j)++(if StR n rows r then [] else [r]):=by
    unfold mvF
    rw [List.take_add_one,er,List.filter_append]
    by_cases c:StR n rows r
    ·simp [c]
    ·simp [c]
   by_cases c:StR n rows r
   ·rw [decide_eq_true c]
    refine ⟨e4,?_,by lia,s3.trans s4⟩
    rw [et,if_pos c,List.append_nil]
   ·rw [decide_eq_false c]
    refine (exA rfl ⟨e4,?_,by rw [List.length_append];simp;simp at hjl;lia,z0f (s3.trans s4) hlc⟩)
    rw [et,if_neg c,List.map_append]
    rfl
  ·obtain ⟨rfl,_,s3⟩:=h
   rw [List.length_map,List.take_length] at hy
   have s03:=s2.trans s3
   refine (exA rfl ⟨_,.inl ⟨_,SqL.of hy,rfl⟩,?_⟩)
   have ef:dlp n rows (rows.length - i) i=if mvF n rows (mvs n rows i)=[] then some i else dlp n rows (rows.length - (i+1)) (i+1):=by
    rw [show rows.length - i=(rows.length - (i+1))+1 by lia]
    rfl
   by_cases c:mvF n rows (mvs n rows i)=[]
   ·have eb:(!((mvF n rows (mvs n rows i)).map V.int).isEmpty)=false:=by rw [c];rfl
    rw [eb]
    refine zbF (exA rfl (rt _ _ ?_))
    have:=q H3 s03
    unfold zcr at this
    rw [hd,ef,if_pos c] at this
    rw [Int.zero_add]
    exact this
   ·have eb:(!((mvF n rows (mvs n rows i)).map V.int).isEmpty)=true:=by
     cases h:mvF n rows (mvs n rows i) with
     | nil=>exact absurd h c
     | cons y ys=>rfl
    rw [eb]
    refine z6I (exA rfl (exA rfl ⟨.ref av,lc,rows,n,exA rfl ⟨dv.mono s03,hy,GM,h60,fun r hr=>z7t GM i r (z4Z.mp hr).1,fun b H4 s4 _ eb4=>?_⟩⟩))
    refine nx _ _ ⟨b,exA rfl ⟨s03.trans s4,eb4,?_⟩⟩
    rw [hd,ef,if_neg c]
 ·obtain ⟨lm,u2,rfl,s2,em,hd⟩:=h
  have:=q H2 s2
  unfold zcr at this
  rw [hd,Int.toNat_natCast,Nat.sub_self] at this
  exact this
abbrev zg1:List Str:=["_law_script","_law_letters_here","_law_one","_law_deep","_law_endless","_law_now","_law_place","_law_word_here","_law_depths"]
theorem z5h:z0p zg1 ["_law_script"] (z06 z9S):=⟨rfl,rfl,rfl,by decide +kernel,rfl,by decide +kernel,by decide +kernel⟩
theorem zeW:z0Z zg1 (z06 z9S) ["_law_letter","_law_one"] [none,some 2] (csc [(".0",.local),("_law_letter",.local),("depth",.globalImplicit),("behind",.globalImplicit),("_law_one",.free)]):=⟨rfl,by decide +kernel,by decide +kernel,by decide +kernel,rfl,by decide +kernel,by decide +kernel⟩
theorem zde:z0Z zg1 (z06 z9S) ["_law_guise_here","_law_letters_here"] [none,some 1] (csc [(".0",.local),("_law_guise_here",.local),("still",.globalImplicit),("_law_letters_here",.free)]):=⟨rfl,by decide +kernel,by decide +kernel,by decide +kernel,rfl,by decide +kernel,by decide +kernel⟩
theorem z7A (xs:List V) (k:Nat):z3h xs (some (k:Int)) none=xs.drop k:=by
 by_cases h:k≤xs.length
 ·exact z7c xs k h
 ·have e:HT.sIx xs.length 0 (some (k:Int))=xs.length:=by rw [HT.sIx_nat,Nat.min_eq_right (by lia)]
  unfold z3h
  rw [e,List.drop_length,List.drop_of_length_le (by lia),List.take_nil]
theorem zcF {n:Nat} {F:List Row} (G:z0n n F) (hf:shr F=F) (n0:0 < n) {k:Nat} (h:dep n F=some k):∃ dl:Nat→Nat,(∀ l,l < n→dep n (shr (swM F (goW F 0 [(l:Int)])))=some (dl l))∧(0 < k→(∀ l,l < n→dl l+1≤k)∧∃ l,l < n∧dl l+1=k):=by
 cases k with
 | zero =>
  have e:=z9j G hf n0 h
  refine ⟨fun _=>0,fun l hl=>?_,fun z=>absurd z (by lia)⟩
  have e2:goW F 0 [(l:Int)]=0:=by rw [e];exact z62 _ (z50 hl fun _ z=>by simp at z)
  rw [e2,z8F G,hf]
  exact h
 | succ k =>
  have ex:∀ l,∃ d,l < n→dep n (shr (swM F (goW F 0 [(l:Int)])))=some d∧d≤k:=fun l=>by
   by_cases hl:l < n
   ·obtain ⟨d,a,b⟩:=zb1 G hf n0 h hl
    exact ⟨d,fun _=>⟨a,b⟩⟩
   ·exact ⟨0,fun z=>absurd z hl⟩
  obtain ⟨dl,hd⟩:=Classical.axiomOfChoice ex
  refine ⟨dl,fun l hl=>(hd l hl).1,fun _=>⟨fun l hl=>by have:=(hd l hl).2;lia,?_⟩⟩
  obtain ⟨l,hl,e⟩:=zdA G hf n0 h
  refine ⟨l,hl,?_⟩
  have:=(hd l hl).1
  rw [e] at this
  rw [←Option.some.inj this]
theorem zfA {Cb Cw:Addr} {Ts:List Tb} (ml:mg "len"=none) (mr:mg "range"=none) (mmax:mg "max"=none) (F:Fun K "law" "law" z9S f fd)
  {aC:Addr} {dC:FuncData} (C:z0y P w K mg base (CXx P w) 9 aC dC ["_law_script","_law_at"] (z8I K)) (bC:z0l K dC ["_law_script","_law_at"] []) (kC:PySem.W.keepIn K (.ref aC)=true) (mC:mg "_law_cell"=some (.ref aC))
  {aL:Addr} {dL:FuncData} (L:z0y P w K mg base (CXx P w) 9 aL dL ["_law_script","_law_at"] (z4S K)) (bL:z0l K dL ["_law_script","_law_at"] []) (kL:PySem.W.keepIn K (.ref aL)=true) (mL:mg "_law_letters"=some (.ref aL))
  {aG:Addr} {dG:FuncData} (G:z0y P w K mg base (CXx P w) 9 aG dG ["_law_letters_here","_law_cell_here"] (z7K K)) (bG:z0l K dG ["_law_letters_here","_law_cell_here"] []) (kG:PySem.W.keepIn K (.ref aG)=true) (mG:mg "_law_guise"=some (.ref aG))
  {aD0:Addr} {dD0:FuncData} (D0:z0y P w K mg base (CXx P w) 9 aD0 dD0 ["_law_letters_here","_law_cell_here"] (zam K)) (bD0:z0l K dD0 ["_law_letters_here","_law_cell_here"] []) (kD0:PySem.W.keepIn K (.ref aD0)=true) (mD0:mg "_law_down"=some (.ref aD0))
  {aDe:Addr} {dDe:FuncData} (De:z0y P w K mg base (CXx P w) 9 aDe dDe ["guise"] (z83 K)) (bDe:z0l K dDe ["guise"] []) (kDe:PySem.W.keepIn K (.ref aDe)=true) (mDe:mg "depth"=some (.ref aDe))
  {aLa:Addr} {dLa:FuncData} (La:z0y P w K mg base (CXx P w) 9 aLa dLa ["guise"] (z4F Ts K)) (bLa:z0l K dLa ["guise"] []) (kLa:PySem.W.keepIn K (.ref aLa)=true) (mLa:mg "lasting"=some (.ref aLa))
  {aS:Addr} {dS:FuncData} (S:z0y P w K mg base (CXx P w) 9 aS dS ["letters"] (z7W K)) (bS:z0l K dS ["letters"] []) (kS:PySem.W.keepIn K (.ref aS)=true) (mS:mg "still"=some (.ref aS))
  {aO:Addr} {dO:FuncData} (O:z0y P w K mg base (CXx P w) 9 aO dO ["_law_letters_here","_law_cell_here","_law_most"] (z5P K)) (bO:z0l K dO ["_law_letters_here","_law_cell_here","_law_most"] []) (kO:PySem.W.keepIn K (.ref aO)=true) (mO:mg "_law_coming"=some (.ref aO))
  {aE0:Addr} {dE0:FuncData} (E0:z0y P w K mg base (CXx P w) 9 aE0 dE0 ["guise","endless"] (z7V K)) (bE0:z0l K dE0 ["guise","endless"] []) (kE0:PySem.W.keepIn K (.ref aE0)=true) (mE0:mg "worn_endless"=some (.ref aE0))
  {aA0:Addr} {dA0:FuncData} (A0:z0y P w K mg base (CXx P w) 9 aA0 dA0 ["endless","place"] (z3L K Cb)) (bA0:z0l K dA0 ["endless","place"] []) (kA0:PySem.W.keepIn K (.ref aA0)=true) (mA0:mg "letter_at"=some (.ref aA0))
  {aW:Addr} {dW:FuncData} (W:z0y P w K mg base (CXx P w) 9 aW dW ["_law_letters_here","_law_cell_here","_law_most"] (z8g K)) (bW:z0l K dW ["_law_letters_here","_law_cell_here","_law_most"] []) (kW:PySem.W.keepIn K (.ref aW)=true) (mW:mg "_law_word"=some (.ref aW))
  {aN:Addr} {dN:FuncData} (N:z0y P w K mg base (CXx P w) 9 aN dN ["guise","word"] (zaY K Cw)) (bN:z0l K dN ["guise","word"] []) (kN:PySem.W.keepIn K (.ref aN)=true) (mN:mg "worn"=some (.ref aN))
  {aBh:Addr} {dBh:FuncData} (Bh:z0y P w K mg base (CXx P w) 9 aBh dBh ["guise","word"] (z6t Ts K Cw)) (bBh:z0l K dBh ["guise","word"] []) (kBh:PySem.W.keepIn K (.ref aBh)=true) (mBh:mg "behind"=some (.ref aBh)):z0y P w K mg base (CXx P w) 10 f fd ["_law_script"] (z8W Ts K):=by
 refine F.okc z5h (fun vs H Q E h=>?_) (fun cdv A' outer s H vs Q E' hr h=>?_)
 ·obtain ⟨a,ns,rfl,_⟩:=h
  rfl
 obtain ⟨a,ns,rfl,hS,h63,hTb,q⟩:=h
 have n2:=zdL ns 0
 have n5:=zdz ns 0
 have hu:=hr.units
 refine ⟨_,z04 (z0i (i:=1) z5h.nd rfl (Or.inr rfl) (z0b L hr rfl mL kL bL .nil z0C (z02 (pv 0) (z02 z07 z05))))
  (z04 (z0i (i:=2) z5h.nd rfl (Or.inr rfl) (z0b G hr rfl mG kG bG .nil z0C (z02 (pv 1) (z02 (z0b C hr rfl mC kC bC .nil z0C (z02 (pv 0) (z02 z07 z05))) z05))))
  (z04 (z1Q (z18 zbp (z0k z0O (z0b C hr rfl mC kC bC .nil z0C (z02 (pv 0) (z02 z07 z05))) z07) z07 (z19 _)) (z08 (z0i (i:=2) z5h.nd rfl (Or.inr rfl) (z0b D0 hr rfl mD0 kD0 bD0 .nil z0C (z02 (pv 1) (z02 (z0b C hr rfl mC kC bC .nil z0C (z02 (pv 0) (z02 z07 z05))) z05))))) z0M)
  (z04 (z0i (i:=3) z5h.nd rfl (Or.inl rfl) (z0b De hr rfl mDe kDe bDe .nil z0C (z02 (pv 2) z05)))
  (z04 (z1Q (z18 zfD (pv 3) zd8 (z19 _)) (z08 (z0D (z3R zbp (z0j z09 rfl ml PySem.boot_len (z02 (z8T rfl zde (z1j (z0b La hr rfl mLa kLa bLa .nil z0C (z02 (pv 2) z05))) (fun _ _ _ _ _=>z0c (i:=0) zde.nd rfl (Or.inl rfl)) (fun _ _ _ _ _=>z18 (zfz K rfl hu) (pv 0) (z0b S hr rfl mS kS bS .nil z0C (z02 (pv 1) z05)) (z19 _)) (fun _ _ _ _ _=>pv 0)) z05)) z07 (z19 _)))) z0M)
  (z04 (z0i (i:=4) z5h.nd rfl (Or.inl rfl) (z0b O hr rfl mO kO bO .nil z0C (z02 (pv 1) (z02 (z0b C hr rfl mC kC bC .nil z0C (z02 (pv 0) (z02 z07 z05))) (z02 z07 z05)))))
  (z04 (z0i (i:=5) z5h.nd rfl (Or.inl rfl) (z0b E0 hr rfl mE0 kE0 bE0 .nil z0C (z02 (pv 2) (z02 (pv 4) z05))))
  (z04 (z1X PassesOwn.never rfl (zbx rfl mr (z02 (pv 3) (z02 (z0k z0R (pv 3) z07) z05))) (z0c (i:=6) z5h.nd rfl (Or.inl rfl))
   (z08 (z1Q (z1o (zd7 (z0b A0 hr rfl mA0 kA0 bA0 .nil z0C (z02 (pv 5) (z02 (pv 6) z05))) (z0b A0 hr rfl mA0 kA0 bA0 .nil z0C (z02 (pv 4) (z02 (pv 6) z05))))) (z08 (z0D z9L)) z0M)))
  (z04 (z0i (i:=7) z5h.nd rfl (Or.inl rfl) (z0b W hr rfl mW kW bW .nil z0C (z02 (pv 1) (z02 (z0b C hr rfl mC kC bC .nil z0C (z02 (pv 0) (z02 z07 z05))) (z02 z07 z05)))))
  (z04 (z1Q (PW.pt (zee (z18 (zdc hr.units0) (z1b z3c (z0b N hr rfl mN kN bN .nil z0C (z02 (pv 2) (z02 (pv 7) z05))) (z1a (pv 3)) z2e) (z1b z3c (pv 7) (z1a (pv 3)) z2e) (z19 _)) (za5 (z18 (zdX K rfl hu) (z0b La hr rfl mLa kLa bLa .nil z0C (z02 (pv 2) z05)) (z1H (z02 (z0b S hr rfl mS kS bS .nil z0C (z02 (pv 1) z05)) z05)) (z19 _))))) (z08 (z0D z9L)) z0M)
  (z04 (z8h (i:=8) rfl zeW (z1v rfl mr (z02 (pv 1) z05)) (fun _ _ _ _ _=>z0c (i:=0) zeW.nd rfl (Or.inl rfl)) (fun _ _ _ _ _=>z0b De hr rfl mDe kDe bDe .nil z0C (z02 (z0b Bh hr rfl mBh kBh bBh .nil z0C (z02 (pv 1) (z02 (z1y (z02 (pv 0) z05)) z05))) z05)) z5h.nd rfl rfl)
  (z08 (z0D (zgm (zfa (z3R ze5 (pv 3) z07 (z19 _)) (zd4 (z3R (zdi hu) (pv 2) (z0b S hr rfl mS kS bS .nil z0C (z02 (pv 1) z05)) (z19 _)))) (zd4 (z3R ze5 (z0j (zg3 K rfl rfl) rfl mmax PyProof.Rows.boot_max (z02 (pv 8) z05)) (z0k z2A (pv 3) z07) (z19 _)))))))))))))))),?_⟩
 generalize hn:zdn ns 0=n at *
 refine zbI fun R1 hR1=>?_
 refine (exA rfl ⟨a,ns,0,rfl,hS,h63,by lia,?_⟩)
 rw [hn]
 refine atR (R:=R1) hR1 ?_
 refine zbI fun R2 hR2=>?_
 refine (exA rfl (exA rfl ⟨a,ns,1,rfl,hS,h63,by lia,n,exA rfl ⟨n2,n5,fun v0 H0 r0 s0 G0 l0 d0=>?_⟩⟩))
 refine atR (R:=R2) hR2 ?_
 refine zgz (fun σ' H'=>∃ (v1:V) (rows:List Row),σ'=[some (.ref a),some (.int n),some v1,none,none,none,none,none,none]∧z0h H H'∧z0n n rows∧rows.length≤9∧Dr K H' (D.tup (z0m (shr rows))) v1) (fun Ed nx=>?_) (fun σ' H1 h=>?_)
 ·refine (exA rfl ⟨a,ns,2,rfl,s0.seq hS,h63,by lia,exC rfl rfl ⟨z7F,exC rfl rfl (exA rfl (z2D (fun _=>?_) (fun _=>nx _ _ ⟨v0,r0,rfl,s0,G0,by lia,d0⟩)))⟩⟩)
  exact (exA rfl (exA rfl ⟨a,ns,1,rfl,s0.seq hS,h63,by lia,n,exA rfl ⟨n2,n5,fun v2 H2 rows s2 G2 l2 d2=>nx _ _ ⟨v2,rows,rfl,s0.trans s2,G2,l2,d2⟩⟩⟩))
 clear d0 G0 l0
 obtain ⟨v1,rows,rfl,s1,G1,l1,d1⟩:=h
 have GA:=z2s G1
 have fA:=zbw G1
 have hA:(shr rows).length≤9:=by have:=z8r G1;lia
 generalize shr rows=RA at *
 have n0:0 < n:=by lia
 refine zbI fun R3 hR3=>?_
 refine (exA rfl ⟨v1,RA,n,rfl,d1,GA,n2,by lia,by lia,fun H2 s2=>?_⟩)
 have s02:=s1.trans s2
 replace d1:=d1.mono s2
 refine atR (R:=R3) hR3 ?_
 cases ed:dep n RA with
 | none =>
  have ev:zcr n RA=.non:=by unfold zcr;rw [ed]
  rw [ev]
  refine (exA rfl ⟨rfl,exA rfl (zbF ?_)⟩)
  refine (exA rfl ⟨v1,RA,n,rfl,z4s.mono hTb s02,d1,GA,n2,by lia,by lia,fun vx H3 s3 d3=>?_⟩)
  simp only [Dr] at d3
  obtain ⟨la,us,rfl,ela,dus⟩:=d3
  have hlu:us.length=(z2r n RA RA.length).length:=by rw [←dus.length,zep]
  have hll:=zcy n RA RA.length
  refine ⟨la,rfl,⟨_,ela⟩,fun lc hlc=>z5o (xs:=us) (fun i ys H4=>ys.length≤i∧z0h H3 H4∧((∃ j,j < i∧∃ g,(z2r n RA RA.length)[j]?=some g∧g≠z1r n)→ys≠[])) ⟨Nat.le_refl _,same_up (z0h.refl H3) hlc,fun ⟨j,hj,_⟩=>absurd hj (by lia)⟩
   (fun i ys H4 _ h=>h.2.1.seq ela) (z0G (by lia)) (fun i ys H4 h=>h.1) (fun i x ys H4 hx h hy=>?_) (fun ys H4 h hy=>?_)⟩
  ·obtain ⟨hyl,s4,hc⟩:=h
   have hi:i < us.length:=(List.getElem?_eq_some_iff.mp hx).1
   have eg:(z2r n RA RA.length)[i]?=some ((z2r n RA RA.length)[i]'(by lia)):=List.getElem?_eq_getElem (by lia)
   generalize (z2r n RA RA.length)[i]'(by lia)=g at eg
   obtain ⟨x',ex',dx⟩:=dus.get (show (fmD (z2r n RA RA.length))[i]?=some (D.tup (z0m g)) by unfold fmD;rw [List.getElem?_map,eg];rfl)
   rw [hx] at ex'
   cases ex'
   refine (exA rfl (exA rfl ⟨n,rfl,n2,by lia,fun z1 H5 s5 d5=>?_⟩))
   refine ⟨_,_,dx.mono (s4.trans s5),(show Dr K H5 (D.tup (z0m (z1r n))) z1 from d5),z3v _ _,by have:=z46 g;lia,?_⟩
   rw [za6]
   refine (exA rfl ?_)
   have e5:=s5 _ _ hy
   by_cases c:g=z1r n
   ·rw [decide_eq_true c]
    refine ⟨e5,by lia,s4.trans s5,fun ⟨j,hj,g',e',ne⟩=>hc ⟨j,?_,g',e',ne⟩⟩
    by_cases ej:j=i
    ·rw [ej,eg] at e'
     exact absurd c (by rw [Option.some.inj e'];exact ne)
    ·lia
   ·rw [decide_eq_false c]
    exact (exA rfl ⟨e5,by rw [List.length_append];simp;lia,z0f (s4.trans s5) hlc,fun _=>by simp⟩)
  ·obtain ⟨_,s4,hc⟩:=h
   obtain ⟨g,hg,gne⟩:=z6T GA fA n0 ed
   obtain ⟨j,hj,rfl⟩:=List.mem_iff_getElem.mp hg
   have yne:=hc ⟨j,by lia,_,List.getElem?_eq_getElem hj,gne⟩
   have yp:0 < ys.length:=List.length_pos_iff.mpr yne
   refine (exG lc rfl (.inl (SqL.of hy)) (exC rfl rfl ?_))
   show Q (.bl (decide ((0:Int) < ((ys.length:Nat):Int)))) H4
   rw [decide_eq_true (by lia)]
   exact q _
 | some k =>
  have ev:zcr n RA=.int (k:Int):=by unfold zcr;rw [ed]
  rw [ev]
  have hk:=zf8 ed
  obtain ⟨al,_⟩:=(z37 GA n0 k).mp ed
  refine zbI fun R4 hR4=>?_
  refine (exA rfl ⟨rfl,exA rfl (z6I ?_)⟩)
  refine atR (R:=R4) hR4 ?_
  refine zbI fun R5 hR5=>?_
  refine (exA rfl (exA rfl ⟨a,ns,3,rfl,s02.seq hS,h63,by lia,n,_,9,rfl,n2,n5,by lia,by lia,fun ve H3 e s3 de hne b1 b2 i1 i2=>?_⟩))
  have hlat:=zeD hne i1 i2
  have eA:e.1.length+RA.length*e.2.length≤300:=by have:=Nat.mul_le_mul hA b2;lia
  refine atR (R:=R5) hR5 ?_
  refine zbI fun R6 hR6=>?_
  refine (exA rfl (exA rfl ⟨v1,ve,RA,e,n,rfl,d1.mono s3,de,GA,by lia,hne,i1,i2,by lia,fun vn H4 En s4 dn pn latn _ _=>?_⟩))
  have s04:=s02.trans (s3.trans s4)
  replace d1:=d1.mono (s3.trans s4)
  replace de:=de.mono s4
  refine atR (R:=R6) hR6 ?_
  refine zbI fun R7 hR7=>?_
  refine (exA rfl (exA rfl (exC rfl rfl ⟨(k:Int),(k:Int)+40,rfl,⟨by lia,by lia,by lia,by lia⟩,z8E (n:=((k:Int)+40 - (k:Int)).toNat) (fun _ σ H'=>∃ (u6:Option V),σ=[some (.ref a),some (.int n),some v1,some (.int k),some ve,some vn,u6,none,none]∧H'=H4) (exA rfl rfl) (fun i σ H5 hi h Ed nx=>?_) (fun σ H5 h=>?_)⟩)))
  ·obtain ⟨u6,rfl,rfl⟩:=h
   have el:lat En ((k:Int)+(i:Int)).toNat=lat e ((k:Int)+(i:Int)).toNat:=by rw [latn,zbW al hlat (by lia)]
   refine (exA rfl (exA rfl ⟨vn,En,(k:Int)+(i:Int),rfl,dn,pn.ring,fun _=>?_,fun z=>absurd z (by lia)⟩))
   refine (exA rfl (exA rfl ⟨ve,e,(k:Int)+(i:Int),rfl,de,hne,fun _=>?_,fun z=>absurd z (by lia)⟩))
   exact (exC rfl rfl (exA rfl (z2D (fun c=>absurd c (by rw [el];simp)) (fun _=>nx _ _ (exA rfl rfl)))))
  obtain ⟨u6,rfl,rfl⟩:=h
  refine atR (R:=R7) hR7 ?_
  refine zbI fun R8 hR8=>?_
  refine (exA rfl (exA rfl ⟨a,ns,4,rfl,s04.seq hS,h63,by lia,n,_,30,rfl,n2,n5,by lia,fun vw H5 wd s5 dw lw hwl=>?_⟩))
  obtain ⟨aw,rfl,eaw⟩:=Dr.its_inv dw
  have s05:=s04.trans s5
  replace d1:=d1.mono s5
  refine atR (R:=R8) hR8 ?_
  refine zbI fun R9 hR9=>?_
  refine (exA rfl (exA rfl ⟨v1,.ref aw,RA,n,wd,rfl,d1,dw,GA,by lia,by lia,fun _ t6 H6 s6 et6=>?_,fun z=>absurd lw z⟩))
  refine (exA rfl (exA rfl ⟨t6,exA rfl ⟨et6,fun p7 H7 s7 ep7=>?_⟩⟩))
  refine (exA rfl (exA rfl (exA rfl ⟨aw,exA rfl ⟨(s6.trans s7) _ _ eaw,fun p8 H8 s8 ep8=>?_⟩⟩)))
  rw [z7A,←List.map_drop,zcD al lw] at ep7
  rw [z7A,←List.map_drop] at ep8
  refine ⟨p7,p8,exC rfl rfl ⟨s8 _ _ ep7,ep8,?_⟩⟩
  rw [decide_eq_true rfl]
  refine (exA rfl (z6I ?_))
  have s58:=s6.trans (s7.trans s8)
  have s08:=s05.trans s58
  replace d1:=d1.mono s58
  refine (exA rfl ⟨v1,RA,n,rfl,z4s.mono hTb s08,d1,GA,n2,by lia,by lia,fun vx H9 s9 d9=>?_⟩)
  rw [z85 GA fA n0 ed] at d9
  refine (exA rfl ⟨n,rfl,n2,by lia,fun z1 Ha sa da=>⟨by show 1≤sizeLine;decide,fun lz hlz=>?_⟩⟩)
  have sb:=same_up (o:=HO.lst [z1]) (z0h.refl Ha) hlz
  refine ⟨fmD [z1r n],fmD [z1r n],(d9.mono sa).mono sb,Dr.lst z03 (DrL.one ((show Dr K Ha (D.tup (z0m (z1r n))) z1 from da).mono sb)),rfl,?_,?_,?_⟩
  ·show D.okL [D.tup (z0m (z1r n))] [D.tup (z0m (z1r n))]
   simp only [D.okL,D.ok]
   exact ⟨z3v _ _,trivial⟩
  ·show D.depL [D.tup (z0m (z1r n))]≤50
   have:=z46 (z1r n)
   simp only [D.depL,D.dep]
   lia
  rw [D.eq_refl]
  refine (exA rfl (z6I ?_))
  have t0b:z1S Ts H (upd Ha lz (HO.lst [z1])):=(z0h.l s08).trans (s9.trans (z0h.l (sa.trans sb)))
  replace d1:=(d1.monoL s9).mono (sa.trans sb)
  clear d9 da ep7 ep8 et6 dw
  generalize upd Ha lz (HO.lst [z1])=Hb at *
  obtain ⟨dl,hdl,hmx⟩:=zcF GA fA n0 ed
  refine atR (R:=R9) hR9 ?_
  refine zbI fun R10 hR10=>?_
  refine (exA rfl ⟨(n:Int),rfl,by lia,by lia,fun ld hld=>z2V (n:=(n:Int).toNat) (fun i ys H2=>ys=((List.range i).map fun (l:Nat)=>((dl l:Nat):Int)).map V.int∧z1S Ts Hb H2) ⟨rfl,z0h.l (same_up (z0h.refl Hb) hld)⟩ (z0G (by lia)) (fun i ys H2 h=>by rw [h.1];simp) (fun i ys H2 hi h hy=>?_) (fun ys H2 h hy=>?_)⟩)
  ·obtain ⟨rfl,t2⟩:=h
   have hin:i < n:=by lia
   have hp:=GA.some
   have lwi:LW n [(i:Int)]:=z50 hin fun _ z=>by simp at z
   obtain ⟨g0,g1⟩:=z1F GA lwi (Int.le_refl 0) (show (0:Int) < (RA.length:Int) by lia)
   have GS:=z1s GA g0 g1
   refine (exA rfl (exA rfl ⟨by show 1≤sizeLine;decide,fun tl htl=>?_⟩))
   have sc:=same_up (o:=HO.tup [V.int (0+(i:Int))]) (z0h.refl H2) htl
   have tc:=t2.trans (z0h.l sc)
   have etl:upd H2 tl (HO.tup [V.int (0+(i:Int))]) tl=some (.tup ([(i:Int)].map V.int)):=by rw [z03,Int.zero_add];rfl
   refine ⟨v1,.ref tl,RA,n,[(i:Int)],rfl,(t0b.trans tc).tabs hTb,d1.monoL tc,z3j etl,GA,by lia,by lia,by simp,fun _ x H3 s3' dx=>?_,fun z=>absurd lwi z⟩
   refine ⟨x,_,n,rfl,dx,z2s GS,n2,by lia,by have:=z8r GS;rw [z1K] at this;lia,fun H4' s4'=>?_⟩
   have evi:zcr n (shr (swM RA (goW RA 0 [(i:Int)])))=.int ((dl i:Nat):Int):=by unfold zcr;rw [hdl i hin]
   rw [evi]
   have sx:=s3'.trans (z0h.l s4')
   have ey:=sx.g (sc _ _ hy)
   refine ⟨ey,?_,z1S.over (tc.trans sx) hld ey⟩
   rw [List.range_succ,List.map_append,List.map_append]
   rfl
  obtain ⟨rfl,t2⟩:=h
  rw [Int.toNat_natCast] at hy
  replace d1:=d1.monoL t2
  obtain ⟨a1,rfl⟩:=zb4 d1
  refine atR (R:=R10) hR10 ?_
  refine (exA rfl ⟨rfl,?_⟩)
  by_cases hk0:k=0
  ·subst hk0
   refine ⟨true,rfl,zbF (exA rfl (exA rfl ⟨n,rfl,n2,by lia,fun z2 Hd sd dz=>?_⟩))⟩
   obtain ⟨az,rfl⟩:=zb4 dz
   refine ⟨a1,az,exC rfl rfl ⟨d1.mono sd,(show Dr K Hd (D.tup (z0m (z1r n))) (.ref az) from dz),z3v _ _,z9F _,?_⟩⟩
   rw [za6,decide_eq_true (z9j GA fA n0 ed)]
   exact ⟨true,rfl,zbF (q _)⟩
  ·refine ⟨false,(by rw [decide_eq_false (by intro z;injection z with z;lia)]),z6I ⟨false,rfl,z6I ?_⟩⟩
   obtain ⟨m1,l9,hl9,m2⟩:=hmx (by lia)
   refine (exA rfl ⟨ld,_,(k:Int) - 1,rfl,SqL.of hy,?_,fun x hx=>?_,?_⟩)
   ·exact List.mem_map.mpr ⟨l9,List.mem_range.mpr hl9,by lia⟩
   ·obtain ⟨l,hl,rfl⟩:=List.mem_map.mp hx
    have:=m1 l (List.mem_range.mp hl)
    lia
   refine (exA rfl (exC rfl rfl ⟨rfl,?_⟩))
   rw [decide_eq_true rfl]
   exact q _
abbrev nCa:List Str:=["guise","row","found","seen","at","going"]
theorem zey:z0p nCa ["guise","row"] (z06 z4L):=⟨rfl,rfl,rfl,by decide +kernel,rfl,by decide +kernel,by decide +kernel⟩
theorem zgR:z0Z nCa (z06 z4L) ["going"] [none] (csc [(".0",.local),("going",.local)]):=⟨rfl,by decide +kernel,by decide +kernel,by decide +kernel,rfl,by decide +kernel,by decide +kernel⟩
theorem zai {n:Nat} {M:List Row} (G:z0n n M) {r x g:Int} {v:List Int} (lv:LW n v) (r0:0≤r) (r1:r < (M.length:Int)) (e:goW M r v=x) (hg:g∈(row M x).2):∃ u,u≠[]∧LW n u∧goW M r u=g:=by
 obtain ⟨a,b⟩:=z1F G lv r0 r1
 rw [e] at a b
 obtain ⟨i,hi,ei⟩:=List.mem_iff_getElem.mp hg
 have hn:=G.len _ (z0o a b)
 refine ⟨v++[(i:Int)],by simp,z88 lv (by lia),?_⟩
 rw [z1z,e]
 show (row M x).2.getD ((i:Int)).toNat 0=g
 rw [Int.toNat_natCast,List.getD_eq_getElem?_getD,List.getElem?_eq_getElem hi]
 exact ei
structure Fnd (n:Nat) (M:List Row) (r:Int) (o:List Int):Prop where
 nd:o.Nodup
 rg:∀ x∈o,0≤x∧x < (M.length:Int)
 st:∀ g∈(row M r).2,g∈o
 re:∀ x∈o,∃ u,u≠[]∧LW n u∧goW M r u=x
theorem Fnd.add {n:Nat} {M:List Row} (G:z0n n M) {r:Int} (r0:0≤r) (r1:r < (M.length:Int)) {o:List Int} (h:Fnd n M r o) {x g:Int} (hx:x∈o) (hg:g∈(row M x).2):Fnd n M r (z1Z o g):=by
 obtain ⟨a,b⟩:=h.rg x hx
 obtain ⟨u,une,lu,eu⟩:=h.re x hx
 refine ⟨z5t h.nd,fun y hy=>?_,fun y hy=>z1c.mpr (.inl (h.st y hy)),fun y hy=>?_⟩
 ·rcases z1c.mp hy with z | z
  ·exact h.rg y z
  ·rw [z];exact G.go _ (z0o a b) g hg
 ·rcases z1c.mp hy with z | z
  ·exact h.re y z
  ·rw [z];exact zai G lu r0 r1 eu hg
theorem Fnd.all {n:Nat} {M:List Row} (G:z0n n M) {r:Int} (r0:0≤r) (r1:r < (M.length:Int)) {x:Int}:∀ (gs:List Int) (o:List Int),Fnd n M r o→x∈o→(∀ g∈gs,g∈(row M x).2)→Fnd n M r (z0d o gs)
 | [],_,h,_,_=>h
 | g::gs,o,h,hx,hg=>Fnd.all G r0 r1 gs (z1Z o g) (h.add G r0 r1 hx (hg g List.mem_cons_self)) (z1c.mpr (.inl hx)) fun y hy=>hg y (List.mem_cons_of_mem _ hy)
theorem zek {n:Nat} {M:List Row} (G:z0n n M) {r:Int} (r0:0≤r) (r1:r < (M.length:Int)) {o:List Int} (h:Fnd n M r o) (cl:∀ x∈o,∀ g∈(row M x).2,g∈o):decide (r∈o)=true↔Lp n M r:=by
 rw [decide_eq_true_iff]
 constructor
 ·exact fun hr=>h.re r hr
 ·rintro ⟨v,vne,lv,e⟩
  cases v with
  | nil=>exact absurd rfl vne
  | cons l v =>
   obtain ⟨l0,l1⟩:=lv l List.mem_cons_self
   obtain ⟨_,_,g2⟩:=z7v G r0 r1 (show l.toNat < n by lia)
   have:=z4R (n:=n) (M:=M) (C:=fun z=>z∈o) (fun z hz=>G.len _ (z0o (h.rg z hz).1 (h.rg z hz).2)) (fun z hz g hg=>cl z hz g hg) v _ lv.tail (h.st _ g2)
   have e':goW M ((row M r).2.getD l.toNat 0) v=r:=e
   rw [e'] at this
   exact this
theorem zac (ml:mg "len"=none) (F:Fun K "comes_again" "comes_again" z4L f fd)
  {aG:Addr} {dG:FuncData} (G:z0y P w K mg base CX 1 aG dG ["guise","rows"] (z4i K)) (bG:z0l K dG ["guise","rows"] []) (kG:PySem.W.keepIn K (.ref aG)=true) (mG:mg "gone_to"=some (.ref aG)):z0y P w K mg base CX 2 f fd ["guise","row"] (z6y K):=by
 refine F.okc zey (fun vs H Q E h=>?_) (fun cdv A outer s H vs Q E hr h=>?_)
 ·obtain ⟨v,rows,n,r,rfl,_⟩:=h
  rfl
 obtain ⟨v,rows,n,r,rfl,dv,GM,n2,h60,r0,r1,q⟩:=h
 have hu:=z9w hr
 refine ⟨_,z04 (z0i (i:=2) zey.nd rfl (Or.inl rfl) (z0b G hr rfl mG kG bG .nil z0C (z02 (pv 0) (z02 (z1H (z02 (pv 1) z05)) z05))))
  (z04 (zcR (i:=3) rfl zgR (z1j (pv 2)) (fun _ _ _ _ _=>z0c (i:=0) zgR.nd rfl (Or.inl rfl)) (fun _ _ _ _ _=>pv 0) (fun _ _ _ _ _=>z9L) zey.nd rfl rfl)
  (z04 (z0i (i:=4) zey.nd rfl (Or.inl rfl) z07)
  (z04 (z1D PassesOwn.never (z18 z4O (pv 4) (z0j z09 rfl ml PySem.boot_len (z02 (pv 2) z05)) (z19 _))
   (z04 (z1X PassesOwn.never rfl (z1j (z0b G hr rfl mG kG bG .nil z0C (z02 (pv 0) (z02 (z1H (z02 (z0Q z0X (pv 2) (pv 4) (fun _ _=>rfl)) z05)) z05)))) (z0c (i:=5) zey.nd rfl (Or.inl rfl))
    (z08 (z1Q (z1o (z2R hu (pv 5) (pv 3))) (z04 (z3a hu (pv 3) (pv 5) z9L rfl)
     (z08 (z0Y (z3l PySem.F.plainAttrs_list PySem.F.slot_list_append PySem.F.type_list_append z0L (pv 2) (z02 (pv 5) z05))))) z0M)))
   (z08 (z94 (i:=4) zey.nd rfl (Or.inl rfl) z07 z9e))))
  (z08 (z0D (zeY (zf6 hu (pv 1) (pv 3)))))))),?_⟩
 have hrow:=z0o r0 r1
 have hgo:=GM.go _ hrow
 have few:∀ o,Fnd n rows r o→o.length≤60:=fun o h=>Nat.le_trans (z1w h.nd h.rg) h60
 refine (exA rfl (exA rfl ⟨by show 1≤sizeLine;decide,fun l0 hl0=>?_⟩))
 have s0:=same_up (o:=HO.lst [V.int r]) (z0h.refl H) hl0
 refine ⟨v,l0,rows,n,[r],rfl,dv.mono s0,z03,GM,h60,fun x hx=>by rw [List.mem_singleton.mp hx];exact ⟨r0,r1⟩,fun lf H1 s1 hlf0 ef=>?_⟩
 have s01:=s0.trans s1
 have hlf:H lf=none:=s0.free hlf0
 rw [z5N] at ef
 have F0:Fnd n rows r (z0A (row rows r).2):=⟨z3J _,fun x hx=>hgo x (z0B.mp hx),fun g hg=>z0B.mpr hg,fun x hx=>zai GM (v:=[]) (fun _ z=>by simp at z) r0 r1 rfl (z0B.mp hx)⟩
 refine (exA rfl ⟨lf,rfl,⟨_,SqL.of ef⟩,fun ld hld=>z9M (xs:=(z0A (row rows r).2).map V.int) (fun j ys H2=>ys=kvT ((z0A (row rows r).2).take j)∧j≤(z0A (row rows r).2).length∧z0h H1 H2) ⟨rfl,Nat.zero_le _,same_up (z0h.refl H1) hld⟩ (fun j ys H2 _ h=>SqL.of (h.2.2 _ _ ef)) (fun j ys H2 hj h=>?_) (fun j x ys H2 hx h hy=>?_) (fun ys H2 h hy=>?_)⟩)
 ·rw [h.1,z7U,List.length_take]
  exact z1p (by have:=few _ F0;lia)
 ·obtain ⟨rfl,hj,s2⟩:=h
  rw [List.getElem?_map] at hx
  obtain ⟨g,eg,rfl⟩:=Option.map_eq_some_iff.mp hx
  have hjl:j < (z0A (row rows r).2).length:=(List.getElem?_eq_some_iff.mp eg).1
  have ep:z1Y (kvT ((z0A (row rows r).2).take j)) (Sum.inl g) (V.bl true)=kvT ((z0A (row rows r).2).take (j+1)):=by
   rw [z7I,List.take_add_one,eg]
   rw [z0u (zb8 (z3J _) eg)]
   rfl
  refine (exA rfl ⟨Sum.inl g,rfl,hy,?_⟩)
  rw [ep]
  exact ⟨rfl,by lia,z0f s2 hld⟩
 obtain ⟨rfl,_,s2⟩:=h
 rw [List.length_map,List.take_length] at hy
 have hld0:H ld=none:=s01.free hld
 have nfd:lf≠ld:=z0g ef hld
 have s02:=s01.trans s2
 have ef2:=s2 _ _ ef
 generalize z0A (row rows r).2=o0 at *
 refine ⟨fun m σ H3=>∃ (i:Nat) (o:List Int) (u5:Option V),m=rows.length+1 - i∧σ=[some v,some (.int r),some (.ref lf),some (.ref ld),some (.int (i:Int)),u5]∧z0h H H3∧H3 lf=some (.lst (o.map V.int))∧H3 ld=some (.dK (kvT o))∧Fnd n rows r o∧i≤o.length∧∀ (j:Nat) (x:Int),j < i→o[j]?=some x→∀ g∈(row rows x).2,g∈o,
  ⟨_,0,o0,none,rfl,rfl,s02,ef2,hy,F0,Nat.zero_le _,fun j x hj=>absurd hj (by lia)⟩,?_⟩
 rintro m σ H3 ⟨i,o,u5,rfl,rfl,s3,e1,e2,Fo,hi,cl⟩
 have hol:(o.map V.int).length=o.length:=List.length_map _
 have ho60:=Nat.le_trans (z1w Fo.nd Fo.rg) (Nat.le_refl _)
 refine (exA rfl (exA rfl (exG lf rfl (.inl (SqL.of e1)) (exC rfl rfl (exA rfl ?_)))))
 refine z2D (fun c=>?_) (fun c=>?_)
 ·have c':=of_decide_eq_true c
  rw [hol] at c'
  have hio:i < o.length:=by lia
  have eo:o[i]?=some o[i]:=List.getElem?_eq_getElem hio
  have hxo:o[i]∈o:=List.getElem_mem hio
  generalize o[i]=x at eo hxo
  obtain ⟨x0,x1⟩:=Fo.rg x hxo
  refine zd1 fun N nx=>?_
  refine (exA rfl (exA rfl (exA rfl (exD lf _ _ (V.int x) rfl rfl (SqL.of e1) (z0F (by rw [List.getElem?_map,eo];rfl)) ⟨by show 1≤sizeLine;decide,fun l4 hl4=>?_⟩))))
  have s4:=same_up (o:=HO.lst [V.int x]) (z0h.refl H3) hl4
  refine ⟨v,l4,rows,n,[x],rfl,dv.mono (s3.trans s4),z03,GM,h60,fun y hy=>by rw [List.mem_singleton.mp hy];exact ⟨x0,x1⟩,fun lg H5 s5 hlg eg5=>?_⟩
  rw [z5N] at eg5
  have s35:=s4.trans s5
  have e1':=s35 _ _ e1
  have e2':=s35 _ _ e2
  have ngf:lg≠lf:=fun z=>by rw [z,s4 _ _ e1] at hlg;cases hlg
  have ngd:lg≠ld:=fun z=>by rw [z,s4 _ _ e2] at hlg;cases hlg
  refine ⟨lg,rfl,⟨_,SqL.of eg5⟩,zan (xs:=(z0A (row rows x).2).map V.int) (fun j σ H6=>∃ u:Option V,σ=[some v,some (.int r),some (.ref lf),some (.ref ld),some (.int (i:Int)),u]∧z0h H H6∧H6 lg=some (.lst ((z0A (row rows x).2).map V.int))∧H6 lf=some (.lst ((z0d o ((z0A (row rows x).2).take j)).map V.int))∧H6 ld=some (.dK (kvT (z0d o ((z0A (row rows x).2).take j)))))
   ⟨_,rfl,s3.trans s35,eg5,e1',e2'⟩ (fun j σ H6 _ h=>by obtain ⟨_,_,_,e,_⟩:=h;exact SqL.of e) (fun j y σ H6 hy6 h Ed nx3=>?_) (fun σ H6 h=>?_)⟩
  ·obtain ⟨u,rfl,s6,eg6,e16,e26⟩:=h
   rw [List.getElem?_map] at hy6
   obtain ⟨g,egj,rfl⟩:=Option.map_eq_some_iff.mp hy6
   have hgm:g∈(row rows x).2:=z0B.mp (List.mem_of_getElem? egj)
   have Fj:=Fnd.all GM r0 r1 ((z0A (row rows x).2).take j) o Fo hxo fun y hy=>z0B.mp (List.mem_of_mem_take hy)
   have hlj:=few _ Fj
   have et:=z7j egj o
   refine (exA rfl (exA rfl ⟨ld,exA rfl ⟨z3V.k (k:=Sum.inl g) e26,exA rfl ?_⟩⟩))
   rw [zag]
   by_cases hm:g∈z0d o ((z0A (row rows x).2).take j)
   ·rw [decide_eq_true hm]
    refine z6I (nx3 _ _ (exA rfl ⟨s6,eg6,?_,?_⟩))
    ·rw [et,z0w hm];exact e16
    ·rw [et,z0w hm];exact e26
   ·rw [decide_eq_false hm]
    refine zbF (exA rfl (exA rfl ⟨ld,exA rfl ⟨zat.k (k:=Sum.inl g) e26 (by rw [z7U];exact z1p (by lia)),?_⟩⟩))
    rw [z7I,←et]
    have e17:upd H6 ld (HO.dK (kvT (z0d o ((z0A (row rows x).2).take (j+1))))) lf=some (.lst ((z0d o ((z0A (row rows x).2).take j)).map V.int)):=by rw [z0a nfd];exact e16
    have s67:z0h H (upd H6 ld (HO.dK (kvT (z0d o ((z0A (row rows x).2).take (j+1)))))):=z0f s6 hld0
    refine (exA rfl ⟨.inl ⟨rfl,_,SqL.of e17⟩,exA rfl ⟨lf,exC rfl rfl ⟨e17,by rw [List.length_map];exact z1p (by lia),?_⟩⟩⟩)
    refine nx3 _ _ (exA rfl ⟨z0f s67 hlf,?_,?_,?_⟩)
    ·rw [z0a ngf,z0a ngd];exact eg6
    ·rw [et,z0u hm,List.map_append];exact z03
    ·rw [z0a (Ne.symm nfd)];exact z03
  ·obtain ⟨u,rfl,s6,eg6,e16,e26⟩:=h
   rw [List.length_map,List.take_length] at e16 e26
   have Fj:=Fnd.all GM r0 r1 (z0A (row rows x).2) o Fo hxo fun y hy=>z0B.mp hy
   obtain ⟨mm,emm⟩:=z0N (z0A (row rows x).2) o
   have ni:i < rows.length:=by have:=z1w Fo.nd Fo.rg;lia
   refine (exA rfl (exC rfl rfl ?_))
   refine nx (rows.length+1 - (i+1)) _ _ (by lia) ⟨i+1,exB rfl ⟨(by rw [show ((i+1:Nat):Int)=(i:Int)+1 by lia];rfl),s6,e16,e26,Fj,by rw [emm,List.length_append];lia,fun j y hj ey g hg=>?_⟩⟩
   rw [emm,List.getElem?_append_left (by lia)] at ey
   by_cases ej:j=i
   ·rw [ej,eo] at ey
    cases ey
    exact z0I.mpr (.inr (z0B.mpr hg))
   ·exact z0I.mpr (.inl (cl j y (by lia) ey g hg))
 ·have c':¬ ((i:Int) < (((o.map V.int).length:Nat):Int)):=fun z=>c (decide_eq_true z)
  rw [hol] at c'
  refine (exA rfl (exA rfl ⟨ld,exA rfl ⟨z3V.k (k:=Sum.inl r) e2,?_⟩⟩))
  rw [zag]
  refine q _ (zek GM r0 r1 Fo fun x hx=>?_) H3 s3
  obtain ⟨j,hj,rfl⟩:=List.mem_iff_getElem.mp hx
  exact cl j _ (by lia) (List.getElem?_eq_getElem hj)
abbrev nLs:List Str:=["guise"]
theorem zhn:z0p nLs ["guise"] (z06 z3o):=⟨rfl,rfl,rfl,by decide +kernel,rfl,by decide +kernel,by decide +kernel⟩
theorem zgS:z0Z nLs (z06 z3o) ["row","guise"] [none,some 0] (csc [(".0",.local),("row",.local),("comes_again",.globalImplicit),("section_at",.globalImplicit),("guise",.free)]):=⟨rfl,by decide +kernel,by decide +kernel,by decide +kernel,rfl,by decide +kernel,by decide +kernel⟩
theorem z9v {Ts:List Tb} (ml:mg "len"=none) (mr:mg "range"=none) (F:Fun K "lasting" "lasting" z3o f fd)
  {aT:Addr} {dT:FuncData} (T:z0y P w K mg base (CXx P w) 7 aT dT ["guise","row"] (z8X Ts K)) (bT:z0l K dT ["guise","row"] []) (kT:PySem.W.keepIn K (.ref aT)=true) (mT:mg "section_at"=some (.ref aT))
  {aC:Addr} {dC:FuncData} (C:z0y P w K mg base (CXx P w) 7 aC dC ["guise","row"] (z6y K)) (bC:z0l K dC ["guise","row"] []) (kC:PySem.W.keepIn K (.ref aC)=true) (mC:mg "comes_again"=some (.ref aC)):z0y P w K mg base (CXx P w) 8 f fd ["guise"] (z4F Ts K):=by
 refine F.okc zhn (fun vs H Q E h=>?_) (fun cdv A outer s H vs Q E hr h=>?_)
 ·obtain ⟨v,rows,n,rfl,_⟩:=h
  rfl
 obtain ⟨v,rows,n,rfl,hTb,dv,GM,n2,hn,h60,gv⟩:=h
 refine ⟨_,z08 (z0D (z8T rfl zgS (z1v rfl mr (z02 (z0j z09 rfl ml PySem.boot_len (z02 (pv 0) z05)) z05)) (fun _ _ _ _ _=>z0c (i:=0) zgS.nd rfl (Or.inl rfl)) (fun _ _ _ _ _=>z9g (z0b C hr rfl mC kC bC .nil z0C (z02 (pv 1) (z02 (pv 0) z05)))) (fun _ _ _ _ _=>z0b T hr rfl mT kT bT .nil z0C (z02 (pv 1) (z02 (pv 0) z05))))),?_⟩
 obtain ⟨av,us,rfl,eav,dus⟩:∃ (av:Addr) (us:List V),v=.ref av∧H av=some (.tup us)∧DrL K H (z0m rows) us:=by
  simp only [Dr] at dv
  exact dv
 have hlu:us.length=rows.length:=by rw [←dus.length];unfold z0m;rw [List.length_map]
 refine (exA rfl (exG av rfl (.inr (SqT.of eav)) ?_))
 rw [hlu]
 refine ⟨((rows.length:Nat):Int),rfl,by lia,by lia,fun l hl=>z8p (n:=((rows.length:Nat):Int).toNat) (fun i ys H2=>ys.length≤i∧i≤rows.length∧z1S Ts H H2∧DrL K H2 (fmD (z2r n rows i)) ys) ⟨Nat.le_refl _,Nat.zero_le _,z0h.l (same_up (z0h.refl H) hl),DrL.nil⟩ (by rw [Int.toNat_natCast];exact z0G (by lia)) (fun i ys H2 h=>h.1) (fun i ys H2 hi h hy=>?_) (fun ys H2 h hy=>?_)⟩
 ·obtain ⟨hyl,_,s2,d2⟩:=h
  have hi':i < rows.length:=by lia
  refine (exA rfl (exA rfl ⟨.ref av,rows,n,(i:Int),(by rw [Int.zero_add];rfl),dv.monoL s2,GM,n2,h60,by lia,by lia,fun b hb H3 s3=>(exA rfl ?_)⟩))
  have e3:=s3 _ _ hy
  have s23:=s2.trans (z0h.l s3)
  cases b with
  | false =>
   have eb:lpB n rows i=false:=by
    cases z:lpB n rows i with
    | false=>rfl
    | true=>exact absurd (hb.mpr (z6j.mp z)) (by simp)
   exact ⟨e3,by lia,by lia,s23,by rw [zci eb];exact d2.mono s3⟩
  | true =>
   have eb:lpB n rows i=true:=z6j.mpr (hb.mp rfl)
   refine (exA rfl (exA rfl ⟨.ref av,rows,n,(i:Int),(by rw [Int.zero_add];rfl),s23.tabs hTb,dv.monoL s23,GM,hn,h60,by lia,by lia,fun x H4 s4 d4=>?_⟩))
   have e4:=s4.g e3
   refine ⟨e4,by rw [List.length_append];simp;lia,by lia,z1S.over (s23.trans s4) hl e4,?_⟩
   rw [zaH eb,zbS]
   refine DrL.append (((d2.mono s3).monoL s4).keyed (z8B e4) (zaA _)) (DrL.one (d4.keyed (z8B e4) ?_))
   have:=zaA [shr (swM rows (i:Int))]
   simp only [List.map_cons,List.map_nil,D.keyL] at this
   exact this.1
 ·obtain ⟨hyl,_,s2,d2⟩:=h
  rw [Int.toNat_natCast] at d2
  exact gv _ _ s2 (Dr.lst hy d2)
abbrev nDn:List Str:=["_law_letters_here","_law_cell_here","_law_nums","_law_many","_law_rows_here","_law_at","_law_goings"]
theorem zew:z0p nDn ["_law_letters_here","_law_cell_here"] (z06 zb9):=⟨rfl,rfl,rfl,by decide +kernel,rfl,by decide +kernel,by decide +kernel⟩
theorem zgO:z0Z nDn (z06 zb9) ["_law_k","_law_at","_law_many","_law_nums"] [none,some 5,some 3,some 2] (csc [(".0",.local),("_law_k",.local),("min",.globalImplicit),("_law_at",.free),("_law_many",.free),("_law_nums",.free)]):=⟨rfl,by decide +kernel,by decide +kernel,by decide +kernel,rfl,by decide +kernel,by decide +kernel⟩
theorem zdC (F:Fun K "_law_down" "_law_down" zb9 f fd) (mr:mg "range"=none) (mt:mg "tuple"=none) (mmin:mg "min"=none)
  {aG:Addr} {dG:FuncData} (G:z0y P w K mg base CX 3 aG dG ["_law_cell_here","_law_many"] (z2k K)) (bG:z0l K dG ["_law_cell_here","_law_many"] []) (kG:PySem.W.keepIn K (.ref aG)=true) (mG:mg "_law_numbers"=some (.ref aG))
  {aT:Addr} {dT:FuncData} (T:z0y P w K mg base CX 3 aT dT ["_law_pick","_law_letters_here"] (z8K K)) (bT:z0l K dT ["_law_pick","_law_letters_here"] []) (kT:PySem.W.keepIn K (.ref aT)=true) (mT:mg "_law_rearranged"=some (.ref aT))
  {aU:Addr} {dU:FuncData} (U:z0y P w K mg base CX 3 aU dU ["_law_rows_here","_law_start"] (z6z K)) (bU:z0l K dU ["_law_rows_here","_law_start"] []) (kU:PySem.W.keepIn K (.ref aU)=true) (mU:mg "_law_shrunk"=some (.ref aU)):z0y P w K mg base CX 4 f fd ["_law_letters_here","_law_cell_here"] (zam K):=by
 refine F.okc zew (fun vs H Q E h=>?_) (fun cdv A outer s H vs Q E hr h=>?_)
 ·obtain ⟨n,c,rfl,_⟩:=h
  rfl
 obtain ⟨n,c,rfl,hn2,hn5,q⟩:=h
 refine ⟨_,z04 (z0i (i:=2) zew.nd rfl (Or.inr rfl) (z0b G hr rfl mG kG bG .nil z0C (z02 (pv 1) (z02 z07 z05))))
  (z04 (z0i (i:=3) zew.nd rfl (Or.inr rfl) (z0k z0R z07 (z0k z0O (z0Q z0X (pv 2) z07 (fun _ _=>rfl)) z07)))
  (z04 (z0i (i:=4) zew.nd rfl (Or.inl rfl) (z1H z05))
  (z04 (z1X PassesOwn.never rfl (z1v rfl mr (z02 (pv 3) z05)) (z0c (i:=5) zew.nd rfl (Or.inr rfl))
   (z04 (z0i (i:=6) zew.nd rfl (Or.inl rfl) (z0x z0v rfl mt PyProof.Rows.boot_tuple (z02 (z1u rfl zgO (z1v rfl mr (z02 (pv 0) z05)) (fun _ _ _ _ _=>z0c (i:=0) zgO.nd rfl (Or.inl rfl)) (fun _ _ _ _ _=>z0j (z72 rfl) rfl mmin PyProof.Rows.boot_min (z02 (pv 2) (z02 (z0k z0R (z0k z0R (pv 1) z07) (z0k z0O (z0Q (ixL K rfl) (pv 3) (z0k z0R (z0k z0R z07 (z0k z3q z07 (pv 1))) (pv 0)) (fun _ _=>rfl)) z07)) z05)))) z05)))
   (z08 (z0Y (z3l PySem.F.plainAttrs_list PySem.F.slot_list_append PySem.F.type_list_append z0L (pv 4) (z02 (z1y (z02 (z0b T hr rfl mT kT bT .nil z0C (z02 (z0Q z0X (pv 2) (z0k z0R z07 (z0k z3q z07 (pv 5))) (fun _ _=>rfl)) (z02 (pv 0) z05))) (z02 (pv 6) z05))) z05))))))
  (z08 (z0D (z0b U hr rfl mU kU bU .nil z0C (z02 (z0k zdp (pv 4) (z1H (z02 (z1y (z02 (z0x (z2a rfl) rfl mt PyProof.Rows.boot_tuple (z02 (z0x z4h rfl mr PyProof.Rows.boot_range (z02 (pv 0) z05)) z05)) (z02 (z0k z8n (z1y (z02 (pv 3) z05)) (pv 0)) z05))) z05))) (z02 z07 z05)))))))),?_⟩
 refine (exA rfl ⟨c,60,rfl,by lia,fun ln H1 nn s1 e1 hnn=>?_⟩)
 have hnl:=hnn.1
 have gn:∀ k,k < 60→∃ x:Int,nn[k]?=some x∧0≤x∧x < 1009:=fun k hk=>⟨nn[k]'(by lia),List.getElem?_eq_getElem (by lia),hnn.2 _ (List.getElem_mem _)⟩
 have gi:∀ {k:Nat} {x:Int},nn[k]?=some x→atI (nn.map V.int) (k:Int)=some (V.int x):=fun e=>z0F (by rw [List.getElem?_map,e];rfl)
 obtain ⟨z0,ez0,z00,z01⟩:=gn 0 (by lia)
 obtain ⟨m,hm⟩:=z3T (x:=(1:Int)+z0 % 8) (by lia)
 have hm8:1≤m∧m≤8:=by lia
 refine (exA rfl ⟨ln,_,_,V.int z0,rfl,rfl,SqL.of e1,gi (k:=0) ez0,exC rfl rfl ⟨z7F,exC rfl rfl ⟨by show 0≤sizeLine;decide,fun lr hlr=>?_⟩⟩⟩)
 have s3:=same_up (o:=HO.lst []) (z0h.refl H1) hlr
 refine ⟨_,rfl,(m:Int),(by rw [←hm]),by lia,by lia,z8E (n:=(m:Int).toNat) (fun i σ H3=>∃ (u5 u6:Option V) (us:List V) (rs:List Row),σ=[some (.int n),some (.int c),some (.ref ln),some (.int m),some (.ref lr),u5,u6]∧z0h H1 H3∧H3 lr=some (.lst us)∧DrL K H3 (z0m rs) us∧rs.length=i∧GR n (m+1) rs)
  ⟨_,_,[],[],(by rw [←hm];rfl),s3,z03,DrL.nil,rfl,fun r hr=>by simp at hr⟩ (fun i σ H3 hi h Ed nx=>?_) (fun σ H3 h=>?_)⟩
 ·obtain ⟨u5,u6,us,rs,rfl,t3,elr,drs,hrl,gr⟩:=h
  have e0:(0:Int)+(i:Int)=(i:Int):=by lia
  rw [e0]
  have him:i < m:=by lia
  have hnn3:=t3 _ _ e1
  refine (exA rfl ⟨(n:Int),rfl,by lia,by lia,fun lg hlg=>z2V (n:=(n:Int).toNat) (GI (m+1) H3) (GI.nil hlg) (z0G (by lia)) (fun j ys H h=>h.len) (fun j ys H4 hj h hy=>?_) (fun ys H4 h hy=>?_)⟩)
  ·have e0:(0:Int)+(j:Int)=(j:Int):=by lia
   rw [e0]
   obtain ⟨_,_,_,_,s4⟩:=id h
   obtain ⟨ix,hix⟩:=z3T (x:=(2:Int)+7*(i:Int)+(j:Int)) (by lia)
   obtain ⟨x,ex,x0,x1⟩:=gn ix (by lia)
   refine (exA rfl (exA rfl (exC rfl rfl (exA rfl (exA rfl (exC rfl rfl ⟨.inl ⟨by decide,by decide⟩,exC rfl rfl (exA rfl (exC rfl rfl (exD ln _ _ (V.int x) rfl rfl (SqL.of (s4 _ _ hnn3)) ((by rw [hix];exact gi ex)) (exC rfl rfl ⟨z7F,exC rfl rfl ⟨(m:Int),exA rfl ⟨hy,h.snoc hlg ?_⟩⟩⟩))))⟩))))))
   by_cases c9:(i:Int)+1+x % 3 < (m:Int)
   ·rw [if_pos c9];lia
   ·rw [if_neg c9];lia
  obtain ⟨gs,rfl,hgl,hgr,s4⟩:=h
  have hgn:gs.length=n:=by lia
  refine ⟨lg,exA rfl (.inl ⟨SqL.of hy,fun tg htg=>?_⟩)⟩
  have s5:=same_up (o:=HO.tup (gs.map V.int)) s4 htg
  have etg:upd H4 tg (HO.tup (gs.map V.int)) tg=some (.tup (gs.map V.int)):=z03
  generalize upd H4 tg (HO.tup (gs.map V.int))=H5 at s5 etg
  have elr5:=s5 _ _ elr
  have hnn5:=s5 _ _ hnn3
  obtain ⟨ix,hix⟩:=z3T (x:=(1:Int)+7*(i:Int)) (by lia)
  obtain ⟨x,ex,x0,x1⟩:=gn ix (by lia)
  refine (exA rfl ⟨.inl ⟨rfl,_,SqL.of elr5⟩,exA rfl (exA rfl (exC rfl rfl ⟨.inl ⟨by decide,by decide⟩,exC rfl rfl (exD ln _ _ (V.int x) rfl rfl (SqL.of hnn5) ((by rw [hix];exact gi ex)) (exA rfl ⟨x,n,rfl,by lia,fun vf H6 s6 df=>?_⟩))⟩))⟩)
  refine (exA rfl ⟨by show 2≤sizeLine;decide,fun t5' ht5=>?_⟩)
  obtain ⟨b0,rfl,eb0⟩:=Dr.its_inv df
  have s10:=same_up (o:=HO.tup [.ref b0,.ref tg]) (z0h.refl H6) ht5
  have elr10:=s10 _ _ (s6 _ _ elr5)
  have hul:us.length=i:=by have:=drs.length;unfold z0m at this;rw [List.length_map] at this;lia
  refine ⟨lr,us,.ref t5',rfl,rfl,elr10,z2F (by lia),?_⟩
  have kk:z1h H6 (upd (upd H6 t5' (.tup [.ref b0,.ref tg])) lr (.lst (us++[.ref t5']))):=z1h.up (z1h.of s10) elr10 (fun _ z=>by cases z)
  have nt5:t5'≠lr:=z42 z03 elr10 (by intro z;cases z)
  refine nx _ _ ⟨_,_,us++[.ref t5'],rs++[(z9Q x n,gs)],rfl,z0f (t3.trans (s5.trans (s6.trans s10))) hlr,z03,?_,by rw [List.length_append,hrl];rfl,gr.snoc ⟨z5m x n,hgn,hgr⟩⟩
  unfold z0m
  rw [List.map_append]
  refine DrL.append ((drs.mono (s5.trans s6)).keyed kk (z2u _)) (DrL.one (z2c (r:=(z9Q x n,gs)) (b:=b0) (c:=tg) ?_ (kk _ _ eb0) (kk _ _ (s6 _ _ etg))))
  rw [z0a nt5];exact z03
 ·obtain ⟨u5,u6,us,rs,rfl,t3,elr,drs,hrl,gr⟩:=h
  have hrm:rs.length=m:=by lia
  have hul:us.length=m:=by have:=drs.length;unfold z0m at this;rw [List.length_map] at this;lia
  refine (exA rfl (exA rfl ⟨(n:Int),rfl,by lia,by lia,fun p hp=>⟨p,0,(n:Int),rfl,z03,⟨by decide,by decide,by lia,by lia⟩,by lia,fun b hb=>?_⟩⟩))
  have e0:((n:Int) - 0).toNat=n:=by lia
  rw [e0,z3n]
  have s4:z0h H3 (upd (upd H3 p (.rng 0 n)) b (.tup ((z0z n).map V.int))):=same_up (same_up (z0h.refl H3) hp) hb
  have eb:upd (upd H3 p (.rng 0 n)) b (.tup ((z0z n).map V.int)) b=some (.tup ((z0z n).map V.int)):=z03
  generalize upd (upd H3 p (.rng 0 n)) b (.tup ((z0z n).map V.int))=H4 at *
  refine (exA rfl ⟨by show 1≤sizeLine;decide,fun z hz=>(exA rfl ⟨z,(n:Int),exA rfl ⟨rfl,z03,by simp,by lia,by lia,?_,fun c2 hc2=>⟨by show 2≤sizeLine;decide,fun t2 ht2=>⟨by show 1≤sizeLine;decide,fun l2 hl2=>?_⟩⟩⟩⟩)⟩)
  ·show 1*(n:Int).toNat≤sizeLine
   exact z0G (by lia)
  have e:(List.replicate ((n:Int).toNat) [V.int (m:Int)]).flatten=(List.replicate n (m:Int)).map V.int:=by simp
  rw [e] at ht2 hl2 ⊢
  have s5:z0h H4 (upd H4 z (.tup [.int (m:Int)])):=same_up (z0h.refl H4) hz
  have s6:z0h H4 (upd (upd H4 z (.tup [.int (m:Int)])) c2 (.tup ((List.replicate n (m:Int)).map V.int))):=same_up s5 hc2
  have ec2:upd (upd H4 z (.tup [.int (m:Int)])) c2 (.tup ((List.replicate n (m:Int)).map V.int)) c2=some (.tup ((List.replicate n (m:Int)).map V.int)):=z03
  generalize upd (upd H4 z (.tup [.int (m:Int)])) c2 (.tup ((List.replicate n (m:Int)).map V.int))=H5 at *
  have s7:=same_up (o:=HO.tup [.ref b,.ref c2]) (z0h.refl H5) ht2
  have et2:upd H5 t2 (HO.tup [.ref b,.ref c2]) t2=some (.tup [.ref b,.ref c2]):=z03
  generalize upd H5 t2 (HO.tup [.ref b,.ref c2])=H6 at *
  have s8:=same_up (o:=HO.lst [.ref t2]) (z0h.refl H6) hl2
  have s46:=s4.trans (s6.trans s7)
  have elr8:=s8 _ _ (s46 _ _ elr)
  refine ⟨lr,l2,us,[.ref t2],rfl,rfl,elr8,z03,by rw [hul];exact z0G (by simp;lia),fun lc hlc=>?_⟩
  have s9:=same_up (o:=HO.lst (us++[.ref t2])) s8 hlc
  have s49:=s46.trans s9
  have gr':GR n (m+1) (rs++[(z0z n,List.replicate n (m:Int))]):=gr.snoc ⟨z6m n,by simp,fun g hg=>by rw [List.eq_of_mem_replicate hg];lia⟩
  have G':z0n n (rs++[(z0z n,List.replicate n (m:Int))]):=gr'.good (by rw [List.length_append,hrm];rfl) (by lia) (by lia)
  refine ⟨lc,n,exA rfl ⟨⟨us++[.ref t2],z03,?_⟩,G',by lia,fun v Hz sz d=>q v Hz _ (s1.trans (t3.trans (s49.trans sz))) G' (by rw [List.length_append,hrm];simp;lia) d⟩⟩
  unfold z0m
  rw [List.map_append]
  exact DrL.append (drs.mono s49) (DrL.one (z2c (r:=(z0z n,List.replicate n (m:Int))) (b:=b) (c:=c2) (s9 _ _ et2) ((s6.trans (s7.trans s9)) _ _ eb) ((s7.trans s9) _ _ ec2)))
abbrev zd0:List Str:=["first","row_at","order","places","found","rearranging","goings","going"]
theorem z3d:z0p zd0 ["first","row_at"] (z06 z9Y):=⟨rfl,rfl,rfl,by decide +kernel,rfl,by decide +kernel,by decide +kernel⟩
theorem zaX:z0Z zd0 (z06 z9Y) ["going","places"] [none,some 3] (csc [(".0",.local),("going",.local),("places",.free)]):=⟨rfl,by decide +kernel,by decide +kernel,by decide +kernel,rfl,by decide +kernel,by decide +kernel⟩
theorem zcA (F:Fun K "rows_come_to" "rows_come_to" z9Y f fd) (ml:mg "len"=none) (mt:mg "tuple"=none):z0y P w K mg base CX 5 f fd ["first","row_at"] (z7O P w K mg base CX 4):=by
 refine F.okc z3d (fun vs H Q E h=>?_) (fun cdv A outer s H vs Q E hr h=>?_)
 ·obtain ⟨a,n,rows,nm,rfl,_⟩:=h
  rfl
 obtain ⟨fa,n,rows,nm,rfl,ni,hV,G,hn,q⟩:=h
 have hu:=z9w hr
 refine ⟨_,z04 (z0i (i:=2) z3d.nd rfl (Or.inl rfl) (z1H (z02 (pv 0) z05)))
  (z04 (z0i (i:=3) z3d.nd rfl (Or.inr rfl) (zas (z97 (pv 0) z07 za9) rfl rfl (by simp) (by decide)))
  (z04 (z0i (i:=4) z3d.nd rfl (Or.inl rfl) (z1H z05))
  (z04 (z1D PassesOwn.never (z18 z4O (z0j z09 rfl ml PySem.boot_len (z02 (pv 4) z05)) (z0j z09 rfl ml PySem.boot_len (z02 (pv 2) z05)) (z19 _))
   (z04 (z2Q (zcp (CX:=CX) 1 hr (z02 (z0Q z0X (pv 2) (z0j z09 rfl ml PySem.boot_len (z02 (pv 4) z05)) (fun _ _=>rfl)) z05)) (z22 rfl (z0s (z0c (i:=5) z3d.nd rfl (Or.inl rfl)) (z0s (z0c (i:=6) z3d.nd rfl (Or.inl rfl)) z1l))))
   (z04 (z1X PassesOwn.never rfl (z3t (pv 6)) (z0c (i:=7) z3d.nd rfl (Or.inl rfl))
    (z08 (z1Q (z1o (z2R hu (pv 7) (pv 3)))
     (z04 (z3a hu (pv 3) (pv 7) (z0j z09 rfl ml PySem.boot_len (z02 (pv 2) z05)) rfl)
     (z08 (z0Y (z3l PySem.F.plainAttrs_list PySem.F.slot_list_append PySem.F.type_list_append z0L (pv 2) (z02 (pv 7) z05))))) z0M)))
   (z08 (z0Y (z3l PySem.F.plainAttrs_list PySem.F.slot_list_append PySem.F.type_list_append z0L (pv 4) (z02 (z1y (z02 (pv 5) (z02 (z0x z0v rfl mt PyProof.Rows.boot_tuple
    (z02 (z1u rfl zaX (z3t (pv 6)) (fun _ _ _ _ _=>z0c (i:=0) zaX.nd rfl (Or.inl rfl)) (fun _ _ _ _ _=>z2P hu (pv 1) (pv 0) (fun _ _=>rfl))) z05)) z05))) z05)))))))
  (z08 (z0D (pv 4)))))),?_⟩
 refine (exA rfl ⟨by show 1≤sizeLine;decide,fun lo hlo=>fun lp hlp=>(exA rfl ⟨z03,[(Sum.inl (nm 0),V.int 0)],rfl,by simp,by show 0≤sizeLine;decide,fun lf hlf=>?_⟩)⟩)
 have s1:z0h H (upd H lo (.lst [.int (nm 0)])):=same_up (z0h.refl H) hlo
 have hlp0:H lp=none:=s1.free hlp
 have nlo:lo≠lp:=z0g z03 hlp
 have s2:z0h H (upd (upd (upd H lo (.lst [.int (nm 0)])) lp (.dK [])) lp (.dK (z40 [] [(Sum.inl (nm 0),V.int 0)]))):=z0f (same_up s1 hlp) hlp0
 have hlf0:H lf=none:=s2.free hlf
 have nlf:lo≠lf:=z0g (show upd (upd (upd H lo (.lst [.int (nm 0)])) lp (.dK [])) lp (.dK (z40 [] [(Sum.inl (nm 0),V.int 0)])) lo=_ by rw [z0a nlo,z0a nlo];exact z03) hlf
 have nlpf:lp≠lf:=z0g z03 hlf
 have s3:=same_up (o:=HO.lst []) s2 hlf
 have OL:=z0t G
 have hol:=OL.1.len
 have h400:=G.few
 refine ⟨fun m σ H2=>∃ (i:Nat) (o:List Int) (u1 u2 u3:Option V) (fs:List V),m=rows.length+1 - i∧σ=[some (.int (nm 0)),some (.ref fa),some (.ref lo),some (.ref lp),some (.ref lf),u1,u2,u3]∧z0h H H2∧H2 lo=some (.lst (o.map (nV nm)))∧H2 lp=some (.dK (prs (kN nm) o))∧H2 lf=some (.lst fs) ∧
   DrL K H2 (z0m ((z0S rows).take i)) fs∧z7G rows o∧i≤o.length∧bfs rows (rows.length+1 - i) i o=z0e rows,⟨_,0,[0],none,none,none,[],rfl,rfl,s3,?_,?_,z03,DrL.nil,zcI G,by simp,rfl⟩,?_⟩
 ·rw [z0a nlf,z0a nlo,z0a nlo];exact z03
 ·rw [z0a nlpf];exact z03
 rintro m σ H2 ⟨i,o,u1,u2,u3,fs,rfl,rfl,t2,glo,glp,glf,df,L,hi,hb⟩
 have hfl:fs.length=i:=by
  have:=df.length
  unfold z0m at this
  rw [List.length_map,List.length_take] at this
  obtain ⟨mm,em⟩:=z6a rows (rows.length+1 - i) i o
  rw [hb] at em
  have:(z0S rows).length=(z0e rows).length:=by unfold z0S z2f;rw [List.length_map]
  have:o.length≤(z0e rows).length:=by rw [em,List.length_append];lia
  lia
 refine (exA rfl (exG lf rfl (.inl (SqL.of glf)) (exA rfl (exG lo rfl (.inl (SqL.of glo)) (exC rfl rfl (exA rfl ?_))))))
 have hol2:(o.map (nV nm)).length=o.length:=List.length_map _
 refine z2D (fun c=>?_) (fun c=>?_)
 ·have c':=of_decide_eq_true c
  rw [hfl,hol2] at c'
  have hio:i < o.length:=by lia
  have eo:o[i]?=some o[i]:=List.getElem?_eq_getElem hio
  have hro:o[i]∈o:=List.getElem_mem hio
  generalize o[i]=r at eo hro
  obtain ⟨r0,r1⟩:=L.rg r hro
  have hrow:=z0o r0 r1
  have hgl:=G.len _ hrow
  have hgo:=G.go _ hrow
  have hlen:=L.len
  refine zd1 fun N nx2=>?_
  refine ⟨fa,zcL K rows nm,rfl,(hV.mono t2).1,exA rfl (exA rfl (exG lf rfl (.inl (SqL.of glf)) (exD lo _ _ (V.int (nm r)) rfl rfl (SqL.of glo) (z0F (by rw [List.getElem?_map,hfl,eo];rfl)) ⟨hV.mono t2,r,rfl,r0,r1,fun v Hc sc dv=>?_⟩)))⟩
  obtain ⟨t,b,cc,rfl,et,eb,ec⟩:=z0W dv
  have t2:=t2.trans sc
  have glo:=sc _ _ glo
  have glp:=sc _ _ glp
  have glf:=sc _ _ glf
  have df:=df.mono sc
  refine (exF t rfl (SqT.of et) rfl (exB rfl (exC rfl rfl ?_)))
  unfold z6F at eb ec
  simp only at eb ec
  generalize hgs:(row rows r).2=gs at *
  refine ⟨_,rfl,cc,rfl,⟨_,SqT.of ec⟩,zgr (xs:=(gs.map nm).map V.int) (fun j σ H3=>∃ u:Option V,σ=[some (.int (nm 0)),some (.ref fa),some (.ref lo),some (.ref lp),some (.ref lf),some (.ref b),some (.ref cc),u]∧z0h H H3∧z1h Hc H3∧H3 lo=some (.lst ((z0d o (gs.take j)).map (nV nm)))∧H3 lp=some (.dK (prs (kN nm) (z0d o (gs.take j))))∧H3 lf=some (.lst fs))
   ⟨_,rfl,t2,z1h.refl _,glo,glp,glf⟩ (fun j σ H3 _ h=>by obtain ⟨_,_,_,k3,_⟩:=h;exact SqT.of (k3 _ _ ec)) (fun j x σ H3 hx h Ed nx3=>?_) (fun σ H3 h=>?_)⟩
  ·obtain ⟨u,rfl,t3,k3,e1,e2,e3⟩:=h
   have hjl:j < gs.length:=by have:=(List.getElem?_eq_some_iff.mp hx).1;rwa [List.length_map,List.length_map] at this
   have eg:gs[j]?=some gs[j]:=List.getElem?_eq_getElem hjl
   generalize gs[j]=gj at eg
   have ex:x=V.int (nm gj):=by rw [List.getElem?_map,List.getElem?_map,eg] at hx;exact (Option.some.inj hx).symm
   subst ex
   have et':z0d o (gs.take (j+1))=z1Z (z0d o (gs.take j)) gj:=by rw [List.take_add_one,eg];exact z1A _ _ _
   have hal:(z0d o (gs.take j)).length≤4500:=by
    have:=z2n (gs.take j) o
    rw [List.length_take] at this
    lia
   generalize z0d o (gs.take j)=oj at *
   refine (exA rfl (exA rfl ⟨lp,exA rfl ⟨z3V.k (k:=kN nm gj) e2,exA rfl ?_⟩⟩))
   have hv:=z27 (κ:=Key) (kN nm) (zay ni) oj gj
   by_cases hm:gj∈oj
   ·rw [hv,if_pos hm]
    refine z6I (nx3 _ _ (exA rfl ⟨t3,k3,?_,?_,e3⟩))
    ·rw [et',z0w hm];exact e1
    ·rw [et',z0w hm];exact e2
   ·rw [hv,if_neg hm]
    have nlop:lo≠lp:=z42 e1 e2 (by intro z;cases z)
    refine zbF (exA rfl (exG lo rfl (.inl (SqL.of e1)) (exA rfl (exA rfl ⟨lp,exA rfl ⟨zat.k (k:=kN nm gj) e2 (by rw [z1P];exact z1p (by lia)),?_⟩⟩))))
    have e1':upd H3 lp (.dK (z1Y (prs (kN nm) oj) (kN nm gj) (V.int ((oj.map (nV nm)).length:Nat)))) lo=some (.lst (oj.map (nV nm))):=by rw [z0a nlop];exact e1
    refine (exA rfl ⟨.inl ⟨rfl,_,SqL.of e1'⟩,exA rfl ⟨lo,exC rfl rfl ⟨e1',by rw [List.length_map];exact z1p (by lia),?_⟩⟩⟩)
    refine nx3 _ _ (exA rfl ⟨z0f (z0f t3 hlp0) hlo,z1h.up (z1h.up k3 e2 (fun _ z=>by cases z)) e1' (fun _ z=>by cases z),?_,?_,?_⟩)
    ·rw [z03,et',z0u hm,List.map_append];rfl
    ·rw [z0a nlop.symm,z03,et',z0u hm,List.length_map,z4Q (kN nm) (zay ni) hm]
    ·rw [z0a nlf.symm,z0a nlpf.symm];exact e3
  ·obtain ⟨u,rfl,t3,k3,e1,e2,e3⟩:=h
   rw [List.length_map,List.length_map,List.take_length] at e1 e2
   obtain ⟨mm,em⟩:=z6a rows (rows.length+1 - (i+1)) (i+1) (z0d o gs)
   have hb':bfs rows (rows.length+1 - (i+1)) (i+1) (z0d o gs)=z0e rows:=by
    rw [←hb,show rows.length+1 - i=(rows.length+1 - (i+1))+1 by lia,z4b eo,hgs]
   rw [hb'] at em
   have L':z7G rows (z0d o gs):=by rw [←hgs];exact L.add G hro
   obtain ⟨m1,em1⟩:=z0N gs o
   have hoi:(z0e rows)[i]?=some r:=by rw [em,em1,List.append_assoc,List.getElem?_append_left hio];exact eo
   have hi':i+1≤(z0d o gs).length:=by rw [em1,List.length_append];lia
   have hmem:∀ g∈gs,g∈z0d o gs:=fun g hg=>z0I.mpr (.inr hg)
   have efound:(z0S rows).take (i+1)=(z0S rows).take i++[((row rows r).1,gs.map fun g=>(((z0d o gs).idxOf g:Nat):Int))]:=by
    have e4:(z0S rows)[i]?=some ((row rows r).1,gs.map fun g=>(((z0d o gs).idxOf g:Nat):Int)):=by
     unfold z0S z2f
     rw [List.getElem?_map,hoi]
     show some ((row rows r).1,(row rows r).2.map fun g=>(((z0e rows).idxOf g:Nat):Int))=_
     rw [hgs]
     congr 2
     refine List.map_congr_left fun g hg=>?_
     rw [em,z7o (hmem g hg)]
    rw [List.take_add_one,e4]
    rfl
   generalize z0d o gs=o' at *
   refine (exA rfl ⟨.inl ⟨rfl,_,SqL.of e3⟩,exA rfl (exA rfl ⟨cc,rfl,⟨_,SqT.of (k3 _ _ ec)⟩,fun l4 hl4=>z3u (xs:=(gs.map nm).map V.int) (fun j ys H4=>j≤gs.length∧ys=((gs.take j).map fun g=>((o'.idxOf g:Nat):Int)).map V.int∧z0h H3 H4) ⟨Nat.zero_le _,rfl,same_up (z0h.refl H3) hl4⟩ (fun j ys H4 _ h=>SqT.of (h.2.2 _ _ (k3 _ _ ec))) (by rw [List.length_map,List.length_map];exact z0G (by lia)) (fun j ys H4 h=>?_) (fun j x ys H4 hx h hy=>?_) (fun ys H4 h hy=>?_)⟩)⟩)
   ·obtain ⟨hj,rfl,_⟩:=h
    rw [List.length_map,List.length_map,List.length_take]
    lia
   ·obtain ⟨hj,rfl,s4⟩:=h
    have hjl:j < gs.length:=by have:=(List.getElem?_eq_some_iff.mp hx).1;rwa [List.length_map,List.length_map] at this
    have eg:gs[j]?=some gs[j]:=List.getElem?_eq_getElem hjl
    have hgm:=hmem _ (List.getElem_mem hjl)
    generalize gs[j]=gj at eg hgm
    have ex:x=V.int (nm gj):=by rw [List.getElem?_map,List.getElem?_map,eg] at hx;exact (Option.some.inj hx).symm
    subst ex
    have hv:=z27 (κ:=Key) (kN nm) (zay ni) o' gj
    rw [if_pos hgm] at hv
    refine (exA rfl (exA rfl ⟨lp,exA rfl ⟨(by rw [←hv];exact z3V.k (k:=kN nm gj) (s4 _ _ e2)),hy,hjl,?_,z0f s4 hl4⟩⟩))
    rw [z1q _ eg,List.map_append]
    rfl
   ·obtain ⟨_,rfl,s4⟩:=h
    rw [List.length_map,List.length_map,List.take_length] at hy
    refine ⟨l4,exA rfl (.inl ⟨SqL.of hy,fun t4 ht4=>⟨by show 2≤sizeLine;decide,fun t5 ht5=>?_⟩⟩)⟩
    have s5:=same_up (o:=HO.tup ((gs.map fun g=>((o'.idxOf g:Nat):Int)).map V.int)) s4 ht4
    have s6:=same_up (o:=HO.tup [.ref b,.ref t4]) s5 ht5
    have e3':=s6 _ _ e3
    refine ⟨lf,fs,.ref t5,rfl,rfl,e3',by rw [hfl];exact z1p (by lia),?_⟩
    have kk:z1h Hc (upd (upd (upd H4 t4 (.tup ((gs.map fun g=>((o'.idxOf g:Nat):Int)).map V.int))) t5 (.tup [.ref b,.ref t4])) lf (.lst (fs++[.ref t5]))):=z1h.up (k3.trans (z1h.of s6)) e3' (fun _ z=>by cases z)
    have nt5:t5≠lf:=z42 z03 e3' (by intro z;cases z)
    have nt4:t4≠t5:=z0g z03 ht5
    have nt4f:t4≠lf:=z42 (show upd (upd H4 t4 (.tup ((gs.map fun g=>((o'.idxOf g:Nat):Int)).map V.int))) t5 (.tup [.ref b,.ref t4]) t4=some (.tup ((gs.map fun g=>((o'.idxOf g:Nat):Int)).map V.int)) by rw [z0a nt4];exact z03) e3' (by intro z;cases z)
    refine nx2 (rows.length+1 - (i+1)) _ _ (by lia) ⟨i+1,o',_,_,_,fs++[.ref t5],rfl,rfl,z0f (t3.trans s6) hlf0,?_,?_,z03,?_,L',hi',hb'⟩
    ·rw [z0a nlf];exact s6 _ _ e1
    ·rw [z0a nlpf];exact s6 _ _ e2
    ·rw [efound]
     unfold z0m
     rw [List.map_append]
     refine DrL.append (df.keyed kk (z2u _)) (DrL.one (z2c (b:=b) (c:=t4) ?_ (kk _ _ eb) ?_))
     ·rw [z0a nt5];exact z03
     ·rw [z0a nt4f,z0a nt4];exact z03
 ·have c':=of_decide_eq_false (Bool.eq_false_iff.mpr c)
  rw [hfl,hol2] at c'
  have e:z0e rows=o:=by rw [←hb];exact z4k (by lia)
  have e2:(z0S rows).take i=z0S rows:=List.take_of_length_le (by unfold z0S z2f;rw [List.length_map,e];lia)
  rw [e2] at df
  exact (exA rfl (q lf H2 t2 ⟨fs,glf,df⟩))
theorem z4r:z0p ["rows","kinds","count"] ["rows"] (z06 z5q):=⟨rfl,rfl,rfl,by decide +kernel,rfl,by decide +kernel,by decide +kernel⟩
theorem z69:z0Z ["rows","kinds","count"] (z06 z5q) ["rearranging","goings"] [none,none] (csc [(".0",.local),("rearranging",.local),("goings",.local)]):=⟨rfl,by decide +kernel,by decide +kernel,by decide +kernel,rfl,by decide +kernel,by decide +kernel⟩
theorem z45:z0Z ["rows","kinds","count"] (z06 z5q) ["kind","rearranging","goings","kinds"] [none,none,none,some 1] (csc [(".0",.local),("kind",.local),("rearranging",.local),("goings",.local),("kinds_gone_to",.globalImplicit),("kinds",.free)]):=⟨rfl,by decide +kernel,by decide +kernel,by decide +kernel,rfl,by decide +kernel,by decide +kernel⟩
theorem zbB {k Ct:Addr} {kd:FuncData} {tm:Tok} {bmB:List Value} {B newId initId:String} (mC:mg "TooMany"=some (.ref Ct)) (xC:PySem.W.excIn K Ct bmB newId=true) (hB:ExcBaseFacts B newId initId bmB) (F:Fun K "kinds_of_rows" "kinds_of_rows" z5q f fd) (mz:mg "zip"=none) (mx:mg "max"=none) (mM:mg "MOST_FORM_ROWS"=some (.int 60 tm))
  (G:z0y P w K mg base (CXx P w) 1 g gd ["things"] (z3E K)) (bG:z0l K gd ["things"] []) (kG:PySem.W.keepIn K (.ref g)=true) (mG:mg "numbered"=some (.ref g))
  (T:z0y P w K mg base (CXx P w) 1 k kd ["kinds","goings"] (z8S K)) (bT:z0l K kd ["kinds","goings"] []) (kT:PySem.W.keepIn K (.ref k)=true) (mT:mg "kinds_gone_to"=some (.ref k)):z0y P w K mg base (CXx P w) 2 f fd ["rows"] (z6d K Ct):=by
 refine F.okx z4r (fun vs H Q E h=>?_) (fun cdv A outer s H vs Q E hr h=>?_)
 ·obtain ⟨a,n,rows,rfl,_⟩:=h
  rfl
 obtain ⟨a,n,rows,rfl,⟨us,ea,da⟩,GF,hn,q,qx⟩:=h
 have h400:=GF.few
 refine ⟨_,z04 (z0i (i:=1) z4r.nd rfl (Or.inr rfl) (z0b G hr rfl mG kG bG .nil z0C (z02 (z1u rfl z69 (z1j (pv 0)) (fun _ _ _ _ _=>pgT K (n:=2) rfl rfl (z0s (z0c (i:=0) z69.nd rfl (Or.inl rfl)) (z0s (z0c (i:=1) z69.nd rfl (Or.inl rfl)) z1l))) (fun _ _ _ _ _=>pv 0)) z05)))
  (z04 (z0i (i:=2) z4r.nd rfl (Or.inl rfl) z07)
  (z04 (z1D PassesOwn.leaving (z18 z4O (pv 2) (z0k z0R (z0j (zg3 K rfl rfl) rfl mx PyProof.Rows.boot_max (z02 (pv 1) z05)) z07) (z19 _))
   (z04 (z0i (i:=2) z4r.nd rfl (Or.inl rfl) (z0k z0R (z0j (zg3 K rfl rfl) rfl mx PyProof.Rows.boot_max (z02 (pv 1) z05)) z07))
   (z04 (z1Q (z18 zbp (pv 2) (zec (v:=.int 60) rfl mM ⟨_,rfl⟩) (z19 _)) (z08 (z4e mC rfl xC hB z99)) z0M)
   (z08 (z0i (i:=1) z4r.nd rfl (Or.inr rfl) (z0b G hr rfl mG kG bG .nil z0C (z02 (z1u rfl z45 (zgf K rfl rfl mz (z02 (pv 1) (z02 (pv 0) z05)))
    (fun _ _ _ _ _=>pgT K (n:=2) rfl rfl (z0s (z0c (i:=0) z45.nd rfl (Or.inl rfl)) (z0s (pgT K (n:=2) rfl rfl (z0s (z0c (i:=1) z45.nd rfl (Or.inl rfl)) (z0s (z0c (i:=2) z45.nd rfl (Or.inl rfl)) z1l))) z1l)))
    (fun _ _ _ _ _=>z1y (z02 (pv 0) (z02 (z0b T hr rfl mT kT bT .nil z0C (z02 (pv 3) (z02 (pv 2) z05))) z05)))) z05)))))))
  (z08 (z0D (pv 1))))),?_⟩
 have hul:us.length=rows.length:=by have:=da.length;unfold z0m at this;rw [List.length_map] at this;exact this.symm
 have hrs:=GF.some
 refine (exA rfl ⟨a,rfl,⟨_,SqL.of ea⟩,fun l1 hl1=>z1W (xs:=us) (fun i ys H2=>i≤us.length∧ys.length=i∧z0h H H2∧DrL K H2 ((rows.take i).map fun r=>D.its r.1) ys) ⟨Nat.zero_le _,rfl,same_up (z0h.refl H) hl1,DrL.nil⟩ (fun i ys H2 _ h=>SqL.of (h.2.2.1 _ _ ea)) (z0G (by lia)) (fun i ys H2 h=>h.2.1) (fun i x ys H2 hx h hy=>?_) (fun ys H2 h hy=>?_)⟩)
 ·obtain ⟨hi,hyl,s2,d2⟩:=h
  have hil:i < us.length:=(List.getElem?_eq_some_iff.mp hx).1
  have er:rows[i]?=some rows[i]:=List.getElem?_eq_getElem (by lia)
  obtain ⟨x',ex,dx⟩:=z2J da er
  rw [hx] at ex
  cases ex
  generalize rows[i]=ri at er dx
  obtain ⟨t,b,c,rfl,et,eb,ec⟩:=z0W (dx.mono s2)
  refine (exF t rfl (SqT.of et) rfl (exB rfl (exC rfl rfl (exA rfl ⟨hy,hil,by rw [List.length_append,hyl];rfl,z0f s2 hl1,?_⟩))))
  rw [z1q _ er]
  have kk:z1h H2 (upd H2 l1 (.lst (ys++[.ref b]))):=z1h.up (z1h.refl _) hy (fun _ z=>by cases z)
  exact DrL.append (d2.keyed kk (by have:=z8q ((rows.take i).map (·.1));rw [List.map_map] at this;exact this)) (DrL.one (Dr.tup (kk _ _ eb) (DrL.ints _)))
 obtain ⟨_,hyl,s2,d2⟩:=h
 rw [List.take_of_length_le (by lia)] at d2
 have e1:(rows.map fun r=>D.its r.1)=(rows.map (·.1)).map D.its:=by rw [List.map_map];rfl
 rw [e1] at d2
 refine ⟨l1,ys,exA rfl ⟨hy,d2,fun d hd=>?_,by rw [List.length_map,List.length_map];lia,fun l2 H3 s3 e3=>?_⟩⟩
 ·obtain ⟨p,_,rfl⟩:=List.mem_map.mp hd
  exact ⟨z2T p,by rw [z5U];decide,_,rfl⟩
 rw [z8t D.its (fun _ _=>z4D)] at e3
 have K0:=zd2 GF
 refine ⟨fun m σ H4=>∃ (c:Int) (ks:List Int) (l:Addr),σ=[some (.ref a),some (.ref l),some (.int c)]∧z0h H H4∧H4 l=some (.lst (ks.map V.int))∧z5e rows ks∧zau rows ks∧(c=0∨c≤60)∧0≤c∧(rows.length:Int)+1≤m+c∧z4T rows m c ks=z2C rows,
  ⟨rows.length+1,0,_,l2,rfl,s2.trans s3,e3,K0,zeF rows,.inl rfl,Int.le_refl _,by lia,rfl⟩,?_⟩
 rintro m σ H4 ⟨c,ks,l,rfl,t4,e4,GK,NK,hc6,hc0,hm,hk⟩
 obtain ⟨x1,x2⟩:=z8d (zf9 GF GK) fun k hk=>(GK.rg k hk).1
 obtain ⟨c1,c2⟩:=zfq (zf9 GF GK) GK.rg
 have ec:cnt ks - 1+1=cnt ks:=by lia
 refine (exA rfl (exA rfl ⟨l,ks,cnt ks - 1,rfl,SqL.of e4,x1,x2,exC rfl rfl (exC rfl rfl (exA rfl ?_))⟩))
 refine z2D (fun cc=>?_) (fun cc=>?_)
 ·have c':=of_decide_eq_true cc
  rw [ec] at c'
  refine zd1 fun N nx2=>?_
  refine (exA rfl ⟨l,ks,cnt ks - 1,rfl,SqL.of e4,x1,x2,exC rfl rfl (exA rfl (exC rfl rfl (exA rfl ?_)))⟩)
  have hmono:=z5A GF m c ks NK GK
  rw [hk] at hmono
  refine z2D (fun cc2=>?_) (fun cc2=>?_)
  ·have c'':=of_decide_eq_true cc2
   exact fun ea=>qx (by lia) ea H4 t4
  have c60:=of_decide_eq_false (Bool.eq_false_iff.mpr cc2)
  have hkl:=GK.len
  have hsl:=z7m GK
  have hn400:=GF.few
  refine (exA rfl (exA rfl ⟨l,a,rfl,⟨_,SqL.of e4⟩,⟨_,SqL.of (t4 _ _ ea)⟩,fun l5 hl5=>zbZ (xs:=ks.map V.int) (zs:=us) (by rw [List.length_map];lia) (fun i ys H5=>i≤rows.length∧ys.length=i∧z0h H4 H5∧DrL K H5 (((z32 ks rows).take i).map z5f) ys) ⟨Nat.zero_le _,rfl,same_up (z0h.refl H4) hl5,DrL.nil⟩ (fun i ys H5 _ h=>⟨SqL.of (h.2.2.1 _ _ e4),SqL.of (h.2.2.1 _ _ (t4 _ _ ea))⟩) (by rw [List.length_map];exact z0G (by lia)) (fun i ys H5 h=>h.2.1) (fun i x y p ys H5 hx hz h hy hp=>?_) (fun ys H5 h hy=>?_)⟩))
  ·obtain ⟨hi,hyl,s5,d5⟩:=h
   have hil:i < rows.length:=by have:=(List.getElem?_eq_some_iff.mp hz).1;lia
   have er:rows[i]?=some rows[i]:=List.getElem?_eq_getElem hil
   have ek:ks[i]?=some ks[i]:=List.getElem?_eq_getElem (by lia)
   have hrm:rows[i]∈rows:=List.getElem_mem hil
   obtain ⟨y',ey,dy⟩:=z2J da er
   rw [hz] at ey
   cases ey
   have es:(z32 ks rows)[i]?=some (ks[i],rows[i].2.map fun g=>ks.getD g.toNat 0):=by
    unfold z32
    rw [List.getElem?_map,List.getElem?_zip_eq_some (z:=(ks[i],rows[i])) |>.mpr ⟨ek,er⟩]
    rfl
   generalize rows[i]=ri at er dy es hrm
   generalize ks[i]=ki at ek es
   have ex:x=V.int ki:=by rw [List.getElem?_map,ek] at hx;exact (Option.some.inj hx).symm
   subst ex
   have sp:z0h H (upd H5 p (.tup [V.int ki,y])):=(t4.trans s5).trans (same_up (z0h.refl H5) hp)
   have sp5:z0h H5 (upd H5 p (.tup [V.int ki,y])):=same_up (z0h.refl H5) hp
   obtain ⟨t,b,c,rfl,et,eb,ec⟩:=z0W (dy.mono sp)
   refine (exF p rfl (SqT.of z03) rfl (exB rfl (exB rfl (exF t rfl (SqT.of et) rfl (exB rfl (exC rfl rfl ⟨rfl,exA rfl (exA rfl (exA rfl ⟨l,.ref c,ks,ri.2,rfl,sp5 _ _ (s5 _ _ e4),Dr.tup ec (DrL.ints _),fun g hg=>by rw [hkl];exact GF.go ri hrm g hg,by rw [GF.len ri hrm];lia,fun v H6 s6 dv=>⟨by show 2≤sizeLine;decide,fun t7 ht7=>?_⟩⟩))⟩))))))
   have s67:=same_up (o:=HO.tup [V.int ki,v]) s6 ht7
   have hy7:=s67 _ _ (sp5 _ _ hy)
   refine ⟨hy7,hil,by rw [List.length_append,hyl];rfl,z0f (s5.trans (sp5.trans s67)) hl5,?_⟩
   rw [z1q _ es]
   have kk:z1h H5 (upd (upd H6 t7 (.tup [V.int ki,v])) l5 (.lst (ys++[.ref t7]))):=z1h.up (z1h.of (sp5.trans s67)) hy7 (fun _ z=>by cases z)
   have k6:z1h H6 (upd (upd H6 t7 (.tup [V.int ki,v])) l5 (.lst (ys++[.ref t7]))):=z1h.up (z1h.of (same_up (z0h.refl H6) ht7)) hy7 (fun _ z=>by cases z)
   have nt7:t7≠l5:=z42 z03 hy7 (by intro z;cases z)
   refine DrL.append (d5.keyed kk (z7n _)) (DrL.one ?_)
   exact Dr.tup (vs:=[V.int ki,v]) (by rw [z0a nt7];exact z03) (DrL.cons (Dr.int ki) (DrL.one (dv.keyed k6 (z2T _))))
  obtain ⟨_,hyl5,s5,d5⟩:=h
  rw [List.length_map,hkl,List.take_of_length_le (by lia)] at d5
  refine ⟨l5,ys,exA rfl ⟨hy,d5,fun d hd=>?_,by rw [List.length_map];lia,fun l6 H6 s6 e6=>?_⟩⟩
  ·obtain ⟨p,_,rfl⟩:=List.mem_map.mp hd
   exact ⟨z9c p,zcx p,_,rfl⟩
  rw [z8t z5f zaQ] at e6
  cases m with
  | zero=>lia
  | succ m =>
   refine nx2 m _ _ (Nat.lt_succ_self m) ⟨cnt ks,_,l6,(by show [some (V.ref a),some (V.ref l6),some (V.int (cnt ks - 1+1))]=_;rw [ec]),(t4.trans s5).trans s6,e6,zbC GK,zdm hkl,.inr (by lia),by lia,by lia,?_⟩
   rw [←hk]
   exact (if_pos c').symm
 ·have c':=of_decide_eq_false (Bool.eq_false_iff.mpr cc)
  rw [ec] at c'
  have hkk:z2C rows=ks:=by
   rw [←hk]
   cases m with
   | zero=>rfl
   | succ m=>exact if_neg c'
  refine (exA rfl (q (by rw [hkk];lia) l H4 t4 ?_))
  rw [hkk]
  exact e4
abbrev zdF:List Str:=["first","row_at","found","kinds","least","rearranging","goings","kind"]
theorem z2w:z0p zdF ["first","row_at"] (z06 z90):=⟨rfl,rfl,rfl,by decide +kernel,rfl,by decide +kernel,by decide +kernel⟩
theorem zaC {Cm:V→Addr→Hp→List Row→Prop} {k q Ct:Addr} {kd qd:FuncData} (F:Fun K "least_form" "least_form" z90 f fd) (ml:mg "len"=none) (mt:mg "tuple"=none) (mz:mg "zip"=none)
  (G:z0y P w K mg base (CXx P w) 5 g gd ["first","row_at"] (zal K Cm)) (bG:z0l K gd ["first","row_at"] []) (kG:PySem.W.keepIn K (.ref g)=true) (mG:mg "rows_come_to"=some (.ref g))
  (T:z0y P w K mg base (CXx P w) 5 k kd ["rows"] (z6d K Ct)) (bT:z0l K kd ["rows"] []) (kT:PySem.W.keepIn K (.ref k)=true) (mT:mg "kinds_of_rows"=some (.ref k))
  (U:z0y P w K mg base (CXx P w) 5 q qd ["kinds","goings"] (z8S K)) (bU:z0l K qd ["kinds","goings"] []) (kU:PySem.W.keepIn K (.ref q)=true) (mU:mg "kinds_gone_to"=some (.ref q)):z0y P w K mg base (CXx P w) 6 f fd ["first","row_at"] (z9h K Cm Ct):=by
 refine F.okx z2w (fun vs H Q E h=>?_) (fun cdv A outer s H vs Q E hr h=>?_)
 ·obtain ⟨a,v0,n,rows,rfl,_⟩:=h
  rfl
 obtain ⟨fa,v0,n,rows,rfl,hC,GM,hn,gv,gx⟩:=h
 have hsc:=zdJ GM
 have h400:=GM.few
 refine ⟨_,z04 (z0i (i:=2) z2w.nd rfl (Or.inl rfl) (z0b G hr rfl mG kG bG .nil z0C (z02 (pv 0) (z02 (pv 1) z05))))
  (z04 (z0i (i:=3) z2w.nd rfl (Or.inl rfl) (z0b T hr rfl mT kT bT .nil (zaS fun _ _ _ z=>z) (z02 (pv 2) z05)))
  (z04 (z0i (i:=4) z2w.nd rfl (Or.inl rfl) (z1H z05))
  (z04 (z1X PassesOwn.leaving rfl (zd6 rfl mz (z02 (pv 2) (z02 (pv 3) z05)))
   (z22 rfl (z0s (z22 rfl (z0s (z0c (i:=5) z2w.nd rfl (Or.inl rfl)) (z0s (z0c (i:=6) z2w.nd rfl (Or.inl rfl)) z1l))) (z0s (z0c (i:=7) z2w.nd rfl (Or.inl rfl)) z1l)))
   (z08 (z1Q (z1o (z2B (pv 7) (z0j z09 rfl ml PySem.boot_len (z02 (pv 4) z05))))
    (z08 (z0Y (z3l PySem.F.plainAttrs_list PySem.F.slot_list_append PySem.F.type_list_append z0L (pv 4) (z02 (z1y (z02 (pv 5) (z02 (z0b U hr rfl mU kU bU .nil z0C (z02 (pv 3) (z02 (pv 6) z05))) z05))) z05)))) z0M)))
  (z08 (z0D (z0x z0v rfl mt PyProof.Rows.boot_tuple (z02 (pv 4) z05))))))),?_⟩
 have GF:=z2q GM
 have hfl:=zcQ GM
 refine (exA rfl (exA rfl ⟨fa,v0,n,rows,rfl,hC,GM,hn,fun lf H1 s1 rf=>?_⟩))
 refine (exA rfl ⟨lf,n,z0S rows,rfl,rf,GF,hn,fun h6 lk H2 s2 ek=>?_,fun h6 ea H' s'=>gx (by lia) ea H' (s1.trans s')⟩)
 have gv:=gv (by lia)
 rw [←z4o GM] at gv
 clear hsc h6
 have GK:=z3F GF
 have hkl:=GK.len
 unfold least at gv
 generalize z2C (z0S rows)=ks at *
 generalize z0S rows=fs at *
 obtain ⟨us,ef,df⟩:=rf.mono s2
 have hul:us.length=fs.length:=by have:=df.length;unfold z0m at this;rw [List.length_map] at this;exact this.symm
 have s12:=s1.trans s2
 refine ⟨by show 0≤sizeLine;decide,fun ll hll=>(exA rfl (exA rfl ⟨lf,lk,rfl,?_⟩))⟩
 have hll0:H2 ll=none:=hll
 have s3:z0h H2 (upd H2 ll (.lst [])):=same_up (z0h.refl H2) hll
 refine ⟨⟨_,SqL.of (s3 _ _ ef)⟩,⟨_,SqL.of (s3 _ _ ek)⟩,zhl (xs:=us) (ys:=ks.map V.int) (by rw [List.length_map];lia) (fun i σ H3=>∃ (u1 u2 u3:Option V) (ws:List V),σ=[some v0,some (.ref fa),some (.ref lf),some (.ref lk),some (.ref ll),u1,u2,u3]∧z0h H2 H3∧H3 ll=some (.lst ws)∧DrL K H3 (z0m (z2h fs ks i)) ws)
  ⟨_,_,_,[],rfl,s3,z03,DrL.nil⟩ (fun i σ H3 _ h=>by obtain ⟨_,_,_,_,_,t3,_,_⟩:=h;exact ⟨SqL.of (t3 _ _ ef),SqL.of (t3 _ _ ek)⟩) (fun i x y p σ H3 hx hy h hp Ed nx3=>?_) (fun σ H3 h=>?_)⟩
 ·obtain ⟨u1,u2,u3,ws,rfl,t3,e3,d3⟩:=h
  have hil:i < fs.length:=by have:=(List.getElem?_eq_some_iff.mp hx).1;lia
  have er:fs[i]?=some fs[i]:=List.getElem?_eq_getElem hil
  have ek':ks[i]?=some ks[i]:=List.getElem?_eq_getElem (by lia)
  have hrm:fs[i]∈fs:=List.getElem_mem hil
  obtain ⟨x',ex,dx⟩:=z2J df er
  rw [hx] at ex
  cases ex
  generalize fs[i]=ri at er dx hrm
  generalize ks[i]=ki at ek'
  have ey:y=V.int ki:=by rw [List.getElem?_map,ek'] at hy;exact (Option.some.inj hy).symm
  subst ey
  have hst:=z54 er ek'
  have hll2:=z9q fs ks i
  have hwl:ws.length=(z2h fs ks i).length:=by have:=d3.length;unfold z0m at this;rw [List.length_map] at this;exact this.symm
  generalize z2h fs ks i=lp at *
  have sp3:z0h H3 (upd H3 p (.tup [x,V.int ki])):=same_up (z0h.refl H3) hp
  have sp:z0h H2 (upd H3 p (.tup [x,V.int ki])):=t3.trans sp3
  obtain ⟨t,b,c,rfl,et,eb,ec⟩:=z0W (dx.mono sp)
  refine (exF p rfl (SqT.of z03) rfl (exB rfl (exF t rfl (SqT.of et) rfl (exB rfl (exC rfl rfl (exC rfl rfl (exA rfl (exA rfl (exG ll rfl (.inl (SqL.of (sp3 _ _ e3))) (exC rfl rfl (exA rfl ?_)))))))))))
  refine z2D (fun c'=>?_) (fun c'=>?_)
  ·have c'':=of_decide_eq_true c'
   have hst2:z2h fs ks (i+1)=lp++[(ri.1,ri.2.map fun g=>ks.getD g.toNat 0)]:=by
    rw [hst];unfold z5X
    exact if_pos (by rw [←hwl];exact c'')
   refine (exA rfl ⟨.inl ⟨rfl,_,SqL.of (sp3 _ _ e3)⟩,exA rfl (exA rfl (exA rfl ⟨lk,.ref c,ks,ri.2,rfl,sp _ _ ek,Dr.tup ec (DrL.ints _),fun g hg=>by rw [hkl];exact GF.go ri hrm g hg,by rw [GF.len ri hrm];lia,fun v H6 s6 dv=>⟨by show 2≤sizeLine;decide,fun t7 ht7=>?_⟩⟩))⟩)
   have s67:=same_up (o:=HO.tup [.ref b,v]) s6 ht7
   have e7:=s67 _ _ (sp3 _ _ e3)
   refine ⟨ll,ws,.ref t7,rfl,rfl,e7,z1p (by lia),?_⟩
   have kk:z1h H3 (upd (upd H6 t7 (.tup [.ref b,v])) ll (.lst (ws++[.ref t7]))):=z1h.up (z1h.of (sp3.trans s67)) e7 (fun _ z=>by cases z)
   have k6:z1h H6 (upd (upd H6 t7 (.tup [.ref b,v])) ll (.lst (ws++[.ref t7]))):=z1h.up (z1h.of (same_up (z0h.refl H6) ht7)) e7 (fun _ z=>by cases z)
   have nt7:t7≠ll:=z42 z03 e7 (by intro z;cases z)
   have eb':H6 b=some (.tup (ri.1.map V.int)):=s6 _ _ eb
   obtain ⟨c2,rfl,ec2⟩:=Dr.its_inv dv
   refine nx3 _ _ ⟨_,_,_,ws++[.ref t7],rfl,z0f (sp.trans s67) hll0,z03,?_⟩
   rw [hst2]
   unfold z0m
   rw [List.map_append]
   refine DrL.append (d3.keyed kk (z2u _)) (DrL.one (z2c (b:=b) (c:=c2) ?_ (k6 _ _ eb') (k6 _ _ ec2)))
   rw [z0a nt7];exact z03
  ·have c'':=of_decide_eq_false (Bool.eq_false_iff.mpr c')
   have hst2:z2h fs ks (i+1)=lp:=by
    rw [hst];unfold z5X
    exact if_neg (by rw [←hwl];exact c'')
   refine nx3 _ _ ⟨_,_,_,ws,rfl,sp,sp3 _ _ e3,?_⟩
   rw [hst2]
   exact d3.mono sp3
 ·obtain ⟨u1,u2,u3,ws,rfl,t3,e3,d3⟩:=h
  rw [hul,z5M hkl] at d3
  refine (exA rfl ⟨ll,exA rfl (.inl ⟨SqL.of e3,fun t ht=>?_⟩)⟩)
  exact gv _ _ ((s12.trans t3).trans (same_up (z0h.refl H3) ht)) (Dr.tup z03 (d3.mono (same_up (z0h.refl H3) ht)))
theorem zfF:z0p ["letters"] ["letters"] (z06 zbT):=⟨rfl,rfl,rfl,by decide +kernel,rfl,by decide +kernel,by decide +kernel⟩
theorem ze4 (F:Fun K "same_letters" "same_letters" zbT f fd) (mt:mg "tuple"=none) (mr:mg "range"=none):z0y P w K mg base CX 1 f fd ["letters"] (z8Y K):=by
 refine F.okc zfF (fun vs H Q E h=>?_) (fun cdv A outer s H vs Q E hr h=>?_)
 ·obtain ⟨n,rfl,_⟩:=h
  rfl
 obtain ⟨n,rfl,h1,q⟩:=h
 refine ⟨_,z08 (z0D (z0x (z2a rfl) rfl mt PyProof.Rows.boot_tuple (z02 (z0x z4h rfl mr PyProof.Rows.boot_range (z02 (pv 0) z05)) z05))),?_⟩
 refine (exA rfl ⟨(n:Int),rfl,by lia,by lia,fun p hp=>⟨p,0,(n:Int),rfl,z03,⟨by decide,by decide,by lia,by lia⟩,by lia,fun l hl=>?_⟩⟩)
 have e:((n:Int) - 0).toNat=n:=by lia
 rw [e,z3n]
 exact q _ _ (same_up (same_up (z0h.refl H) hp) hl) (Dr.tup z03 (DrL.ints _))
theorem zfg:z0p ["_law_script","_law_at"] ["_law_script","_law_at"] (z06 zck):=⟨rfl,rfl,rfl,by decide +kernel,rfl,by decide +kernel,by decide +kernel⟩
theorem ze7 (F:Fun K "_law_cell" "_law_cell" zck f fd) (ml:mg "len"=none):z0y P w K mg base CX 1 f fd ["_law_script","_law_at"] (z8I K):=by
 refine F.okc zfg (fun vs H Q E h=>?_) (fun cdv A outer s H vs Q E hr h=>?_)
 ·obtain ⟨a,ns,i,rfl,_⟩:=h
  rfl
 obtain ⟨a,ns,i,rfl,hS,h63,hi,q⟩:=h
 refine ⟨_,z04 (z1Q (z18 z4O (pv 1) (z0j z09 rfl ml PySem.boot_len (z02 (pv 0) z05)) (z19 _)) (z08 (z0D (z0Q z0X (pv 0) (pv 1) (fun _ _=>rfl)))) z0M)
  (z04 (z1Q (z18 ze5 (z0j z09 rfl ml PySem.boot_len (z02 (pv 0) z05)) z07 (z19 _)) (z08 (z0D (z0k z0R (z0k z3q z07 (pv 1)) z07))) z0M)
  (z08 (z0D (z0k z0R (z0k z0O (z0Q z0X (pv 0) (z0k z0O (pv 1) (z0j z09 rfl ml PySem.boot_len (z02 (pv 0) z05))) (fun _ _=>rfl)) z07) (z0k z3q z07 (pv 1)))))),?_⟩
 have hl:(ns.map V.int).length=ns.length:=List.length_map _
 refine (exA rfl (exA rfl ⟨a,exA rfl ⟨.inl hS,exC rfl rfl (exA rfl ?_)⟩⟩))
 refine z2D (fun c=>?_) (fun c=>?_)
 ·have c':(i:Int) < (((ns.map V.int).length:Nat):Int):=of_decide_eq_true c
  rw [hl] at c'
  have hin:i < ns.length:=by lia
  refine (exA rfl (exA rfl ⟨a,_,_,V.int (ns.getD i 0),rfl,rfl,hS,z0F (by simp [hin]),?_⟩))
  have e:cell ns i=ns.getD i 0:=by unfold cell;rw [if_pos hin]
  rw [e] at q
  exact q
 ·have c':¬ (i:Int) < (((ns.map V.int).length:Nat):Int):=of_decide_eq_false (Bool.eq_false_iff.mpr c)
  rw [hl] at c'
  have hin:¬ i < ns.length:=by lia
  refine (exA rfl ⟨a,exA rfl ⟨.inl hS,rfl,exA rfl ?_⟩⟩)
  refine z2D (fun c=>?_) (fun c=>?_)
  ·have c2:=of_decide_eq_true c
   rw [hl] at c2
   have hz:ns.length=0:=by injection c2 with c2;lia
   refine (exA rfl (exC rfl rfl ⟨.inl ⟨by decide,by decide⟩,exC rfl rfl ?_⟩))
   have e:cell ns i=29*i+5:=by unfold cell;rw [if_neg hin,if_pos hz]
   rw [e] at q
   exact q
  ·have c2:=of_decide_eq_false (Bool.eq_false_iff.mpr c)
   rw [hl] at c2
   have hz:¬ ns.length=0:=fun z=>c2 (congrArg V.int (by lia))
   have hpos:(0:Int) < ns.length:=by lia
   have hm:i % ns.length < ns.length:=Nat.mod_lt _ (by lia)
   have em:(i:Int) % (((ns.map V.int).length:Nat):Int)=((i % ns.length:Nat):Int):=by rw [hl];exact (Int.natCast_emod i ns.length).symm
   refine (exA rfl (exA rfl (exA rfl ⟨a,exA rfl ⟨.inl hS,exC rfl rfl ⟨by rw [hl];exact hpos,a,_,_,V.int (ns.getD (i % ns.length) 0),rfl,rfl,hS,(by rw [em];exact z0F (by simp [hm])),exC rfl rfl ⟨(by show (0:Int) < 1000003;decide),exA rfl (exC rfl rfl ⟨.inl ⟨by decide,by decide⟩,exC rfl rfl ?_⟩)⟩⟩⟩⟩)))
   have e:cell ns i=ns.getD (i % ns.length) 0 % 1000003+103*i:=by unfold cell;rw [if_neg hin,if_neg hz]
   rw [e] at q
   exact q
theorem zad:z0p ["_law_script","_law_at"] ["_law_script","_law_at"] (z06 z4m):=⟨rfl,rfl,rfl,by decide +kernel,rfl,by decide +kernel,by decide +kernel⟩
theorem z9G (F:Fun K "_law_letters" "_law_letters" z4m f fd) (G:z0y P w K mg base CX 1 g gd ["_law_script","_law_at"] (z8I K)) (bG:z0l K gd ["_law_script","_law_at"] []) (kG:PySem.W.keepIn K (.ref g)=true) (mG:mg "_law_cell"=some (.ref g)) :
  z0y P w K mg base CX 2 f fd ["_law_script","_law_at"] (z4S K):=by
 refine F.okc zad (fun vs H Q E h=>?_) (fun cdv A outer s H vs Q E hr h=>?_)
 ·obtain ⟨a,ns,i,rfl,_⟩:=h
  rfl
 obtain ⟨a,ns,i,rfl,hS,h63,hi,q⟩:=h
 refine ⟨_,z08 (z0D (z0k z0R z07 (z0k z0O (z0b G hr rfl mG kG bG .nil z0C (z02 (pv 0) (z02 (pv 1) z05))) z07))),?_⟩
 rw [zcn] at q
 exact (exA rfl (exA rfl ⟨a,ns,i,rfl,hS,h63,hi,exC rfl rfl ⟨(by show (0:Int) < 4;decide),exC rfl rfl q⟩⟩))
theorem z5u:z0p ["_law_pick","_law_letters_here","_law_left","_law_made","_law_k","_law_many"] ["_law_pick","_law_letters_here"] (z06 zc2):=⟨rfl,rfl,rfl,by decide +kernel,rfl,by decide +kernel,by decide +kernel⟩
theorem zdY (F:Fun K "_law_rearranged" "_law_rearranged" zc2 f fd) (ml:mg "len"=none) (mt:mg "tuple"=none) (mr:mg "range"=none) (mls:mg "list"=none):z0y P w K mg base CX 1 f fd ["_law_pick","_law_letters_here"] (z8K K):=by
 refine F.okc z5u (fun vs H Q E h=>?_) (fun cdv A outer s H vs Q E hr h=>?_)
 ·obtain ⟨pick,n,rfl,_⟩:=h
  rfl
 obtain ⟨pick,n,rfl,hn,k⟩:=h
 refine ⟨_,z04 (z0i (i:=2) z5u.nd rfl (Or.inl rfl) (z0x (z6r rfl) rfl mls PyProof.Rows.boot_list (z02 (z0x z4h rfl mr PyProof.Rows.boot_range (z02 (pv 1) z05)) z05)))
  (z04 (z0i (i:=3) z5u.nd rfl (Or.inl rfl) (z1H z05))
  (z04 (z1X PassesOwn.never rfl (z1v rfl mr (z02 (pv 1) z05)) (z0c (i:=4) z5u.nd rfl (Or.inl rfl))
   (z04 (z0i (i:=5) z5u.nd rfl (Or.inl rfl) (z0j z09 rfl ml PySem.boot_len (z02 (pv 2) z05)))
   (z04 (z0Y (z3l PySem.F.plainAttrs_list PySem.F.slot_list_append PySem.F.type_list_append z0L (pv 3) (z02 (z3l PySem.F.plainAttrs_list PySem.F.slot_list_pop PySem.F.type_list_pop zcE (pv 2) (z02 (z0k z0O (pv 0) (pv 5)) z05)) z05)))
   (z08 (z0i (i:=0) z5u.nd rfl (Or.inl rfl) (z0k z2x (pv 0) (pv 5)))))))
  (z08 (z0D (z0x z0v rfl mt PyProof.Rows.boot_tuple (z02 (pv 3) z05)))))),?_⟩
 refine (exA rfl ⟨(n:Int),rfl,by lia,by lia,fun p hp=>⟨p,0,(n:Int),rfl,z03,⟨by decide,by decide,by lia,by lia⟩,by lia,fun l hl=>⟨by show 0≤sizeLine;decide,fun m hm=>?_⟩⟩⟩)
 have e:((n:Int) - 0).toNat=n:=by lia
 rw [e,z3n] at hm ⊢
 have s1:z0h H (upd H p (.rng 0 n)):=same_up (z0h.refl H) hp
 have s2:z0h H (upd (upd H p (.rng 0 n)) l (.lst ((z0z n).map V.int))):=same_up s1 hl
 have hl0:H l=none:=s1.free hl
 have hm0:H m=none:=s2.free hm
 have hlm:l≠m:=z0g z03 hm
 have s3:z0h H (upd (upd (upd H p (.rng 0 n)) l (.lst ((z0z n).map V.int))) m (.lst [])):=same_up s2 hm
 refine ⟨_,rfl,(n:Int),rfl,by lia,by lia,z8E (n:=(n:Int).toNat) (fun i σ H2=>∃ (u v:Option V) (pk:Int) (left made:List Int),σ=[some (.int pk),some (.int n),some (.ref l),some (.ref m),u,v]∧z0h H H2∧H2 l=some (.lst (left.map V.int))∧H2 m=some (.lst (made.map V.int)) ∧
   left.length+i=n∧made.length=i∧z9Q pick n=made++zdg left.length pk left)
  ⟨none,none,pick,z0z n,[],rfl,s3,(by rw [z0a hlm,z03]),z03,z0P n,rfl,by rw [z0P];rfl⟩ (fun i σ H2 hi h Ed nx3=>?_) (fun σ H2 h=>?_)⟩
 ·obtain ⟨u,v,pk,left,made,rfl,t2,gl,gm,e1,e2,e3⟩:=h
  have hin:i < n:=by simpa using hi
  have hpos:0 < left.length:=by lia
  have hL:(left.map V.int).length=left.length:=List.length_map _
  obtain ⟨ix,hixe,hix⟩:∃ ix:Nat,pk % (((left.map V.int).length:Nat):Int)=(ix:Int)∧ix < left.length:=by
   rw [hL]
   have h0:=Int.emod_nonneg pk (show (left.length:Int)≠0 by lia)
   have h1:=Int.emod_lt_of_pos pk (show (0:Int) < left.length by lia)
   exact ⟨(pk % (left.length:Int)).toNat,by lia,by lia⟩
  have hsq:PySem.seqIndex? (pk % (((left.map V.int).length:Nat):Int)) (left.map V.int).length=some ix:=by
   rw [hixe,hL,PySem.seqIndex_of (by lia) (by lia)]
   simp
  refine (exA rfl (exG l rfl (.inl (SqL.of gl)) (exA rfl ⟨.inl ⟨rfl,_,SqL.of gm⟩,exA rfl ⟨.inl ⟨rfl,_,SqL.of gl⟩,exA rfl (exA rfl (exC rfl rfl ⟨by rw [hL];lia,?_⟩))⟩⟩)))
  refine ⟨l,_,_,ix,V.int (left.getD ix 0),rfl,rfl,gl,by rw [hixe];lia,by rw [hixe];lia,hsq,by simp [hix],m,exC rfl rfl ⟨by rw [z0a (Ne.symm hlm)];exact gm,by rw [List.length_map];exact z2F (by lia),?_⟩⟩
  refine (exA rfl (exA rfl (exC rfl rfl ⟨⟨by rw [hL];lia,by rw [hL];lia⟩,?_⟩)))
  refine nx3 _ _ ⟨_,_,pk / (((left.map V.int).length:Nat):Int),left.eraseIdx ix,made++[left.getD ix 0],rfl,z0f (z0f t2 hl0) hm0,?_,?_,?_,by simp [e2],?_⟩
  ·rw [z0a hlm,z03]
   congr 2
   exact z7s V.int left ix
  ·rw [z03,List.map_append];rfl
  ·rw [List.length_eraseIdx_of_lt hix];lia
  ·rw [e3,List.append_assoc]
   congr 1
   obtain ⟨q,hq⟩:∃ q,left.length=q+1:=⟨left.length - 1,by lia⟩
   have e5:(left.eraseIdx ix).length=q:=by rw [List.length_eraseIdx_of_lt hix];lia
   rw [e5,hL]
   rw [hL] at hixe
   have e6:(pk % (left.length:Int)).toNat=ix:=by lia
   have e7:zdg (q+1) pk left=left.getD (pk % (left.length:Int)).toNat 0::zdg q (pk / (left.length:Int)) (left.eraseIdx (pk % (left.length:Int)).toNat):=rfl
   rw [hq,e7,e6]
   rw [hq]
   rfl
 ·obtain ⟨u,v,pk,left,made,rfl,t2,gl,gm,e1,e2,e3⟩:=h
  refine (exA rfl ⟨m,exA rfl (.inl ⟨SqL.of gm,fun t ht=>?_⟩)⟩)
  have e9:(n:Int).toNat=n:=by lia
  have e4:left.length=0:=by lia
  rw [e4] at e3
  have e5:z9Q pick n=made:=by rw [e3];unfold zdg;simp
  rw [←e5]
  exact k _ _ (same_up t2 ht) (Dr.tup z03 (DrL.ints _))
theorem z3P:z0p ["things","numbers","thing"] ["things"] (z06 z2m):=⟨rfl,rfl,rfl,by decide +kernel,rfl,by decide +kernel,by decide +kernel⟩
theorem z5D:z0Z ["things","numbers","thing"] (z06 z2m) ["thing","numbers"] [none,some 1] (csc [(".0",.local),("thing",.local),("numbers",.free)]):=⟨rfl,by decide +kernel,by decide +kernel,by decide +kernel,rfl,by decide +kernel,by decide +kernel⟩
theorem z86 (F:Fun K "numbered" "numbered" z2m f fd) (ml:mg "len"=none):z0y P w K mg base CX 1 f fd ["things"] (z3E K):=by
 refine F.okc z3P (fun vs H Q E h=>?_) (fun cdv A outer s H vs Q E hr h=>?_)
 ·obtain ⟨a,us,ds,rfl,_⟩:=h
  rfl
 obtain ⟨a,us,ds,rfl,ha,hd,hT,hlen,q⟩:=h
 have hu9:(A.deeper (PyProof.Rows.envOfC "numbered" (z06 z2m) s.heap.objs.size f cdv)).units+9 < cLine:=by have:=hr.units;lia
 refine ⟨_,z04 (z0i (i:=1) z3P.nd rfl (Or.inr rfl) (zbA (K:=K)))
  (z04 (z1X PassesOwn.never rfl (z1j (pv 0)) (z0c (i:=2) z3P.nd rfl (Or.inl rfl))
   (z08 (z1Q (z1o (zbk (K:=K) hu9 (pv 2) (pv 1))) (z08 (zbg (K:=K) hu9 (pv 1) (pv 2) (z0j (zcv K) rfl ml PySem.boot_len (z02 (pv 1) z05)))) z0M)))
  (z08 (z0D (z1u rfl z5D (z1j (pv 0)) (fun _ _ _ _ _=>z0c (i:=0) z5D.nd rfl (Or.inl rfl)) (fun _ _ _ _ _=>zfc P w K rfl rfl hu9 (pv 1) (pv 0) (fun _ _=>rfl)))))),?_⟩
 intro d hd0 ob0 g0
 have hul:ds.length=us.length:=hd.length
 have s0:z0h H (upd H d ob0):=same_up (z0h.refl H) hd0
 refine ⟨_,rfl,a,rfl,⟨_,SqL.of (s0 _ _ ha)⟩,zan (xs:=us) (fun i σ H2=>∃ v:Option V,σ=[some (.ref a),some (.ref d),v]∧z0h H H2∧DD P w K H2 d (prs id (z0A (ds.take i))))
  ⟨none,rfl,s0,g0⟩ (fun i σ H2 _ h=>by obtain ⟨_,_,s2,_⟩:=h;exact SqL.of (s2 _ _ ha)) (fun i x σ H2 hx h Ed nx3=>?_) (fun σ H2 h=>?_)⟩
 ·obtain ⟨v,rfl,s2,g⟩:=h
  have hiu:i < us.length:=(List.getElem?_eq_some_iff.mp hx).1
  have ed:ds[i]?=some ds[i]:=List.getElem?_eq_getElem (by lia)
  obtain ⟨x',ex,dx⟩:=hd.get ed
  rw [hx] at ex
  cases ex
  have hk:=hT _ (List.getElem_mem (show i < ds.length by lia))
  generalize ds[i]=di at ed dx hk
  have et:z0A (ds.take (i+1))=z1Z (z0A (ds.take i)) di:=by
   unfold z0A
   rw [List.take_add_one,ed]
   exact z1A _ _ _
  have hlu:(z0A (ds.take i)).length≤4900:=by
   have:=z2n (ds.take i) []
   rw [List.length_take] at this
   unfold z0A
   simp at this
   lia
  refine (exA rfl (exA rfl ⟨d,_,di,rfl,g,zeu hk (dx.mono s2),exA rfl ?_⟩))
  have hv:z33 (prs id (z0A (ds.take i))) di=_:=z27 id (fun _ _ e=>e) (z0A (ds.take i)) di
  by_cases hm:di∈z0A (ds.take i)
  ·rw [hv,if_pos hm]
   refine z6I (nx3 _ _ (exA rfl ⟨s2,?_⟩))
   rw [et,z0w hm]
   exact g
  ·rw [hv,if_neg hm]
   refine zbF (exA rfl ⟨d,exA rfl ⟨g,exA rfl (exA rfl ⟨d,_,di,rfl,g,zeu hk (dx.mono s2),by rw [z1P];exact z1p hlu,fun ob g2=>nx3 _ _ (exA rfl ⟨z0f s2 hd0,?_⟩)⟩)⟩⟩)
   rw [et,z0u hm,←z4Q id (fun _ _ e=>e) hm]
   rw [z1P] at g2
   exact g2
 ·obtain ⟨v,rfl,s2,g⟩:=h
  rw [List.take_of_length_le (by lia)] at g
  refine (exA rfl ⟨a,rfl,⟨_,SqL.of (s2 _ _ ha)⟩,fun l hl0=>z1W (xs:=us) (fun i ys H3=>i≤ds.length∧ys=((z2d ds).take i).map V.int∧z0h H2 H3) ⟨Nat.zero_le _,rfl,same_up (z0h.refl H2) hl0⟩ (fun i ys H3 _ h=>SqL.of (h.2.2 _ _ (s2 _ _ ha))) (z0G (by lia)) (fun i ys H3 h=>?_) (fun i x ys H3 hx h hy=>?_) (fun ys H3 h hy=>?_)⟩)
  ·obtain ⟨hi,rfl,_⟩:=h
   unfold z2d
   rw [List.length_map,List.length_take,List.length_map]
   lia
  ·obtain ⟨_,rfl,s3⟩:=h
   have hiu:i < us.length:=(List.getElem?_eq_some_iff.mp hx).1
   have ed:ds[i]?=some ds[i]:=List.getElem?_eq_getElem (by lia)
   obtain ⟨x',ex,dx⟩:=hd.get ed
   rw [hx] at ex
   cases ex
   have hmem:ds[i]∈ds:=List.getElem_mem (show i < ds.length by lia)
   have hk:=hT _ hmem
   generalize ds[i]=di at ed dx hk hmem
   have hm:di∈z0A ds:=z0I.mpr (.inr hmem)
   have hv:z33 (prs id (z0A ds)) di=_:=z27 id (fun _ _ e=>e) (z0A ds) di
   rw [if_pos hm] at hv
   refine (exA rfl (exA rfl ⟨d,_,di,exA rfl ⟨g.mono s3,zeu hk (dx.mono (s2.trans s3)),hv,hy,by lia,?_,z0f s3 hl0⟩⟩))
   have en:(z2d ds)[i]?=some (((z0A ds).idxOf di:Nat):Int):=by unfold z2d;rw [List.getElem?_map,ed];rfl
   rw [z1q _ en]
  ·obtain ⟨_,rfl,s3⟩:=h
   have e:((z2d ds).take us.length)=z2d ds:=List.take_of_length_le (by unfold z2d;rw [List.length_map];lia)
   rw [e] at hy
   exact q l H3 (s2.trans s3) hy
theorem z4J:z0p ["guise","rearranging","goings"] ["guise"] (z06 z4c):=⟨rfl,rfl,rfl,by decide +kernel,rfl,by decide +kernel,by decide +kernel⟩
theorem z9B (F:Fun K "breadth" "breadth" z4c f fd) (ml:mg "len"=none):z0y P w K mg base CX 1 f fd ["guise"] (z2l K):=by
 refine F.okc z4J (fun vs H Q E h=>?_) (fun cdv A outer s H vs Q E hr h=>?_)
 ·obtain ⟨a,r,z4P,rfl,_⟩:=h
  rfl
 obtain ⟨a,r,z4P,rfl,ha,hl,q⟩:=h
 refine ⟨_,z04 (z2Q (z0Q z1G (pv 0) z07 (fun _ _=>rfl)) (z22 rfl (z0s (z0c (i:=1) z4J.nd rfl (Or.inl rfl)) (z0s (z0c (i:=2) z4J.nd rfl (Or.inl rfl)) z1l))))
  (z08 (z0D (z0j z09 rfl ml PySem.boot_len (z02 (pv 1) z05)))),?_⟩
 simp only [Dr,DrL] at ha
 obtain ⟨a,vs,rfl,ea,v,l,rfl,hv,_⟩:=ha
 obtain ⟨t,b,c,rfl,et,eb,ec⟩:=z0W hv
 refine (exA rfl (exD a _ _ (.ref t) rfl rfl (SqT.of ea) (z0F (j:=0) rfl) (exF t rfl (SqT.of et) rfl (exB rfl (exC rfl rfl (exA rfl (exG b rfl (.inr (SqT.of eb)) ?_)))))))
 rw [List.length_map]
 exact q _ (z0h.refl H)
theorem zfl:z0p ["kinds","goings"] ["kinds","goings"] (z06 zaF):=⟨rfl,rfl,rfl,by decide +kernel,rfl,by decide +kernel,by decide +kernel⟩
theorem zdf:z0Z ["kinds","goings"] (z06 zaF) ["going","kinds"] [none,some 0] (csc [(".0",.local),("going",.local),("kinds",.free)]):=⟨rfl,by decide +kernel,by decide +kernel,by decide +kernel,rfl,by decide +kernel,by decide +kernel⟩
theorem ze6 (F:Fun K "kinds_gone_to" "kinds_gone_to" zaF f fd) (mt:mg "tuple"=none):z0y P w K mg base CX 1 f fd ["kinds","goings"] (z8S K):=by
 refine F.okc zfl (fun vs H Q E h=>?_) (fun cdv A outer s H vs Q E hr h=>?_)
 ·obtain ⟨a,b,ks,gs,rfl,_⟩:=h
  rfl
 obtain ⟨a,b,ks,gs,rfl,ha,hb,hg,hl,q⟩:=h
 refine ⟨_,z08 (z0D (z0x z0v rfl mt PyProof.Rows.boot_tuple (z02 (z1u rfl zdf (z3t (pv 1)) (fun _ _ _ _ _=>z0c (i:=0) zdf.nd rfl (Or.inl rfl)) (fun _ _ _ _ _=>z0Q (ixL K rfl) (pv 1) (pv 0) (fun _ _=>rfl))) z05))),?_⟩
 obtain ⟨b,rfl,eb⟩:=Dr.its_inv hb
 refine (exA rfl ⟨b,rfl,⟨_,SqT.of eb⟩,fun l hl0=>z3u (xs:=gs.map V.int) (fun i ys H2=>i≤gs.length∧ys=((gs.take i).map fun g=>ks.getD g.toNat 0).map V.int∧z0h H H2) ⟨Nat.zero_le _,rfl,same_up (z0h.refl H) hl0⟩ (fun i ys H2 _ h=>SqT.of (h.2.2 _ _ eb)) (by rw [List.length_map];exact z0G (by lia)) (fun i ys H2 h=>?_) (fun i x ys H2 hx h hy=>?_) (fun ys H2 h hy=>?_)⟩)
 ·obtain ⟨hi,rfl,_⟩:=h
  rw [List.length_map,List.length_map,List.length_take]
  lia
 ·obtain ⟨hi,rfl,s2⟩:=h
  have hil:i < gs.length:=by have:=(List.getElem?_eq_some_iff.mp hx).1;rwa [List.length_map] at this
  have eg:gs[i]?=some gs[i]:=List.getElem?_eq_getElem hil
  obtain ⟨h0,h1⟩:=hg _ (List.getElem_mem hil)
  generalize gs[i]=gi at eg h0 h1
  have ex:x=V.int gi:=by rw [List.getElem?_map,eg] at hx;exact (Option.some.inj hx).symm
  subst ex
  have hk:gi.toNat < ks.length:=by lia
  refine (exA rfl (exA rfl (exD a _ gi (V.int (ks.getD gi.toNat 0)) rfl rfl (SqL.of (s2 _ _ ha)) (z2M h0 (by simp [hk])) ⟨hy,hil,?_,z0f s2 hl0⟩)))
  rw [z1q _ eg,List.map_append]
  rfl
 ·obtain ⟨_,rfl,s2⟩:=h
  refine ⟨l,exA rfl (.inl ⟨SqL.of hy,fun t ht=>?_⟩)⟩
  rw [List.length_map,List.take_length]
  exact q _ _ (same_up s2 ht) (Dr.tup z03 (DrL.ints _))
theorem zdH:z0p ["letters"] ["letters"] (z06 z8L):=⟨rfl,rfl,rfl,by decide +kernel,rfl,by decide +kernel,by decide +kernel⟩
theorem zcG (F:Fun K "still" "still" z8L f fd) (G:z0y P w K mg base CX 1 g gd ["letters"] (z8Y K)) (bG:z0l K gd ["letters"] []) (kG:PySem.W.keepIn K (.ref g)=true) (mG:mg "same_letters"=some (.ref g)):z0y P w K mg base CX 2 f fd ["letters"] (z7W K):=by
 refine F.okc zdH (fun vs H Q E h=>?_) (fun cdv A outer s H vs Q E hr h=>?_)
 ·obtain ⟨n,rfl,_⟩:=h
  rfl
 obtain ⟨n,rfl,h2,hn,q⟩:=h
 refine ⟨_,z08 (z0D (z1y (z02 (z1y (z02 (z0b G hr rfl mG kG bG .nil z0C (z02 (pv 0) z05)) (z02 (z0k z8n (z1y (z02 z07 z05)) (pv 0)) z05))) z05))),?_⟩
 refine (exA rfl ⟨n,rfl,by lia,fun v1 H1 s1 d1=>?_⟩)
 obtain ⟨b,rfl,eb⟩:=Dr.its_inv d1
 refine ⟨by show 1≤sizeLine;decide,fun z hz=>(exA rfl ⟨z,(n:Int),exA rfl ⟨rfl,z03,by simp,by lia,by lia,?_,fun c hc=>⟨by show 2≤sizeLine;decide,fun t ht=>⟨by show 1≤sizeLine;decide,fun g hg=>?_⟩⟩⟩⟩)⟩
 ·show 1*(n:Int).toNat≤sizeLine
  exact z0G (by lia)
 have e:(List.replicate ((n:Int).toNat) [V.int 0]).flatten=(List.replicate n (0:Int)).map V.int:=by simp
 rw [e]
 have s2:z0h H1 (upd H1 z (.tup [.int 0])):=same_up (z0h.refl H1) hz
 rw [e] at ht hg
 have s3:z0h H1 (upd (upd H1 z (.tup [.int 0])) c (.tup ((List.replicate n (0:Int)).map V.int))):=same_up s2 hc
 have s4:=same_up (o:=HO.tup [.ref b,.ref c]) s3 ht
 have s5:=same_up (o:=HO.tup [.ref t]) s4 hg
 refine q _ _ (s1.trans s5) (Dr.tup z03 (DrL.one ?_))
 have kt:∀ x u,upd (upd (upd H1 z (.tup [.int 0])) c (.tup ((List.replicate n (0:Int)).map V.int))) t (.tup [.ref b,.ref c]) x=some u→upd (upd (upd (upd H1 z (.tup [.int 0])) c (.tup ((List.replicate n (0:Int)).map V.int))) t (.tup [.ref b,.ref c])) g (.tup [.ref t]) x=some u:=fun x u e=>by rw [z0a (z0g e hg)];exact e
 refine z2c (b:=b) (c:=c) (kt _ _ z03) (s5 _ _ eb) (kt _ _ ?_)
 rw [z0a (z0g z03 ht)]
 exact z03
abbrev nLR:List Str:=["ring","size"]
theorem zgv:z0p nLR ["ring"] (z06 z6u):=⟨rfl,rfl,rfl,by decide +kernel,rfl,by decide +kernel,by decide +kernel⟩
theorem z7a (F:Fun K "least_ring" "least_ring" z6u f fd) (ml:mg "len"=none):z0y P w K mg base CX 1 f fd ["ring"] (z56 K):=by
 refine F.okc zgv (fun vs H Q E h=>?_) (fun cdv A outer s H vs Q E hr h=>?_)
 ·obtain ⟨v,r,rfl,_⟩:=h
  rfl
 obtain ⟨v,r,rfl,d,hne,hl,q⟩:=h
 obtain ⟨a,rfl,ea⟩:=Dr.its_inv d
 refine ⟨_,z04 (z0i (i:=1) zgv.nd rfl (Or.inl rfl) z07)
  (z04 (z1D PassesOwn.never (PW.pt (zee (z1o (zd7 (z0k z0O (z0j z09 rfl ml PySem.boot_len (z02 (pv 0) z05)) (pv 1)) z07)) (za5 (z18 (zdc hr.units0) (z0k zc4 (z1b z3c (pv 0) z2e (z1a (pv 1))) (z0k z2x (z0j z09 rfl ml PySem.boot_len (z02 (pv 0) z05)) (pv 1))) (pv 0) (z19 _)))))
   (z08 (z94 (i:=1) zgv.nd rfl (Or.inl rfl) z07 z9e)))
  (z08 (z0D (z1b z3c (pv 0) z2e (z1a (pv 1)))))),?_⟩
 have hp:0 < r.length:=List.length_pos_iff.mpr hne
 have lr:(r.map V.int).length=r.length:=List.length_map _
 refine ⟨fun m σ H2=>∃ z:Nat,σ=[some (.ref a),some (.int z)]∧z0h H H2∧0 < z∧z≤r.length∧(∀ d,0 < d→d < z→¬ Per r d)∧m+z=r.length,
  ⟨r.length - 1,1,rfl,z0h.refl H,by lia,by lia,fun d h0 h1=>by lia,by lia⟩,?_⟩
 rintro m σ H2 ⟨z,rfl,s2,hz0,hzl,hno,hm⟩
 have em:((((r.map V.int).length:Nat):Int) % (z:Int))=((r.length % z:Nat):Int):=by rw [lr];exact (Int.natCast_emod _ _).symm
 have ed:((((r.map V.int).length:Nat):Int) / (z:Int))=((r.length / z:Nat):Int):=by rw [lr];exact (Int.natCast_ediv _ _).symm
 have more:∀ H3,z0h H H3→¬ Per r z→∃ m',m' < m∧∃ z':Nat,[some (V.ref a),some (V.int ((z:Int)+1))]=[some (.ref a),some (.int z')]∧z0h H H3∧0 < z'∧z'≤r.length∧(∀ d,0 < d→d < z'→¬ Per r d)∧m'+z'=r.length:=fun H3 s3 hn=>by
  have hlt:z < r.length:=by
   rcases Nat.lt_or_ge z r.length with c | c
   ·exact c
   ·have:z=r.length:=by lia
    subst this
    exact absurd zdP hn
  refine ⟨m - 1,by lia,z+1,rfl,s3,by lia,by lia,fun d h0 h1=>?_,by lia⟩
  by_cases c:d < z
  ·exact hno d h0 c
  ·have:d=z:=by lia
   rw [this];exact hn
 refine (exA rfl (exG a rfl (.inr (SqT.of (s2 _ _ ea))) (exA rfl (exC rfl rfl ⟨by lia,exC rfl rfl (exA rfl (z2D (fun c1=>?_) (fun c1=>?_)))⟩))))
 ·have c1':¬ r.length % z=0:=fun w=>by
   rw [em,w] at c1
   simp at c1
  refine zbF ⟨fun σ' H'=>∃ m',m' < m∧_,fun _ _ w=>w,exA rfl (exC rfl rfl ?_)⟩
  exact more H2 s2 fun hp=>c1' (Nat.mod_eq_zero_of_dvd hp.1)
 ·have c1':r.length % z=0:=by
   by_cases w:r.length % z=0
   ·exact w
   ·refine absurd ?_ c1
    rw [em]
    simp
    lia
  have hdv:z ∣ r.length:=Nat.dvd_of_mod_eq_zero c1'
  refine (exA rfl (exA rfl (exA rfl ⟨a,exA rfl ⟨s2 _ _ ea,fun p3 H3 s3 f3=>?_⟩⟩)))
  rw [z3m,z5V] at f3
  have hq1:r.length / z≤r.length:=Nat.div_le_self _ _
  refine (exA rfl (exG a rfl (.inr (SqT.of (s3 _ _ (s2 _ _ ea)))) (exA rfl (exC rfl rfl ⟨⟨by lia,by lia⟩,p3,((r.length / z:Nat):Int),exA rfl ⟨(by rw [←ed]),f3,(Int.le_trans (by decide) (Int.natCast_nonneg _)),by lia,?_,fun p4 H4 s4 f4=>?_⟩⟩))))
  ·rw [List.length_map,List.length_take,Int.toNat_natCast,Nat.min_eq_left hzl]
   exact z8Z (by rw [Nat.mul_comm,Nat.div_mul_cancel hdv];lia)
  rw [Int.toNat_natCast,z98] at f4
  have s24:=s2.trans (s3.trans s4)
  refine (exA rfl ⟨p4,a,_,r,rfl,rfl,f4,s24 _ _ ea,exA rfl (z2D (fun c2=>?_) (fun c2=>?_))⟩)
  ·have c2':¬ (List.replicate (r.length / z) (r.take z)).flatten=r:=by simpa using c2
   refine ⟨fun σ' H'=>∃ m',m' < m∧_,fun _ _ w=>w,exA rfl (exC rfl rfl ?_)⟩
   exact more H4 s24 fun hp=>c2' ((zaT hz0 hzl hdv).mpr hp)
  ·have c2':(List.replicate (r.length / z) (r.take z)).flatten=r:=by simpa using c2
   have L:z67 r z:=⟨hz0,(zaT hz0 hzl hdv).mp c2',hno⟩
   refine (exA rfl (exA rfl (exA rfl ⟨a,exA rfl ⟨s24 _ _ ea,fun p5 H5 s5 f5=>?_⟩⟩)))
   rw [z3m,z5V] at f5
   exact q z L _ _ (s24.trans s5) (Dr.tup f5 (DrL.ints _))
abbrev nCR:List Str:=["beginning","ring","count"]
theorem zgp:z0p nCR ["beginning","ring"] (z06 z63):=⟨rfl,rfl,rfl,by decide +kernel,rfl,by decide +kernel,by decide +kernel⟩
theorem zbl (F:Fun K "count_ringed" "count_ringed" z63 f fd) (ml:mg "len"=none):z0y P w K mg base CX 1 f fd ["beginning","ring"] (z6c K):=by
 refine F.okc zgp (fun vs H Q E h=>?_) (fun cdv A outer s H vs Q E hr h=>?_)
 ·obtain ⟨v,u,b,r,rfl,_⟩:=h
  rfl
 obtain ⟨v,u,b,r,rfl,d,d',hne,q⟩:=h
 obtain ⟨a,rfl,ea⟩:=Dr.its_inv d
 obtain ⟨a',rfl,ea'⟩:=Dr.its_inv d'
 refine ⟨_,z04 (z0i (i:=2) zgp.nd rfl (Or.inl rfl) z07)
  (z04 (z1D PassesOwn.never (PW.pt (z7l (z18 z4O (pv 2) (z0j z09 rfl ml PySem.boot_len (z02 (pv 0) z05)) (z19 _)) (z4E (z1o (z2B (z0Q z1G (pv 0) (z0k z2A (zeh zaz z07) (pv 2)) (fun _ _=>rfl)) (z0Q z1G (pv 1) (z0k z2A (zeh zaz z07) (z0k z0O (pv 2) (z0j z09 rfl ml PySem.boot_len (z02 (pv 1) z05)))) (fun _ _=>rfl)))))))
   (z08 (z94 (i:=2) zgp.nd rfl (Or.inl rfl) z07 z9e)))
  (z08 (z0D (pv 2)))),?_⟩
 have hp:0 < r.length:=List.length_pos_iff.mpr hne
 have lb:(b.map V.int).length=b.length:=List.length_map _
 have lr:(r.map V.int).length=r.length:=List.length_map _
 refine ⟨fun m σ H2=>∃ c:Nat,σ=[some (.ref a),some (.ref a'),some (.int c)]∧H2=H∧c≤b.length∧(∀ j,j < c→b.getD (b.length - 1 - j) 0=r.getD (r.length - 1 - j % r.length) 0)∧m+c=b.length,
  ⟨b.length,0,rfl,rfl,by lia,fun j hj=>absurd hj (Nat.not_lt_zero _),by lia⟩,?_⟩
 rintro m σ H2 ⟨c,rfl,rfl,hc,heq,hm⟩
 have em:((c:Int) % (((r.map V.int).length:Nat):Int))=((c % r.length:Nat):Int):=by rw [lr];exact (Int.natCast_emod _ _).symm
 have hmr:c % r.length < r.length:=Nat.mod_lt _ hp
 refine (exA rfl (exA rfl (exG a rfl (.inr (SqT.of ea)) (exC rfl rfl (exA rfl (z2D (fun c1=>?_) (fun c1=>?_)))))))
 ·have c1':=of_decide_eq_true c1
  rw [lb] at c1'
  have hcb:c < b.length:=by lia
  refine (exA rfl (exA rfl (exA rfl (exC rfl rfl (exD a _ _ _ rfl rfl (SqT.of ea) (za7 hcb) (exA rfl (exA rfl (exA rfl (exA rfl (exG a' rfl (.inr (SqT.of ea')) (exC rfl rfl ⟨(by rw [lr];lia),exC rfl rfl (exD a' _ _ _ rfl rfl (SqT.of ea') ((by rw [em];exact za7 hmr)) (exC rfl rfl (exA rfl (z2D (fun c2=>?_) (fun c2=>?_)))))⟩)))))))))))
  ·have c2':=of_decide_eq_true c2
   refine ⟨fun σ' H'=>∃ m',m' < m∧_,fun _ _ w=>w,exA rfl (exC rfl rfl ⟨m - 1,by lia,c+1,rfl,rfl,by lia,fun j hj=>?_,by lia⟩)⟩
   by_cases w:j < c
   ·exact heq j w
   ·have:j=c:=by lia
    rw [this];exact c2'
  ·have c2':=of_decide_eq_false (Bool.eq_false_iff.mpr c2)
   exact (exA rfl (q c ⟨hc,heq,.inr c2'⟩))
 ·have c1':=of_decide_eq_false (Bool.eq_false_iff.mpr c1)
  rw [lb] at c1'
  exact z6I (exA rfl (q c ⟨hc,heq,.inl (by lia)⟩))
abbrev nPW:List Str:=["beginning","ring","least","ringed","cut"]
theorem zfJ:z0p nPW ["beginning","ring"] (z06 z6b):=⟨rfl,rfl,rfl,by decide +kernel,rfl,by decide +kernel,by decide +kernel⟩
theorem zeO:z0p ["ring"] ["ring"] (z06 zcl):=⟨rfl,rfl,rfl,by decide +kernel,rfl,by decide +kernel,by decide +kernel⟩
theorem zdU {Ct:Addr} {bmB:List Value} {B newId initId:String} (mC:mg "BadWord"=some (.ref Ct)) (xC:PySem.W.excIn K Ct bmB newId=true) (hB:ExcBaseFacts B newId initId bmB) (F:Fun K "check_ring" "check_ring" zcl f fd) (ml:mg "len"=none):z0y P w K mg base (CXx P w) 1 f fd ["ring"] (z8U K Ct):=by
 refine F.okx zeO (fun vs H Q E h=>?_) (fun cdv A outer s H vs Q E hr h=>?_)
 ·obtain ⟨u,r,rfl,_⟩:=h
  rfl
 obtain ⟨u,r,rfl,d',q,qx⟩:=h
 obtain ⟨a',rfl,ea'⟩:=Dr.its_inv d'
 refine ⟨_,z08 (z1Q (z1o (z2B (z0j z09 rfl ml PySem.boot_len (z02 (pv 0) z05)) z07)) (z08 (z4e mC rfl xC hB z99)) z0M),?_⟩
 have lr:(r.map V.int).length=r.length:=List.length_map _
 refine (exA rfl (exG a' rfl (.inr (SqT.of ea')) (exC rfl rfl (exA rfl (z2D (fun c1=>?_) (fun c1=>?_))))))
 ·have c1':=of_decide_eq_true c1
  rw [lr] at c1'
  exact fun ea=>qx (List.length_eq_zero_iff.mp (by lia)) ea H (z0h.refl H)
 have c1':=of_decide_eq_false (Bool.eq_false_iff.mpr c1)
 rw [lr] at c1'
 exact q (fun z=>by subst z;simp at c1')
theorem zbH {Ct:Addr} (F:Fun K "plain_word" "plain_word" z6b f fd) (ml:mg "len"=none)
  {aRg:Addr} {dRg:FuncData} (Rg:z0y P w K mg base (CXx P w) 1 aRg dRg ["ring"] (z8U K Ct)) (bRg:z0l K dRg ["ring"] []) (kRg:PySem.W.keepIn K (.ref aRg)=true) (mRg:mg "check_ring"=some (.ref aRg))
  {aLr:Addr} {dLr:FuncData} (Lr:z0y P w K mg base (CXx P w) 1 aLr dLr ["ring"] (z56 K)) (bLr:z0l K dLr ["ring"] []) (kLr:PySem.W.keepIn K (.ref aLr)=true) (mLr:mg "least_ring"=some (.ref aLr))
  {aCr:Addr} {dCr:FuncData} (Cr:z0y P w K mg base (CXx P w) 1 aCr dCr ["beginning","ring"] (z6c K)) (bCr:z0l K dCr ["beginning","ring"] []) (kCr:PySem.W.keepIn K (.ref aCr)=true) (mCr:mg "count_ringed"=some (.ref aCr)):z0y P w K mg base (CXx P w) 2 f fd ["beginning","ring"] (z4G K Ct):=by
 refine F.okx zfJ (fun vs H Q E h=>?_) (fun cdv A outer s H vs Q E hr h=>?_)
 ·obtain ⟨v,u,b,r,rfl,_⟩:=h
  rfl
 obtain ⟨v,u,b,r,rfl,d,d',hb,hrl,q,qx⟩:=h
 obtain ⟨a,rfl,ea⟩:=Dr.its_inv d
 obtain ⟨a',rfl,ea'⟩:=Dr.its_inv d'
 refine ⟨_,z04 (z0Y (z0b Rg hr rfl mRg kRg bRg .nil (zaS fun _ _ _ z=>z) (z02 (pv 1) z05)))
  (z04 (z0i (i:=2) zfJ.nd rfl (Or.inl rfl) (z0b Lr hr rfl mLr kLr bLr .nil z0C (z02 (pv 1) z05)))
  (z04 (z0i (i:=3) zfJ.nd rfl (Or.inl rfl) (z0b Cr hr rfl mCr kCr bCr .nil z0C (z02 (pv 0) (z02 (pv 2) z05))))
  (z04 (z0i (i:=4) zfJ.nd rfl (Or.inl rfl) (z0k z2A (z0j z09 rfl ml PySem.boot_len (z02 (pv 2) z05)) (z0k z0O (pv 3) (z0j z09 rfl ml PySem.boot_len (z02 (pv 2) z05)))))
  (z08 (z0D (z1y (z02 (z1b z3c (pv 0) z2e (z1a (z0k z2A (z0j z09 rfl ml PySem.boot_len (z02 (pv 0) z05)) (pv 3)))) (z02 (z0k zaj (z1b z3c (pv 2) (z1a (pv 4)) z2e) (z1b z3c (pv 2) z2e (z1a (pv 4)))) z05)))))))),?_⟩
 have lb:(b.map V.int).length=b.length:=List.length_map _
 have lr:(r.map V.int).length=r.length:=List.length_map _
 refine (exA rfl ⟨_,r,rfl,d',fun hne=>?_,fun z ea H1 s1=>qx z ea H1 s1⟩)
 replace q:=q hne
 refine (exA rfl ⟨_,r,rfl,d',hne,hrl,fun z L u1 H1 s1 d1=>?_⟩)
 have hz:=L.pos
 have hzl:=L.le hne
 have ltz:(r.take z).length=z:=by rw [List.length_take];lia
 have ltm:((r.take z).map V.int).length=z:=by rw [List.length_map,ltz]
 refine (exA rfl (exA rfl ⟨_,u1,b,r.take z,rfl,d.mono s1,d1,(fun w=>by rw [w] at ltz;simp at ltz;lia),fun c R=>?_⟩))
 rw [ltz] at R
 have R':=z7J hz R
 have hcb:=R.le
 obtain ⟨a1,rfl,ea1⟩:=Dr.its_inv d1
 have hm:c % z < z:=Nat.mod_lt _ hz
 have ecut:(((((r.take z).map V.int).length:Nat):Int) - (c:Int) % ((((r.take z).map V.int).length:Nat):Int))=((z - c % z:Nat):Int):=by
  rw [ltm,←Int.natCast_emod];lia
 refine (exA rfl (exG a1 rfl (.inr (SqT.of ea1)) (exA rfl (exA rfl (exG a1 rfl (.inr (SqT.of ea1)) (exC rfl rfl ⟨(by rw [ltm];lia),exC rfl rfl ?_⟩))))))
 have elb:((((b.map V.int).length:Nat):Int) - (c:Int))=((b.length - c:Nat):Int):=by rw [lb];lia
 refine (exA rfl (exA rfl (exG a rfl (.inr (SqT.of (s1 _ _ ea))) (exA rfl (exC rfl rfl (exA rfl ⟨a,exA rfl ⟨s1 _ _ ea,fun p2 H2 s2 f2=>?_⟩⟩))))))
 replace f2:H2 p2=some (.tup ((b.take (b.length - c)).map V.int)):=by rw [←z5V,←elb,←z3m];exact f2
 refine (exA rfl (exA rfl (exA rfl ⟨a1,exA rfl ⟨s2 _ _ ea1,fun p3 H3 s3 f3=>?_⟩⟩)))
 replace f3:H3 p3=some (.tup (((r.take z).drop (z - c % z)).map V.int)):=by rw [←zaI,←ecut,←z3m];exact f3
 refine (exA rfl (exA rfl (exA rfl ⟨a1,exA rfl ⟨s3 _ _ (s2 _ _ ea1),fun p4 H4 s4 f4=>?_⟩⟩)))
 replace f4:H4 p4=some (.tup (((r.take z).take (z - c % z)).map V.int)):=by rw [←z5V,←ecut,←z3m];exact f4
 refine ⟨p3,p4,exC rfl rfl ⟨s4 _ _ f3,f4,(by simp only [List.length_map,List.length_drop,List.length_take];exact z8Z (by lia)),fun p5 H5 s5 f5=>⟨by show 2≤sizeLine;decide,fun p6 hp6=>?_⟩⟩⟩
 rw [←List.map_append,zce hz hzl] at f5
 have s6:=same_up (o:=HO.tup [V.ref p2,V.ref p5]) (z0h.refl H5) hp6
 have s26:=s3.trans (s4.trans (s5.trans s6))
 obtain ⟨l1,l2⟩:=z3g (e:=(b,r)) (s:=z) (c:=c)
 exact q _ _ (z3i (b,r) z c) (s1.trans (s2.trans s26)) (z2c (r:=z3i (b,r) z c) z03 (s26 _ _ f2) (s6 _ _ f5)) (z5Y (e:=(b,r)) hne L R') (z53 (e:=(b,r)) hne L R') (by rw [l1];exact Nat.sub_le _ _) (by rw [l2];exact hzl)
abbrev zcK:List Str:=["_law_letters_here","_law_cell_here","_law_nums","_law_many","_law_kind","_law_rows_here","_law_at","_law_pick","_law_first","_law_goings"]
theorem z2i:z0p zcK ["_law_letters_here","_law_cell_here"] (z06 z7M):=⟨rfl,rfl,rfl,by decide +kernel,rfl,by decide +kernel,by decide +kernel⟩
theorem zaJ:z0Z zcK (z06 z7M) ["_law_k","_law_many","_law_pick"] [none,some 3,some 7] (csc [(".0",.local),("_law_k",.local),("_law_many",.free),("_law_pick",.free)]):=⟨rfl,by decide +kernel,by decide +kernel,by decide +kernel,rfl,by decide +kernel,by decide +kernel⟩
theorem zb3:z0Z zcK (z06 z7M) ["_law_to","_law_at","_law_many"] [none,some 6,some 3] (csc [(".0",.local),("_law_to",.local),("min",.globalImplicit),("_law_at",.free),("_law_many",.free)]):=⟨rfl,by decide +kernel,by decide +kernel,by decide +kernel,rfl,by decide +kernel,by decide +kernel⟩
theorem za4:z0Z zcK (z06 z7M) ["_law_k","_law_goings","_law_letters_here","_law_many","_law_pick"] [none,some 9,some 0,some 3,some 7] (csc [(".0",.local),("_law_k",.local),("_law_goings",.free),("_law_letters_here",.free),("_law_many",.free),("_law_pick",.free)]):=⟨rfl,by decide +kernel,by decide +kernel,by decide +kernel,rfl,by decide +kernel,by decide +kernel⟩
theorem ze1 {k:Addr} {kd:FuncData} (F:Fun K "_law_rows" "_law_rows" z7M f fd) (mr:mg "range"=none) (mt:mg "tuple"=none) (mm:mg "min"=none)
  (G:z0y P w K mg base CX 1 g gd ["_law_cell_here","_law_many"] (z2k K)) (bG:z0l K gd ["_law_cell_here","_law_many"] []) (kG:PySem.W.keepIn K (.ref g)=true) (mG:mg "_law_numbers"=some (.ref g))
  (T:z0y P w K mg base CX 1 k kd ["_law_pick","_law_letters_here"] (z8K K)) (bT:z0l K kd ["_law_pick","_law_letters_here"] []) (kT:PySem.W.keepIn K (.ref k)=true) (mT:mg "_law_rearranged"=some (.ref k)):z0y P w K mg base CX 2 f fd ["_law_letters_here","_law_cell_here"] (zbG K):=by
 refine F.okc z2i (fun vs H Q E h=>?_) (fun cdv A outer s H vs Q E hr h=>?_)
 ·obtain ⟨n,c,rfl,_⟩:=h
  rfl
 obtain ⟨n,c,rfl,hn2,hn5,q⟩:=h
 refine ⟨_,z04 (z0i (i:=2) z2i.nd rfl (Or.inl rfl) (z0b G hr rfl mG kG bG .nil z0C (z02 (pv 1) (z02 z07 z05))))
  (z04 (z0i (i:=3) z2i.nd rfl (Or.inr rfl) (z0k z0R z07 (z0k z0O (z0Q z0X (pv 2) z07 (fun _ _=>rfl)) z07)))
  (z04 (z0i (i:=4) z2i.nd rfl (Or.inl rfl) (z0k z0O (z0Q z0X (pv 2) z07 (fun _ _=>rfl)) z07))
  (z04 (z0i (i:=5) z2i.nd rfl (Or.inl rfl) (z1H z05))
  (z04 (z1X PassesOwn.never rfl (z1v rfl mr (z02 (pv 3) z05)) (z0c (i:=6) z2i.nd rfl (Or.inr rfl))
   (z04 (z0i (i:=7) z2i.nd rfl (Or.inr rfl) (z1b z36 (pv 2) (z1a (z0k z0R z07 (z0k z3q z07 (pv 6)))) (z1a (z0k z0R z07 (z0k z3q z07 (pv 6))))))
   (z04 (z0i (i:=8) z2i.nd rfl (Or.inl rfl) (z0b T hr rfl mT kT bT .nil z0C (z02 (z0Q z0X (pv 7) z07 (fun _ _=>rfl)) (z02 (pv 0) z05))))
   (z04 (z0i (i:=9) z2i.nd rfl (Or.inr rfl) (z1u rfl zaJ (z1v rfl mr (z02 (pv 0) z05)) (fun _ _ _ _ _=>z0c (i:=0) zaJ.nd rfl (Or.inl rfl)) (fun _ _ _ _ _=>z0k z0O (z0Q (ixL K rfl) (pv 2) (z0k z0R z07 (pv 0)) (fun _ _=>rfl)) (pv 1))))
   (z04 (PS.weak (tRI K) (z1Q (z1o (z2B (pv 4) z07)) (z08 (z0i (i:=9) z2i.nd rfl (Or.inr rfl) (z1u rfl zb3 (z1j (pv 9)) (fun _ _ _ _ _=>z0c (i:=0) zb3.nd rfl (Or.inl rfl)) (fun _ _ _ _ _=>z0j (z72 rfl) rfl mm PyProof.Rows.boot_min (z02 (z0k z2A (pv 2) z07) (z02 (z0k z0R (z0k z0R (pv 1) z07) (pv 0)) z05)))))) z0M) ?_)
   (z04 (PS.weak (tRI K) (z1Q (z1o (z2B (pv 4) z07)) (z08 (z0i (i:=9) z2i.nd rfl (Or.inr rfl) (z1u rfl za4 (z1v rfl mr (z02 (pv 0) z05)) (fun _ _ _ _ _=>z0c (i:=0) za4.nd rfl (Or.inl rfl)) (fun _ _ _ _ _=>zbO (z1o (z2B (pv 0) (z0k z0O (z0k z2x (z0Q (ixL K rfl) (pv 4) z07 (fun _ _=>rfl)) z07) (pv 2)))) (z0Q (ixL K rfl) (pv 1) (pv 0) (fun _ _=>rfl)) (z0k z2A (pv 3) z07))))) z0M) ?_)
   (z04 (PS.weak (tRI K) (z1Q (PT.weak (zgM (zft K)) (PW.pt (zee (PW.pt (z7l (z91 zbz zbz z07 (pv 4) z07) (z4E (z1o (z2B (pv 6) (z0k z2A (pv 3) z07)))))) (za5 (PW.pt (z7l (z1o (z2B (pv 4) z07)) (z4E (z1o (z2B (z0k z0O (z0Q z0X (pv 7) z07 (fun _ _=>rfl)) z07) z07)))))))) ?_)
    (z08 (z0i (i:=8) z2i.nd rfl (Or.inl rfl) (z0x (z2a rfl) rfl mt PyProof.Rows.boot_tuple (z02 (z0x z4h rfl mr PyProof.Rows.boot_range (z02 (pv 0) z05)) z05)))) z0M) ?_)
   (z04 (PS.weak (tRI K) (z1Q (PT.weak (zgM (zft K)) (PW.pt (z7l (z91 zbz zbz z07 (pv 4) z07) (z4E (z1o (z2B (pv 6) (z0k z2A (pv 3) z07)))))) ?_)
    (z08 (z0i (i:=9) z2i.nd rfl (Or.inr rfl) (z0k zdd (z1H (z02 (pv 6) z05)) (pv 0)))) z0M) ?_)
   (z08 (z0Y (z3l PySem.F.plainAttrs_list PySem.F.slot_list_append PySem.F.type_list_append z0L (pv 5) (z02 (z1y (z02 (pv 8) (z02 (z0x z0v rfl mt PyProof.Rows.boot_tuple (z02 (pv 9) z05)) z05))) z05))))))))))))
  (z08 (z0D (pv 5))))))),?_⟩
 ·intro D σ H h
  obtain ⟨n,m,c,kd,j,ln,lr,lp,ps,H0,rf,ri,nx⟩:=h
  obtain ⟨b,lg,p,gs,rfl,s0,db,hp,eg,hgl,hgr⟩:=ri.ex
  have h5:=rf.n5
  have hjm:=rf.jm
  refine (exA rfl (exC rfl rfl (exA rfl (z2D (fun _=>?_) (fun _=>nx _ _ ri)))))
  refine ⟨_,rfl,lg,rfl,⟨_,SqL.of eg⟩,fun l hl=>z1W (xs:=gs.map V.int) (GI m H) (GI.nil hl) (fun i ys H2 _ h=>by obtain ⟨_,_,_,_,s⟩:=h;exact SqL.of (s _ _ eg)) (by rw [List.length_map];exact z0G (by lia)) (fun i ys H2 h=>h.len) (fun i x ys H2 hx h hy=>?_) (fun ys H2 h hy=>?_)⟩
  ·have hil:i < gs.length:=by have:=(List.getElem?_eq_some_iff.mp hx).1;rwa [List.length_map] at this
   have eg':gs[i]?=some gs[i]:=List.getElem?_eq_getElem hil
   obtain ⟨h0,h1⟩:=hgr _ (List.getElem_mem hil)
   generalize gs[i]=gi at eg' h0 h1
   have ex:x=V.int gi:=by rw [List.getElem?_map,eg'] at hx;exact (Option.some.inj hx).symm
   subst ex
   exact (exA rfl (exC rfl rfl (exA rfl (exC rfl rfl (exA rfl (exC rfl rfl (exB rfl ⟨hy,h.snoc hl ⟨by split<;>lia,by split<;>lia⟩⟩)))))))
  ·obtain ⟨gs',rfl,el,r',s'⟩:=h
   rw [List.length_map] at el
   exact nx _ _ ⟨b,l,p,gs',rfl,s0.trans s',db.mono s',hp,hy,by lia,r'⟩
 ·intro D σ H h
  obtain ⟨n,m,c,kd,j,ln,lr,lp,ps,H0,rf,ri,nx⟩:=h
  obtain ⟨b,lg,p,gs,rfl,s0,db,hp,eg,hgl,hgr⟩:=ri.ex
  have h5:=rf.n5
  have h2:=rf.n2
  have hjm:=rf.jm
  have elp:=s0 _ _ rf.lp
  have h6:=rf.len
  have ep:ps[0]?=some ps[0]:=List.getElem?_eq_getElem (by lia)
  refine (exA rfl (exC rfl rfl (exA rfl (z2D (fun _=>?_) (fun _=>nx _ _ ri)))))
  refine (exA rfl ⟨(n:Int),rfl,by lia,by lia,fun l hl=>z2V (n:=(n:Int).toNat) (GI m H) (GI.nil hl) (z0G (by lia)) (fun i ys H2 h=>h.len) (fun i ys H2 hi h hy=>?_) (fun ys H2 h hy=>?_)⟩)
  ·have e0:(0:Int)+(i:Int)=(i:Int):=by lia
   rw [e0]
   have hil:i < gs.length:=by lia
   have eg':gs[i]?=some gs[i]:=List.getElem?_eq_getElem hil
   obtain ⟨h0,h1⟩:=hgr _ (List.getElem_mem hil)
   generalize gs[i]=gi at eg' h0 h1
   obtain ⟨_,_,_,_,s2⟩:=id h
   refine (exA rfl (exA rfl (exD lp _ _ (V.int ps[0]) rfl rfl (SqL.of (s2 _ _ elp)) (z0F (j:=0) (by rw [List.getElem?_map,ep];rfl)) (exC rfl rfl ⟨⟨by decide,by decide⟩,exA rfl (exC rfl rfl ⟨z7F (by lia),exC rfl rfl (exA rfl (z2D (fun _=>?_) (fun _=>?_)))⟩)⟩))))
   ·exact (exA rfl (exA rfl (exD lg _ _ (V.int gi) rfl rfl (SqL.of (s2 _ _ eg)) (z0F (by rw [List.getElem?_map,eg'];rfl)) ⟨hy,h.snoc hl ⟨h0,h1⟩⟩)))
   ·exact (exA rfl (exC rfl rfl ⟨hy,h.snoc hl ⟨by lia,by lia⟩⟩))
  ·obtain ⟨gs',rfl,el,r',s'⟩:=h
   exact nx _ _ ⟨b,l,p,gs',rfl,s0.trans s',db.mono s',hp,hy,by lia,r'⟩
 ·intro σ H Q h
  obtain ⟨⟨n,m,c,kd,j,ln,lr,lp,ps,H0,rf,ri⟩,q⟩:=h
  obtain ⟨b,lg,p,gs,rfl,s0,db,hp,eg,hgl,hgr⟩:=ri.ex
  have elp:=s0 _ _ rf.lp
  have h6:=rf.len
  have ep:ps[0]?=some ps[0]:=List.getElem?_eq_getElem (by lia)
  refine (exA rfl (exC rfl rfl (exA rfl (z2D (fun _=>(exC rfl rfl (exA rfl (z2D (fun _=>(exA rfl (exA rfl (exC rfl rfl (exC rfl rfl (exA rfl (z2D (fun _=>q _) (fun _=>?_)))))))) (fun _=>z6I ?_))))) (fun _=>(exA rfl (z6I (z6I ?_))))))))
  all_goals exact (exA rfl (exC rfl rfl (exA rfl (z2D (fun _=>(exA rfl (exD lp _ _ (V.int ps[0]) rfl rfl (SqL.of elp) (z0F (j:=0) (by rw [List.getElem?_map,ep];rfl)) (exC rfl rfl ⟨z7F,exC rfl rfl (exA rfl (q _))⟩)))) (fun _=>q _)))))
 ·intro D σ H h
  obtain ⟨n,m,c,kd,j,ln,lr,lp,ps,H0,rf,ri,nx⟩:=h
  obtain ⟨b,lg,p,gs,rfl,s0,db,hp,eg,hgl,hgr⟩:=ri.ex
  have h5:=rf.n5
  refine ⟨⟨n,m,c,kd,j,ln,lr,lp,ps,H0,rf,ri⟩,fun cc=>z2D (fun _=>?_) (fun _=>nx _ _ ri)⟩
  refine (exA rfl ⟨(n:Int),rfl,by lia,by lia,fun r hr0=>⟨r,0,(n:Int),rfl,z03,⟨by decide,by decide,by lia,by lia⟩,by lia,fun l hl=>?_⟩⟩)
  have e:((n:Int) - 0).toNat=n:=by lia
  rw [e,z3n]
  have s':=same_up (o:=HO.tup ((z0z n).map V.int)) (same_up (o:=HO.rng 0 n) (z0h.refl H) hr0) hl
  exact nx _ _ ⟨.ref l,lg,z0z n,gs,rfl,s0.trans s',Dr.tup z03 (DrL.ints _),z6m n,s' _ _ eg,hgl,hgr⟩
 ·intro σ H Q h
  obtain ⟨⟨n,m,c,kd,j,ln,lr,lp,ps,H0,rf,ri⟩,q⟩:=h
  obtain ⟨b,lg,p,gs,rfl,s0,db,hp,eg,hgl,hgr⟩:=ri.ex
  exact (exA rfl (exC rfl rfl (exA rfl (z2D (fun _=>(exC rfl rfl (exA rfl (z2D (fun _=>(exA rfl (exA rfl (exC rfl rfl (exC rfl rfl (exA rfl (q _))))))) (fun _=>q _))))) (fun _=>(exA rfl (z6I (q _))))))))
 ·intro D σ H h
  obtain ⟨n,m,c,kd,j,ln,lr,lp,ps,H0,rf,ri,nx⟩:=h
  obtain ⟨b,lg,p,gs,rfl,s0,db,hp,eg,hgl,hgr⟩:=ri.ex
  have h5:=rf.n5
  have hjm:=rf.jm
  refine ⟨⟨n,m,c,kd,j,ln,lr,lp,ps,H0,rf,ri⟩,fun cc=>z2D (fun _=>?_) (fun _=>nx _ _ ri)⟩
  refine (exA rfl ⟨by show 1≤sizeLine;decide,fun l0 hl0=>(exA rfl ⟨l0,(n:Int),exA rfl ⟨rfl,z03,by lia,by lia,?_,fun l hl=>?_⟩⟩)⟩)
  ·show 1*(n:Int).toNat≤sizeLine
   exact z0G (by lia)
  have e:((n:Int)).toNat=n:=by lia
  rw [e,zg4]
  have s':=same_up (o:=HO.lst ((List.replicate n (j:Int)).map V.int)) (same_up (o:=HO.lst [V.int (j:Int)]) (z0h.refl H) hl0) hl
  exact nx _ _ ⟨b,l,p,List.replicate n (j:Int),rfl,s0.trans s',db.mono s',hp,z03,List.length_replicate,fun g hg=>by rw [(List.mem_replicate.mp hg).2];lia⟩
 refine (exA rfl ⟨c,64,rfl,by lia,fun ln H1 ns s1 e1 hns=>?_⟩)
 have hnl:=hns.1
 have en0:ns[0]?=some ns[0]:=List.getElem?_eq_getElem (by lia)
 have en1:ns[1]?=some ns[1]:=List.getElem?_eq_getElem (by lia)
 obtain ⟨m,hm⟩:=z3T (x:=(1:Int)+ns[0] % 8) (by lia)
 have hm1:1≤m:=by lia
 have hm8:m≤8:=by lia
 refine (exA rfl (exD ln _ _ (V.int ns[0]) rfl rfl (SqL.of e1) (z0F (j:=0) (by rw [List.getElem?_map,en0];rfl)) (exC rfl rfl ⟨z7F,exC rfl rfl ?_⟩)))
 generalize ns[1]=n1 at en1
 refine (exA rfl (exD ln _ _ (V.int n1) rfl rfl (SqL.of e1) (z0F (j:=1) (by rw [List.getElem?_map,en1];rfl)) (exC rfl rfl ⟨z7F,by show 0≤sizeLine;decide,fun lr hlr=>?_⟩)))
 obtain ⟨kd,hkd⟩:∃ kd,kd=n1 % 6:=⟨_,rfl⟩
 have s2:=same_up (o:=HO.lst []) (z0h.refl H1) hlr
 refine ⟨_,rfl,(m:Int),(by rw [←hm]),by lia,by lia,z8E (n:=(m:Int).toNat) (fun i σ H2=>∃ (u6 u7 u8 u9:Option V) (us:List V) (rs:List Row),σ=[some (.int n),some (.int c),some (.ref ln),some (.int m),some (.int kd),some (.ref lr),u6,u7,u8,u9]∧z0h H1 H2∧H2 lr=some (.lst us)∧DrL K H2 (z0m rs) us∧rs.length=i∧GR n m rs)
  ⟨_,_,_,_,[],[],(by rw [←hm,hkd];rfl),s2,z03,DrL.nil,rfl,fun r hr=>by simp at hr⟩ (fun i σ H2 hi h Ed nx3=>?_) (fun σ H2 h=>?_)⟩
 ·obtain ⟨u6,u7,u8,u9,us,rs,rfl,t2,elr,drs,hrl,gr⟩:=h
  have e0:(0:Int)+(i:Int)=(i:Int):=by lia
  rw [e0]
  have him:i < m:=by lia
  obtain ⟨ps,ecut,hp6,hpr⟩:=zhp (i:=i) hns (by lia)
  have ep:ps[0]?=some ps[0]:=List.getElem?_eq_getElem (by lia)
  refine (exA rfl (exA rfl (exC rfl rfl ⟨.inl ⟨by decide,by decide⟩,exC rfl rfl (exA rfl (exA rfl (exC rfl rfl ⟨.inl ⟨by decide,by decide⟩,exC rfl rfl (exA rfl ⟨ln,exA rfl ⟨SqL.of (t2 _ _ e1),fun lp hlp=>?_⟩⟩)⟩)))⟩)))
  rw [ecut]
  have s3:=same_up (o:=HO.lst (ps.map V.int)) (z0h.refl H2) hlp
  refine (exA rfl (exD lp _ _ (V.int ps[0]) rfl rfl (SqL.of z03) (z0F (j:=0) (by rw [List.getElem?_map,ep];rfl)) (exA rfl ⟨ps[0],n,rfl,by lia,fun b H3 s4 d3=>?_⟩)))
  have elp3:H3 lp=some (.lst (ps.map V.int)):=s4 _ _ z03
  refine (exA rfl ⟨(n:Int),rfl,by lia,by lia,fun lg hlg=>z2V (n:=(n:Int).toNat) (GI m H3) (GI.nil hlg) (z0G (by lia)) (fun i ys H h=>h.len) (fun k ys H4 hk h hy=>?_) (fun ys H4 h hy=>?_)⟩)
  ·have ek:(1:Int)+(0+(k:Int))=((1+k:Nat):Int):=by lia
   have ek':ps[1+k]?=some (ps[1+k]'(by lia)):=List.getElem?_eq_getElem (by lia)
   generalize ps[1+k]'(by lia)=pk at ek'
   obtain ⟨_,_,_,_,s5⟩:=id h
   refine (exA rfl (exA rfl (exC rfl rfl (exD lp _ _ (V.int pk) rfl rfl (SqL.of (s5 _ _ elp3)) ((by rw [ek];exact z0F (by rw [List.getElem?_map,ek'];rfl))) (exA rfl (exC rfl rfl ⟨z7F (by lia),hy,h.snoc hlg ⟨?_,?_⟩⟩))))))
   ·exact Int.emod_nonneg _ (by lia)
   ·exact Int.emod_lt_of_pos _ (by lia)
  obtain ⟨gs,rfl,hgl,hgr,s5⟩:=h
  have rf:RF n m i ps lp H3:=⟨hn2,hn5,him,hm8,elp3,hp6,hpr⟩
  refine ⟨n,m,c,kd,i,ln,lr,lp,ps,H3,rf,⟨b,lg,_,gs,rfl,s5,d3.mono s5,z5m _ _,hy,by lia,hgr⟩,fun σ1 H5 r1=>⟨n,m,c,kd,i,ln,lr,lp,ps,H3,rf,r1,fun σ2 H6 r2=>⟨n,m,c,kd,i,ln,lr,lp,ps,H3,rf,r2,fun σ3 H7 r3=>⟨n,m,c,kd,i,ln,lr,lp,ps,H3,rf,r3,fun σ4 H8 r4=>?_⟩⟩⟩⟩
  clear hgl hgr hy
  obtain ⟨b,lg,p,gs,rfl,s0,db,hp,eg,hgl,hgr⟩:=r4.ex
  have s28:z0h H2 H8:=(s3.trans s4).trans s0
  refine (exA rfl ⟨.inl ⟨rfl,_,SqL.of (s28 _ _ elr)⟩,exA rfl (exA rfl ⟨lg,exA rfl (.inl ⟨SqL.of eg,fun t4 ht4=>⟨by show 2≤sizeLine;decide,fun t5 ht5=>?_⟩⟩)⟩)⟩)
  have s9:=same_up (o:=HO.tup (gs.map V.int)) (z0h.refl H8) ht4
  have s10:=same_up (o:=HO.tup [b,.ref t4]) s9 ht5
  have elr':=s10 _ _ (s28 _ _ elr)
  have hul:us.length=i:=by have:=drs.length;unfold z0m at this;rw [List.length_map] at this;lia
  refine ⟨lr,us,.ref t5,rfl,rfl,elr',z2F (by lia),?_⟩
  obtain ⟨b0,rfl,eb⟩:=Dr.its_inv db
  have kk:z1h H8 (upd (upd (upd H8 t4 (.tup (gs.map V.int))) t5 (.tup [.ref b0,.ref t4])) lr (.lst (us++[.ref t5]))):=z1h.up (z1h.of s10) elr' (fun _ z=>by cases z)
  have nt5:t5≠lr:=z42 z03 elr' (by intro z;cases z)
  have nt4:t4≠t5:=z0g z03 ht5
  have nt4f:t4≠lr:=z42 (show upd (upd H8 t4 (.tup (gs.map V.int))) t5 (.tup [.ref b0,.ref t4]) t4=some (.tup (gs.map V.int)) by rw [z0a nt4];exact z03) elr' (by intro z;cases z)
  refine nx3 _ _ ⟨_,_,_,_,us++[.ref t5],rs++[(p,gs)],rfl,z0f (t2.trans (s28.trans s10)) hlr,z03,?_,by rw [List.length_append,hrl];rfl,gr.snoc ⟨hp,hgl,hgr⟩⟩
  unfold z0m
  rw [List.map_append]
  refine DrL.append ((drs.mono s28).keyed kk (z2u _)) (DrL.one (z2c (r:=(p,gs)) (b:=b0) (c:=t4) ?_ (kk _ _ eb) ?_))
  ·rw [z0a nt5];exact z03
  ·rw [z0a nt4f,z0a nt4];exact z03
 ·obtain ⟨u6,u7,u8,u9,us,rs,rfl,t2,elr,drs,hrl,gr⟩:=h
  exact (exA rfl (q lr H2 rs (s1.trans t2) ⟨us,elr,drs⟩ (gr.good (by lia) hm1 (by lia)) (by lia)))
abbrev zgL:List Str:=["_law_rows_here","_law_line","_law_marks","_law_place","_law_heads","_law_row"]
abbrev zeX:List Str:=["_law_row","_law_marks","_law_place","_law_rows_here"]
abbrev zgh:Scope:=csc [(".0",.local),("_law_row",.local),("tuple",.globalImplicit),("_law_marks",.free),("_law_place",.free),("_law_rows_here",.free)]
theorem zc9:z0p zgL ["_law_rows_here","_law_line","_law_marks"] (z06 z4X):=⟨rfl,rfl,rfl,by decide +kernel,rfl,by decide +kernel,by decide +kernel⟩
theorem zdj:z0Z zgL (z06 z4X) zeX [none,some 2,some 3,some 0] zgh:=⟨rfl,by decide +kernel,by decide +kernel,by decide +kernel,rfl,by decide +kernel,by decide +kernel⟩
abbrev zfR:Scope:=csc [(".0",.local),("_law_row",.local),("tuple",.globalImplicit),("_law_marks",.cell),("_law_place",.cell),("_law_rows_here",.cell)]
theorem zd3:z0Z zeX zfR ["_law_to","_law_marks","_law_place"] [none,some 1,some 2] (csc [(".0",.local),("_law_to",.local),("_law_marks",.free),("_law_place",.free)]):=⟨rfl,by decide +kernel,by decide +kernel,by decide +kernel,rfl,by decide +kernel,by decide +kernel⟩
theorem z9z (F:Fun K "_law_in_line" "_law_in_line" z4X f fd) (ml:mg "len"=none) (mt:mg "tuple"=none):z0y P w K mg base CX 1 f fd ["_law_rows_here","_law_line","_law_marks"] (z4n K):=by
 refine F.okc zc9 (fun vs H Q E h=>?_) (fun cdv A outer s H vs Q E hr h=>?_)
 ·obtain ⟨a,l,m,n,rows,nm,us,o,k,kvs,rfl,_⟩:=h
  rfl
 obtain ⟨a,l,m,n,rows,nm,us,o,k,kvs,rfl,Sa,da,ni,GM,hn,el,em,mk,L,cl,q⟩:=h
 have hu:=z9w hr
 refine ⟨_,z04 (z0i (i:=3) zc9.nd rfl (Or.inr rfl) z4f)
  (z04 (z0i (i:=4) zc9.nd rfl (Or.inl rfl) (z1H z05))
  (z04 (z1X PassesOwn.never rfl (z1j (pv 1)) (z0c (i:=5) zc9.nd rfl (Or.inl rfl))
   (z08 (z1Q (z1o (z2R hu (z2P hu (pv 2) (pv 5) (fun _ _=>rfl)) (pv 3)))
    (z04 (z3a hu (pv 3) (z2P hu (pv 2) (pv 5) (fun _ _=>rfl)) (z0j z09 rfl ml PySem.boot_len (z02 (pv 4) z05)) rfl)
    (z08 (z0Y (z3l PySem.F.plainAttrs_list PySem.F.slot_list_append PySem.F.type_list_append z0L (pv 4) (z02 (pv 5) z05))))) z0M)))
  (z08 (z0D (z0x z0v rfl mt PyProof.Rows.boot_tuple (z02 (z1u rfl zdj (z1j (pv 4)) (fun _ _ _ _ _=>z0c (i:=0) zdj.nd rfl (Or.inl rfl))
   (fun _ _ _ _ _=>z1y (z02 (z0x (zgP K rfl) rfl mt PyProof.Rows.boot_tuple (z02 (z0Q (ixT K rfl) (z0Q (ixQ K rfl) (pv 3) (pv 0) (fun _ _=>rfl)) z07 (fun _ _=>rfl)) z05))
    (z02 (z0x (zgP K rfl) rfl mt PyProof.Rows.boot_tuple (z02 (z1u rfl zd3 (piT K rfl (z0Q (ixT K rfl) (z0Q (ixQ K rfl) (pv 3) (pv 0) (fun _ _=>rfl)) z07 (fun _ _=>rfl))) (fun _ _ _ _ _=>z0c (i:=0) zd3.nd rfl (Or.inl rfl))
     (fun _ _ _ _ _=>z2P hu (pv 2) (z2P hu (pv 1) (pv 0) (fun _ _=>rfl)) (fun _ _=>rfl))) z05)) z05)))) z05)))))),?_⟩
 have hol:=L.len
 have h400:=GM.few
 have gk:∀ r∈o,z33 kvs (kN nm r)=some (V.int (k r)):=fun r hr=>by
  obtain ⟨v,hv,d⟩:=mk.get ni hr
  simp only [Dr] at d
  rw [hv,d]
 refine fun lp hlp=>⟨by show 0≤sizeLine;decide,fun lh hlh=>?_⟩
 have s1:=same_up (o:=HO.dK []) (z0h.refl H) hlp
 have hlh0:H lh=none:=s1.free hlh
 have nph:lp≠lh:=z0g z03 hlh
 have s2:=same_up (o:=HO.lst []) s1 hlh
 refine ⟨_,rfl,l,rfl,⟨_,SqL.of (s2 _ _ el)⟩,zan (xs:=o.map (nV nm)) (fun i σ H2=>∃ (u:Option V),σ=[some (.ref a),some (.ref l),some (.ref m),some (.ref lp),some (.ref lh),u]∧z0h H H2∧H2 lh=some (.lst ((z0E k (o.take i)).map (nV nm)))∧H2 lp=some (.dK (prs Sum.inl ((z0E k (o.take i)).map k))))
  ⟨_,rfl,s2,z03,by rw [z0a nph];exact z03⟩ (fun i σ H2 _ h=>by obtain ⟨_,_,t2,_⟩:=h;exact SqL.of (t2 _ _ el)) (fun i x σ H2 hx h Ed nx3=>?_) (fun σ H2 h=>?_)⟩
 ·obtain ⟨u,rfl,t2,e1,e2⟩:=h
  have hil:i < o.length:=by have:=(List.getElem?_eq_some_iff.mp hx).1;rwa [List.length_map] at this
  have eo:o[i]?=some o[i]:=List.getElem?_eq_getElem hil
  have hro:o[i]∈o:=List.getElem_mem hil
  generalize o[i]=r at eo hro
  have ex:x=V.int (nm r):=by rw [List.getElem?_map,eo] at hx;exact (Option.some.inj hx).symm
  subst ex
  have et:z0E k (o.take (i+1))=z0T k (z0E k (o.take i)) r:=by rw [List.take_add_one,eo];exact z1B k _ _
  have hhl:=(z1f k (o.take i)).2.2
  rw [List.length_take] at hhl
  generalize z0E k (o.take i)=hs at *
  have gm:z3V H2 m (V.int (nm r)) (some (V.int (k r))):=by rw [←gk r hro];exact z3V.k (k:=kN nm r) (t2 _ _ em)
  refine (exA rfl (exA rfl ⟨m,exA rfl ⟨gm,exA rfl ⟨lp,exA rfl ⟨z3V.k (k:=Sum.inl (k r)) e2,exA rfl ?_⟩⟩⟩⟩))
  have hv:=z27 (κ:=Key) Sum.inl z7Q (hs.map k) (k r)
  by_cases hm:k r∈hs.map k
  ·rw [hv,if_pos hm]
   refine z6I (nx3 _ _ (exA rfl ⟨t2,?_,?_⟩))
   ·rw [et,z0T,if_pos hm];exact e1
   ·rw [et,z0T,if_pos hm];exact e2
  ·rw [hv,if_neg hm]
   have nlop:lh≠lp:=Ne.symm nph
   refine zbF (exA rfl (exG lh rfl (.inl (SqL.of e1)) (exA rfl (exA rfl (exA rfl ⟨m,exA rfl ⟨gm,lp,exA rfl ⟨zat.k (k:=Sum.inl (k r)) e2 (by rw [z1P,List.length_map];exact z1p (by lia)),?_⟩⟩⟩)))))
   have e1':upd H2 lp (.dK (z1Y (prs Sum.inl (hs.map k)) (Sum.inl (k r):Key) (V.int ((hs.map (nV nm)).length:Nat)))) lh=some (.lst (hs.map (nV nm))):=by rw [z0a nlop];exact e1
   refine (exA rfl ⟨.inl ⟨rfl,_,SqL.of e1'⟩,exA rfl ⟨lh,exC rfl rfl ⟨e1',by rw [List.length_map];exact z1p (by lia),?_⟩⟩⟩)
   refine nx3 _ _ (exA rfl ⟨z0f (z0f t2 hlp) hlh0,?_,?_⟩)
   ·rw [z03,et,z0T,if_neg hm,List.map_append];rfl
   ·rw [z0a nph,z03,et,z0T,if_neg hm,List.map_append]
    have:=z4Q (κ:=Key) Sum.inl z7Q hm
    rw [List.length_map] at this ⊢
    rw [this];rfl
 ·obtain ⟨u,rfl,t2,e1,e2⟩:=h
  rw [List.length_map,List.take_length] at e1 e2
  obtain ⟨hh1,hh2,hh3⟩:=z1f k o
  unfold z1N at q
  generalize z0E k o=hs at *
  refine (exA rfl ⟨lh,rfl,⟨_,SqL.of e1⟩,fun l3 hl3=>z1W (xs:=hs.map (nV nm)) (fun i ys H3=>i≤hs.length∧ys.length=i∧z0h H2 H3∧DrL K H3 (((hs.take i).map fun r=>z2E ((row rows r).1,(row rows r).2.map fun g=>(((hs.map k).idxOf (k g):Nat):Int)))) ys) ⟨Nat.zero_le _,rfl,same_up (z0h.refl H2) hl3,DrL.nil⟩ (fun i ys H3 _ h=>SqL.of (h.2.2.1 _ _ e1)) (by rw [List.length_map];exact z0G (by lia)) (fun i ys H3 h=>h.2.1) (fun i x ys H3 hx h hy=>?_) (fun ys H3 h hy=>?_)⟩)
  ·obtain ⟨_,hyl,s3,d3⟩:=h
   have hil:i < hs.length:=by have:=(List.getElem?_eq_some_iff.mp hx).1;rwa [List.length_map] at this
   have eo:hs[i]?=some hs[i]:=List.getElem?_eq_getElem hil
   have hrh:hs[i]∈hs:=List.getElem_mem hil
   generalize hs[i]=r at eo hrh
   have hro:=hh2 r hrh
   have ex:x=V.int (nm r):=by rw [List.getElem?_map,eo] at hx;exact (Option.some.inj hx).symm
   subst ex
   obtain ⟨r0,r1⟩:=L.rg r hro
   obtain ⟨nr0,v,ev,dv⟩:=da r r0 r1
   have t3:=t2.trans s3
   obtain ⟨t,b,cc,rfl,et,eb,ec⟩:=z0W (dv.mono t3)
   dsimp only [z6F] at eb ec
   have hgl:=GM.len _ (z0o r0 r1)
   have hgo:=cl r hro
   have esn:=z1q (fun r=>z2E ((row rows r).1,(row rows r).2.map fun g=>(((hs.map k).idxOf (k g):Nat):Int))) eo
   generalize hrr:(row rows r).2=gs at *
   refine (exA rfl (exA rfl ⟨a,_,nm r,.ref t,rfl,rfl,Sa.mono t3,z2M nr0 ev,exD t _ _ (.ref b) rfl rfl (SqT.of et) (z0F (j:=0) rfl) ⟨b,exA rfl (.inr ⟨SqT.of eb,?_⟩)⟩⟩))
   refine (exA rfl (exA rfl ⟨a,_,nm r,.ref t,rfl,rfl,Sa.mono t3,z2M nr0 ev,exD t _ _ (.ref cc) rfl rfl (SqT.of et) (z0F (j:=1) rfl) ⟨cc,rfl,⟨_,SqT.of ec⟩,fun l4 hl4=>z3u (xs:=(gs.map nm).map V.int) (fun j zs H4=>j≤gs.length∧zs=((gs.take j).map fun g=>(((hs.map k).idxOf (k g):Nat):Int)).map V.int∧z0h H3 H4) ⟨Nat.zero_le _,rfl,same_up (z0h.refl H3) hl4⟩ (fun j zs H4 _ h=>SqT.of (h.2.2 _ _ ec)) (by rw [List.length_map,List.length_map];exact z0G (by lia)) (fun j zs H4 h=>?_) (fun j x zs H4 hx h hy4=>?_) (fun zs H4 h hy4=>?_)⟩⟩))
   ·obtain ⟨hj,rfl,_⟩:=h
    rw [List.length_map,List.length_map,List.length_take]
    lia
   ·obtain ⟨hj,rfl,s4⟩:=h
    have hjl:j < gs.length:=by have:=(List.getElem?_eq_some_iff.mp hx).1;rwa [List.length_map,List.length_map] at this
    have eg:gs[j]?=some gs[j]:=List.getElem?_eq_getElem hjl
    have hgm:=hgo _ (List.getElem_mem hjl)
    generalize gs[j]=gj at eg hgm
    have ex:x=V.int (nm gj):=by rw [List.getElem?_map,List.getElem?_map,eg] at hx;exact (Option.some.inj hx).symm
    subst ex
    have t4:=t3.trans s4
    have gm:z3V H4 m (V.int (nm gj)) (some (V.int (k gj))):=by rw [←gk gj hgm];exact z3V.k (k:=kN nm gj) (t4 _ _ em)
    have hv:=z27 (κ:=Key) Sum.inl z7Q (hs.map k) (k gj)
    rw [if_pos (hh1 gj hgm)] at hv
    refine (exA rfl (exA rfl (exA rfl ⟨m,exA rfl ⟨gm,lp,exA rfl ⟨(by rw [←hv];exact z3V.k (k:=Sum.inl (k gj)) (s4 _ _ (s3 _ _ e2))),hy4,hjl,?_,z0f s4 hl4⟩⟩⟩)))
    rw [z1q _ eg,List.map_append]
    rfl
   ·obtain ⟨_,rfl,s4⟩:=h
    rw [List.length_map,List.length_map,List.take_length] at hy4
    refine ⟨l4,exA rfl (.inl ⟨SqL.of hy4,fun t4 ht4=>⟨by show 2≤sizeLine;decide,fun t5 ht5=>?_⟩⟩)⟩
    have s5:=same_up (o:=HO.tup ((gs.map fun g=>(((hs.map k).idxOf (k g):Nat):Int)).map V.int)) s4 ht4
    have s6:=same_up (o:=HO.tup [.ref b,.ref t4]) s5 ht5
    have hy6:=s6 _ _ hy
    refine ⟨hy6,hil,by rw [List.length_append,hyl];rfl,z0f (s3.trans s6) hl3,?_⟩
    have kk:z1h H3 (upd (upd (upd H4 t4 (.tup ((gs.map fun g=>(((hs.map k).idxOf (k g):Nat):Int)).map V.int))) t5 (.tup [.ref b,.ref t4])) l3 (.lst (ys++[.ref t5]))):=z1h.up (z1h.of s6) hy6 (fun _ z=>by cases z)
    have nt5:t5≠l3:=z42 z03 hy6 (by intro z;cases z)
    have nt4:t4≠t5:=z0g z03 ht5
    have nt4f:t4≠l3:=z42 (show upd (upd H4 t4 (.tup ((gs.map fun g=>(((hs.map k).idxOf (k g):Nat):Int)).map V.int))) t5 (.tup [.ref b,.ref t4]) t4=_ by rw [z0a nt4];exact z03) hy6 (by intro z;cases z)
    rw [esn]
    refine DrL.append (d3.keyed kk (by have:=z2u ((hs.take i).map fun r=>((row rows r).1,(row rows r).2.map fun g=>(((hs.map k).idxOf (k g):Nat):Int)));unfold z0m at this;rw [List.map_map] at this;exact this)) (DrL.one (z2c (b:=b) (c:=t4) ?_ (kk _ _ eb) ?_))
    ·rw [z0a nt5];exact z03
    ·rw [z0a nt4f,z0a nt4];exact z03
  ·obtain ⟨_,_,s3,d3⟩:=h
   rw [List.length_map,List.take_length] at d3
   refine ⟨l3,exA rfl (.inl ⟨SqL.of hy,fun t ht=>?_⟩)⟩
   refine q _ _ ((t2.trans s3).trans (same_up (z0h.refl H3) ht)) (Dr.tup z03 ?_)
   unfold z0m
   rw [List.map_map]
   exact d3.mono (same_up (z0h.refl H3) ht)
abbrev zgC:List Str:=["_law_rows_here","_law_start","_law_line","_law_marks","_law_at","_law_to","_law_many","_law_grown","_law_known","_law_fresh","_law_row","_law_key"]
theorem z3e:z0p zgC ["_law_rows_here","_law_start"] (z06 z3O):=⟨rfl,rfl,rfl,by decide +kernel,rfl,by decide +kernel,by decide +kernel⟩
theorem zfj:z0Z zgC (z06 z3O) ["_law_to","_law_marks"] [none,some 3] (csc [(".0",.local),("_law_to",.local),("_law_marks",.free)]):=⟨rfl,by decide +kernel,by decide +kernel,by decide +kernel,rfl,by decide +kernel,by decide +kernel⟩
theorem zar (u:List D) (d:D) (hn:u.Nodup):z1Y (prs id u) d ((z33 (prs id u) d).getD (V.int ((prs id u).length:Nat)))=prs id (z1Z u d):=by
 have hv:z33 (prs id u) d=_:=z27 id (fun _ _ e=>e) u d
 by_cases hm:d∈u
 ·rw [hv,if_pos hm,z0w hm]
  have:=z7k 0 u d hm hn
  rw [Nat.zero_add] at this
  exact this
 ·rw [hv,if_neg hm,z0u hm,←z4Q id (fun _ _ e=>e) hm]
  rw [z1P]
  rfl
theorem z9K (F:Fun K "_law_shrunk" "_law_shrunk" z3O f fd) (ml:mg "len"=none) (mt:mg "tuple"=none)
  (G:z0y P w K mg base CX 1 g gd ["_law_rows_here","_law_line","_law_marks"] (z4n K)) (bG:z0l K gd ["_law_rows_here","_law_line","_law_marks"] []) (kG:PySem.W.keepIn K (.ref g)=true) (mG:mg "_law_in_line"=some (.ref g)):z0y P w K mg base CX 2 f fd ["_law_rows_here","_law_start"] (z4z K):=by
 refine F.okc z3e (fun vs H Q E h=>?_) (fun cdv A outer s H vs Q E hr h=>?_)
 ·obtain ⟨a,n,rows,nm,us,rfl,_⟩:=h
  rfl
 obtain ⟨a,n,rows,nm,us,rfl,Sa,da,ni,GM,hn,q⟩:=h
 have hu:=z9w hr
 have hu9:(A.deeper (PyProof.Rows.envOfC "_law_shrunk" (z06 z3O) s.heap.objs.size f cdv)).units+9 < cLine:=by have:=hr.units;lia
 refine ⟨_,z04 (z0i (i:=2) z3e.nd rfl (Or.inl rfl) (z1H (z02 (pv 1) z05)))
  (z04 (z0i (i:=3) z3e.nd rfl (Or.inr rfl) (zas (z97 (pv 1) (z0Q z1G (z0Q (ixQ K rfl) (pv 0) (pv 1) (fun _ _=>rfl)) z07 (fun _ _=>rfl)) za9) rfl rfl (by simp) (by decide)))
  (z04 (z0i (i:=4) z3e.nd rfl (Or.inl rfl) z07)
  (z04 (z1D PassesOwn.never (z18 z4O (pv 4) (z0j z09 rfl ml PySem.boot_len (z02 (pv 2) z05)) (z19 _))
   (z04 (z1X PassesOwn.never rfl (z3t (z0Q z1G (z0Q (ixQ K rfl) (pv 0) (z0Q z0X (pv 2) (pv 4) (fun _ _=>rfl)) (fun _ _=>rfl)) z07 (fun _ _=>rfl))) (z0c (i:=5) z3e.nd rfl (Or.inl rfl))
    (z08 (z1Q (z1o (z2R hu (pv 5) (pv 3)))
     (z04 (z3a hu (pv 3) (pv 5) (z0Q z1G (z0Q (ixQ K rfl) (pv 0) (pv 5) (fun _ _=>rfl)) z07 (fun _ _=>rfl)) rfl)
     (z08 (z0Y (z3l PySem.F.plainAttrs_list PySem.F.slot_list_append PySem.F.type_list_append z0L (pv 2) (z02 (pv 5) z05))))) z0M)))
   (z08 (z94 (i:=4) z3e.nd rfl (Or.inl rfl) z07 z9e))))
  (z04 (z0i (i:=6) z3e.nd rfl (Or.inl rfl) z07)
  (z04 (z0i (i:=7) z3e.nd rfl (Or.inl rfl) z9L)
  (z04 (z1D PassesOwn.never (z9g (pv 7))
   (z04 (z0i (i:=8) z3e.nd rfl (Or.inl rfl) (zbA (K:=K)))
   (z04 (z0i (i:=9) z3e.nd rfl (Or.inl rfl) z4f)
   (z04 (z1X PassesOwn.never rfl (z1j (pv 2)) (z0c (i:=10) z3e.nd rfl (Or.inl rfl))
    (z04 (z0i (i:=11) z3e.nd rfl (Or.inl rfl) (z1y (z02 (z2P hu (pv 3) (pv 10) (fun _ _=>rfl)) (z02 (z0x z0v rfl mt PyProof.Rows.boot_tuple (z02
     (z1u rfl zfj (z3t (z0Q z1G (z0Q (ixQ K rfl) (pv 0) (pv 10) (fun _ _=>rfl)) z07 (fun _ _=>rfl))) (fun _ _ _ _ _=>z0c (i:=0) zfj.nd rfl (Or.inl rfl)) (fun _ _ _ _ _=>z2P hu (pv 1) (pv 0) (fun _ _=>rfl))) z05)) z05))))
    (z04 (zbg (K:=K) hu9 (pv 8) (pv 11) (zbU (K:=K) hu9 (pv 8) (pv 11) (z0j (zcv K) rfl ml PySem.boot_len (z02 (pv 8) z05)) ⟨rfl,rfl,rfl,rfl⟩))
    (z08 (z3a hu (pv 9) (pv 10) (zbb (K:=K) hu9 (pv 8) (pv 11) (fun _ _=>rfl)) rfl)))))
   (z04 (z0i (i:=7) z3e.nd rfl (Or.inl rfl) (z3R zbp (z0j (zcv K) rfl ml PySem.boot_len (z02 (pv 8) z05)) (pv 6) (z19 _)))
   (z04 (z0i (i:=6) z3e.nd rfl (Or.inl rfl) (z0j (zcv K) rfl ml PySem.boot_len (z02 (pv 8) z05)))
   (z08 (z0i (i:=3) z3e.nd rfl (Or.inr rfl) (pv 9)))))))))
  (z08 (z0D (z0b G hr rfl mG kG bG .nil z0C (z02 (pv 0) (z02 (pv 2) (z02 (pv 3) z05)))))))))))),?_⟩
 have h400:=GM.few
 have h1:=GM.some
 have hz1:(0:Int) < (rows.length:Int):=by lia
 refine (exA rfl ⟨by show 1≤sizeLine;decide,fun lo hlo=>?_⟩)
 refine fun lm hlm=>(exA rfl ?_)
 have s1:=same_up (o:=HO.lst [V.int (nm 0)]) (z0h.refl H) hlo
 have s2:=same_up (o:=HO.dK []) s1 hlm
 have nlo:lo≠lm:=z0g z03 hlm
 have hlm0:H lm=none:=s1.free hlm
 obtain ⟨nz0,v0,ev0,dv0⟩:=da 0 (Int.le_refl 0) hz1
 obtain ⟨t0,b0,c0,rfl,et0,eb0,ec0⟩:=z0W (dv0.mono s2)
 refine (exA rfl (exA rfl ⟨a,_,nm 0,.ref t0,rfl,rfl,Sa.mono s2,z2M nz0 ev0,exD t0 _ _ (.ref b0) rfl rfl (SqT.of et0) (z0F (j:=0) rfl) ⟨z03,[(Sum.inl (nm 0),V.ref b0)],rfl,by simp,?_⟩⟩))
 have s3:z0h H (upd (upd (upd H lo (.lst [.int (nm 0)])) lm (.dK [])) lm (.dK (z40 [] [(Sum.inl (nm 0),V.ref b0)]))):=z0f s2 hlm0
 have hF0:=FK.its rows
 have L0:=zcI GM
 have OL:=z0t GM
 have hol:=OL.1.len
 show z7y _ _ _ _ _
 refine zgT (fun σ' H'=>∃ (i0:Int) (o:List Int) (u5:Option V) (kvs:List (Key × V)),σ'=[some (.ref a),some (.int (nm 0)),some (.ref lo),some (.ref lm),some (.int i0),u5,none,none,none,none,none,none]∧z0h H H'∧H' lo=some (.lst (o.map (nV nm)))∧H' lm=some (.dK kvs)∧MkN nm K H' o (fun r=>D.its (row rows r).1) kvs∧z7G rows o∧z0e rows=o) (fun Ed nx=>?_) (fun σ' H' p=>?_)
 rotate_left
 ·obtain ⟨i0,o,u5,kvs,rfl,t2,glo,glm,mk2,L,eoo⟩:=p
  have cl:∀ r∈o,∀ g∈(row rows r).2,g∈o:=by have:=OL.2;rwa [eoo] at this
  have hln:=L.len
  refine ⟨fun m σ H3=>∃ (f:Int→D) (many:Nat) (gr:Bool) (lm:Addr) (kvs:List (Key × V)) (u8 u9 u10 u11:Option V),σ=[some (.ref a),some (.int (nm 0)),some (.ref lo),some (.ref lm),some (.int i0),u5,some (.int many),some (.bl gr),u8,u9,u10,u11]∧z0h H H3∧H3 lo=some (.lst (o.map (nV nm)))∧H3 lm=some (.dK kvs)∧MkN nm K H3 o f kvs∧FK f ∧
    ((gr=true∧o.length+2≤m+many∧many≤o.length∧z5a rows o m many f=z5C rows)∨(gr=false∧f=z5C rows)),
   ⟨rows.length+2,_,0,true,lm,kvs,_,_,_,_,rfl,t2,glo,glm,mk2,hF0,.inl ⟨rfl,by lia,by lia,by unfold z5C;rw [eoo]⟩⟩,?_⟩
  clear glm mk2
  rintro m σ H3 ⟨f,many,gr,lm,kvs,u8,u9,u10,u11,rfl,t3,elo,elm,mk3,hf,alt⟩
  refine (exA rfl (exA rfl (z2D (fun c=>?_) (fun c=>?_))))
  ·obtain ⟨_,hm1,hm2,hsl⟩:=alt.resolve_right fun z=>by rw [z.1] at c;cases c
   clear alt
   refine zd1 fun N nx2=>?_
   intro lk hlk ob0 g0 lf hlf
   have s4:=same_up (o:=ob0) (z0h.refl H3) hlk
   have hlf0:H3 lf=none:=s4.free hlf
   have nkf:lk≠lf:=z0g z03 hlf
   have s5:=same_up (o:=HO.dK []) s4 hlf
   refine ⟨_,rfl,lo,rfl,⟨_,SqL.of (s5 _ _ elo)⟩,zan (xs:=o.map (nV nm)) (fun i σ H4=>∃ (u10 u11:Option V) (kv4:List (Key × V)),σ=[some (.ref a),some (.int (nm 0)),some (.ref lo),some (.ref lm),some (.int i0),u5,some (.int many),some (.bl gr),some (.ref lk),some (.ref lf),u10,u11]∧z0h H3 H4∧DD P w K H4 lk (prs id (z0A ((z2b rows o f).take i)))∧H4 lf=some (.dK kv4)∧MkN nm K H4 (o.take i) (z34 rows o f) kv4)
    ⟨_,_,[],rfl,s5,?_,z03,MkN.nil⟩ (fun i σ H4 _ h=>by obtain ⟨_,_,_,_,t4,_⟩:=h;exact SqL.of (t4 _ _ elo)) (fun i x σ H4 hx h Ed nx3=>?_) (fun σ H4 h=>?_)⟩
   ·exact g0.mono (same_up (z0h.refl _) hlf)
   ·obtain ⟨u10,u11,kv4,rfl,t4,g4,elf,mk4⟩:=h
    have hil:i < o.length:=by have:=(List.getElem?_eq_some_iff.mp hx).1;rwa [List.length_map] at this
    have eo:o[i]?=some o[i]:=List.getElem?_eq_getElem hil
    have hro:o[i]∈o:=List.getElem_mem hil
    have hnew:o[i]∉o.take i:=zb8 L.nd eo
    generalize o[i]=r at eo hro hnew
    have ex:x=V.int (nm r):=by rw [List.getElem?_map,eo] at hx;exact (Option.some.inj hx).symm
    subst ex
    obtain ⟨r0,r1⟩:=L.rg r hro
    have t34:=t3.trans t4
    obtain ⟨nr0,vr,evr,dvr⟩:=da r r0 r1
    obtain ⟨t,b,cc,rfl,et,eb,ec⟩:=z0W (dvr.mono t34)
    dsimp only [z6F] at eb ec
    have hgl:=GM.len _ (z0o r0 r1)
    have hgo:=cl r hro
    obtain ⟨v,hv,dv⟩:=mk3.get ni hro
    have gm:z3V H4 lm (V.int (nm r)) (some v):=by rw [←hv];exact z3V.k (k:=kN nm r) (t4 _ _ elm)
    have ekey:z1L rows f r=D.tup [f r,D.tup ((row rows r).2.map f)]:=rfl
    have ks:=hf.key (rows:=rows) r
    have esk:(z2b rows o f)[i]?=some (z1L rows f r):=by unfold z2b;rw [List.getElem?_map,eo];rfl
    have hidx:(((z0A ((z2b rows o f).take (i+1))).idxOf (z1L rows f r):Nat):Int)=z2U rows o f r:=by
     unfold z2U
     obtain ⟨m2,e2⟩:=z0N ((z2b rows o f).drop (i+1)) (z0A ((z2b rows o f).take (i+1)))
     have e3:z0A (z2b rows o f)=z0A ((z2b rows o f).take (i+1))++m2:=by
      rw [←e2]
      unfold z0A z0d
      rw [←List.foldl_append,List.take_append_drop]
     rw [e3,z7o]
     refine z0I.mpr (.inr ?_)
     rw [List.take_add_one,esk]
     simp
    have hun:z0A ((z2b rows o f).take (i+1))=z1Z (z0A ((z2b rows o f).take i)) (z1L rows f r):=by
     unfold z0A
     rw [List.take_add_one,esk]
     exact z1A _ _ _
    have hund:(z0A ((z2b rows o f).take i)).Nodup:=z1E _ _ List.nodup_nil
    have hunl:(z0A ((z2b rows o f).take i)).length≤4000:=by
     have:=z3K ((z2b rows o f).take i)
     rw [List.length_take] at this
     lia
    rw [hun] at hidx
    generalize z0A ((z2b rows o f).take i)=un at *
    generalize hgs:(row rows r).2=gs at *
    dsimp only [z9J]
    refine zgz (fun σ' H'=>∃ t7:Addr,σ'=[some (.ref a),some (.int (nm 0)),some (.ref lo),some (.ref lm),some (.int i0),u5,some (.int many),some (.bl gr),some (.ref lk),some (.ref lf),some (.int (nm r)),some (.ref t7)]∧z0h H4 H'∧Dr K H' (z1L rows f r) (.ref t7)) (fun Eq nxq=>?_) (fun σ' H7 p=>?_)
    rotate_left
    ·obtain ⟨t7,rfl,s47,dk⟩:=p
     have g7:=g4.mono s47
     have e7f:=s47 _ _ elf
     have t7':=t4.trans s47
     refine (exA rfl ⟨lk,exA rfl ⟨g7,exA rfl (exA rfl ⟨lk,exA rfl ⟨g7,_,_,g7,zeu ks dk,exA rfl (exA rfl ⟨lk,exB rfl ⟨g7,zeu ks dk,by rw [z1P];exact z1p (by lia),fun ob g8=>?_⟩⟩)⟩⟩)⟩⟩)
     rw [zar un _ hund] at g8
     have k8:z1h H7 (upd H7 lk ob):=by
      obtain ⟨xs,e0,_⟩:=g7
      exact z1h.up (z1h.refl _) e0 (fun _ z=>by unfold zev at z;cases z)
     have dk8:=dk.keyed k8 ks.1
     have hval:z33 (prs id (z1Z un (z1L rows f r))) (z1L rows f r)=some (V.int (z2U rows o f r)):=by
      have:=z27 (κ:=D) id (fun _ _ e=>e) (z1Z un (z1L rows f r)) (z1L rows f r)
      rw [if_pos (zc7 _ _),hidx] at this
      exact this
     have e8f:upd H7 lk ob lf=some (.dK kv4):=by rw [z0a nkf.symm];exact e7f
     refine (exA rfl (exA rfl ⟨lk,_,exB rfl ⟨g8,zeu ks dk8,hval,exA rfl (exA rfl ⟨lf,exA rfl ⟨zat.k (k:=kN nm r) e8f (by rw [mk4.len,List.length_take];exact z1p (by lia)),?_⟩⟩)⟩⟩))
     have k9:z1h (upd H7 lk ob) (upd (upd H7 lk ob) lf (.dK (z1Y kv4 (kN nm r) (V.int (z2U rows o f r))))):=z1h.up (z1h.refl _) e8f (fun _ z=>by cases z)
     refine nx3 _ _ ⟨_,exB rfl ⟨z0f (z0f t7' hlk) hlf0,?_,z03,?_⟩⟩
     ·rw [hun]
      exact DD.keyed g8 k9 (by rw [z0a nkf])
     ·rw [List.take_add_one,eo]
      exact (mk4.mono s47).put ni hnew (((mk4.mono s47).keyed k8 (FK.int _)).keyed k9 (FK.int _)) (Dr.int _)
    refine (exA rfl (exA rfl ⟨lm,v,rfl,gm,exA rfl (exA rfl ⟨a,_,nm r,.ref t,rfl,rfl,Sa.mono t34,z2M nr0 evr,exD t _ _ (.ref cc) rfl rfl (SqT.of et) (z0F (j:=1) rfl) ⟨cc,rfl,⟨_,SqT.of ec⟩,fun l5 hl5=>z3u (xs:=(gs.map nm).map V.int) (fun j zs H5=>j≤gs.length∧zs.length=j∧z0h H4 H5∧DrL K H5 ((gs.take j).map f) zs) ⟨Nat.zero_le _,rfl,same_up (z0h.refl H4) hl5,DrL.nil⟩ (fun j zs H5 _ h=>SqT.of (h.2.2.1 _ _ ec)) (by rw [List.length_map,List.length_map];exact z0G (by lia)) (fun j zs H5 h=>h.2.1) (fun j x zs H5 hx h hy5=>?_) (fun zs H5 h hy5=>?_)⟩⟩)⟩))
    ·obtain ⟨hj,hzl,s5',d5⟩:=h
     have hjl:j < gs.length:=by have:=(List.getElem?_eq_some_iff.mp hx).1;rwa [List.length_map,List.length_map] at this
     have eg:gs[j]?=some gs[j]:=List.getElem?_eq_getElem hjl
     have hgm:=hgo _ (List.getElem_mem hjl)
     generalize gs[j]=gj at eg hgm
     have ex:x=V.int (nm gj):=by rw [List.getElem?_map,List.getElem?_map,eg] at hx;exact (Option.some.inj hx).symm
     subst ex
     obtain ⟨vg,hvg,dvg⟩:=mk3.get ni hgm
     have gmg:z3V H5 lm (V.int (nm gj)) (some vg):=by rw [←hvg];exact z3V.k (k:=kN nm gj) (s5' _ _ (t4 _ _ elm))
     have kk:z1h H5 (upd H5 l5 (.lst (zs++[vg]))):=z1h.up (z1h.refl _) hy5 (fun _ z=>by cases z)
     refine (exA rfl (exA rfl ⟨lm,vg,rfl,gmg,hy5,hjl,by rw [List.length_append,hzl];rfl,z0f s5' hl5,?_⟩))
     rw [z1q _ eg]
     exact DrL.append (d5.keyed kk (hf.keyL _)) (DrL.one ((dvg.mono (t4.trans s5')).keyed kk (hf gj).1))
    ·obtain ⟨_,hzl,s5',d5⟩:=h
     rw [List.length_map,List.length_map,List.take_length] at d5
     refine ⟨l5,exA rfl (.inl ⟨SqL.of hy5,fun t6 ht6=>⟨by show 2≤sizeLine;decide,fun t7 ht7=>?_⟩⟩)⟩
     have s6:=same_up (o:=HO.tup zs) (z0h.refl H5) ht6
     have s7:=same_up (o:=HO.tup [v,.ref t6]) s6 ht7
     have s47:=s5'.trans s7
     have nt6:t6≠t7:=z0g z03 ht7
     have dk:Dr K (upd (upd H5 t6 (.tup zs)) t7 (.tup [v,.ref t6])) (z1L rows f r) (.ref t7):=by
      rw [ekey]
      exact Dr.tup z03 (DrL.cons (dv.mono (t4.trans s47)) (DrL.one (Dr.tup (by rw [z0a nt6];exact z03) (d5.mono s7))))
     exact nxq _ _ ⟨t7,rfl,s47,dk⟩
   ·obtain ⟨u10,u11,kv4,rfl,t4,g4,elf,mk4⟩:=h
    rw [List.length_map] at g4 mk4
    rw [List.take_length] at mk4
    rw [List.take_of_length_le (by unfold z2b;rw [List.length_map];lia)] at g4
    have hcl:=z7i rows o f
    refine (exA rfl ⟨lk,exA rfl ⟨g4,exA rfl (exC rfl rfl (exA rfl ⟨lk,exA rfl ⟨g4,exA rfl ?_⟩⟩))⟩⟩)
    have hpl:(prs id (z0A (z2b rows o f))).length=z2z rows o f:=z1P _ _ _
    cases m with
    | zero=>lia
    | succ m =>
     refine nx2 m _ _ (Nat.lt_succ_self m) ⟨z34 rows o f,z2z rows o f,decide ((many:Int) < (z2z rows o f:Nat)),lf,kv4,_,_,_,_,(by rw [←hpl];rfl),t3.trans t4,t4 _ _ elo,elf,mk4,FK.int _,?_⟩
     unfold z5a at hsl
     by_cases hc:many < z2z rows o f
     ·rw [if_pos hc] at hsl
      exact .inl ⟨decide_eq_true (by lia),by lia,hcl,hsl⟩
     ·rw [if_neg hc] at hsl
      exact .inr ⟨decide_eq_false (by lia),hsl⟩
  ·rcases alt with ⟨hg,_⟩ | ⟨_,hfs⟩
   ·exact absurd hg c
   refine (exA rfl (exA rfl (exA rfl ⟨a,lo,lm,n,rows,nm,us,o,kOf rows,kvs,rfl,Sa.mono t3,da.mono t3,ni,GM,hn,elo,elm,?_,L,cl,fun v H4 s4 d4=>?_⟩)))
   ·rw [hfs,z5K rows] at mk3;exact mk3
   ·refine q v H4 (t3.trans s4) ?_
    unfold shr
    rw [eoo]
    exact d4
 refine ⟨fun m σ H2=>∃ (i:Nat) (o:List Int) (u5:Option V) (kvs:List (Key × V)),m=rows.length+1 - i∧σ=[some (.ref a),some (.int (nm 0)),some (.ref lo),some (.ref lm),some (.int i),u5,none,none,none,none,none,none]∧z0h H H2∧H2 lo=some (.lst (o.map (nV nm)))∧H2 lm=some (.dK kvs) ∧
   MkN nm K H2 o (fun r=>D.its (row rows r).1) kvs∧z7G rows o∧i≤o.length∧bfs rows (rows.length+1 - i) i o=z0e rows,
  ⟨_,0,[0],none,_,rfl,rfl,s3,?_,z03,?_,L0,by simp,rfl⟩,?_⟩
 ·rw [z0a nlo,z0a nlo];exact z03
 ·refine ⟨[.ref b0],rfl,?_⟩
  show DrL K _ [D.its (row rows 0).1] [.ref b0]
  exact DrL.one (Dr.tup (by rw [z0a (z42 eb0 z03 (by intro z;cases z))];exact eb0) (DrL.ints _))
 rintro m σ H2 ⟨i,o,u5,kvs,rfl,rfl,t2,glo,glm,mk2,L,hi,hb⟩
 have hol2:(o.map (nV nm)).length=o.length:=List.length_map _
 refine (exA rfl (exA rfl (exG lo rfl (.inl (SqL.of glo)) (exC rfl rfl (exA rfl (z2D (fun c=>?_) (fun c=>?_)))))))
 ·have c':=of_decide_eq_true c
  rw [hol2] at c'
  have hio:i < o.length:=by lia
  have eo:o[i]?=some o[i]:=List.getElem?_eq_getElem hio
  have hro:o[i]∈o:=List.getElem_mem hio
  generalize o[i]=r at eo hro
  obtain ⟨r0,r1⟩:=L.rg r hro
  obtain ⟨nr0,v,ev,dv⟩:=da r r0 r1
  obtain ⟨t,b,cc,rfl,et,eb,ec⟩:=z0W (dv.mono t2)
  dsimp only [z6F] at eb ec
  have hrow:=z0o r0 r1
  have hgl:=GM.len _ hrow
  have hgo:=GM.go _ hrow
  have hlen:=L.len
  refine zd1 fun N nx2=>?_
  refine (exA rfl (exA rfl (exA rfl (exD lo _ _ (V.int (nm r)) rfl rfl (SqL.of glo) (z0F (by rw [List.getElem?_map,eo];rfl)) ⟨a,_,nm r,.ref t,rfl,rfl,Sa.mono t2,z2M nr0 ev,exD t _ _ (.ref cc) rfl rfl (SqT.of et) (z0F (j:=1) rfl) ⟨cc,rfl,⟨_,SqT.of ec⟩,?_⟩⟩))))
  generalize hgs:(row rows r).2=gs at *
  refine zgr (xs:=(gs.map nm).map V.int) (fun j σ H3=>∃ (u:Option V) (kv3:List (Key × V)),σ=[some (.ref a),some (.int (nm 0)),some (.ref lo),some (.ref lm),some (.int i),u,none,none,none,none,none,none]∧z0h H H3∧z1h H2 H3∧H3 lo=some (.lst ((z0d o (gs.take j)).map (nV nm)))∧H3 lm=some (.dK kv3)∧MkN nm K H3 (z0d o (gs.take j)) (fun r=>D.its (row rows r).1) kv3)
   ⟨_,kvs,rfl,t2,z1h.refl _,glo,glm,mk2⟩ (fun j σ H3 _ h=>by obtain ⟨_,_,_,_,k3,_⟩:=h;exact SqT.of (k3 _ _ ec)) (fun j x σ H3 hx h Ed nx3=>?_) (fun σ H3 h=>?_)
  ·obtain ⟨u,kv3,rfl,t3,k3,e1,e2,mk3⟩:=h
   have hjl:j < gs.length:=by have:=(List.getElem?_eq_some_iff.mp hx).1;rwa [List.length_map,List.length_map] at this
   have eg:gs[j]?=some gs[j]:=List.getElem?_eq_getElem hjl
   obtain ⟨g0,g1⟩:=hgo _ (List.getElem_mem hjl)
   generalize gs[j]=gj at eg g0 g1
   have ex:x=V.int (nm gj):=by rw [List.getElem?_map,List.getElem?_map,eg] at hx;exact (Option.some.inj hx).symm
   subst ex
   have et':z0d o (gs.take (j+1))=z1Z (z0d o (gs.take j)) gj:=by rw [List.take_add_one,eg];exact z1A _ _ _
   have hal:(z0d o (gs.take j)).length≤4500:=by
    have:=z2n (gs.take j) o
    rw [List.length_take] at this
    lia
   generalize z0d o (gs.take j)=oj at *
   refine (exA rfl (exA rfl ⟨lm,exA rfl ⟨z3V.k (k:=kN nm gj) e2,exA rfl ?_⟩⟩))
   by_cases hm:gj∈oj
   ·obtain ⟨v',hv',_⟩:=mk3.get ni hm
    rw [hv']
    refine z6I (nx3 _ _ ⟨_,kv3,rfl,t3,k3,?_,e2,?_⟩)
    ·rw [et',z0w hm];exact e1
    ·rw [et',z0w hm];exact mk3
   ·rw [mk3.no ni hm]
    have nlop:lo≠lm:=nlo
    obtain ⟨ng0,v',ev',dv'⟩:=da gj g0 g1
    obtain ⟨t',b',c'',rfl,et'',eb'',ec''⟩:=z0W (dv'.mono t3)
    refine zbF (exA rfl (exA rfl ⟨a,_,nm gj,.ref t',rfl,rfl,Sa.mono t3,z2M ng0 ev',exD t' _ _ (.ref b') rfl rfl (SqT.of et'') (z0F (j:=0) rfl) (exA rfl (exA rfl ⟨lm,exA rfl ⟨zat.k (k:=kN nm gj) e2 (by rw [mk3.len];exact z1p (by lia)),?_⟩⟩))⟩))
    have e1':upd H3 lm (.dK (z1Y kv3 (kN nm gj) (V.ref b'))) lo=some (.lst (oj.map (nV nm))):=by rw [z0a nlop];exact e1
    refine (exA rfl ⟨.inl ⟨rfl,_,SqL.of e1'⟩,exA rfl ⟨lo,exC rfl rfl ⟨e1',by rw [List.length_map];exact z1p (by lia),?_⟩⟩⟩)
    have kk:z1h H3 (upd (upd H3 lm (.dK (z1Y kv3 (kN nm gj) (V.ref b')))) lo (.lst (oj.map (nV nm)++[V.int (nm gj)]))):=z1h.up (z1h.up (z1h.refl _) e2 (fun _ z=>by cases z)) e1' (fun _ z=>by cases z)
    refine nx3 _ _ (exB rfl ⟨z0f (z0f t3 hlm0) hlo,k3.trans kk,?_,(by rw [z0a nlo.symm];exact z03),?_⟩)
    ·rw [z03,et',z0u hm,List.map_append];rfl
    ·rw [et',z0u hm]
     exact mk3.put ni hm (mk3.keyed kk hF0) (Dr.tup (kk _ _ eb'') (DrL.ints _))
  ·obtain ⟨u,kv3,rfl,t3,k3,e1,e2,mk3⟩:=h
   rw [List.length_map,List.length_map,List.take_length] at e1 mk3
   obtain ⟨mm,em⟩:=z6a rows (rows.length+1 - (i+1)) (i+1) (z0d o gs)
   have hb':bfs rows (rows.length+1 - (i+1)) (i+1) (z0d o gs)=z0e rows:=by
    rw [←hb,show rows.length+1 - i=(rows.length+1 - (i+1))+1 by lia,z4b eo,hgs]
   have L':z7G rows (z0d o gs):=by rw [←hgs];exact L.add GM hro
   obtain ⟨m1,em1⟩:=z0N gs o
   have hi':i+1≤(z0d o gs).length:=by rw [em1,List.length_append];lia
   exact (exA rfl (exC rfl rfl (nx2 (rows.length+1 - (i+1)) _ _ (by lia) ⟨i+1,z0d o gs,_,kv3,rfl,rfl,t3,e1,e2,mk3,L',hi',hb'⟩)))
 have c':=of_decide_eq_false (Bool.eq_false_iff.mpr c)
 rw [hol2] at c'
 have eoo:z0e rows=o:=by rw [←hb];exact z4k (by lia)
 exact nx _ _ ⟨_,o,u5,kvs,rfl,t2,glo,glm,mk2,L,eoo⟩
theorem z2j:z0p ["_law_cell_here","_law_many","_law_row","_law_rest","_law_seed"] ["_law_cell_here","_law_many"] (z06 z48):=⟨rfl,rfl,rfl,by decide +kernel,rfl,by decide +kernel,by decide +kernel⟩
theorem z9H (F:Fun K "_law_numbers" "_law_numbers" z48 f fd) (ml:mg "len"=none):z0y P w K mg base CX 1 f fd ["_law_cell_here","_law_many"] (z2k K):=by
 refine F.okc z2j (fun vs H Q E h=>?_) (fun cdv A outer s H vs Q E hr h=>?_)
 ·obtain ⟨c,m,rfl,_⟩:=h
  rfl
 obtain ⟨c,m,rfl,hm,q⟩:=h
 refine ⟨_,z04 (z0i (i:=2) z2j.nd rfl (Or.inl rfl) (z1H z05))
  (z04 (z0i (i:=3) z2j.nd rfl (Or.inl rfl) (z0k z2A (pv 0) (z0k zf7 z07 z07)))
  (z04 (z1D PassesOwn.never (PW.pt (z7l (z18 zbp (pv 3) z07 (z19 _)) (z4E (z18 z4O (z0j z09 rfl ml PySem.boot_len (z02 (pv 2) z05)) (pv 1) (z19 _)))))
   (z04 (z0Y (z3l PySem.F.plainAttrs_list PySem.F.slot_list_append PySem.F.type_list_append z0L (pv 2) (z02 (z0k z0O (pv 3) z07) z05)))
   (z08 (z0i (i:=3) z2j.nd rfl (Or.inl rfl) (z0k z2x (pv 3) z07)))))
  (z04 (z0i (i:=4) z2j.nd rfl (Or.inl rfl) (z0k z0O (pv 0) z07))
  (z04 (z1D PassesOwn.never (z18 z4O (z0j z09 rfl ml PySem.boot_len (z02 (pv 2) z05)) (pv 1) (z19 _))
   (z04 (z0i (i:=4) z2j.nd rfl (Or.inl rfl) (z0k z0O (z0k z0R (z0k z0R (z0k z3q (pv 4) z07) z07) (z0j z09 rfl ml PySem.boot_len (z02 (pv 2) z05))) z07))
   (z08 (z0Y (z3l PySem.F.plainAttrs_list PySem.F.slot_list_append PySem.F.type_list_append z0L (pv 2) (z02 (z0k z0O (z0k z2x (z0k z0O (z0k z3q (pv 4) z07) z07) z07) z07) z05))))))
  (z08 (z0D (pv 2))))))),?_⟩
 refine ⟨by show 0≤sizeLine;decide,fun l hl=>(exA rfl (exC rfl rfl ⟨⟨by decide,by decide,by decide⟩,exC rfl rfl ?_⟩))⟩
 show z7y _ _ _ _ _
 refine zgT (fun σ' H'=>∃ (k:Nat) (r:Int) (ns:List Int),σ'=[some (.int c),some (.int m),some (.ref l),some (.int r),none]∧z0h H H'∧H' l=some (.lst (ns.map V.int))∧k+ns.length=m∧∀ x∈ns,0≤x∧x < 1009) (fun Ed nx=>?_) (fun σ' H' p=>?_)
 rotate_left
 ·obtain ⟨k,r,ns,rfl,s2,e2,hk,hns⟩:=p
  refine (exA rfl (exC rfl rfl ⟨z7F,?_⟩))
  refine ⟨fun k σ H2=>∃ (v:Int) (ns:List Int),σ=[some (.int c),some (.int m),some (.ref l),some (.int r),some (.int v)]∧z0h H H2∧H2 l=some (.lst (ns.map V.int))∧k+ns.length=m∧∀ x∈ns,0≤x∧x < 1009,
   ⟨k,_,ns,rfl,s2,e2,hk,hns⟩,?_⟩
  rintro k σ H2 ⟨v,ns,rfl,s2,e2,hk,hns⟩
  have hnl:(ns.map V.int).length=ns.length:=List.length_map _
  refine (exA rfl (exG l rfl (.inl (SqL.of e2)) (exA rfl (exC rfl rfl (exA rfl (z2D (fun c2=>?_) (fun c2=>?_)))))))
  ·have c2':=of_decide_eq_true c2
   rw [hnl] at c2'
   have hkp:ns.length < m:=by lia
   refine zd1 fun N nx2=>?_
   refine (exA rfl (exC rfl rfl ⟨.inr ⟨by decide,by decide⟩,exC rfl rfl (exA rfl (exG l rfl (.inl (SqL.of e2)) (exC rfl rfl (exC rfl rfl ⟨z7F,?_⟩))))⟩))
   refine (exA rfl ⟨.inl ⟨rfl,_,SqL.of e2⟩,exA rfl (exC rfl rfl ⟨.inr ⟨by decide,by decide⟩,exC rfl rfl ⟨z7F,exC rfl rfl ⟨⟨by decide,by decide⟩,exC rfl rfl ⟨z7F,l,exC rfl rfl ⟨e2,by rw [hnl];exact z2F (by lia),?_⟩⟩⟩⟩⟩)⟩)
   refine nx2 (k - 1) _ _ (by lia) ⟨_,ns++[(v*48271+9973+((ns.map V.int).length:Nat)) % 2147483647*39373 % 2147483629 / 11 % 1009],rfl,z0f s2 hl,?_,?_,z7C hns (zbe _)⟩
   ·rw [z03,List.map_append];rfl
   ·rw [List.length_append];show k - 1+(ns.length+1)=m;lia
  ·have c2':=of_decide_eq_false (Bool.eq_false_iff.mpr c2)
   rw [hnl] at c2'
   exact (exA rfl (q l H2 ns s2 e2 ⟨by lia,hns⟩))
 refine ⟨fun k σ H2=>∃ (r:Int) (ns:List Int),σ=[some (.int c),some (.int m),some (.ref l),some (.int r),none]∧z0h H H2∧H2 l=some (.lst (ns.map V.int))∧k+ns.length=m∧∀ x∈ns,0≤x∧x < 1009,
  ⟨m,_,[],rfl,same_up (z0h.refl H) hl,z03,rfl,fun x hx=>by simp at hx⟩,?_⟩
 rintro k σ H2 ⟨r,ns,rfl,s2,e2,hk,hns⟩
 have hnl:(ns.map V.int).length=ns.length:=List.length_map _
 refine (exA rfl (exC rfl rfl (exA rfl (z2D (fun c1=>(exA rfl (exG l rfl (.inl (SqL.of e2)) (exA rfl (exC rfl rfl (exA rfl (z2D (fun c2=>?_) (fun c2=>?_)))))))) (fun c1=>z6I ?_)))))
 ·have c2':=of_decide_eq_true c2
  rw [hnl] at c2'
  have hkp:ns.length < m:=by lia
  refine zd1 fun N nx2=>?_
  refine (exA rfl ⟨.inl ⟨rfl,_,SqL.of e2⟩,exA rfl (exC rfl rfl ⟨z7F,l,exC rfl rfl ⟨e2,by rw [hnl];exact z2F (by lia),?_⟩⟩)⟩)
  refine (exA rfl (exC rfl rfl ⟨⟨by decide,by decide⟩,nx2 (k - 1) _ _ (by lia) ⟨_,ns++[r % 1009],rfl,z0f s2 hl,?_,?_,z7C hns (zbe r)⟩⟩))
  ·rw [z03,List.map_append];rfl
  ·rw [List.length_append];show k - 1+(ns.length+1)=m;lia
 all_goals exact nx _ _ ⟨k,r,ns,rfl,s2,e2,hk,hns⟩
theorem zdR:z0p ["_law_letters_here","_law_cell_here"] ["_law_letters_here","_law_cell_here"] (z06 z8v):=⟨rfl,rfl,rfl,by decide +kernel,rfl,by decide +kernel,by decide +kernel⟩
theorem zcq {k:Addr} {kd:FuncData} (F:Fun K "_law_guise" "_law_guise" z8v f fd)
  (G:z0y P w K mg base CX 2 g gd ["_law_letters_here","_law_cell_here"] (zbG K)) (bG:z0l K gd ["_law_letters_here","_law_cell_here"] []) (kG:PySem.W.keepIn K (.ref g)=true) (mG:mg "_law_rows"=some (.ref g))
  (T:z0y P w K mg base CX 2 k kd ["_law_rows_here","_law_start"] (z6z K)) (bT:z0l K kd ["_law_rows_here","_law_start"] []) (kT:PySem.W.keepIn K (.ref k)=true) (mT:mg "_law_shrunk"=some (.ref k)):z0y P w K mg base CX 3 f fd ["_law_letters_here","_law_cell_here"] (z7K K):=by
 refine F.okc zdR (fun vs H Q E h=>?_) (fun cdv A outer s H vs Q E hr h=>?_)
 ·obtain ⟨n,c,rfl,_⟩:=h
  rfl
 obtain ⟨n,c,rfl,h2,h5,q⟩:=h
 refine ⟨_,z08 (z0D (z0b T hr rfl mT kT bT .nil z0C (z02 (z0b G hr rfl mG kG bG .nil z0C (z02 (pv 0) (z02 (pv 1) z05))) (z02 z07 z05)))),?_⟩
 refine (exA rfl (exA rfl ⟨n,c,rfl,h2,h5,fun r H1 rows s1 hr1 G1 h8=>⟨r,n,rows,rfl,hr1,G1,by lia,fun v H2 s2 d=>q v H2 rows (s1.trans s2) G1 h8 d⟩⟩))
abbrev nWd:List Str:=["_law_letters_here","_law_cell_here","_law_most","_law_nums"]
theorem zgy:z0p nWd ["_law_letters_here","_law_cell_here","_law_most"] (z06 z78):=⟨rfl,rfl,rfl,by decide +kernel,rfl,by decide +kernel,by decide +kernel⟩
theorem zgA:z0Z nWd (z06 z78) ["_law_pick","_law_letters_here"] [none,some 0] (csc [(".0",.local),("_law_pick",.local),("_law_letters_here",.free)]):=⟨rfl,by decide +kernel,by decide +kernel,by decide +kernel,rfl,by decide +kernel,by decide +kernel⟩
theorem zbX (F:Fun K "_law_word" "_law_word" z78 f fd) (mt:mg "tuple"=none)
  (G:z0y P w K mg base CX 1 g gd ["_law_cell_here","_law_many"] (z2k K)) (bG:z0l K gd ["_law_cell_here","_law_many"] []) (kG:PySem.W.keepIn K (.ref g)=true) (mG:mg "_law_numbers"=some (.ref g)):z0y P w K mg base CX 2 f fd ["_law_letters_here","_law_cell_here","_law_most"] (z8g K):=by
 refine F.okc zgy (fun vs H Q E h=>?_) (fun cdv A outer s H vs Q E hr h=>?_)
 ·obtain ⟨n,c,m,rfl,_⟩:=h
  rfl
 obtain ⟨n,c,m,rfl,n2,n5,hm,q⟩:=h
 refine ⟨_,z04 (z0i (i:=3) zgy.nd rfl (Or.inl rfl) (z0b G hr rfl mG kG bG .nil z0C (z02 (pv 1) (z02 (z0k z0R (pv 2) z07) z05))))
  (z08 (z0D (z0x z0v rfl mt PyProof.Rows.boot_tuple (z02 (z1u rfl zgA (z1j (z1b z36 (pv 3) (z1a z07) (z1a (z0k z0R z07 (z0k z0O (z0Q z0X (pv 3) z07 (fun _ _=>rfl)) (z0k z0R (pv 2) z07)))))) (fun _ _ _ _ _=>z0c (i:=0) zgA.nd rfl (Or.inl rfl)) (fun _ _ _ _ _=>z0k z0O (pv 0) (pv 1))) z05)))),?_⟩
 have e1:(m:Int)+1=((m+1:Nat):Int):=by lia
 refine (exA rfl (exA rfl (exC rfl rfl ⟨c,m+1,(by rw [←e1];rfl),by lia,fun ln H1 nn s1 en hnn=>?_⟩)))
 have hnl:=hnn.1
 obtain ⟨z0,ez0⟩:∃ z:Int,nn[0]?=some z:=⟨nn[0]'(by lia),List.getElem?_eq_getElem (by lia)⟩
 have hz0:z0 % ((m:Int)+1) < (m:Int)+1:=Int.emod_lt_of_pos _ (by lia)
 have hz0':0≤z0 % ((m:Int)+1):=Int.emod_nonneg _ (by lia)
 obtain ⟨k0,hk0⟩:=z3T (x:=(1:Int)+z0 % ((m:Int)+1)) (by lia)
 refine (exA rfl (exA rfl (exA rfl (exD ln _ _ (V.int z0) rfl rfl (SqL.of en) (z0F (j:=0) (by rw [List.getElem?_map,ez0];rfl)) (exA rfl (exC rfl rfl (exC rfl rfl ⟨by lia,exC rfl rfl (exA rfl ⟨ln,exA rfl ⟨SqL.of en,fun p hp=>?_⟩⟩)⟩)))))))
 have sp:=same_up (o:=HO.lst (z3h (nn.map V.int) (some 1) (some (1+z0 % ((m:Int)+1))))) (z0h.refl H1) hp
 have ep:upd H1 p (HO.lst (z3h (nn.map V.int) (some 1) (some (1+z0 % ((m:Int)+1))))) p=some (.lst ((z4g nn (some ((1:Nat):Int)) (some (k0:Int))).map V.int)):=by rw [z03,z3m,hk0];rfl
 have lcut:(z4g nn (some ((1:Nat):Int)) (some (k0:Int))).length=k0 - 1:=z6x (by lia)
 generalize upd H1 p (HO.lst (z3h (nn.map V.int) (some 1) (some (1+z0 % ((m:Int)+1)))))=H2 at sp ep
 generalize z4g nn (some ((1:Nat):Int)) (some (k0:Int))=cs at ep lcut
 have lcm:(cs.map V.int).length=cs.length:=List.length_map _
 refine ⟨p,rfl,⟨_,SqL.of ep⟩,fun la hla=>z1W (xs:=cs.map V.int) (GI n H2) (GI.nil hla) (fun i ys H3 _ h=>by obtain ⟨_,_,_,_,s3⟩:=h;exact SqL.of (s3 _ _ ep)) (by rw [lcm];exact z0G (by lia)) (fun i ys H3 h=>h.len) (fun i x ys H3 hx h hy=>?_) (fun ys H3 h hy=>?_)⟩
 ·have hi:i < cs.length:=by have:=(List.getElem?_eq_some_iff.mp hx).1;lia
  have ex:x=V.int cs[i]:=by rw [List.getElem?_map,List.getElem?_eq_getElem hi] at hx;exact (Option.some.inj hx).symm
  subst ex
  exact (exA rfl (exA rfl (exC rfl rfl ⟨by lia,hy,h.snoc hla ⟨Int.emod_nonneg _ (by lia),Int.emod_lt_of_pos _ (by lia)⟩⟩)))
 obtain ⟨as,rfl,hal,iia,s3⟩:=h
 refine ⟨la,exA rfl (.inl ⟨SqL.of hy,fun t ht=>?_⟩)⟩
 have s4:=same_up (o:=HO.tup (as.map V.int)) (z0h.refl H3) ht
 exact q _ _ as ((s1.trans sp).trans (s3.trans s4)) (Dr.tup z03 (DrL.ints _)) iia (by rw [lcm] at hal;lia)
abbrev zgV:List Str:=["letters","word"]
theorem zga:z0p zgV ["letters","word"] (z06 z4U):=⟨rfl,rfl,rfl,by decide +kernel,rfl,by decide +kernel,by decide +kernel⟩
theorem zeL:z0Z zgV (z06 z4U) ["letter","letters"] [none,some 0] (csc [(".0",.local),("letter",.local),("letters",.free)]):=⟨rfl,by decide +kernel,by decide +kernel,by decide +kernel,rfl,by decide +kernel,by decide +kernel⟩
def zcY (n:Nat) (l:Int):Bool:=!(decide (0≤l) && decide (l < (n:Int)))
theorem z8M {n:Nat} {w:List Int}:((w.map (zcY n)).any _root_.id=true)↔¬ LW n w:=by
 unfold LW zcY
 rw [List.any_map]
 simp only [List.any_eq_true,Function.comp,_root_.id,Bool.not_eq_true',Bool.and_eq_false_iff,decide_eq_false_iff_not]
 constructor
 ·rintro ⟨x,hx,h⟩ z
  have:=z x hx
  lia
 ·intro h
  apply Classical.byContradiction
  intro h2
  exact h fun l hl=>Classical.byContradiction fun h3=>h2 ⟨l,hl,by lia⟩
theorem zaU {Ct:Addr} {bmB:List Value} {B newId initId:String} (mC:mg "BadWord"=some (.ref Ct)) (xC:PySem.W.excIn K Ct bmB newId=true) (hB:ExcBaseFacts B newId initId bmB) (F:Fun K "check_word" "check_word" z4U f fd) (many:mg "any"=none):z0y P w K mg base (CXx P w) 1 f fd ["letters","word"] (z3A K Ct):=by
 refine F.okx zga (fun vs H Q E h=>?_) (fun cdv A outer s H vs Q E hr h=>?_)
 ·obtain ⟨n,u,w,rfl,_⟩:=h
  rfl
 obtain ⟨n,u,w,rfl,dw,h5,q,qx⟩:=h
 obtain ⟨a,rfl,ea⟩:=Dr.its_inv dw
 refine ⟨_,z08 (z1Q (z9g (z0j (zhd K rfl rfl) rfl many PyProof.Rows.boot_any (z02 (z1u rfl zeL (z3t (pv 1)) (fun _ _ _ _ _=>z0c (i:=0) zeL.nd rfl (Or.inl rfl)) (fun _ _ _ _ _=>zfw (zc6 zbz z4O z07 (pv 0) (pv 1)))) z05))) (z08 (z4e mC rfl xC hB z99)) z0M),?_⟩
 refine (exA rfl ⟨a,rfl,⟨_,SqT.of ea⟩,fun l hl0=>z3u (xs:=w.map V.int) (fun i ys H4=>i≤w.length∧ys=((w.take i).map (zcY n)).map V.bl∧z0h H H4) ⟨Nat.zero_le _,rfl,same_up (z0h.refl H) hl0⟩ (fun i ys H4 _ h=>SqT.of (h.2.2 _ _ ea)) (by rw [List.length_map];exact z0G (by lia)) (fun i ys H4 h=>?_) (fun i x ys H4 hx h hy=>?_) (fun ys H4 h hy=>?_)⟩)
 ·obtain ⟨_,rfl,_⟩:=h
  rw [List.length_map,List.length_map,List.length_take];lia
 ·obtain ⟨_,rfl,s4⟩:=h
  have hil:i < w.length:=by have:=(List.getElem?_eq_some_iff.mp hx).1;rwa [List.length_map] at this
  have eg:w[i]?=some w[i]:=List.getElem?_eq_getElem hil
  generalize w[i]=gi at eg
  have ex:x=V.int gi:=by rw [List.getElem?_map,eg] at hx;exact (Option.some.inj hx).symm
  subst ex
  have et:(w.take (i+1)).map (zcY n)=(w.take i).map (zcY n)++[zcY n gi]:=z1q _ eg
  refine (exA rfl (exC rfl rfl (exA rfl (z2D (fun c=>(exA rfl (exC rfl rfl (exA rfl ⟨hy,hil,?_,z0f s4 hl0⟩)))) (fun c=>(exA rfl ⟨hy,hil,?_,z0f s4 hl0⟩))))))
  ·rw [et,List.map_append]
   have c':=of_decide_eq_true c
   unfold zcY
   rw [decide_eq_true c',Bool.true_and]
   rfl
  ·rw [et,List.map_append]
   have c':=of_decide_eq_false (Bool.eq_false_iff.mpr c)
   unfold zcY
   rw [decide_eq_false c',Bool.false_and]
   rfl
 ·obtain ⟨_,rfl,s4⟩:=h
  refine ⟨l,exA rfl ⟨SqL.of hy,exA rfl (z2D (fun c=>?_) (fun c=>?_))⟩⟩
  ·rw [List.length_map,List.take_length] at c
   exact fun e=>qx (z8M.mp c) e H4 s4
  ·rw [List.length_map,List.take_length] at c
   exact q (Decidable.byContradiction fun z=>c (z8M.mpr z)) H4 s4
abbrev nRf:List Str:=["guise","row","word","made","at","letter","rearranging","goings"]
theorem ze8:z0p nRf ["guise","row","word"] (z06 z9b):=⟨rfl,rfl,rfl,by decide +kernel,rfl,by decide +kernel,by decide +kernel⟩
theorem zc3 (F:Fun K "read_from" "read_from" z9b f fd) (mt:mg "tuple"=none):z0y P w K mg base CX 1 f fd ["guise","row","word"] (z4Y K):=by
 refine F.okc ze8 (fun vs H Q E h=>?_) (fun cdv A outer s H vs Q E hr h=>?_)
 ·obtain ⟨v,u,rows,n,wd,s0,rfl,_⟩:=h
  rfl
 obtain ⟨v,u,rows,n,wd,s0,rfl,dv,dw,GM,hn,h5,hw,h0,h1,q⟩:=h
 obtain ⟨av,us,rfl,eav,dus⟩:∃ (av:Addr) (us:List V),v=.ref av∧H av=some (.tup us)∧DrL K H (z0m rows) us:=by
  simp only [Dr] at dv
  exact dv
 obtain ⟨aw,rfl,eaw⟩:=Dr.its_inv dw
 refine ⟨_,z04 (z0i (i:=3) ze8.nd rfl (Or.inl rfl) (z1H z05))
  (z04 (z0i (i:=4) ze8.nd rfl (Or.inl rfl) (pv 1))
  (z04 (z1X PassesOwn.never rfl (z3t (pv 2)) (z0c (i:=5) ze8.nd rfl (Or.inl rfl))
   (z04 (z2Q (z0Q z1G (pv 0) (pv 4) (fun _ _=>rfl)) (z22 rfl (z0s (z0c (i:=6) ze8.nd rfl (Or.inl rfl)) (z0s (z0c (i:=7) ze8.nd rfl (Or.inl rfl)) z1l))))
   (z04 (z0Y (z3l PySem.F.plainAttrs_list PySem.F.slot_list_append PySem.F.type_list_append z0L (pv 3) (z02 (z0Q z1G (pv 6) (pv 5) (fun _ _=>rfl)) z05)))
   (z08 (z0i (i:=4) ze8.nd rfl (Or.inl rfl) (z0Q z1G (pv 7) (pv 5) (fun _ _=>rfl)))))))
  (z08 (z0D (z1y (z02 (z0x z0v rfl mt PyProof.Rows.boot_tuple (z02 (pv 3) z05)) (z02 (pv 4) z05))))))),?_⟩
 refine ⟨by show 0≤sizeLine;decide,fun lm hlm=>?_⟩
 have s1:=same_up (o:=HO.lst []) (z0h.refl H) hlm
 refine ⟨_,rfl,_,rfl,aw,rfl,⟨_,SqT.of (s1 _ _ eaw)⟩,zbq (xs:=wd.map V.int) (fun i σ H3=>∃ (u5 u6 u7:Option V),σ=[some (.ref av),some (.int s0),some (.ref aw),some (.ref lm),some (.int (goW rows s0 (wd.take i))),u5,u6,u7]∧z0h H H3∧H3 lm=some (.lst ((z20 rows s0 (wd.take i)).map V.int)))
  ⟨_,_,_,rfl,s1,z03⟩ (fun i σ H3 _ h=>by obtain ⟨_,_,_,_,t3,_⟩:=h;exact SqT.of (t3 _ _ eaw)) (fun i x σ H3 hx h=>?_) (fun σ H3 h=>?_)⟩
 ·obtain ⟨u5,u6,u7,rfl,t3,em⟩:=h
  have hil:i < wd.length:=by have:=(List.getElem?_eq_some_iff.mp hx).1;rwa [List.length_map] at this
  have eg:wd[i]?=some wd[i]:=List.getElem?_eq_getElem hil
  obtain ⟨l0,l1⟩:=hw _ (List.getElem_mem hil)
  generalize wd[i]=l at eg l0 l1
  have ex:x=V.int l:=by rw [List.getElem?_map,eg] at hx;exact (Option.some.inj hx).symm
  subst ex
  have hwt:LW n (wd.take i):=fun x hx=>hw x (List.mem_of_mem_take hx)
  obtain ⟨g0,g1⟩:=z1F GM hwt h0 h1
  have est:goW rows s0 (wd.take (i+1))=(row rows (goW rows s0 (wd.take i))).2.getD l.toNat 0:=by
   rw [List.take_add_one,eg,Option.toList,z1z]
   rfl
  have eot:z20 rows s0 (wd.take (i+1))=z20 rows s0 (wd.take i)++[(row rows (goW rows s0 (wd.take i))).1.getD l.toNat 0]:=by
   rw [List.take_add_one,eg,Option.toList,z30]
   rfl
  have hol:(z20 rows s0 (wd.take i)).length=i:=by rw [z17,List.length_take];lia
  rw [est,eot]
  generalize z20 rows s0 (wd.take i)=ms at em hol
  generalize goW rows s0 (wd.take i)=g at g0 g1
  obtain ⟨vr,evr,dvr⟩:=z2J dus (z4x g0 g1)
  obtain ⟨t,b',c',rfl,et,eb,ec⟩:=z0W (dvr.mono t3)
  have hgl:=GM.len _ (z0o g0 g1)
  have hpl:=(GM.perm _ (z0o g0 g1)).len
  have hll:l.toNat < (row rows g).2.length:=by lia
  have hl1:l.toNat < (row rows g).1.length:=by lia
  refine (exA rfl (exA rfl (exD av _ g (.ref t) rfl rfl (SqT.of (t3 _ _ eav)) (z2M g0 evr) (exF t rfl (SqT.of et) rfl (exB rfl (exC rfl rfl ?_))))))
  refine (exA rfl ⟨.inl ⟨rfl,_,SqL.of em⟩,exA rfl (exA rfl (exD b' _ l (V.int ((row rows g).1.getD l.toNat 0)) rfl rfl (SqT.of eb) (z2M l0 ?_) ⟨lm,exC rfl rfl ⟨em,z1p (by rw [List.length_map];lia),?_⟩⟩))⟩)
  ·rw [List.getElem?_map,List.getD_eq_getElem?_getD,List.getElem?_eq_getElem hl1]
   rfl
  have kk:z1h H3 (upd H3 lm (.lst (ms.map V.int++[V.int ((row rows g).1.getD l.toNat 0)]))):=z1h.up (z1h.refl _) em (fun _ z=>by cases z)
  have t4:z0h H (upd H3 lm (.lst (ms.map V.int++[V.int ((row rows g).1.getD l.toNat 0)]))):=z0f t3 hlm
  refine (exA rfl (exA rfl (exD c' _ l (V.int ((row rows g).2.getD l.toNat 0)) rfl rfl (SqT.of (kk _ _ ec)) (z2M l0 ?_) ⟨_,exB rfl ⟨t4,?_⟩⟩)))
  ·rw [List.getElem?_map,List.getD_eq_getElem?_getD,List.getElem?_eq_getElem hll]
   rfl
  ·rw [List.map_append]
   exact z03
 ·obtain ⟨u5,u6,u7,rfl,t3,em⟩:=h
  rw [List.length_map,List.take_length] at *
  refine (exA rfl ⟨lm,exA rfl (.inl ⟨SqL.of em,fun t ht=>(exA rfl ⟨by show 2≤sizeLine;decide,fun r hr'=>?_⟩)⟩)⟩)
  exact q r t _ (same_up (same_up t3 ht) hr') z03 (same_up (z0h.refl _) hr' _ _ z03)
abbrev zeP:Scope:=csc [("at",.local),("guise",.free)]
theorem zgg:z0p ["guise","row"] ["guise","row"] (z06 z5i):=⟨rfl,rfl,rfl,by decide +kernel,rfl,by decide +kernel,by decide +kernel⟩
theorem zfW:z0Z ["guise","row"] (z06 z5i) ["at","guise"] [none,some 0] zeP:=⟨rfl,by decide +kernel,by decide +kernel,by decide +kernel,rfl,by decide +kernel,by decide +kernel⟩
theorem zfO:zgb ["at","guise"] ["at"] zeP:=⟨rfl,rfl,rfl,by decide +kernel,rfl,by decide +kernel,by decide +kernel,by decide +kernel⟩
theorem zdZ {k Ct cc:Addr} {kd:FuncData} {Ts:List Tb} {T0:Tb} (F:Fun K "section_at" "section_at" z5i f fd) (hcd:fd.code=.ref cc) (hC:PySem.W.CodeHd base cc T0.at_) (hB:z6D base mg) (hT:T0∈Ts) (hTn:∀ T'∈Ts,T'.at_=T0.at_→T'=T0) (hTp:T0.pos=z9T (z1k z5i)) (hTq:T0.qual=("section_at.<locals>."++"<lambda>":Str))
  (T:z0y P w K mg base (CXx P w) 6 k kd ["first","row_at"] (z61 P w K mg base (CXx P w) 4 Ct)) (bT:z0l K kd ["first","row_at"] []) (kT:PySem.W.keepIn K (.ref k)=true) (mT:mg "least_form"=some (.ref k)):z0y P w K mg base (CXx P w) 7 f fd ["guise","row"] (z8X Ts K):=by
 refine F.okL hcd zgg (fun vs H Q E h=>?_) (fun A outer s H vs Q E hr h=>?_)
 ·obtain ⟨v,rows,n,g,rfl,_⟩:=h
  rfl
 obtain ⟨v,rows,n,g,rfl,hTb,dv,GM,hn,h60,g0,g1,gv⟩:=h
 refine ⟨_,z08 (z0D (zbR (Ts:=Ts) (T:=T0) T hr rfl mT kT bT (zaS fun _ _ _ z=>z) (pv 1) (fun σ H Q Q' h ⟨v,e,q⟩=>⟨v,e,h _ _ q⟩) zfW rfl hC hB (fun _=>rfl) hT hTn hTp hTq)),?_⟩
 obtain ⟨av,us,rfl,eav,dus⟩:∃ (av:Addr) (us:List V),v=.ref av∧H av=some (.tup us)∧DrL K H (z0m rows) us:=by
  simp only [Dr] at dv
  exact dv
 have G2:=z1s GM g0 g1
 refine (exA rfl ⟨hTb,fun fa H4 cs f1 f2 f3 C=>?_⟩)
 have fin:∀ {H5:Hp},z0h H4 H5→z1S Ts H (utk H5 cs):=fun s5=>(z0h.l (z0h.refl H)).trans (f2 _ s5)
 have eav4:=f1 _ _ (fun _ z=>by cases z) ((z0h.refl H) _ _ eav)
 have dus4:DrL K H4 (z0m rows) us:=(dus.mono (z0h.refl H)).monoL (Ts:=[]) ⟨f1,fun _ _ h=>absurd h (by simp)⟩
 have RN:=z9Z (s:=g) g0 g1 dus4
 refine ⟨fa,n,swM rows g,sw g,(by rw [z3f]),zeM g,?_,G2,hn,fun h6 v H5 s5 d=>gv v _ (fin s5) (d.nfr (NFr.utk f3 s5)),fun h6=>absurd h6 (by have:=z8r G2;rw [z1K] at this;lia)⟩
 refine z5k.lam (k:=3) C zfO (fun _ _ _ _ us hl=>by obtain ⟨a9,rfl⟩:=zg6 hl;rfl) rfl (fun vs H Q h=>?_) (fun H' s' A outer s cd clos cs vs Q hr nf h=>?_)
 ·obtain ⟨i,rfl,_⟩:=h
  rfl
 obtain ⟨i,rfl,h0,h1',gq⟩:=h
 obtain ⟨j0,v,ev,dv'⟩:=RN i h0 h1'
 refine ⟨_,z0Q z1G (pv 1) (pv 0) (fun _ _=>rfl),?_⟩
 refine (exA rfl (exA rfl (exD av us (sw g i) v rfl rfl (SqT.of (nf _ _ (fun _ z=>by cases z) (s' _ _ eav4))) (z2M j0 ev) (fun hc=>?_))))
 have sr:=z0h.rtk (H:=H') (H1:=utk H' cs) (cs:=cs) (z0h.refl _)
 exact gq v _ sr ((dv'.mono s').mono sr)
abbrev nWr:List Str:=["guise","word","made","at"]
theorem zfT:z0p nWr ["guise","word"] (z06 zcS):=⟨rfl,rfl,rfl,by decide +kernel,rfl,by decide +kernel,by decide +kernel⟩
theorem ze2 {b c Cw:Addr} {bd cd:FuncData} (F:Fun K "worn" "worn" zcS f fd)
  (G:z0y P w K mg base (CXx P w) 1 g gd ["letters","word"] (z3A K Cw)) (bG:z0l K gd ["letters","word"] []) (kG:PySem.W.keepIn K (.ref g)=true) (mG:mg "check_word"=some (.ref g))
  (R:z0y P w K mg base (CXx P w) 1 b bd ["guise"] (z2l K)) (bR:z0l K bd ["guise"] []) (kR:PySem.W.keepIn K (.ref b)=true) (mR:mg "breadth"=some (.ref b))
  (U:z0y P w K mg base (CXx P w) 1 c cd ["guise","row","word"] (z4Y K)) (bU:z0l K cd ["guise","row","word"] []) (kU:PySem.W.keepIn K (.ref c)=true) (mU:mg "read_from"=some (.ref c)):z0y P w K mg base (CXx P w) 2 f fd ["guise","word"] (zaY K Cw):=by
 refine F.okx zfT (fun vs H Q E h=>?_) (fun cdv A outer s H vs Q E hr h=>?_)
 ·obtain ⟨v,u,rows,n,w,rfl,_⟩:=h
  rfl
 obtain ⟨v,u,rows,n,wd,rfl,dv,dw,GM,hn,h5,gv,gx⟩:=h
 refine ⟨_,z04 (z0Y (z0b G hr rfl mG kG bG .nil (zaS fun _ _ _ z=>z) (z02 (z0b R hr rfl mR kR bR .nil z0C (z02 (pv 0) z05)) (z02 (pv 1) z05))))
  (z04 (z2Q (z0b U hr rfl mU kU bU .nil z0C (z02 (pv 0) (z02 z07 (z02 (pv 1) z05)))) (z22 rfl (z0s (z0c (i:=2) zfT.nd rfl (Or.inl rfl)) (z0s (z0c (i:=3) zfT.nd rfl (Or.inl rfl)) z1l))))
  (z08 (z0D (pv 2)))),?_⟩
 have h1:=GM.some
 obtain ⟨r0,rt,er⟩:∃ r0 rt,rows=r0::rt:=by
  cases rows with
  | nil=>simp at h1
  | cons r0 rt=>exact ⟨r0,rt,rfl⟩
 have hp0:=GM.perm r0 (by rw [er];simp)
 have hl0:=hp0.len
 refine (exA rfl ⟨v,r0,z0m rt,rfl,(by rw [er] at dv;exact dv),by lia,fun H1 s1=>(exA rfl ⟨n,u,wd,(by rw [hl0];rfl),dw.mono s1,by lia,fun hw H2 s2=>?_,fun hw ea H2 s2=>gx hw ea H2 (s1.trans s2)⟩)⟩)
 have s02:=s1.trans s2
 refine (exA rfl (exA rfl ⟨v,u,rows,n,wd,0,rfl,dv.mono s02,dw.mono s02,GM,hn,h5,hw,Int.le_refl 0,by lia,fun r t H3 s3 er' et=>?_⟩))
 exact (exF r rfl (SqT.of er') rfl (exB rfl (exC rfl rfl (exA rfl (gv hw t H3 (s02.trans s3) et)))))
abbrev zh2:List Str:=["guise","word","made","at"]
theorem zdx:z0p zh2 ["guise","word"] (z06 z5Q):=⟨rfl,rfl,rfl,by decide +kernel,rfl,by decide +kernel,by decide +kernel⟩
theorem zbv {k b c Cw:Addr} {kd bd cd:FuncData} {Ts:List Tb} (F:Fun K "behind" "behind" z5Q f fd)
  (G:z0y P w K mg base (CXx P w) 7 g gd ["letters","word"] (z3A K Cw)) (bG:z0l K gd ["letters","word"] []) (kG:PySem.W.keepIn K (.ref g)=true) (mG:mg "check_word"=some (.ref g))
  (R:z0y P w K mg base (CXx P w) 7 b bd ["guise"] (z2l K)) (bR:z0l K bd ["guise"] []) (kR:PySem.W.keepIn K (.ref b)=true) (mR:mg "breadth"=some (.ref b))
  (U:z0y P w K mg base (CXx P w) 7 c cd ["guise","row","word"] (z4Y K)) (bU:z0l K cd ["guise","row","word"] []) (kU:PySem.W.keepIn K (.ref c)=true) (mU:mg "read_from"=some (.ref c))
  (T:z0y P w K mg base (CXx P w) 7 k kd ["guise","row"] (z8X Ts K)) (bT:z0l K kd ["guise","row"] []) (kT:PySem.W.keepIn K (.ref k)=true) (mT:mg "section_at"=some (.ref k)):z0y P w K mg base (CXx P w) 8 f fd ["guise","word"] (z6t Ts K Cw):=by
 refine F.okx zdx (fun vs H Q E h=>?_) (fun cdv A outer s H vs Q E hr h=>?_)
 ·obtain ⟨v,u,rows,n,w,rfl,_⟩:=h
  rfl
 obtain ⟨v,u,rows,n,wd,rfl,hTb,dv,dw,GM,hn,h60,h5,gv,gx⟩:=h
 refine ⟨_,z04 (z0Y (z0b G hr rfl mG kG bG .nil (zaS fun _ _ _ z=>z) (z02 (z0b R hr rfl mR kR bR .nil z0C (z02 (pv 0) z05)) (z02 (pv 1) z05))))
  (z04 (z2Q (z0b U hr rfl mU kU bU .nil z0C (z02 (pv 0) (z02 z07 (z02 (pv 1) z05)))) (z22 rfl (z0s (z0c (i:=2) zdx.nd rfl (Or.inl rfl)) (z0s (z0c (i:=3) zdx.nd rfl (Or.inl rfl)) z1l))))
  (z08 (z0D (z0b T hr rfl mT kT bT .nil z0C (z02 (pv 0) (z02 (pv 3) z05)))))),?_⟩
 have h1:=GM.some
 obtain ⟨r0,rt,er⟩:∃ r0 rt,rows=r0::rt:=by
  cases rows with
  | nil=>simp at h1
  | cons r0 rt=>exact ⟨r0,rt,rfl⟩
 have hp0:=GM.perm r0 (by rw [er];simp)
 have hl0:=hp0.len
 refine (exA rfl ⟨v,r0,z0m rt,rfl,(by rw [er] at dv;exact dv),by lia,fun H1 s1=>(exA rfl ⟨n,u,wd,(by rw [hl0];rfl),dw.mono s1,by lia,fun hw H2 s2=>?_,fun hw ea H2 s2=>gx hw ea H2 (z0h.l (s1.trans s2))⟩)⟩)
 have s02:=s1.trans s2
 obtain ⟨g0,g1⟩:=z1F GM hw (Int.le_refl 0) (by lia)
 refine (exA rfl (exA rfl ⟨v,u,rows,n,wd,0,rfl,dv.mono s02,dw.mono s02,GM,hn,by lia,hw,Int.le_refl 0,by lia,fun r t H3 s3 er' et=>?_⟩))
 refine (exF r rfl (SqT.of er') rfl (exB rfl (exC rfl rfl ?_)))
 have s03:=s02.trans s3
 exact (exA rfl (exA rfl ⟨v,rows,n,exA rfl ⟨z4s.mono hTb s03,dv.mono s03,GM,hn,h60,g0,g1,fun x H4 s4 d4=>gv hw x H4 ((z0h.l s03).trans s4) d4⟩⟩))
abbrev nCo:List Str:=["_law_letters_here","_law_cell_here","_law_most","_law_nums","_law_ahead","_law_ring"]
theorem zes:z0p nCo ["_law_letters_here","_law_cell_here","_law_most"] (z06 z4p):=⟨rfl,rfl,rfl,by decide +kernel,rfl,by decide +kernel,by decide +kernel⟩
theorem zfI:z0Z nCo (z06 z4p) ["_law_pick","_law_letters_here"] [none,some 0] (csc [(".0",.local),("_law_pick",.local),("_law_letters_here",.free)]):=⟨rfl,by decide +kernel,by decide +kernel,by decide +kernel,rfl,by decide +kernel,by decide +kernel⟩
theorem zbD (F:Fun K "_law_coming" "_law_coming" z4p f fd) (ml:mg "len"=none) (mt:mg "tuple"=none)
  (G:z0y P w K mg base CX 1 g gd ["_law_cell_here","_law_many"] (z2k K)) (bG:z0l K gd ["_law_cell_here","_law_many"] []) (kG:PySem.W.keepIn K (.ref g)=true) (mG:mg "_law_numbers"=some (.ref g)):z0y P w K mg base CX 2 f fd ["_law_letters_here","_law_cell_here","_law_most"] (z5P K):=by
 refine F.okc zes (fun vs H Q E h=>?_) (fun cdv A outer s H vs Q E hr h=>?_)
 ·obtain ⟨n,c,m,rfl,_⟩:=h
  rfl
 obtain ⟨n,c,m,rfl,hn2,hn5,hm1,hm2,q⟩:=h
 refine ⟨_,z04 (z0i (i:=3) zes.nd rfl (Or.inl rfl) (z0b G hr rfl mG kG bG .nil z0C (z02 (pv 1) (z02 (z0k z0R (z0k z3q z07 (pv 2)) z07) z05))))
  (z04 (z8h (i:=4) rfl zfI (z1j (z1b z36 (pv 3) (z1a z07) (z1a (z0k z0R z07 (z0k z0O (z0Q z0X (pv 3) z07 (fun _ _=>rfl)) (z0k z0R (pv 2) z07)))))) (fun _ _ _ _ _=>z0c (i:=0) zfI.nd rfl (Or.inl rfl)) (fun _ _ _ _ _=>z0k z0O (pv 0) (pv 1)) zes.nd rfl rfl)
  (z04 (z8h (i:=5) rfl zfI (z1j (z1b z36 (pv 3) (z1a (z0k z0R (pv 2) z07)) (z1a (z0k z0R (z0k z0R (pv 2) z07) (z0k z0O (z0Q z0X (pv 3) z07 (fun _ _=>rfl)) (pv 2)))))) (fun _ _ _ _ _=>z0c (i:=0) zfI.nd rfl (Or.inl rfl)) (fun _ _ _ _ _=>z0k z0O (pv 0) (pv 1)) zes.nd rfl rfl)
  (z04 (PS.weak (fun D σ H1=>∃ ln ns,zg7 (2*m+3) ns∧tCo n c m ln ns H D σ H1) (z1Q (z1o (z2B (z0k z0O (z0k z2x (z0Q z0X (pv 3) z07 (fun _ _=>rfl)) z07) z07) z07)) (z08 (z0i (i:=5) zes.nd rfl (Or.inl rfl) (z0k zdd (pv 5) (z0k z0R z07 (z0k z0O (z0k z2x (z0Q z0X (pv 3) z07 (fun _ _=>rfl)) z07) z07))))) z0M) ?_)
  (z04 (z1Q (z1o (z2B (z0k z0O (z0k z2x (z0Q z0X (pv 3) z07 (fun _ _=>rfl)) z07) z07) z07)) (z08 (z0i (i:=4) zes.nd rfl (Or.inl rfl) (z0k zdp (pv 4) (z1b z36 (pv 5) (z1a (z0k z2A (zeh zaz z07) (z0k z0O (z0k z2x (z0Q z0X (pv 3) z07 (fun _ _=>rfl)) z07) (z0j z09 rfl ml PySem.boot_len (z02 (pv 5) z05))))) z2e)))) z0M)
  (z08 (z0D (z1y (z02 (z0x z0v rfl mt PyProof.Rows.boot_tuple (z02 (pv 4) z05)) (z02 (z0x z0v rfl mt PyProof.Rows.boot_tuple (z02 (pv 5) z05)) z05))))))))),?_⟩
 ·intro D σ H1 h
  obtain ⟨ln,ns,hnn,⟨la,lr,as,rs,rfl,s1,en,ea,er,hne,hal,hrl,ia,ir⟩,nx⟩:=h
  have hnl:=hnn.1
  have gn:∀ k,k < 2*m+3→∃ x:Int,ns[k]?=some x∧0≤x∧x < 1009:=fun k hk=>⟨ns[k]'(by lia),List.getElem?_eq_getElem (by lia),hnn.2 _ (List.getElem_mem _)⟩
  have gi:∀ {k:Nat} {x:Int},ns[k]?=some x→atI (ns.map V.int) (k:Int)=some (V.int x):=fun e=>z0F (by rw [List.getElem?_map,e];rfl)
  obtain ⟨z0,ez0,z00,z01⟩:=gn 0 (by lia)
  obtain ⟨z1,ez1,z10,z11⟩:=gn 1 (by lia)
  refine (exA rfl ⟨ln,_,_,V.int z0,rfl,rfl,SqL.of en,gi (k:=0) ez0,exC rfl rfl ⟨⟨by decide,by decide⟩,exC rfl rfl ⟨z7F,exC rfl rfl (exA rfl (z2D (fun _=>?_) (fun _=>nx _ _ ⟨la,lr,as,rs,rfl,s1,en,ea,er,hne,hal,by lia,ia,ir⟩)))⟩⟩⟩)
  obtain ⟨k,hk⟩:=z3T (x:=(1:Int)+z1 / 31 % 3) (by lia)
  refine (exA rfl (exA rfl ⟨ln,_,_,V.int z1,rfl,rfl,SqL.of en,gi (k:=1) ez1,exC rfl rfl ⟨⟨by decide,by decide⟩,exC rfl rfl ⟨z7F,exC rfl rfl ⟨lr,(k:Int),exA rfl ⟨(by rw [←hk]),er,by lia,by lia,?_,fun p hp=>?_⟩⟩⟩⟩⟩))
  ·have:k≤3:=by lia
   rw [List.length_map,Int.toNat_natCast]
   refine z0G (Nat.le_trans (Nat.mul_le_mul hrl this) (by lia))
  ·have s2:=same_up (o:=HO.lst (List.replicate (k:Int).toNat (rs.map V.int)).flatten) s1 hp
   have hk3:k≤3:=by lia
   have hk1:1≤k:=by lia
   refine nx _ _ ⟨la,p,as,(List.replicate k rs).flatten,rfl,s2,(by rw [z0a (z0g en hp)];exact en),(by rw [z0a (z0g ea hp)];exact ea),(by rw [z03,Int.toNat_natCast,z98]),fun z=>?_,hal,?_,ia,ir.rep⟩
   ·have h1:=z6h k rs
    rw [z] at h1
    have h2:0 < rs.length:=List.length_pos_iff.mpr hne
    have h3:0 < k*rs.length:=Nat.mul_pos hk1 h2
    simp at h1
    lia
   ·rw [z6h]
    exact Nat.mul_le_mul hk3 hrl
 have e23:(2:Int)*(m:Int)+3=((2*m+3:Nat):Int):=by lia
 refine (exA rfl (exA rfl (exC rfl rfl ⟨.inl ⟨by decide,by decide⟩,exC rfl rfl ⟨c,2*m+3,(by rw [←e23];rfl),by lia,fun ln H1 nn s1 en hnn=>?_⟩⟩)))
 have hnl:=hnn.1
 have gn:∀ k,k < 2*m+3→∃ x:Int,nn[k]?=some x∧0≤x∧x < 1009:=fun k hk=>⟨nn[k]'(by lia),List.getElem?_eq_getElem (by lia),hnn.2 _ (List.getElem_mem _)⟩
 have gi:∀ {k:Nat} {x:Int},nn[k]?=some x→atI (nn.map V.int) (k:Int)=some (V.int x):=fun e=>z0F (by rw [List.getElem?_map,e];rfl)
 obtain ⟨z0,ez0,z00,z01⟩:=gn 0 (by lia)
 obtain ⟨z1,ez1,z10,z11⟩:=gn 1 (by lia)
 have hz0:z0 % ((m:Int)+1) < (m:Int)+1:=Int.emod_lt_of_pos _ (by lia)
 have hz0':0≤z0 % ((m:Int)+1):=Int.emod_nonneg _ (by lia)
 have hz1:z1 % (m:Int) < (m:Int):=Int.emod_lt_of_pos _ (by lia)
 have hz1':0≤z1 % (m:Int):=Int.emod_nonneg _ (by lia)
 obtain ⟨k0,hk0⟩:=z3T (x:=(2:Int)+z0 % ((m:Int)+1)) (by lia)
 obtain ⟨k1,hk1⟩:=z3T (x:=(m:Int)+3+z1 % (m:Int)) (by lia)
 have hm2':(m:Int)+2=((m+2:Nat):Int):=by lia
 refine (exA rfl (exA rfl (exA rfl ⟨ln,_,_,V.int z0,rfl,rfl,SqL.of en,gi (k:=0) ez0,exA rfl (exC rfl rfl (exC rfl rfl ⟨by lia,exC rfl rfl (exA rfl ⟨ln,exA rfl ⟨SqL.of en,fun p hp=>?_⟩⟩)⟩))⟩)))
 have sp:=same_up (o:=HO.lst (z3h (nn.map V.int) (some 2) (some (2+z0 % ((m:Int)+1))))) (z0h.refl H1) hp
 have ep:upd H1 p (HO.lst (z3h (nn.map V.int) (some 2) (some (2+z0 % ((m:Int)+1))))) p=some (.lst ((z4g nn (some ((2:Nat):Int)) (some (k0:Int))).map V.int)):=by rw [z03,z3m,hk0];rfl
 have lcut:(z4g nn (some ((2:Nat):Int)) (some (k0:Int))).length=k0 - 2:=z6x (by lia)
 generalize upd H1 p (HO.lst (z3h (nn.map V.int) (some 2) (some (2+z0 % ((m:Int)+1)))))=H2 at sp ep
 generalize z4g nn (some ((2:Nat):Int)) (some (k0:Int))=cs at ep lcut
 have lcm:(cs.map V.int).length=cs.length:=List.length_map _
 refine ⟨p,rfl,⟨_,SqL.of ep⟩,fun la hla=>z1W (xs:=cs.map V.int) (GI n H2) (GI.nil hla) (fun i ys H3 _ h=>by obtain ⟨_,_,_,_,s3⟩:=h;exact SqL.of (s3 _ _ ep)) (by rw [lcm];exact z0G (by lia)) (fun i ys H3 h=>h.len) (fun i x ys H3 hx h hy=>?_) (fun ys H3 h hy=>?_)⟩
 ·have hi:i < cs.length:=by have:=(List.getElem?_eq_some_iff.mp hx).1;lia
  have ex:x=V.int cs[i]:=by rw [List.getElem?_map,List.getElem?_eq_getElem hi] at hx;exact (Option.some.inj hx).symm
  subst ex
  exact (exA rfl (exA rfl (exC rfl rfl ⟨by lia,hy,h.snoc hla ⟨Int.emod_nonneg _ (by lia),Int.emod_lt_of_pos _ (by lia)⟩⟩)))
 obtain ⟨as,rfl,hal,iia,s3⟩:=h
 have en3:=s3 _ _ (sp _ _ en)
 have ea3:H3 la=some (.lst (as.map V.int)):=hy
 have s13:z0h H H3:=(s1.trans sp).trans s3
 refine (exA rfl (exA rfl (exC rfl rfl (exA rfl (exA rfl (exC rfl rfl (exA rfl ⟨ln,_,_,V.int z1,rfl,rfl,SqL.of en3,gi (k:=1) ez1,exA rfl (exC rfl rfl ⟨by lia,exC rfl rfl (exA rfl ⟨ln,exA rfl ⟨SqL.of en3,fun p' hp'=>?_⟩⟩)⟩)⟩)))))))
 have sp':=same_up (o:=HO.lst (z3h (nn.map V.int) (some ((m:Int)+2)) (some ((m:Int)+3+z1 % (m:Int))))) (z0h.refl H3) hp'
 have ep':upd H3 p' (HO.lst (z3h (nn.map V.int) (some ((m:Int)+2)) (some ((m:Int)+3+z1 % (m:Int))))) p'=some (.lst ((z4g nn (some ((m+2:Nat):Int)) (some (k1:Int))).map V.int)):=by rw [z03,z3m,hk1,hm2']
 have lcut':(z4g nn (some ((m+2:Nat):Int)) (some (k1:Int))).length=k1 - (m+2):=z6x (by lia)
 generalize upd H3 p' (HO.lst (z3h (nn.map V.int) (some ((m:Int)+2)) (some ((m:Int)+3+z1 % (m:Int)))))=H4 at sp' ep'
 generalize z4g nn (some ((m+2:Nat):Int)) (some (k1:Int))=ds at ep' lcut'
 have ldm:(ds.map V.int).length=ds.length:=List.length_map _
 refine ⟨p',rfl,⟨_,SqL.of ep'⟩,fun lr hlr=>z1W (xs:=ds.map V.int) (GI n H4) (GI.nil hlr) (fun i ys H5 _ h=>by obtain ⟨_,_,_,_,s5⟩:=h;exact SqL.of (s5 _ _ ep')) (by rw [ldm];exact z0G (by lia)) (fun i ys H5 h=>h.len) (fun i x ys H5 hx h hy=>?_) (fun ys H5 h hy=>?_)⟩
 ·have hi:i < ds.length:=by have:=(List.getElem?_eq_some_iff.mp hx).1;lia
  have ex:x=V.int ds[i]:=by rw [List.getElem?_map,List.getElem?_eq_getElem hi] at hx;exact (Option.some.inj hx).symm
  subst ex
  exact (exA rfl (exA rfl (exC rfl rfl ⟨by lia,hy,h.snoc hlr ⟨Int.emod_nonneg _ (by lia),Int.emod_lt_of_pos _ (by lia)⟩⟩)))
 obtain ⟨rs,rfl,hrl,iir,s5⟩:=h
 have s35:=sp'.trans s5
 refine ⟨ln,nn,hnn,⟨la,lr,as,rs,rfl,s13.trans s35,s35 _ _ en3,s35 _ _ ea3,hy,fun z=>?_,by lia,by lia,iia,iir⟩,fun σ6 H6 h6=>?_⟩
 ·subst z
  simp at hrl
  lia
 clear s5 s35 hy iir hrl ep' lcut' sp' s13 ea3 en3 s3 iia hal ldm
 obtain ⟨la,lr,as,rs,rfl,s6,en6,ea6,er6,hne,hal,hrl,iia,iir⟩:=h6
 have fin:∀ (H7:Hp) (la:Addr) (as:List Int),z0h H H7→H7 la=some (.lst (as.map V.int))→H7 lr=some (.lst (rs.map V.int))→as.length≤4*m→InN n as→zgE (zgH (z8o (tCB (fun xs H Q=>∃ p ys,xs=[.ref p]∧((SqL K H p ys∧∀ l,H l=none→Q (.ref l) (upd H l (.tup ys)))∨(SqT K H p ys∧Q (.ref p) H))) (z8o (zfK 4) zfr)) (z8o (tCB (fun xs H Q=>∃ p ys,xs=[.ref p]∧((SqL K H p ys∧∀ l,H l=none→Q (.ref l) (upd H l (.tup ys)))∨(SqT K H p ys∧Q (.ref p) H))) (z8o (zfK 5) zfr)) zfr))) { nx:=fun _ H'=>Q .non H',rt:=Q } [some (.int n),some (.int c),some (.int m),some (.ref ln),some (.ref la),some (.ref lr)] H7:=by
  intro H7 la as s7 ea7 er7 hal7 ia7
  refine (exA rfl ⟨la,exA rfl (.inl ⟨SqL.of ea7,fun t1 ht1=>?_⟩)⟩)
  have q1:=same_up (o:=HO.tup (as.map V.int)) (z0h.refl H7) ht1
  have f1:upd H7 t1 (HO.tup (as.map V.int)) t1=some (.tup (as.map V.int)):=z03
  generalize upd H7 t1 (HO.tup (as.map V.int))=H8 at q1 f1
  refine (exA rfl ⟨lr,exA rfl (.inl ⟨SqL.of (q1 _ _ er7),fun t2 ht2=>⟨by show 2≤sizeLine;decide,fun t3 ht3=>?_⟩⟩)⟩)
  have q2:=same_up (o:=HO.tup (rs.map V.int)) (z0h.refl H8) ht2
  have f2:upd H8 t2 (HO.tup (rs.map V.int)) t2=some (.tup (rs.map V.int)):=z03
  generalize upd H8 t2 (HO.tup (rs.map V.int))=H9 at q2 f2 ht3
  have q3:=same_up (o:=HO.tup [V.ref t1,V.ref t2]) (z0h.refl H9) ht3
  exact q _ _ (as,rs) (((s7.trans q1).trans q2).trans q3) (z2c (r:=(as,rs)) z03 (q3 _ _ (q2 _ _ f1)) (q3 _ _ f2)) hne hal7 hrl ia7 iir
 have hrp:0 < rs.length:=List.length_pos_iff.mpr hne
 have lrm:(rs.map V.int).length=rs.length:=List.length_map _
 refine (exA rfl ⟨ln,_,_,V.int z0,rfl,rfl,SqL.of en6,gi (k:=0) ez0,exC rfl rfl ⟨⟨by decide,by decide⟩,exC rfl rfl ⟨z7F,exC rfl rfl (exA rfl (z2D (fun _=>?_) (fun _=>fin H6 la as s6 ea6 er6 (by lia) iia)))⟩⟩⟩)
 refine (exA rfl (exA rfl (exA rfl (exA rfl ⟨ln,_,_,V.int z1,rfl,rfl,SqL.of en6,gi (k:=1) ez1,exC rfl rfl ⟨⟨by decide,by decide⟩,exA rfl (exG lr rfl (.inl (SqL.of er6)) (exC rfl rfl ⟨by rw [lrm];lia,exC rfl rfl (exA rfl ⟨lr,exA rfl ⟨SqL.of er6,fun p hp=>?_⟩⟩)⟩))⟩⟩))))
 generalize (-1:Int) - z1 / 93 % (((rs.map V.int).length:Nat):Int)=lo
 have q1:=same_up (o:=HO.lst (z3h (rs.map V.int) (some lo) none)) (z0h.refl H6) hp
 have f1:upd H6 p (HO.lst (z3h (rs.map V.int) (some lo) none)) p=some (.lst ((z4g rs (some lo) none).map V.int)):=by rw [z03,z3m]
 have hcl:(z4g rs (some lo) none).length≤rs.length:=by
  unfold z4g
  rw [List.length_take,List.length_drop]
  lia
 generalize upd H6 p (HO.lst (z3h (rs.map V.int) (some lo) none))=H7 at q1 f1
 have hic:InN n (z4g rs (some lo) none):=iir.cut
 generalize z4g rs (some lo) none=ts at f1 hcl hic
 refine ⟨la,p,as.map V.int,ts.map V.int,rfl,rfl,q1 _ _ ea6,f1,(by rw [List.length_map,List.length_map];exact z0G (by lia)),fun p2 hp2=>?_⟩
 have q2:=same_up (o:=HO.lst (as.map V.int++ts.map V.int)) (z0h.refl H7) hp2
 have f2:upd H7 p2 (HO.lst (as.map V.int++ts.map V.int)) p2=some (.lst ((as++ts).map V.int)):=by rw [z03,List.map_append]
 generalize upd H7 p2 (HO.lst (as.map V.int++ts.map V.int))=H8 at q2 f2
 exact fin H8 p2 (as++ts) ((s6.trans q1).trans q2) f2 (q2 _ _ (q1 _ _ er6)) (by rw [List.length_append];lia) (iia.app hic)
abbrev zfp:List Str:=["endless","place","beginning","ring"]
theorem z7H:z0p zfp ["endless","place"] (z06 z3s):=⟨rfl,rfl,rfl,by decide +kernel,rfl,by decide +kernel,by decide +kernel⟩
theorem z80 {Ct:Addr} {bmB:List Value} {B newId initId:String} (mC:mg "BadCount"=some (.ref Ct)) (xC:PySem.W.excIn K Ct bmB newId=true) (hB:ExcBaseFacts B newId initId bmB) (F:Fun K "letter_at" "letter_at" z3s f fd) (ml:mg "len"=none):z0y P w K mg base (CXx P w) 1 f fd ["endless","place"] (z3L K Ct):=by
 refine F.okx z7H (fun vs H Q E h=>?_) (fun cdv A outer s H vs Q E hr h=>?_)
 ·obtain ⟨v,e,i,rfl,_⟩:=h
  rfl
 obtain ⟨v,e,p,rfl,d,hne,q,qx⟩:=h
 obtain ⟨a,b,c,rfl,ea,eb,ec⟩:=z0W d
 refine ⟨_,z04 (z1Q (z18 z4O (pv 1) z07 (z19 _)) (z08 (z4e mC rfl xC hB z99)) z0M)
  (z04 (z2Q (pv 0) (z22 rfl (z0s (z0c (i:=2) z7H.nd rfl (Or.inl rfl)) (z0s (z0c (i:=3) z7H.nd rfl (Or.inl rfl)) z1l))))
  (z04 (z1Q (z18 z4O (pv 1) (z0j z09 rfl ml PySem.boot_len (z02 (pv 2) z05)) (z19 _)) (z08 (z0D (z0Q z1G (pv 2) (pv 1) (fun _ _=>rfl)))) z0M)
  (z08 (z0D (z0Q z1G (pv 3) (z0k z0O (z0k z2A (pv 1) (z0j z09 rfl ml PySem.boot_len (z02 (pv 2) z05))) (z0j z09 rfl ml PySem.boot_len (z02 (pv 3) z05))) (fun _ _=>rfl)))))),?_⟩
 have hl:0 < e.2.length:=List.length_pos_iff.mpr hne
 have lb:(e.1.map V.int).length=e.1.length:=List.length_map _
 have lc:(e.2.map V.int).length=e.2.length:=List.length_map _
 refine (exA rfl (exC rfl rfl (exA rfl (z2D (fun z=>?_) (fun z=>?_)))))
 ·exact fun ea=>qx (of_decide_eq_true z) ea H (z0h.refl H)
 have z0:=of_decide_eq_false (Bool.eq_false_iff.mpr z)
 obtain ⟨i,rfl⟩:∃ i:Nat,p=(i:Int):=⟨p.toNat,by lia⟩
 replace q:=q (by lia)
 rw [Int.toNat_natCast] at q
 refine (exA rfl (exF a rfl (SqT.of ea) rfl (exB rfl (exC rfl rfl ?_))))
 refine (exA rfl (exA rfl (exG b rfl (.inr (SqT.of eb)) (exC rfl rfl (exA rfl (z2D (fun z=>?_) (fun z=>?_)))))))
 ·have z':=of_decide_eq_true z
  rw [lb] at z'
  exact (exA rfl (exA rfl (exD b _ _ (V.int (lat e i)) rfl rfl (SqT.of eb) (z0F ((za0 hne).1 (by lia))) q)))
 ·have z':=of_decide_eq_false (Bool.eq_false_iff.mpr z)
  rw [lb] at z'
  have em:((i:Int) - (((e.1.map V.int).length:Nat):Int)) % (((e.2.map V.int).length:Nat):Int)=(((i - e.1.length) % e.2.length:Nat):Int):=by
   rw [lb,lc,Int.natCast_emod]
   congr 1
   lia
  exact (exA rfl (exA rfl (exA rfl (exG b rfl (.inr (SqT.of eb)) (exC rfl rfl (exA rfl (exG c rfl (.inr (SqT.of ec)) (exC rfl rfl ⟨by rw [lc];lia,exD c _ _ (V.int (lat e i)) rfl rfl (SqT.of ec) ((by rw [em];exact z0F ((za0 hne).2 (by lia)))) q⟩))))))))
abbrev zdv:List Str:=["letters","endless","beginning","ring"]
theorem z6o:z0p zdv ["letters","endless"] (z06 z47):=⟨rfl,rfl,rfl,by decide +kernel,rfl,by decide +kernel,by decide +kernel⟩
theorem zbh {Ct:Addr} (F:Fun K "check_endless" "check_endless" z47 f fd) {aR aW:Addr} {dR dW:FuncData}
  (R:z0y P w K mg base (CXx P w) 1 aR dR ["ring"] (z8U K Ct)) (bR:z0l K dR ["ring"] []) (kR:PySem.W.keepIn K (.ref aR)=true) (mR:mg "check_ring"=some (.ref aR))
  (W:z0y P w K mg base (CXx P w) 1 aW dW ["letters","word"] (z3A K Ct)) (bW:z0l K dW ["letters","word"] []) (kW:PySem.W.keepIn K (.ref aW)=true) (mW:mg "check_word"=some (.ref aW)):z0y P w K mg base (CXx P w) 2 f fd ["letters","endless"] (z65 K):=by
 refine F.okc z6o (fun vs H Q E h=>?_) (fun cdv A outer s H vs Q E hr h=>?_)
 ·obtain ⟨n,u,e,rfl,_⟩:=h
  rfl
 obtain ⟨n,u,e,rfl,de,hne,l1,l2,h1,h2,q⟩:=h
 refine ⟨_,z04 (z2Q (pv 1) (z22 rfl (z0s (z0c (i:=2) z6o.nd rfl (Or.inl rfl)) (z0s (z0c (i:=3) z6o.nd rfl (Or.inl rfl)) z1l))))
  (z04 (z0Y (z0b R hr rfl mR kR bR .nil z0C (z02 (pv 3) z05)))
  (z04 (z0Y (z0b W hr rfl mW kW bW .nil z0C (z02 (pv 0) (z02 (pv 2) z05))))
  (z08 (z0Y (z0b W hr rfl mW kW bW .nil z0C (z02 (pv 0) (z02 (pv 3) z05))))))),?_⟩
 obtain ⟨t,b,c,rfl,et,eb,ec⟩:=z0W de
 refine (exA rfl (exF t rfl (SqT.of et) rfl (exB rfl (exC rfl rfl ?_))))
 refine (exA rfl ⟨.ref c,e.2,rfl,z3j ec,fun _=>?_,fun z=>absurd z hne⟩)
 refine (exA rfl (exA rfl ⟨n,.ref b,e.1,rfl,z3j eb,by lia,fun _ H1 s1=>?_,fun z=>absurd l1 z⟩))
 exact (exA rfl (exA rfl ⟨n,.ref c,e.2,rfl,z3j (s1 _ _ ec),by lia,fun _ H2 s2=>q H2 (s1.trans s2),fun z=>absurd l2 z⟩))
theorem zcc:z0p ["laps"] ["laps"] (z06 z4u):=⟨rfl,rfl,rfl,by decide +kernel,rfl,by decide +kernel,by decide +kernel⟩
theorem z6e:z0Z ["laps"] (z06 z4u) ["lap","letter"] [none,none] (csc [(".0",.local),("lap",.local),("letter",.local)]):=⟨rfl,by decide +kernel,by decide +kernel,by decide +kernel,rfl,by decide +kernel,by decide +kernel⟩
theorem zb6 {ls:List (List Int)} {i:Nat} {x:List Int} (h:ls[i]?=some x):(ls.take (i+1)).flatten=(ls.take i).flatten++x:=by
 rw [List.take_add_one,h,List.flatten_append]
 simp
theorem zdI {ls:List (List Int)} (i:Nat):(ls.take i).flatten.length≤ls.flatten.length:=by
 have:ls.flatten=(ls.take i).flatten++(ls.drop i).flatten:=by rw [←List.flatten_append,List.take_append_drop]
 rw [this,List.length_append]
 lia
theorem zaw (F:Fun K "strung" "strung" z4u f fd) (mt:mg "tuple"=none):z0y P w K mg base CX 1 f fd ["laps"] (z60 K):=by
 refine F.okc zcc (fun vs H Q E h=>?_) (fun cdv A outer s H vs Q E hr h=>?_)
 ·obtain ⟨a,us,ls,rfl,_⟩:=h
  rfl
 obtain ⟨a,us,ls,rfl,ea,dus,hl,q⟩:=h
 refine ⟨_,z08 (z0D (z0x z0v rfl mt PyProof.Rows.boot_tuple (z02 (zcX rfl z6e (z1j (pv 0)) (fun _ _ _ _ _=>z0c (i:=0) z6e.nd rfl (Or.inl rfl)) (fun _ _ _ _ _=>(piT K rfl (pv 0))) (fun _ _ _ _ _=>(z0c (i:=1) z6e.nd rfl (Or.inl rfl))) (fun _ _ _ _ _=>pv 1)) z05))),?_⟩
 have hul:us.length=ls.length:=by have:=dus.length;rw [List.length_map] at this;lia
 refine (exA rfl ⟨a,rfl,⟨_,SqL.of ea⟩,fun l hlz=>z9A (xs:=us) (fun i ys H2=>ys=(ls.take i).flatten.map V.int∧z0h H H2) ⟨rfl,same_up (z0h.refl H) hlz⟩ (fun i ys H2 _ h=>SqL.of (h.2 _ _ ea)) (fun i x ys H2 hx h hy=>?_) (fun ys H2 h hy=>?_)⟩)
 ·obtain ⟨rfl,s2⟩:=h
  have hil:i < us.length:=(List.getElem?_eq_some_iff.mp hx).1
  have ew:ls[i]?=some ls[i]:=List.getElem?_eq_getElem (by lia)
  obtain ⟨x',ex,dx⟩:=dus.get (show (ls.map D.its)[i]?=some (D.its ls[i]) by rw [List.getElem?_map,ew];rfl)
  rw [hx] at ex
  cases ex
  generalize ls[i]=wi at *
  obtain ⟨ax,rfl,eax⟩:=its_inv dx
  have hft:=zb6 ew
  have hle:=zdI (ls:=ls) (i+1)
  rw [hft,List.length_append] at hle
  refine (exA rfl ⟨ax,rfl,⟨_,SqT.of (s2 _ _ eax)⟩,hy,zf1 (xs:=wi.map V.int) (fun j zs σ H3=>zs=((ls.take i).flatten++wi.take j).map V.int∧z0h H H3∧∃ u:Option V,σ=[some (.ref ax),u]) ⟨by rw [List.take_zero,List.append_nil],s2,_,rfl⟩ (fun j zs σ H3 _ h=>SqT.of (h.2.1 _ _ eax)) (fun j zs σ H3 hj h=>?_) (fun j y zs σ H3 hy3 h hz=>?_) (fun zs σ H3 h hz=>?_)⟩)
  ·rw [h.1,List.length_map,List.length_append,List.length_take]
   exact Nat.lt_of_le_of_lt (show _≤4900 by lia) (z1p (Nat.le_refl _))
  ·obtain ⟨rfl,s3,u,rfl⟩:=h
   have hjl:j < wi.length:=by have:=(List.getElem?_eq_some_iff.mp hy3).1;rwa [List.length_map] at this
   have ej:wi[j]?=some wi[j]:=List.getElem?_eq_getElem hjl
   have ey:y=.int wi[j]:=by rw [List.getElem?_map,ej] at hy3;exact (Option.some.inj hy3).symm
   subst ey
   refine (exA rfl ⟨hz,?_,z0f s3 hlz,_,rfl⟩)
   rw [List.take_add_one,ej,←List.append_assoc,List.map_append (l₁:=(ls.take i).flatten++wi.take j)]
   rfl
  ·obtain ⟨rfl,s3,_⟩:=h
   rw [List.length_map,List.take_length] at hz ⊢
   exact ⟨by rw [hft],s3⟩
 ·obtain ⟨rfl,s2⟩:=h
  rw [hul,List.take_length] at hy
  exact ⟨l,exA rfl (.inl ⟨SqL.of hy,fun t ht=>q t _ (same_up s2 ht) z03⟩)⟩
abbrev zf2:List Str:=["guise","endless","beginning","ring","made","at","laps","laps_ahead","lap","first"]
theorem z25:z0p zf2 ["guise","endless"] (z06 z8P):=⟨rfl,rfl,rfl,by decide +kernel,rfl,by decide +kernel,by decide +kernel⟩
theorem zbP {Ct:Addr} (F:Fun K "worn_endless" "worn_endless" z8P f fd) (ml:mg "len"=none) {aC aB aF aP aS:Addr} {dC dB dF dP dS:FuncData}
  (C:z0y P w K mg base (CXx P w) 2 aC dC ["letters","endless"] (z65 K)) (bC:z0l K dC ["letters","endless"] []) (kC:PySem.W.keepIn K (.ref aC)=true) (mC:mg "check_endless"=some (.ref aC))
  (B:z0y P w K mg base (CXx P w) 2 aB dB ["guise"] (z2l K)) (bB:z0l K dB ["guise"] []) (kB:PySem.W.keepIn K (.ref aB)=true) (mB:mg "breadth"=some (.ref aB))
  (R:z0y P w K mg base (CXx P w) 2 aF dF ["guise","row","word"] (z4Y K)) (bF:z0l K dF ["guise","row","word"] []) (kF:PySem.W.keepIn K (.ref aF)=true) (mF:mg "read_from"=some (.ref aF))
  (Pw:z0y P w K mg base (CXx P w) 2 aP dP ["beginning","ring"] (z4G K Ct)) (bP:z0l K dP ["beginning","ring"] []) (kP:PySem.W.keepIn K (.ref aP)=true) (mP:mg "plain_word"=some (.ref aP))
  (S:z0y P w K mg base (CXx P w) 2 aS dS ["laps"] (z60 K)) (bS:z0l K dS ["laps"] []) (kS:PySem.W.keepIn K (.ref aS)=true) (mS:mg "strung"=some (.ref aS)):z0y P w K mg base (CXx P w) 3 f fd ["guise","endless"] (z7V K):=by
 refine F.okc z25 (fun vs H Q E h=>?_) (fun cdv A outer s H vs Q E hr h=>?_)
 ·obtain ⟨v,u,one,e,n,rfl,_⟩:=h
  rfl
 obtain ⟨v,u,one,e,n,rfl,dv,du,G,hn,hne,l1,l2,h1000,q⟩:=h
 have hu:=z9w hr
 refine ⟨_,z04 (z0Y (z0b C hr rfl mC kC bC .nil z0C (z02 (z0b B hr rfl mB kB bB .nil z0C (z02 (pv 0) z05)) (z02 (pv 1) z05))))
  (z04 (z2Q (pv 1) (z22 rfl (z0s (z0c (i:=2) z25.nd rfl (Or.inl rfl)) (z0s (z0c (i:=3) z25.nd rfl (Or.inl rfl)) z1l))))
  (z04 (z2Q (z0b R hr rfl mF kF bF .nil z0C (z02 (pv 0) (z02 z07 (z02 (pv 2) z05)))) (z22 rfl (z0s (z0c (i:=4) z25.nd rfl (Or.inl rfl)) (z0s (z0c (i:=5) z25.nd rfl (Or.inl rfl)) z1l))))
  (z04 (z0i (i:=6) z25.nd rfl (Or.inl rfl) (z1H z05))
  (z04 (z0i (i:=7) z25.nd rfl (Or.inl rfl) z4f)
  (z04 (z1D PassesOwn.never (z1o (z2R hu (pv 5) (pv 7)))
   (z04 (z3a hu (pv 7) (pv 5) (z0j z09 rfl ml PySem.boot_len (z02 (pv 6) z05)) rfl)
   (z04 (z2Q (z0b R hr rfl mF kF bF .nil z0C (z02 (pv 0) (z02 (pv 5) (z02 (pv 3) z05)))) (z22 rfl (z0s (z0c (i:=8) z25.nd rfl (Or.inl rfl)) (z0s (z0c (i:=5) z25.nd rfl (Or.inl rfl)) z1l))))
   (z08 (z0Y (z3l PySem.F.plainAttrs_list PySem.F.slot_list_append PySem.F.type_list_append z0L (pv 6) (z02 (pv 8) z05)))))))
  (z04 (z0i (i:=9) z25.nd rfl (Or.inl rfl) (z2P hu (pv 7) (pv 5) (fun _ _=>rfl)))
  (z08 (z0D (z0b Pw hr rfl mP kP bP .nil z0C (z02 (z0k zaj (pv 4) (z0b S hr rfl mS kS bS .nil z0C (z02 (z1b z36 (pv 6) z2e (z1a (pv 9))) z05))) (z02 (z0b S hr rfl mS kS bS .nil z0C (z02 (z1b z36 (pv 6) (z1a (pv 9)) z2e) z05)) z05))))))))))),?_⟩
 have h1:=G.some
 obtain ⟨r0,rt,er⟩:∃ r0 rt,one=r0::rt:=by
  cases one with
  | nil=>simp at h1
  | cons r0 rt=>exact ⟨r0,rt,rfl⟩
 have hp0:=G.perm r0 (by rw [er];simp)
 have hl0:=hp0.len
 obtain ⟨tE,bE,cE,rfl,etE,ebE,ecE⟩:=z0W du
 have hL:0 < e.2.length:=List.length_pos_iff.mpr hne
 have hmul:e.2.length≤one.length*e.2.length:=Nat.le_mul_of_pos_left _ h1
 refine (exA rfl ⟨v,r0,z0m rt,rfl,(by rw [er] at dv;exact dv),by lia,fun H1 s1=>(exA rfl ⟨n,.ref tE,e,(by rw [hl0];rfl),du.mono s1,hne,l1,l2,by lia,by lia,fun H2 s2=>?_⟩)⟩)
 have s02:=s1.trans s2
 refine (exA rfl (exF tE rfl (SqT.of (s02 _ _ etE)) rfl (exB rfl (exC rfl rfl ?_))))
 refine (exA rfl (exA rfl ⟨v,.ref bE,one,n,e.1,0,rfl,dv.mono s02,z3j (s02 _ _ ebE),G,hn,by lia,l1,Int.le_refl 0,by lia,fun r3 t3 H3 s3 er3 et3=>?_⟩))
 refine (exF r3 rfl (SqT.of er3) rfl (exB rfl (exC rfl rfl ?_)))
 have s03:=s02.trans s3
 refine ⟨by show 0≤sizeLine;decide,fun ll hll=>?_⟩
 have s4:=same_up (o:=HO.lst []) (z0h.refl H3) hll
 have ell:upd H3 ll (.lst []) ll=some (.lst []):=z03
 have hll0:H ll=none:=s03.free hll
 generalize upd H3 ll (.lst [])=H4 at s4 ell
 refine fun ld hld=>?_
 have nld:ll≠ld:=z0g ell hld
 have s5:=same_up (o:=HO.dK []) (z0h.refl H4) hld
 have eld:upd H4 ld (.dK []) ld=some (.dK []):=z03
 have hld0:H ld=none:=(s03.trans s4).free hld
 replace ell:=s5 _ _ ell
 have s05:=s03.trans (s4.trans s5)
 replace et3:=(s4.trans s5) _ _ et3
 generalize upd H4 ld (.dK [])=H5 at s05 ell eld et3
 clear s1 s2 s3 s4 s5 s02 s03
 refine ⟨fun m σ H6=>∃ (t:Nat) (u8:Option V) (us:List V),m=one.length+1 - t∧σ=[some v,some (.ref tE),some (.ref bE),some (.ref cE),some (.ref t3),some (.int (z3D one e t)),some (.ref ll),some (.ref ld),u8,none]∧z0h H H6∧H6 t3=some (.tup ((z20 one 0 e.1).map V.int))∧H6 ll=some (.lst us)∧DrL K H6 ((z2N one e t).map D.its) us∧H6 ld=some (.dK (prs kI (z6G one e t)))∧(z6G one e t).Nodup,
  ⟨_,0,none,[],rfl,rfl,s05,et3,ell,DrL.nil,eld,List.nodup_nil⟩,?_⟩
 rintro m σ H6 ⟨t,u8,us,rfl,rfl,t6,e6,el,dl,ed,nd⟩
 have ht:t≤one.length:=by
  have:=z1w nd (fun x hx=>by
   obtain ⟨j,_,rfl⟩:=List.mem_map.mp hx
   exact z82 G l1 l2 j)
  rw [z4l] at this
  exact this
 have hul:us.length=t:=by have:=dl.length;rw [List.length_map,zcf] at this;lia
 obtain ⟨a0,a1⟩:=z82 G l1 l2 t
 have h4000:=G.few
 refine (exA rfl (exA rfl ⟨ld,exA rfl ⟨z3V.k (k:=kI (z3D one e t)) ed,exA rfl ?_⟩⟩))
 have hv:=z27 (κ:=Key) kI zdk (z6G one e t) (z3D one e t)
 by_cases hm:z3D one e t∈z6G one e t
 ·rw [hv,if_pos hm]
  refine z6I ?_
  rw [if_pos hm] at hv
  obtain ⟨first,hf⟩:∃ first,first=(z6G one e t).idxOf (z3D one e t):=⟨_,rfl⟩
  have hfl:first < t:=by rw [hf];have:=List.idxOf_lt_length_of_mem hm;rwa [z4l] at this
  have hfa:z3D one e t=z3D one e first:=by
   have h':(z6G one e t)[first]?=some (z3D one e t):=by rw [hf,List.getElem?_eq_getElem (List.idxOf_lt_length_of_mem hm),List.getElem_idxOf]
   unfold z6G at h'
   rw [List.getElem?_map,List.getElem?_range hfl] at h'
   exact (Option.some.inj h').symm
  have hlat:=zcV one hne hfl hfa
  rw [←hf] at hv
  have hmk:t*e.2.length≤one.length*e.2.length:=Nat.mul_le_mul_right _ ht
  have hmf:first*e.2.length≤t*e.2.length:=Nat.mul_le_mul_right _ (Nat.le_of_lt hfl)
  have lt1:((z2N one e t).take first).flatten.length=first*e.2.length:=by
   have:(z2N one e t).take first=z2N one e first:=by
    unfold z2N
    rw [←List.map_take,List.take_range,Nat.min_eq_left (Nat.le_of_lt hfl)]
   rw [this,z2L]
  have lt2:((z2N one e t).drop first).flatten.length≤t*e.2.length:=by
   have h':((z2N one e t).take first).flatten.length+((z2N one e t).drop first).flatten.length=t*e.2.length:=by
    rw [←List.length_append,←List.flatten_append,List.take_append_drop,z2L]
   lia
  have hrne:((z2N one e t).drop first).flatten≠[]:=fun z=>by
   have h':((z2N one e t).take first).flatten.length+((z2N one e t).drop first).flatten.length=t*e.2.length:=by
    rw [←List.length_append,←List.flatten_append,List.take_append_drop,z2L]
   rw [z,lt1,List.length_nil,Nat.add_zero] at h'
   have:=Nat.eq_of_mul_eq_mul_right hL h'
   lia
  refine (exA rfl (exA rfl ⟨ld,exA rfl ⟨(by rw [←hv];exact z3V.k (k:=kI (z3D one e t)) ed),?_⟩⟩))
  refine (exA rfl (exA rfl (exA rfl (exA rfl ⟨ll,exA rfl ⟨SqL.of el,fun p1 hp1=>?_⟩⟩))))
  rw [zdE us first (by lia)]
  have s7:=same_up (o:=HO.lst (us.take first)) (z0h.refl H6) hp1
  have e7:upd H6 p1 (.lst (us.take first)) p1=some (.lst (us.take first)):=z03
  generalize upd H6 p1 (.lst (us.take first))=H7 at s7 e7
  have d7:DrL K H7 (((z2N one e t).take first).map D.its) (us.take first):=by rw [List.map_take];exact z8Q first (dl.mono s7)
  refine ⟨p1,exB rfl ⟨e7,d7,by lia,fun t8 H8 s8 e8=>⟨t3,t8,exC rfl rfl ⟨s8 _ _ (s7 _ _ e6),e8,?_,fun p9 H9 s9 e9=>?_⟩⟩⟩⟩
  ·rw [List.length_map,List.length_map,z17,lt1]
   exact z0G (by lia)
  rw [←List.map_append] at e9
  have s79:=s7.trans (s8.trans s9)
  refine (exA rfl (exA rfl (exA rfl ⟨ll,exA rfl ⟨SqL.of (s79 _ _ el),fun p2 hp2=>?_⟩⟩)))
  rw [z7c us first (by lia)]
  have s10:=same_up (o:=HO.lst (us.drop first)) (z0h.refl H9) hp2
  have e10:upd H9 p2 (.lst (us.drop first)) p2=some (.lst (us.drop first)):=z03
  generalize upd H9 p2 (.lst (us.drop first))=H10 at s10 e10
  have d10:DrL K H10 (((z2N one e t).drop first).map D.its) (us.drop first):=by rw [List.map_drop];exact z9d first (dl.mono (s79.trans s10))
  refine ⟨p2,exB rfl ⟨e10,d10,by lia,fun t11 H11 s11 e11=>?_⟩⟩
  refine ⟨.ref p9,.ref t11,exB rfl ⟨z3j ((s10.trans s11) _ _ e9),z3j e11,?_,by lia,fun _ x H12 E s12 dE pE latE le1 le2=>?_,fun z=>absurd z hrne⟩⟩
  ·rw [List.length_append,z17,lt1];lia
  ·rw [List.length_append,z17,lt1] at le1
   exact q x H12 E (t6.trans (s79.trans (s10.trans (s11.trans s12)))) dE pE (fun i=>(latE i).trans (hlat i)) (by lia) (by lia)
 ·rw [hv,if_neg hm]
  refine zbF ?_
  refine zd1 fun N nx2=>?_
  refine (exA rfl (exG ll rfl (.inl (SqL.of el)) (exA rfl (exA rfl ⟨ld,exA rfl ⟨zat.k (k:=kI (z3D one e t)) ed (by rw [z1P,z4l];exact z1p (by lia)),?_⟩⟩))))
  have e7l:upd H6 ld (.dK (z1Y (prs kI (z6G one e t)) (kI (z3D one e t)) (V.int (us.length:Nat)))) ll=some (.lst us):=by rw [z0a nld];exact el
  have k7:z1h H6 (upd H6 ld (.dK (z1Y (prs kI (z6G one e t)) (kI (z3D one e t)) (V.int (us.length:Nat))))):=z1h.up (z1h.refl _) ed (fun _ z=>by cases z)
  have e7d:upd H6 ld (.dK (z1Y (prs kI (z6G one e t)) (kI (z3D one e t)) (V.int (us.length:Nat)))) ld=some (.dK (prs kI (z6G one e (t+1)))):=by
   rw [z03,hul,z75,←z4Q kI zdk hm,z4l]
  have t7:=z0f (o:=HO.dK (z1Y (prs kI (z6G one e t)) (kI (z3D one e t)) (V.int (us.length:Nat)))) t6 hld0
  generalize upd H6 ld (.dK (z1Y (prs kI (z6G one e t)) (kI (z3D one e t)) (V.int (us.length:Nat))))=H7 at *
  refine (exA rfl (exA rfl (exA rfl ⟨v,.ref cE,one,n,e.2,z3D one e t,rfl,dv.mono t7,z3j (t7 _ _ ecE),G,hn,by lia,l2,a0,a1,fun r8 t8 H8 s8 er8 et8=>?_⟩)))
  refine (exF r8 rfl (SqT.of er8) rfl (exB rfl (exC rfl rfl ?_)))
  have e8l:=s8 _ _ e7l
  refine (exA rfl ⟨.inl ⟨rfl,_,SqL.of e8l⟩,exA rfl ⟨ll,exC rfl rfl ⟨e8l,by rw [hul];exact z1p (by lia),?_⟩⟩⟩)
  have k9:z1h H8 (upd H8 ll (.lst (us++[.ref t8]))):=z1h.up (z1h.refl _) e8l (fun _ z=>by cases z)
  refine nx2 (one.length+1 - (t+1)) _ _ (by lia) ⟨t+1,_,us++[.ref t8],rfl,rfl,z0f (t7.trans s8) hll0,k9 _ _ (s8 _ _ (k7 _ _ e6)),z03,?_,?_,?_⟩
  ·rw [z4w,List.map_append]
   exact DrL.append (((dl.keyed k7 (z6C _)).mono s8).keyed k9 (z6C _)) (DrL.one (z3j (k9 _ _ et8)))
  ·rw [z0a nld.symm];exact s8 _ _ e7d
  ·rw [z75]
   exact List.nodup_append.mpr ⟨nd,by simp,fun x hx y hy z=>hm (by rw [←(show y=z3D one e t by simpa using hy),←z];exact hx)⟩
end
end Gu
namespace Gu
open PySem L2
structure FA (K:PySem.W.Frag) (f:Addr) (x:Str) (st:Stmt):Prop where
 a:PySem.W.nsIn K mainGlobals x=some (some (.ref f))
 l:∃ oc od kV dc pm an cd ct sl,K.lookup f=some ⟨oc,od,.func (PySem.W.fnOf x x (z1V st) (z1k st) (z06 st) .none kV dc pm an cd ct),sl⟩∧PySem.W.codeIn K cd x=true
 k:PySem.W.keepIn K (.ref f)=true
theorem FA.of {K:PySem.W.Frag} {f:Addr} {x:Str} {st:Stmt} {oc kV dc pm cd ct:Value} {od an:Option Addr} {sl:Array (Option Value)} (a:PySem.W.nsIn K mainGlobals x=some (some (.ref f))) (l:K.lookup f=some ⟨oc,od,.func (PySem.W.fnOf x x (z1V st) (z1k st) (z06 st) .none kV dc pm an cd ct),sl⟩) (c:PySem.W.codeIn K cd x=true) (k:PySem.W.keepIn K (.ref f)=true):FA K f x st:=⟨a,⟨_,_,_,_,_,_,_,_,_,l,c⟩,k⟩
theorem FA.go {K:PySem.W.Frag} {f:Addr} {x:Str} {st:Stmt} {h:Heap} {mg:Str→Option Value} (A:FA K f x st) (X:K.In h) (G:h.Ns mainGlobals mg):∃ fd,Fun K x x st f fd∧mg x=some (.ref f)∧PySem.W.keepIn K (.ref f)=true:=by
 obtain ⟨a,⟨_,_,_,_,_,_,_,_,_,l,c⟩,k⟩:=A
 exact ⟨_,zaN l c k,PySem.W.mg_of X G a,k⟩
abbrev fnY (x:Str) (st:Stmt) (kV dc pm:Value) (an:Option Addr) (cd ct:Value):=PySem.W.fnOf x x (z1V st) (z1k st) (z06 st) .none kV dc pm an cd ct
section
variable {K:PySem.W.Frag} {x:Str} {st:Stmt} {f:Addr} {fd:FuncData}
theorem zbK {a:Str} (F:Fun K x x st f fd) (h:∀ (kV dc pm:Value) (an:Option Addr) (cd ct u:Value),bindArgs (fnY x st kV dc pm an cd ct) ⟨[u],[]⟩=pure [(a,u)]):z0l K fd [a] []:=F.binds fun _ _ _ _ _ _ us hl=>by obtain ⟨_,rfl⟩:=zg6 hl;exact h _ _ _ _ _ _ _
theorem z5c {a b:Str} (F:Fun K x x st f fd) (h:∀ (kV dc pm:Value) (an:Option Addr) (cd ct u v:Value),bindArgs (fnY x st kV dc pm an cd ct) ⟨[u,v],[]⟩=pure [(a,u),(b,v)]):z0l K fd [a,b] []:=F.binds fun _ _ _ _ _ _ us hl=>by obtain ⟨_,_,rfl⟩:=zgt hl;exact h _ _ _ _ _ _ _ _
theorem zfL {a b c:Str} (F:Fun K x x st f fd) (h:∀ (kV dc pm:Value) (an:Option Addr) (cd ct u v w:Value),bindArgs (fnY x st kV dc pm an cd ct) ⟨[u,v,w],[]⟩=pure [(a,u),(b,v),(c,w)]):z0l K fd [a,b,c] []:=F.binds fun _ _ _ _ _ _ us hl=>by obtain ⟨_,_,_,rfl⟩:=zhi hl;exact h _ _ _ _ _ _ _ _ _
end
abbrev zbL (P4:Addr):List Tb:=[⟨P4,z9T (z1k z5i),("section_at.<locals>."++"<lambda>":Str)⟩]
theorem all_mk {l:PySem.W.OpenLaw} {w:World} {K:PySem.W.Frag} {h:Heap} {mg:Str→Option Value} {fa f1 f2 f3 f4 f5 f6 f7 f8 f9 f10 f11 f12 f13 f14 f15 f16 f17 f18 f19 f20 f21 f22 f23 f24 f25 f26 f27 f28 f29 f30 f31 f32 f33 f34 f35 f36 f37 f38:Addr} (X:K.In h) (G:h.Ns mainGlobals mg) (hfa:mg "law"=some (.ref fa))
  {od4 an4 od38 an38:Option Addr} {sl4 sl38:Array (Option Value)} {tk1:Tok}
  {oc4 kV4 dc4 pm4 ct4 oc38 kV38 dc38 pm38 ct38 cd38:Value}
  {cc4 P4:Addr}
  (h1:FA K f1 "same_letters" zbT)
  (h2:FA K f2 "still" z8L)
  (h3:FA K f3 "breadth" z4c)
  (a4:PySem.W.nsIn K mainGlobals "section_at"=some (some (.ref f4))) (l4:K.lookup f4=some ⟨oc4,od4,.func (PySem.W.fnOf "section_at" "section_at" (z1V z5i) (z1k z5i) (z06 z5i) .none kV4 dc4 pm4 an4 (.ref cc4) ct4),sl4⟩) (c4:PySem.W.codeIn K (.ref cc4) "section_at"=true) (k4:PySem.W.keepIn K (.ref f4)=true)
  (h5:FA K f5 "read_from" z9b)
  (h6:FA K f6 "least_form" z90)
  (h7:FA K f7 "rows_come_to" z9Y)
  (h8:FA K f8 "kinds_of_rows" z5q)
  (h9:FA K f9 "kinds_gone_to" zaF)
  (h10:FA K f10 "numbered" z2m)
  (h11:FA K f11 "check_word" z4U)
  (h12:FA K f12 "check_endless" z47)
  (h13:FA K f13 "check_ring" zcl)
  (h14:FA K f14 "plain_word" z6b)
  (h15:FA K f15 "least_ring" z6u)
  (h16:FA K f16 "count_ringed" z63)
  (h17:FA K f17 "letter_at" z3s)
  (h18:FA K f18 "behind" z5Q)
  (h19:FA K f19 "lasting" z3o)
  (h20:FA K f20 "comes_again" z4L)
  (h21:FA K f21 "gone_to" z6p)
  (h22:FA K f22 "depth" z7h)
  (h23:FA K f23 "is_still" z49)
  (h24:FA K f24 "worn" zcS)
  (h25:FA K f25 "worn_endless" z8P)
  (h26:FA K f26 "strung" z4u)
  (h27:FA K f27 "_law_numbers" z48)
  (h28:FA K f28 "_law_rearranged" zc2)
  (h29:FA K f29 "_law_in_line" z4X)
  (h30:FA K f30 "_law_shrunk" z3O)
  (h31:FA K f31 "_law_cell" zck)
  (h32:FA K f32 "_law_letters" z4m)
  (h33:FA K f33 "_law_rows" z7M)
  (h34:FA K f34 "_law_guise" z8v)
  (h35:FA K f35 "_law_coming" z4p)
  (h36:FA K f36 "_law_word" z78)
  (h37:FA K f37 "_law_down" zb9)
  (a38:PySem.W.nsIn K mainGlobals "law"=some (some (.ref f38))) (l38:K.lookup f38=some ⟨oc38,od38,.func (PySem.W.fnOf "law" "law" (z1V z9S) (z1k z9S) (z06 z9S) .none kV38 dc38 pm38 an38 cd38 ct38),sl38⟩) (c38:PySem.W.codeIn K cd38 "law"=true) (k38:PySem.W.keepIn K (.ref f38)=true)
  (t4:PySem.W.codeHdIn K cc4 P4=true) (u4:K.lookup P4=none)
  (nP:([P4]:List Addr).Nodup)
  (i1:PySem.W.nsIn K mainGlobals "MOST_FORM_ROWS"=some (some (.int 60 tk1)))
  (z1:PySem.W.nsIn K mainGlobals "len"=some none)
  (z2:PySem.W.nsIn K mainGlobals "tuple"=some none)
  (z3:PySem.W.nsIn K mainGlobals "list"=some none)
  (z4:PySem.W.nsIn K mainGlobals "range"=some none)
  (z5:PySem.W.nsIn K mainGlobals "isinstance"=some none)
  (z6:PySem.W.nsIn K mainGlobals "int"=some none)
  (z7:PySem.W.nsIn K mainGlobals "bool"=some none)
  (z8:PySem.W.nsIn K mainGlobals "str"=some none)
  (z9:PySem.W.nsIn K mainGlobals "all"=some none)
  (z10:PySem.W.nsIn K mainGlobals "any"=some none)
  (z11:PySem.W.nsIn K mainGlobals "sorted"=some none)
  (z12:PySem.W.nsIn K mainGlobals "zip"=some none)
  (z13:PySem.W.nsIn K mainGlobals "max"=some none)
  (z14:PySem.W.nsIn K mainGlobals "min"=some none)
  (z15:PySem.W.nsIn K mainGlobals "enumerate"=some none)
  (z16:PySem.W.nsIn K mainGlobals "abs"=some none)
  {CtTooMany:Addr} (yTooMany:PySem.W.nsIn K mainGlobals "TooMany"=some (some (.ref CtTooMany))) (xTooMany:PySem.W.excIn K CtTooMany [.type "ValueError",.type "Exception",.type "BaseException",.type "object"] "ValueError.__new__"=true)
  {CtBadWord:Addr} (yBadWord:PySem.W.nsIn K mainGlobals "BadWord"=some (some (.ref CtBadWord))) (xBadWord:PySem.W.excIn K CtBadWord [.type "ValueError",.type "Exception",.type "BaseException",.type "object"] "ValueError.__new__"=true)
  {CtBadCount:Addr} (yBadCount:PySem.W.nsIn K mainGlobals "BadCount"=some (some (.ref CtBadCount))) (xBadCount:PySem.W.excIn K CtBadCount [.type "ValueError",.type "Exception",.type "BaseException",.type "object"] "ValueError.__new__"=true)
  : ∃ fd:FuncData,(∀ (s:Shared) (v:Value),BindsTo s fd ⟨[v],[]⟩ [("_law_script",v)])∧(∀ T∈(zbL P4),K.lookup T.at_=none∧∃ c,PySem.W.codeHdIn K c T.at_=true)∧∀ base:Heap,K.In base→base.Ns mainGlobals mg→z6D base mg→z0y l.prog w K mg base (CXx l.prog w) 10 fa fd ["_law_script"] (z8W (zbL P4) K):=by
 have e:=hfa.symm.trans (PySem.W.mg_of X G a38)
 cases e
 obtain ⟨d1,F1,m1,k1⟩:=h1.go X G
 have b1:z0l K d1 ["letters"] []:=zbK F1 fun _ _ _ _ _ _ _=>rfl
 obtain ⟨d2,F2,m2,k2⟩:=h2.go X G
 have b2:z0l K d2 ["letters"] []:=zbK F2 fun _ _ _ _ _ _ _=>rfl
 obtain ⟨d3,F3,m3,k3⟩:=h3.go X G
 have b3:z0l K d3 ["guise"] []:=zbK F3 fun _ _ _ _ _ _ _=>rfl
 have F4:=zaN (st:=z5i) l4 c4 k4
 have b4:=F4.binds (ps:=["guise","row"]) fun _ _ _ _ _ _ us hl=>by obtain ⟨a0,a1,rfl⟩:=zgt hl;rfl
 have m4:=PySem.W.mg_of X G a4
 obtain ⟨d5,F5,m5,k5⟩:=h5.go X G
 have b5:z0l K d5 ["guise","row","word"] []:=zfL F5 fun _ _ _ _ _ _ _ _ _=>rfl
 obtain ⟨d6,F6,m6,k6⟩:=h6.go X G
 have b6:z0l K d6 ["first","row_at"] []:=z5c F6 fun _ _ _ _ _ _ _ _=>rfl
 obtain ⟨d7,F7,m7,k7⟩:=h7.go X G
 have b7:z0l K d7 ["first","row_at"] []:=z5c F7 fun _ _ _ _ _ _ _ _=>rfl
 obtain ⟨d8,F8,m8,k8⟩:=h8.go X G
 have b8:z0l K d8 ["rows"] []:=zbK F8 fun _ _ _ _ _ _ _=>rfl
 obtain ⟨d9,F9,m9,k9⟩:=h9.go X G
 have b9:z0l K d9 ["kinds","goings"] []:=z5c F9 fun _ _ _ _ _ _ _ _=>rfl
 obtain ⟨d10,F10,m10,k10⟩:=h10.go X G
 have b10:z0l K d10 ["things"] []:=zbK F10 fun _ _ _ _ _ _ _=>rfl
 obtain ⟨d11,F11,m11,k11⟩:=h11.go X G
 have b11:z0l K d11 ["letters","word"] []:=z5c F11 fun _ _ _ _ _ _ _ _=>rfl
 obtain ⟨d12,F12,m12,k12⟩:=h12.go X G
 have b12:z0l K d12 ["letters","endless"] []:=z5c F12 fun _ _ _ _ _ _ _ _=>rfl
 obtain ⟨d13,F13,m13,k13⟩:=h13.go X G
 have b13:z0l K d13 ["ring"] []:=zbK F13 fun _ _ _ _ _ _ _=>rfl
 obtain ⟨d14,F14,m14,k14⟩:=h14.go X G
 have b14:z0l K d14 ["beginning","ring"] []:=z5c F14 fun _ _ _ _ _ _ _ _=>rfl
 obtain ⟨d15,F15,m15,k15⟩:=h15.go X G
 have b15:z0l K d15 ["ring"] []:=zbK F15 fun _ _ _ _ _ _ _=>rfl
 obtain ⟨d16,F16,m16,k16⟩:=h16.go X G
 have b16:z0l K d16 ["beginning","ring"] []:=z5c F16 fun _ _ _ _ _ _ _ _=>rfl
 obtain ⟨d17,F17,m17,k17⟩:=h17.go X G
 have b17:z0l K d17 ["endless","place"] []:=z5c F17 fun _ _ _ _ _ _ _ _=>rfl
 obtain ⟨d18,F18,m18,k18⟩:=h18.go X G
 have b18:z0l K d18 ["guise","word"] []:=z5c F18 fun _ _ _ _ _ _ _ _=>rfl
 obtain ⟨d19,F19,m19,k19⟩:=h19.go X G
 have b19:z0l K d19 ["guise"] []:=zbK F19 fun _ _ _ _ _ _ _=>rfl
 obtain ⟨d20,F20,m20,k20⟩:=h20.go X G
 have b20:z0l K d20 ["guise","row"] []:=z5c F20 fun _ _ _ _ _ _ _ _=>rfl
 obtain ⟨d21,F21,m21,k21⟩:=h21.go X G
 have b21:z0l K d21 ["guise","rows"] []:=z5c F21 fun _ _ _ _ _ _ _ _=>rfl
 obtain ⟨d22,F22,m22,k22⟩:=h22.go X G
 have b22:z0l K d22 ["guise"] []:=zbK F22 fun _ _ _ _ _ _ _=>rfl
 obtain ⟨d23,F23,m23,k23⟩:=h23.go X G
 have b23:z0l K d23 ["guise","row"] []:=z5c F23 fun _ _ _ _ _ _ _ _=>rfl
 obtain ⟨d24,F24,m24,k24⟩:=h24.go X G
 have b24:z0l K d24 ["guise","word"] []:=z5c F24 fun _ _ _ _ _ _ _ _=>rfl
 obtain ⟨d25,F25,m25,k25⟩:=h25.go X G
 have b25:z0l K d25 ["guise","endless"] []:=z5c F25 fun _ _ _ _ _ _ _ _=>rfl
 obtain ⟨d26,F26,m26,k26⟩:=h26.go X G
 have b26:z0l K d26 ["laps"] []:=zbK F26 fun _ _ _ _ _ _ _=>rfl
 obtain ⟨d27,F27,m27,k27⟩:=h27.go X G
 have b27:z0l K d27 ["_law_cell_here","_law_many"] []:=z5c F27 fun _ _ _ _ _ _ _ _=>rfl
 obtain ⟨d28,F28,m28,k28⟩:=h28.go X G
 have b28:z0l K d28 ["_law_pick","_law_letters_here"] []:=z5c F28 fun _ _ _ _ _ _ _ _=>rfl
 obtain ⟨d29,F29,m29,k29⟩:=h29.go X G
 have b29:z0l K d29 ["_law_rows_here","_law_line","_law_marks"] []:=zfL F29 fun _ _ _ _ _ _ _ _ _=>rfl
 obtain ⟨d30,F30,m30,k30⟩:=h30.go X G
 have b30:z0l K d30 ["_law_rows_here","_law_start"] []:=z5c F30 fun _ _ _ _ _ _ _ _=>rfl
 obtain ⟨d31,F31,m31,k31⟩:=h31.go X G
 have b31:z0l K d31 ["_law_script","_law_at"] []:=z5c F31 fun _ _ _ _ _ _ _ _=>rfl
 obtain ⟨d32,F32,m32,k32⟩:=h32.go X G
 have b32:z0l K d32 ["_law_script","_law_at"] []:=z5c F32 fun _ _ _ _ _ _ _ _=>rfl
 obtain ⟨d33,F33,m33,k33⟩:=h33.go X G
 have b33:z0l K d33 ["_law_letters_here","_law_cell_here"] []:=z5c F33 fun _ _ _ _ _ _ _ _=>rfl
 obtain ⟨d34,F34,m34,k34⟩:=h34.go X G
 have b34:z0l K d34 ["_law_letters_here","_law_cell_here"] []:=z5c F34 fun _ _ _ _ _ _ _ _=>rfl
 obtain ⟨d35,F35,m35,k35⟩:=h35.go X G
 have b35:z0l K d35 ["_law_letters_here","_law_cell_here","_law_most"] []:=zfL F35 fun _ _ _ _ _ _ _ _ _=>rfl
 obtain ⟨d36,F36,m36,k36⟩:=h36.go X G
 have b36:z0l K d36 ["_law_letters_here","_law_cell_here","_law_most"] []:=zfL F36 fun _ _ _ _ _ _ _ _ _=>rfl
 obtain ⟨d37,F37,m37,k37⟩:=h37.go X G
 have b37:z0l K d37 ["_law_letters_here","_law_cell_here"] []:=z5c F37 fun _ _ _ _ _ _ _ _=>rfl
 have F38:=zaN (st:=z9S) l38 c38 k38
 have m38:=PySem.W.mg_of X G a38
 have mTooMany:=PySem.W.mg_of X G yTooMany
 have mBadWord:=PySem.W.mg_of X G yBadWord
 have mBadCount:=PySem.W.mg_of X G yBadCount
 have j1:=PySem.W.mg_of X G i1
 have n_len:=PySem.W.mg_none_of X G z1
 have n_tuple:=PySem.W.mg_none_of X G z2
 have n_list:=PySem.W.mg_none_of X G z3
 have n_range:=PySem.W.mg_none_of X G z4
 have n_isinstance:=PySem.W.mg_none_of X G z5
 have n_int:=PySem.W.mg_none_of X G z6
 have n_bool:=PySem.W.mg_none_of X G z7
 have n_str:=PySem.W.mg_none_of X G z8
 have n_all:=PySem.W.mg_none_of X G z9
 have n_any:=PySem.W.mg_none_of X G z10
 have n_sorted:=PySem.W.mg_none_of X G z11
 have n_zip:=PySem.W.mg_none_of X G z12
 have n_max:=PySem.W.mg_none_of X G z13
 have n_min:=PySem.W.mg_none_of X G z14
 have n_enumerate:=PySem.W.mg_none_of X G z15
 have n_abs:=PySem.W.mg_none_of X G z16
 have B:Blt mg:=⟨n_len,n_tuple,n_list,n_range,n_isinstance,n_int,n_bool,n_str,n_all⟩
 refine ⟨PySem.W.fnOf "law" "law" (z1V z9S) (z1k z9S) (z06 z9S) .none kV38 dc38 pm38 an38 cd38 ct38,fun s v=>.of_eq rfl,?_,fun base hK _ hBM=>?_⟩
 ·simp only [zbL,List.forall_mem_cons]
  exact ⟨⟨u4,cc4,t4⟩,fun _ h=>absurd h (by simp)⟩
 have O1:z0y l.prog w K mg base (CXx l.prog w) 1 f1 _ ["letters"] (z8Y K):=ze4 F1 B.tup B.rng
 have O10:z0y l.prog w K mg base (CXx l.prog w) 1 f10 _ ["things"] (z3E K):=z86 F10 B.len
 have O9:z0y l.prog w K mg base (CXx l.prog w) 1 f9 _ ["kinds","goings"] (z8S K):=ze6 F9 B.tup
 have O8:z0y l.prog w K mg base (CXx l.prog w) 2 f8 _ ["rows"] (z6d K CtTooMany):=zbB mTooMany xTooMany PySem.F.excBase_ValueError F8 n_zip n_max j1 O10 b10 k10 m10 O9 b9 k9 m9
 have O2:z0y l.prog w K mg base (CXx l.prog w) 2 f2 _ ["letters"] (z7W K):=zcG F2 O1 b1 k1 m1
 have O3:z0y l.prog w K mg base (CXx l.prog w) 1 f3 _ ["guise"] (z2l K):=z9B F3 B.len
 have O7F:z0y l.prog w K mg base (CXx l.prog w) 5 f7 _ ["first","row_at"] (z7O l.prog w K mg base (CXx l.prog w) 4):=zcA F7 B.len B.tup
 have O6F:z0y l.prog w K mg base (CXx l.prog w) 6 f6 _ ["first","row_at"] (z61 l.prog w K mg base (CXx l.prog w) 4 CtTooMany):=((zaC F6 B.len B.tup n_zip (O7F.sub zfn) b7 k7 m7 (O8.mono (by decide)) b8 k8 m8 (O9.mono (by decide)) b9 k9 m9).sub zdV)
 have O11:z0y l.prog w K mg base (CXx l.prog w) 1 f11 _ ["letters","word"] (z3A K CtBadWord):=zaU mBadWord xBadWord PySem.F.excBase_ValueError F11 n_any
 have O5:z0y l.prog w K mg base (CXx l.prog w) 1 f5 _ ["guise","row","word"] (z4Y K):=zc3 F5 B.tup
 have O4:z0y l.prog w K mg base (CXx l.prog w) 7 f4 _ ["guise","row"] (z8X (zbL P4) K):=zdZ F4 rfl (PySem.W.codeHd_of_K hK t4) hBM List.mem_cons_self (zdB nP List.mem_cons_self) rfl rfl O6F b6 k6 m6
 have O18:z0y l.prog w K mg base (CXx l.prog w) 8 f18 _ ["guise","word"] (z6t (zbL P4) K CtBadWord):=zbv F18 (O11.mono (by decide)) b11 k11 m11 (O3.mono (by decide)) b3 k3 m3 (O5.mono (by decide)) b5 k5 m5 O4 b4 k4 m4
 have O24:z0y l.prog w K mg base (CXx l.prog w) 2 f24 _ ["guise","word"] (zaY K CtBadWord):=ze2 F24 O11 b11 k11 m11 O3 b3 k3 m3 O5 b5 k5 m5
 have O15:z0y l.prog w K mg base (CXx l.prog w) 1 f15 _ ["ring"] (z56 K):=z7a F15 B.len
 have O16:z0y l.prog w K mg base (CXx l.prog w) 1 f16 _ ["beginning","ring"] (z6c K):=zbl F16 B.len
 have O13:z0y l.prog w K mg base (CXx l.prog w) 1 f13 _ ["ring"] (z8U K CtBadWord):=zdU mBadWord xBadWord PySem.F.excBase_ValueError F13 B.len
 have O14:z0y l.prog w K mg base (CXx l.prog w) 2 f14 _ ["beginning","ring"] (z4G K CtBadWord):=zbH F14 B.len O13 b13 k13 m13 O15 b15 k15 m15 O16 b16 k16 m16
 have O12:z0y l.prog w K mg base (CXx l.prog w) 2 f12 _ ["letters","endless"] (z65 K):=zbh F12 O13 b13 k13 m13 O11 b11 k11 m11
 have O17:z0y l.prog w K mg base (CXx l.prog w) 1 f17 _ ["endless","place"] (z3L K CtBadCount):=z80 mBadCount xBadCount PySem.F.excBase_ValueError F17 B.len
 have O26:z0y l.prog w K mg base (CXx l.prog w) 1 f26 _ ["laps"] (z60 K):=zaw F26 B.tup
 have O25:z0y l.prog w K mg base (CXx l.prog w) 3 f25 _ ["guise","endless"] (z7V K):=zbP F25 B.len (O12.mono (by decide)) b12 k12 m12 (O3.mono (by decide)) b3 k3 m3 (O5.mono (by decide)) b5 k5 m5 (O14.mono (by decide)) b14 k14 m14 (O26.mono (by decide)) b26 k26 m26
 have O21:z0y l.prog w K mg base (CXx l.prog w) 1 f21 _ ["guise","rows"] (z4i K):=zav B.lst F21
 have O23:z0y l.prog w K mg base (CXx l.prog w) 2 f23 _ ["guise","row"] (z57 K):=z9D F23 O3 b3 k3 m3 O1 b1 k1 m1
 have O22:z0y l.prog w K mg base (CXx l.prog w) 3 f22 _ ["guise"] (z83 K):=zcB B.len B.rng F22 O23 b23 k23 m23 (O21.mono (by decide)) b21 k21 m21
 have O20:z0y l.prog w K mg base (CXx l.prog w) 2 f20 _ ["guise","row"] (z6y K):=zac B.len F20 O21 b21 k21 m21
 have O19:z0y l.prog w K mg base (CXx l.prog w) 8 f19 _ ["guise"] (z4F (zbL P4) K):=z9v B.len B.rng F19 O4 b4 k4 m4 (O20.mono (by decide)) b20 k20 m20
 have O31:z0y l.prog w K mg base (CXx l.prog w) 1 f31 _ ["_law_script","_law_at"] (z8I K):=ze7 F31 B.len
 have O32:z0y l.prog w K mg base (CXx l.prog w) 2 f32 _ ["_law_script","_law_at"] (z4S K):=z9G F32 O31 b31 k31 m31
 have O27:z0y l.prog w K mg base (CXx l.prog w) 1 f27 _ ["_law_cell_here","_law_many"] (z2k K):=z9H F27 B.len
 have O28:z0y l.prog w K mg base (CXx l.prog w) 1 f28 _ ["_law_pick","_law_letters_here"] (z8K K):=zdY F28 B.len B.tup B.rng B.lst
 have O33:z0y l.prog w K mg base (CXx l.prog w) 2 f33 _ ["_law_letters_here","_law_cell_here"] (zbG K):=ze1 F33 B.rng B.tup n_min O27 b27 k27 m27 O28 b28 k28 m28
 have O29:z0y l.prog w K mg base (CXx l.prog w) 1 f29 _ ["_law_rows_here","_law_line","_law_marks"] (z4n K):=z9z F29 B.len B.tup
 have O30:z0y l.prog w K mg base (CXx l.prog w) 2 f30 _ ["_law_rows_here","_law_start"] (z4z K):=z9K F30 B.len B.tup O29 b29 k29 m29
 have O34:z0y l.prog w K mg base (CXx l.prog w) 3 f34 _ ["_law_letters_here","_law_cell_here"] (z7K K):=zcq F34 O33 b33 k33 m33 ((O30.mono (by decide)).sub z5p) b30 k30 m30
 have O36:z0y l.prog w K mg base (CXx l.prog w) 2 f36 _ ["_law_letters_here","_law_cell_here","_law_most"] (z8g K):=zbX F36 B.tup O27 b27 k27 m27
 have O35:z0y l.prog w K mg base (CXx l.prog w) 2 f35 _ ["_law_letters_here","_law_cell_here","_law_most"] (z5P K):=zbD F35 B.len B.tup O27 b27 k27 m27
 have O37:z0y l.prog w K mg base (CXx l.prog w) 4 f37 _ ["_law_letters_here","_law_cell_here"] (zam K):=zdC F37 B.rng B.tup n_min (O27.mono (by decide)) b27 k27 m27 (O28.mono (by decide)) b28 k28 m28 ((O30.mono (by decide)).sub z5p) b30 k30 m30
 exact zfA B.len B.rng n_max F38 (O31.mono (by decide)) b31 k31 m31 (O32.mono (by decide)) b32 k32 m32 (O34.mono (by decide)) b34 k34 m34 (O37.mono (by decide)) b37 k37 m37 (O22.mono (by decide)) b22 k22 m22 (O19.mono (by decide)) b19 k19 m19 (O2.mono (by decide)) b2 k2 m2 (O35.mono (by decide)) b35 k35 m35 (O25.mono (by decide)) b25 k25 m25 (O17.mono (by decide)) b17 k17 m17 (O36.mono (by decide)) b36 k36 m36 (O24.mono (by decide)) b24 k24 m24 (O18.mono (by decide)) b18 k18 m18
theorem walk {l:PySem.W.OpenLaw} {q:Program} {loose:List Str} {XP:(Str→Option Value)→Heap→Prop} {YP:World→Heap→Prop} {d:DefRec} {K:Params→PySem.W.Frag} {P4:Addr} (hn:l.most=some 63) (hdf:d.params.defaults=[])
  (hY:∀ (w:World) (h:Heap),YP w h→(K w.params).In h∧∀ P∈([P4]:List Addr),h.get? P=some (PySem.W.tabObj #[]))
  (F:∀ (w:World) (mg:Str→Option Value) (fa:Addr) (h:Heap),(K w.params).In h→h.Ns mainGlobals mg→mg d.name=some (.ref fa) →
   ∃ fd:FuncData,(∀ (s:Shared) (u:Value),BindsTo s fd ⟨[u],[]⟩ [("_law_script",u)])∧(∀ T∈(zbL P4),(K w.params).lookup T.at_=none∧∃ c,PySem.W.codeHdIn (K w.params) c T.at_=true)∧∀ base:Heap,(K w.params).In base→base.Ns mainGlobals mg→z6D base mg→z0y l.prog w (K w.params) mg base (CXx l.prog w) 10 fa fd ["_law_script"] (z8W (zbL P4) (K w.params))) :
  PySem.W.WalkO q loose XP YP l.row.toRowW d [] (fun f vs=>PySem.call f vs) :=
 L2.walk_of2 (Ts:=(zbL P4)) (n:=63) (k:=10) (x:="_law_script") (CX:=fun w=>(CXx l.prog w)) (sp:=fun w=>z8W (zbL P4) (K w.params)) hn (by decide) hdf ⟨rfl,by decide,by decide⟩ hY F (fun _ _ a ns hl hT hS=>⟨a,ns,rfl,hS,hl,hT,fun _=>rfl⟩) fun _ _ _ _ _ z=>(by obtain ⟨_,_,_,_,_,_,_,_,_,h⟩:=z;exact h)
end Gu
open PySem PySem.W PyProof.Rows
set_option maxRecDepth 100000 in
set_option maxHeartbeats 0 in
theorem PySem.Challenge.cw_guisery_k35_whole_depths_holds : PySem.Challenge.rw_guisery_k35_whole_depths.Holds := by
 w_on;o_law;refine holds_open (q:=Gu.viewOf Gu.pY) (loose:=[]) (Xt:=fun s=>xlAt (Gu.viewOf Gu.pY) [] s && recOk (RowW.records Gu.rY.toRowW) s) (XP:=XL (Gu.viewOf Gu.pY) []) (Yf:=Hook.obs Gu.HK) (Ya:=Hook.val Gu.HK) (YP:=Hook.says (PySem.W.kmHook Gu.KH Gu.KA (fun _=>by kernel_rfl) [86])) (N:=4178) Gu.left (Hook.of Gu.HK) (Hook.keeps Gu.HK) (fun s e=>xl_of s (Bool.and_eq_true_iff.mp e).1) XL.keeps (by rfl) (by rfl) (by rfl) (fun s e=>recFacts_of (Bool.and_eq_true_iff.mp e).2) (by rfl) (by first | assumption | decide +kernel) (by decide +kernel) ⟨rfl,rfl,rfl,rfl,rfl,by decide +kernel⟩ ?hw ?hc;(case hw=>w_witness2)
 k_fill
 refine Gu.walk (l:=PySem.Challenge.rw_guisery_k35_whole_depths) rfl rfl (fun w h Y=>⟨PySem.W.km_in_of Y,PySem.W.km_tabs_of Y⟩) ?F
 case F =>
  intro w mg fa h KX G hmg
  refine' Gu.all_mk KX G hmg ?h1 ?h2 ?h3 ?a4 ?l4 ?c4 ?k4 ?h5 ?h6 ?h7 ?h8 ?h9 ?h10 ?h11 ?h12 ?h13 ?h14 ?h15 ?h16 ?h17 ?h18 ?h19 ?h20 ?h21 ?h22 ?h23 ?h24 ?h25 ?h26 ?h27 ?h28 ?h29 ?h30 ?h31 ?h32 ?h33 ?h34 ?h35 ?h36 ?h37 ?a38 ?l38 ?c38 ?k38 ?t4 ?u4 ?nP ?i1 ?z1 ?z2 ?z3 ?z4 ?z5 ?z6 ?z7 ?z8 ?z9 ?z10 ?z11 ?z12 ?z13 ?z14 ?z15 ?z16 ?yTooMany ?xTooMany ?yBadWord ?xBadWord ?yBadCount ?xBadCount
  all_goals try (refine' Gu.FA.of ?_ ?_ ?_ ?_<;>try k_is)
  (case a4=>k_is);(case l4=>k_is);(case c4=>k_is);(case k4=>k_is)
  (case a38=>k_is);(case l38=>k_is);(case c38=>k_is);(case k38=>k_is)
  (case t4=>(first | kernel_rfl | k_is))
  (case u4=>(first | kernel_rfl | k_is))
  (case nP=>decide)
  (case i1=>k_is)
  (case z1=>k_is)
  (case z2=>k_is)
  (case z3=>k_is)
  (case z4=>k_is)
  (case z5=>k_is)
  (case z6=>k_is)
  (case z7=>k_is)
  (case z8=>k_is)
  (case z9=>k_is)
  (case z10=>k_is)
  (case z11=>k_is)
  (case z12=>k_is)
  (case z13=>k_is)
  (case z14=>k_is)
  (case z15=>k_is)
  (case z16=>k_is)
  (case yTooMany=>k_is)
  (case xTooMany=>k_exc)
  (case yBadWord=>k_is)
  (case xBadWord=>k_exc)
  (case yBadCount=>k_is)
  (case xBadCount=>k_exc)
