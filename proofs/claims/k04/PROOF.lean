import PyProof.Rows.All
import Wide.All
import OpenK.AllK
import Wide.FinOn
import Lean
import PyProof.EqAt
import PyProof.EqKinds
import PyProof.TupleCall
import PyProof.ListRange
import PyProof.TupleOfSeq
import PyProof.ConsumeWalk
import PyProof.WalksMore
import PyProof.Draws
import PyProof.EnumMake
import PyProof.ZipIter
import PyProof.Rows.EnumRows
import PyProof.Rows.FactsT2
import PyProof.MeetsSeq3
import PyProof.DictRoadsH
import PyProof.Rows.TupTab
import PyProof.Rows.SortWalk
import PyProof.Rows.SeqCalls
import PyProof.ListMulRoad
import KE.KDictLaws
import OpenK.KRaise
import KE.KLam
import KE.KNestM
import PyProof.StrLawsTight
import PyProof.Rows.StrSplitMax
import PyProof.StrCalls2
import PyProof.StrWalks
import PyProof.Rows.StrJoin2
import KE.KIntText
import KE.KUnpackStar
import KE.KTab
import PyProof.Rows.SortRuns
import PyProof.Rows.SetFrom
import KE.KDictList
import PyProof.IsRules
import PyProof.DictCompW
import KE.KSortKey
import KE.KSortTup
import PyProof.Rows.StrTempNeg
import PyProof.StrBlockH
import PyProof.StrOps2
import PyProof.DictUpdate
import KE.KListMore
import PyProof.Rows.CatFin
import PyProof.Rows.StrClose5
import PyProof.FString
import PyProof.Rows.FStr
import PyProof.TupleIter
import PyProof.MinMaxWalk
import PySem.Challenge.RW_guisery_k04_machines_refused
set_option Elab.async false
set_option linter.all false
set_option maxRecDepth 100000
set_option maxHeartbeats 4000000
def y00:=@List.length_map
def y01:=@List.getElem?_eq_getElem
def y02:=@PySem.wpAny_bind
def y03:=@PySem.Heap.get?_push_of_some
def y04:=@List.map_append
def y05:=@List.getElem?_eq_some_iff
def y06:=@List.length_append
def y07:=@PySem.wpAny_pure
def y08:=@List.getElem?_map
def y09:=@PySem.Heap.get?_push_size
def y0a:=@Nat.le_refl
def y0b:=@PySem.Heap.lt_size
def y0c:=@List.mem_append_right
def y0d:=@Option.some.inj
def y0e:=@List.mem_map
def y0f:=@List.mem_cons_of_mem
def y0g:=@List.size_toArray
def y0h:=@Nat.lt_of_lt_of_le
def y0i:=@List.map_cons
def y0j:=@List.getD_eq_getElem?_getD
def y0k:=@List.length_take
def y0l:=@of_decide_eq_true
def y0m:=@List.length_cons
def y0n:=@List.getElem_mem
def y0o:=@List.mem_cons
def y0p:=@List.length_singleton
def y0q:=@Nat.ne_of_lt
def y0r:=@List.mem_singleton
def y0s:=@List.take_of_length_le
def y0t:=@Nat.zero_le
def y0u:=@Bool.false_ne_true
def y0v:=@List.take_add_one
def y0w:=@Nat.le_trans
def y0x:=@List.mem_append_left
def y0y:=@PySem.boot_len
def y0z:=@List.mem_cons_self
def y0A:=@PySem.F.plainAttrs_list
def y0B:=@PySem.wpAny_mono
def y0C:=@PySem.F.slot_list_append
def y0D:=@PySem.F.type_list_append
def y0E:=@List.map_congr_left
def y0F:=@PySem.W.mg_of
def y0G:=@List.mem_append
def y0H:=@List.map_singleton
def y0I:=@PySem.W.hideAll_none
def y0J:=@decide_eq_false
def y0K:=@Bool.eq_false_iff
def y0L:=@of_decide_eq_false
def y0M:=@PySem.W.mg_none_of
def y0N:=@PyProof.Rows.boot_tuple
def y0O:=@List.mem_of_getElem?
def y0P:=@PySem.wpAny_newObj_type
def y0Q:=@List.lookup_cons
def y0R:=@List.map_map
def y0S:=@List.getElem?_eq_none
def y0T:=@PySem.mem_of_lookup
def y0U:=@decide_eq_true
def y0V:=@List.take_length
def y0W:=@PyProof.Rows.slot_tuple_getitem
def y0X:=@List.idxOf_lt_length_of_mem
def y0Y:=@Bool.false_eq_true
def y0Z:=@List.map_nil
def y10:=@PySem.F.excBase_ValueError
def y11:=@PySem.wpAny_callSpecial?_slot
def y12:=@PySem.W.kia_one
def y13:=@Bool.and_eq_true
def y14:=@List.append_assoc
def y15:=@Option.map_eq_some_iff
def y16:=@PySem.PassesOwn.never
def y17:=@PySem.wpAny_truthy_bool
def y18:=@List.length_eq_zero_iff
def y19:=@Int.emod_lt_of_pos
def y1a:=@List.getElem?_append_left
def y1b:=@List.getElem?_zip_eq_some
def y1c:=@Nat.lt_irrefl
def y1d:=@PySem.wpAny_call_entry
def y1e:=@List.replicate_succ
def y1f:=@List.getElem_of_mem
def y1g:=@PySem.Heap.size_push
def y1h:=@Ne.symm
def y1i:=@PySem.wpAny_holding
def y1j:=@PySem.wpAny_field
def y1k:=@Nat.lt_of_le_of_lt
def y1l:=@Int.emod_nonneg
def y1m:=@True.intro
def y1n:=@congrArg
def y1o:=@beq_eq_false_iff_ne
def y1p:=@List.flatten_cons
def y1q:=@List.getElem?_eq_none_iff
def y1r:=@PySem.wpAny_ite_split
def y1s:=@PySem.wpAny_Call_Name_kw
def y1t:=@Option.toList_some
def y1u:=@List.reverse_reverse
def y1v:=@Nat.mul_le_mul_right
def y1w:=@PySem.wpAny_standAt
def y1x:=@PyProof.Rows.boot_range
def y1y:=@Nat.le_of_lt
def y1z:=@PyProof.Rows.callWith_type1
def y1A:=@List.append_nil
def y1B:=@PySem.F.slot_int_rmul
def y1C:=@List.find?_cons
def y1D:=@PyProof.Rows.boot_list
def y1E:=@PySem.F.slot_tuple_iterator_next
def y1F:=@List.length_replicate
def y1G:=@List.getElem_idxOf
def y1H:=@PyProof.Rows.boot_str
def y1I:=@PySem.wpAny_binaryOp_repeat_ref
def y1J:=@PySem.wpAny_seqItems
def y1K:=@PySem.wpAny_passesOwn
def y1L:=@Bool.eq_iff_iff
def y1M:=@beq_iff_eq
def y1N:=@List.nodup_cons
def y1O:=@PySem.wpAny_comprehension_free
def y1P:=@List.filterMap_cons
def y1Q:=@Array.length_toList
def y1R:=@List.length_drop
def y1S:=@PySem.call_meets
def y1T:=@List.length_pos_of_mem
def y1U:=@PySem.F.plainAttrs_str
def y1V:=@PySem.W.of_hideAll
def y1W:=@PySem.wpAny_pyIter_tuple
def y1X:=@PySem.W.callWith_K
def y1Y:=@PySem.tupleKind_room_in1
def y1Z:=@PySem.wpAny_setField_rec
def y20:=@List.nil_append
def y21:=@PySem.F.slot_str_join
def y22:=@PySem.F.type_str_join
def y23:=@PySem.Paired.length
def y24:=@Option.isSome_map
def y25:=@List.getElem?_append_right
def y26:=@List.nodup_iff_pairwise_ne
def y27:=@List.length_eraseIdx_of_lt
def y28:=@PySem.wpAny_newFunctionEnv
def y29:=@List.mem_of_mem_take
def y2a:=@PySem.F.slot_dict_getitem
def y2b:=@List.all_eq_true
def y2c:=@PySem.F.slot_tuple_mul
def y2d:=@PySem.sizeLine_eq
def y2e:=@Nat.add_eq_zero_iff
def y2f:=@PySem.codeAny_mono
def y2g:=@List.getElem?_take_of_lt
def y2h:=@PySem.F.args_tuple_add_2
def y2i:=@PySem.typeIs_int
def y2j:=@PySem.wpAny_execs_nil
def y2k:=@List.mem_filterMap
def y2l:=@PySem.F.entry_tuple_add
def y2m:=@List.length_nil
def y2n:=@List.idxOf_cons
def y2o:=@Int.eq_ofNat_of_zero_le
def y2p:=@PySem.Str.length_append
def y2q:=@List.getElem?_set_self
def y2r:=@PySem.F.slot_tuple_add
def y2s:=@PySem.Calls.callWith_builtin
def y2t:=@Array.getElem?_eq_none
def y2u:=@Int.toNat_natCast
def y2v:=@PySem.F.args_int_rmul_2
def y2w:=@Nat.lt_succ_of_lt
def y2x:=@PySem.F.slot_tuple_hash
def y2y:=@List.foldl_append
def y2z:=@List.reverse_cons
def y2A:=@PySem.F.slot_dict_get
def y2B:=@List.take_append_drop
def y2C:=@PySem.codeAny_handlers_test
def y2D:=@PyProof.Rows.boot_max
def y2E:=@PySem.F.slot_int_index
def y2F:=@PySem.F.entry_int_rmul
def y2G:=@List.any_eq_true
def y2H:=@PySem.wpAny_pyIter_zip
def y2I:=@PySem.Heap.get?_none_of_le
def y2J:=@PySem.Calls.evalArgs_plain
def y2K:=@List.of_mem_zip
def y2L:=@PySem.F.fills_int_mul
def y2M:=@PySem.wpAny_specialOf
def y2N:=@List.forIn_cons
def y2O:=@Nat.one_ne_zero
def y2P:=@Nat.not_lt_zero
def y2Q:=@Nat.min_eq_left
def y2R:=@PySem.F.slot_zip_next
def y2S:=@Nat.ne_of_gt
def y2T:=@Nat.lt_trans
abbrev yyF:=PySem.W.Frag
abbrev yyP:=List (PySem.Addr × PySem.Obj)
abbrev yyE:=PySem.Value->PySem.Shared->Prop
abbrev yyS:=PySem.Str->Option PySem.Value
namespace L2
open PySem PySem.Spec PyProof.Rows
abbrev Key:=Sum Int Str
def z8B:Key->Value->Bool
 |.inl k,v=>Value.isInt k v
 |.inr x,v=>Value.isStrOf x v
def zoQ(w:World):Key->Int
 |.inl k=>hashInt k
 |.inr x=>hashStr w x
def z0T:∀{k:Key}{v:Value},z8B k v=true->(∃i t,k=Sum.inl i/\v=Value.int i t)\/(∃x t,k=Sum.inr x/\v=Value.str x t)
 |.inl i,v,h=>by
  obtain⟨t,e⟩:=Value.isInt_shape (k:=i) (v:=v) h;exact .inl ⟨i,t,rfl,e⟩
 |.inr x,v,h=>by obtain⟨t,e⟩:=Value.isStrOf_shape (x:=x) (v:=v) h;exact .inr ⟨x,t,rfl,e⟩
def zao(i:Int)(t:Tok):z8B (.inl i) (.int i t)=true:=by simp[z8B,Value.isInt]
def zb4(x:Str)(t:Tok):z8B (.inr x) (.str x t)=true:=by simp[z8B,Value.isStrOf]
def zfi(a b:Int):decide ((Sum.inl a:Key)=Sum.inl b)=(a==b):=by
 by_cases e:a=b
 .subst e;simp
 .have h:¬(Sum.inl a:Key)=Sum.inl b:=fun q=>e (Sum.inl.inj q);rw[y0J h];exact(y1o.mpr e).symm
def zfC(a b:Str):decide ((Sum.inr a:Key)=Sum.inr b)=decide (a=b):=by
 by_cases e:a=b
 .subst e;simp
 .have h:¬(Sum.inr a:Key)=Sum.inr b:=fun q=>e (Sum.inr.inj q);rw[y0J h,y0J e]
def zeL(a:Int)(b:Str):decide ((Sum.inl a:Key)=Sum.inr b)=false:=y0J (fun q=>nomatch q)
def zfk(a:Str)(b:Int):decide ((Sum.inr a:Key)=Sum.inl b)=false:=y0J (fun q=>nomatch q)
def z0W(prog:Program)(w:World):PySem.KeyKind prog w Key where
 is:=z8B
 hash:=zoQ w
 inj:=fun v a b ha hb=>by
  rcases z0T ha with⟨i,t,rfl,rfl⟩|⟨x,t,rfl,rfl⟩
  .rcases z0T hb with⟨j,u,rfl,e⟩|⟨y,u,rfl,e⟩
   .injection e with e1 _;rw[e1]
   .exact nomatch e
  .rcases z0T hb with⟨j,u,rfl,e⟩|⟨y,u,rfl,e⟩
   .exact nomatch e
   .injection e with e1 _;rw[e1]
 byValue:=fun k v h=>by rcases z0T h with⟨i,t,rfl,rfl⟩|⟨x,t,rfl,rfl⟩<;>rfl
 pyHash:=fun hv h=>by
  rcases z0T hv with⟨i,t,rfl,rfl⟩|⟨x,t,rfl,rfl⟩
  .exact wpAny_pyHash_int h
  .exact wpAny_pyHash_str h
 eqBool:=fun hu hv h=>by
  rcases z0T hu with⟨i,t,rfl,rfl⟩|⟨x,t,rfl,rfl⟩
  .rcases z0T hv with⟨j,u,rfl,rfl⟩|⟨y,u,rfl,rfl⟩
   .rw[zfi]at h;exact wpAny_eqBool_int h
   .rw[zeL]at h;exact SeqAt.EqAt.int_str i t y u _ _ _ _ h
  .rcases z0T hv with⟨j,u,rfl,rfl⟩|⟨y,u,rfl,rfl⟩
   .rw[zfk]at h;exact SeqAt.EqAt.str_int x t j u _ _ _ _ h
   .rw[zfC]at h;exact wpAny_eqBool_str h
 «strs»:=fun k x t v h=>by
  rcases z0T h with⟨i,u,rfl,e⟩|⟨y,u,rfl,e⟩
  .exact nomatch e
  .injection e with e1 _;subst e1;cases v<;>rfl
def z75(prog:Program)(w:World)(i:Int)(t:Tok):(z0W prog w).is (.inl i) (.int i t)=true:=zao i t
def z7l(prog:Program)(w:World)(x:Str)(t:Tok):(z0W prog w).is (.inr x) (.str x t)=true:=zb4 x t
inductive V where
 |non|bl (b:Bool)|int (i:Int)|str (x:Str)|byt (b:Array UInt8)|flt (b:UInt64)|ref (a:Addr)|ty (n:String)
 deriving DecidableEq
def z0U:V->Value->Prop
 |.non,u=>u=Value.none
 |.bl b,u=>u=Value.bool b
 |.int i,u=>∃t,u=Value.int i t
 |.str x,u=>∃t,u=Value.str x t
 |.byt b,u=>∃t,u=Value.bytes b t
 |.flt b,u=>∃t,u=Value.float b t
 |.ref a,u=>u=Value.ref a
 |.ty n,u=>u=Value.type n
abbrev z0J:List V->List Value->Prop:=Paired z0U
theorem z0J.length{xs:List V}{us:List Value}(r:z0J xs us):xs.length=us.length:=y23 r
theorem z0J.get:∀{xs:List V}{us:List Value}{i:Nat}{x:V},z0J xs us->xs[i]?=some x->∃u,us[i]?=some u/\z0U x u
 |_,_,_,_,.nil,e=>by simp at e
 |_,_,0,_,.cons r _,e=>by simp at e;subst e;exact⟨_,rfl,r⟩
 |_,_,i+1,x,.cons _ t,e=>by obtain⟨u,h1,h2⟩:=z0J.get (i:=i) (x:=x) t (by simpa using e);exact⟨u,by simpa using h1,h2⟩
theorem z0J.set{x:V}{u:Value}(r:z0U x u):∀{xs:List V}{us:List Value}(i:Nat),z0J xs us->z0J (xs.set i x) (us.set i u)
 |_,_,_,.nil=>.nil
 |_,_,0,.cons _ t=>.cons r t
 |_,_,i+1,.cons q t=>.cons q (z0J.set r i t)
theorem z0J.append:∀{xs ys:List V}{us ws:List Value},z0J xs us->z0J ys ws->z0J (xs++ys) (us++ws)
 |_,_,_,_,.nil,s=>s
 |_,_,_,_,.cons r t,s=>.cons r (z0J.append t s)
theorem z0J.take:∀{xs:List V}{us:List Value}(n:Nat),z0J xs us->z0J (xs.take n) (us.take n)
 |_,_,0,_=>.nil
 |_,_,_+1,.nil=>.nil
 |_,_,n+1,.cons r t=>.cons r (z0J.take n t)
theorem z0J.drop:∀{xs:List V}{us:List Value}(n:Nat),z0J xs us->z0J (xs.drop n) (us.drop n)
 |_,_,0,r=>r
 |_,_,_+1,.nil=>.nil
 |_,_,n+1,.cons _ t=>z0J.drop n t
def z4Q:Option V->Option Value->Prop
 |some v,some u=>z0U v u
 |none,none=>True
 |_,_=>False
def KV{κ:Type}:List (κ × V)->List (κ × Value)->Prop:=Paired fun(p:κ × V)(q:κ × Value)=>p.1=q.1/\z0U p.2 q.2
def kV:Key->V
 |.inl i=>.int i
 |.inr x=>.str x
inductive HO where
  |lst (xs:List V)
  |tup (xs:List V)
  |dK (kvs:List (Key × V))|dT (kvs:List (List Key × V))
  |set (S:Int->Bool) (n:Nat)
  |ins (C dx:Addr) (fs:List (Str × V))
  |own (x:Addr)
  |xd (fs:List (Str × V))
  |met (f x:Addr)
  |rng (lo hi:Int)
  |frz (o:Obj) (u:HO)
  |tbl (ps:Array Value)
  |ext (φ:Heap->Prop)
abbrev Hp:=Addr->Option HO
def upd(H:Hp)(a:Addr)(o:HO):Hp:=fun b=>if b=a then some o else H b
def z01{H:Hp}{a:Addr}{o:HO}:upd H a o a=some o:=by unfold upd;rw[if_pos rfl]
def z04{H:Hp}{a b:Addr}{o:HO}(h:b≠a):upd H a o b=H b:=by unfold upd;rw[if_neg h]
def zeb{H:Hp}{a:Addr}{o u:HO}:upd (upd H a o) a u=upd H a u:=by funext b;unfold upd;split<;>rfl
def z4b{H:Hp}{a b:Addr}{o u:HO}(h:H a=some o)(h':H b=some u)(d:o≠u):a≠b:=by intro e;subst e;rw[h]at h';exact d (y0d h')
def z09{H:Hp}{a b:Addr}{o:HO}(h:H a=some o)(h':H b=none):a≠b:=by intro e;subst e;rw[h]at h';cases h'
section
variable(P:Program)(w:World)
def z1d(H:Hp)(h:Heap)(a:Addr):HO->Prop
 |.lst xs=>xs.length<=sizeLine/\∃(its:List Value) (n:Nat),z0J xs its/\h.get? a=some { cls:=.type "list",data:=.seq its.toArray n }
 |.tup xs=>xs.length<=sizeLine/\∃(its:List Value) (n:Nat),z0J xs its/\h.get? a=some { cls:=.type "tuple",data:=.seq its.toArray n }
 |.dK kvs=>kvs.length<=sizeLine/\(a==sysModules)=false/\∃vs,KV kvs vs/\h.DictOf (z0W P w) a vs
 |.dT kvs=>kvs.length<=sizeLine/\(a==sysModules)=false/\∃xs:List (List Key × Addr × Value),
   Paired (fun(p:List Key × V)(q:List Key × Addr × Value)=>p.1=q.1/\H q.2.1=some (.tup (p.1.map kV))/\z0U p.2 q.2.2) kvs xs /\
   ∃o es ep,h.get? a=some o/\o.ExactDict/\o.data=.dict es ep/\es.toList=xs.map (entryOfKey (tupleKind (z0W P w)))/\(xs.map (·.1)).Nodup
 |.set S n=>h.SetOf (intKind P w) a S n
 |.ins C dx fs=>H dx=some (.own a)/\fs.length<=1000/\dx≠a/\h.get? a=some (PySem.W.instObj C dx) /\
   ∃mA,h.Ns1 dx mA/\(∀f,z4Q (fs.lookup f) (mA f))/\PySem.Within mA (fs.map (·.1))
 |.own _=>∃o,h.get? a=some o
 |.xd fs=>∃mA,h.Ns1 a mA/\∀f,z4Q (fs.lookup f) (mA f)
 |.rng lo hi=>∃t u v,h.get? a=some { cls:=.type "range",data:=.fields #[.int lo t,.int hi u,.int 1 v] }
 |.frz o u=>h.get? a=some o/\z1d H h a u
 |.tbl ps=>h.get? a=some { cls:=.none,data:=.fields ps }
 |.met f x=>h.get? a=some (PySem.W.methodObj (.ref f) (.ref x))
 |.ext φ=>φ h/\(∃o,h.get? a=some o)/\∀h1 h2:Heap,φ h1->(∀o,h1.get? a=some o->h2.get? a=some o)->φ h2
def HOk(H:Hp)(h:Heap):Prop:=∀a o,H a=some o->z1d P w H h a o
end
section
variable{P:Program}{w:World}{H H':Hp}{h h':Heap}{a:Addr}{o:HO}
def z1d.lt(x:z1d P w H h a o):a<h.objs.size:=by
 cases o with
 |lst xs=>obtain⟨_,_,_,_,e⟩:=x;exact y0b e
 |tup xs=>obtain⟨_,_,_,_,e⟩:=x;exact y0b e
 |dK kvs=>obtain⟨_,_,_,_,o,_,_,e,_⟩:=x;exact y0b e
 |dT kvs=>obtain⟨_,_,_,_,o,_,_,e,_⟩:=x;exact y0b e
 |set S n=>obtain⟨o,_,_,_,e,_⟩:=x;exact y0b e
 |ins C dx fs=>obtain⟨_,_,_,e,_⟩:=x;exact y0b e
 |own y=>obtain⟨_,e⟩:=x;exact y0b e
 |xd fs=>obtain⟨_,⟨_,_,_,e,_⟩,_⟩:=x;exact y0b e
 |rng lo hi=>obtain⟨_,_,_,e⟩:=x;exact y0b e
 |frz ob u=>obtain⟨e,_⟩:=x;exact y0b e
 |tbl ps=>exact y0b (show h.get? a=some _ from x)
 |met f y=>exact y0b (show h.get? a=some _ from x)
 |ext φ=>obtain⟨_,⟨_,e⟩,_⟩:=x;exact y0b e
theorem Paired.mapP{α β:Type}{F G:α->β->Prop}:∀{l₁:List α}{l₂:List β},Paired F l₁ l₂->(∀a b,F a b->G a b)->Paired G l₁ l₂
 |_,_,.nil,_=>.nil
 |_,_,.cons r t,f=>.cons (f _ _ r) (Paired.mapP t f)
def z1d.stay(x:z1d P w H h a o)(k:∀b u,(b=a\/H b=some (.own a))->h.get? b=some u->h'.get? b=some u)(ho:∀b,H b=some (.own a)->H' b=some (.own a))(ht:∀b xs,H b=some (.tup xs)->H' b=some (.tup xs)):z1d P w H' h' a o:=by
 induction o with
 |lst xs=>obtain⟨z,its,n,r,e⟩:=x;exact⟨z,its,n,r,k _ _ (.inl rfl) e⟩
 |tup xs=>obtain⟨z,its,n,r,e⟩:=x;exact⟨z,its,n,r,k _ _ (.inl rfl) e⟩
 |dK kvs=>obtain⟨z,y,vs,r,ob,es,ep,e,c⟩:=x;exact⟨z,y,vs,r,ob,es,ep,k _ _ (.inl rfl) e,c⟩
 |dT kvs =>
  obtain⟨z,y,xs,r,ob,es,ep,e,c⟩:=x;exact⟨z,y,xs,Paired.mapP r fun p q z=>⟨z.1,ht _ _ z.2.1,z.2.2⟩,ob,es,ep,k _ _ (.inl rfl) e,c⟩
 |set S n=>obtain⟨ob,es,ep,t,e,c⟩:=x;exact⟨ob,es,ep,t,k _ _ (.inl rfl) e,c⟩
 |ins C dx fs =>
  obtain⟨d,z,ne,e,mA,⟨od,es,ep,e2,c⟩,r⟩:=x;exact⟨ho _ d,z,ne,k _ _ (.inl rfl) e,mA,⟨od,es,ep,k _ _ (.inr d) e2,c⟩,r⟩
 |own y=>obtain⟨ob,e⟩:=x;exact⟨ob,k _ _ (.inl rfl) e⟩
 |xd fs=>obtain⟨mA,⟨od,es,ep,e,c⟩,r⟩:=x;exact⟨mA,⟨od,es,ep,k _ _ (.inl rfl) e,c⟩,r⟩
 |rng lo hi=>obtain⟨t,u,v,e⟩:=x;exact⟨t,u,v,k _ _ (.inl rfl) e⟩
 |frz ob u ih=>obtain⟨e,q⟩:=x;exact⟨k _ _ (.inl rfl) e,ih q⟩
 |tbl ps =>
  have e:h.get? a=some { cls:=.none,data:=.fields ps }:=x;show h'.get? a=some { cls:=.none,data:=.fields ps };exact k a _ (.inl rfl) e
 |met f y =>
  have e:h.get? a=some (PySem.W.methodObj (.ref f) (.ref y)):=x;show h'.get? a=some (PySem.W.methodObj (.ref f) (.ref y));exact k a _ (.inl rfl) e
 |ext φ=>obtain⟨p,⟨o,e⟩,st⟩:=x;exact⟨st _ _ p fun o q=>k _ _ (.inl rfl) q,⟨o,k _ _ (.inl rfl) e⟩,st⟩
theorem HOk.lt(x:HOk P w H h)(e:H a=some o):a<h.objs.size:=(x a o e).lt
def HOk.fresh(x:HOk P w H h)(e:h.objs.size<=a):H a=none:=by
 cases q:H a with
 |none=>rfl
 |some u=>exact absurd (y0h (x.lt q) e) (y1c _)
def HOk.kept(x:HOk P w H h)(k:∀b u,h.get? b=some u->h'.get? b=some u):HOk P w H h':=fun a o e =>
 (x a o e).stay (fun b u _ q=>k b u q) (fun _ q=>q) fun _ _ q=>q
def HOk.laid(x:HOk P w H h)(k:∀b u,h.get? b=some u->h'.get? b=some u)(hp:h.objs.size<=a)(new:z1d P w (upd H a o) h' a o):HOk P w (upd H a o) h':=fun b u e=>by
 have hn:=x.fresh hp;by_cases hb:b=a
 .subst hb;rw[z01]at e;cases e;exact new
 .rw[z04 hb]at e;exact(x b u e).stay (fun c v _ q=>k c v q) (fun c q=>by rw[z04 (z09 q hn)];exact q) fun c xs q=>by rw[z04 (z09 q hn)];exact q
end
def Rd(H:Hp)(a:Addr)(u:HO):Prop:=H a=some u\/∃o,H a=some (.frz o u)
def Rd.of{H:Hp}{a:Addr}{u:HO}(h:H a=some u):Rd H a u:=.inl h
def Rd.ok{P:Program}{w:World}{H:Hp}{h:Heap}{a:Addr}{u:HO}(r:Rd H a u)(x:HOk P w H h):z1d P w H h a u:=by
 rcases r with r|⟨o,r⟩
 .exact x a u r
 .obtain⟨_,q⟩:=x a _ r;exact q
def Mut:Option HO->Prop
 |some (.lst _)=>True
 |some (.dK _)=>True
 |some (.dT _)=>True
 |some (.set _ _)=>True
 |some (.ins _ _ _)=>True
 |some (.ext _)=>True
 |_=>False
section
variable{P:Program}{w:World}{H:Hp}{h h':Heap}{x e:Addr}{o':HO}
def HOk.write(ok:HOk P w H h)(mu:Mut (H x))(he:e=x\/H e=some (.own x))(k:∀b u,b≠e->h.get? b=some u->h'.get? b=some u)(heo:∃u,h'.get? e=some u)(new:z1d P w (upd H x o') h' x o'):HOk P w (upd H x o') h':=fun b u q=>by
 have nown:∀c y,H c=some (.own y)->c≠x:=fun c y r z=>by subst z;rw[r]at mu;exact mu
 have ntup:∀c xs,H c=some (.tup xs)->c≠x:=fun c xs r z=>by subst z;rw[r]at mu;exact mu
 by_cases hb:b=x
 .subst hb;rw[z01]at q;cases q;exact new
 .rw[z04 hb]at q;by_cases hbe:b=e
  .have q':H b=some (.own x):=by
    rcases he with z|z
    .exact absurd (hbe.trans z) hb
    .rw[hbe];exact z
   rw[q]at q';cases q';obtain⟨v,hv⟩:=heo;exact⟨v,by rw[hbe];exact hv⟩
  .refine(ok b u q).stay (fun c v hc r=>k c v ?_ r) (fun c r=>by rw[z04 (nown c b r)];exact r) fun c xs r=>by rw[z04 (ntup c xs r)];exact r
   rcases hc with rfl|hc
   .exact hbe
   .rintro rfl;rcases he with z|z
    .exact nown c b hc z
    .rw[hc]at z;cases z;exact hb rfl
end
structure Un(fs ex:List Addr)(H H':Hp)(h h':Heap):Prop where
 keep:∀b o,h.get? b=some o->H b=none->b∉fs->b∉ex->h'.get? b=some o
 slot:∀b o,h.get? b=some o->H b=none->b∈fs->b∉ex->∃sl,h'.get? b=some { o with slots:=sl }
 free:∀b o,h.get? b=some o->H b=none->b∉ex->H' b=none
 there:∀b o,h.get? b=some o->b∉ex->∃o',h'.get? b=some o'
 tups:∀b xs,H b=some (.tup xs)->H' b=some (.tup xs)
 frzs:∀b o u,H b=some (.frz o u)->H' b=some (.frz o u)
 tbls:∀b ps,H b=some (.tbl ps)->∃more,H' b=some (.tbl (ps++more))
section
variable{fs fs' ex ex':List Addr}{H H1 H2:Hp}{h h1 h2 h':Heap}{a x e:Addr}{o:HO}
def Un.any(u:Un fs ex H H1 h h1){b:Addr}{ob:Obj}(q:h.get? b=some ob)(n:H b=none)(hx:b∉ex):∃sl,h1.get? b=some { ob with slots:=sl }:=by
 by_cases hb:b∈fs
 .exact u.slot b ob q n hb hx
 .exact⟨ob.slots,u.keep b ob q n hb hx⟩
def Un.kept(k:∀b u,h.get? b=some u->h'.get? b=some u):Un fs ex H H h h' :=
 ⟨fun b ob q _ _ _=>k b ob q,fun b ob q _ _ _=>⟨ob.slots,k b ob q⟩,fun _ _ _ n _=>n,fun b ob q _=>⟨ob,k b ob q⟩,fun _ _ q=>q,fun _ _ _ q=>q,fun _ ps q=>⟨#[],by rw[q];simp⟩⟩
def Un.refl:Un fs ex H H h h:=Un.kept fun _ _ q=>q
def Un.laid(k:∀b u,h.get? b=some u->h'.get? b=some u)(hp:h.objs.size<=a)(hn:H a=none):Un fs ex H (upd H a o) h h' where
 keep:=fun b u q _ _ _=>k b u q
 slot:=fun b u q _ _ _=>⟨u.slots,k b u q⟩
 free:=fun b u q n _=>by rw[z04 (y0q (y0h (y0b q) hp))];exact n
 there:=fun b u q _=>⟨u,k b u q⟩
 tups:=fun b xs q=>by rw[z04 (z09 q hn)];exact q
 frzs:=fun b u xs q=>by rw[z04 (z09 q hn)];exact q
 tbls:=fun b ps q=>⟨#[],by rw[z04 (z09 q hn),q];simp⟩
def Un.write(mu:Mut (H x))(he:e=x\/H e=some (.own x))(k:∀b u,b≠e->h.get? b=some u->h'.get? b=some u)(heo:∃u,h'.get? e=some u):Un fs ex H (upd H x o) h h':=by
 have hx:∀b,H b=none->b≠x:=fun b n z=>by subst z;rw[n]at mu;exact mu
 have hb:∀b,H b=none->b≠e:=fun b n z=>by
  subst z;rcases he with r|r
  .exact hx b n r
  .rw[n]at r;cases r
 have hm:∀b u,H b=some u->¬Mut (some u)->b≠x:=fun b u q nm z=>by subst z;rw[q]at mu;exact nm mu
 refine⟨fun b u q n _ _=>k b u (hb b n) q,fun b u q n _ _=>⟨u.slots,k b u (hb b n) q⟩,fun b u q n _=>by rw[z04 (hx b n)];exact n,fun b u q _=>?_,
  fun b xs q=>by rw[z04 (hm b _ q fun z=>z)];exact q,fun b u xs q=>by rw[z04 (hm b _ q fun z=>z)];exact q,fun b ps q=>⟨#[],by rw[z04 (hm b _ q fun z=>z),q];simp⟩⟩
 by_cases hbe:b=e
 .subst hbe;exact heo
 .exact⟨u,k b u hbe q⟩
end
def trk(h:Heap)(H:Hp):List Addr:=(List.range h.objs.size).filter fun a=>(H a).isSome
def zbt(h:Heap)(H:Hp):Heap:=PySem.W.hideAll h (trk h H)
def z9r(h:Heap)(H:Hp):(zbt h H).objs.size=h.objs.size:=PySem.W.hideAll_size _ _
def zbN{h:Heap}{H:Hp}{b:Addr}{o:Obj}(e:h.get? b=some o)(n:H b=none):(zbt h H).get? b=some o :=
 PySem.W.hideAll_get _ e fun hm=>by have q:(H b).isSome=true:=(List.mem_filter.mp hm).2;rw[n]at q;simp at q
def zdO{h:Heap}{H:Hp}{b:Addr}{o:Obj}(e:(zbt h H).get? b=some o):h.get? b=some o/\H b=none:=by
 have e':h.get? b=some o:=y1V (trk h H) e;refine⟨e',?_⟩;cases q:H b with
 |none=>rfl
 |some x =>
  have hm:b∈trk h H:=List.mem_filter.mpr ⟨List.mem_range.mpr (y0b e'),by simp[q]⟩;have z:(zbt h H).get? b=none:=y0I (trk h H) hm;rw[z]at e;cases e
def zdG(g h:Heap)(L:Addr):yyP:=(List.range h.objs.size).filterMap fun a=>if a=L\/(g.get? a).isSome=true then none else(h.get? a).map fun o=>(a,o)
def z6q(g h:Heap)(L d:Addr):yyP:=(zdG g h L).filter fun p=>decide (p.1≠d)
structure Mod(K:yyF)(mg:yyS)(base:Heap):Prop where
 kin:K.In base
 glob:base.Ns mainGlobals mg
 blt:∃mb,base.Ns builtinsNs mb/\∀x:Str,x≠"__name__"->mb x=bootBuiltins x
 nolimit:base.NoLimit
structure Cx where
 prog:Program
 w:World
 K:yyF
 mg:yyS
 base:Heap
 A:Around
 N:List Str
 s₀:Shared
 H₀:Hp
 env:Env
 outer:List Env
 stack:List Env
 ex:List Addr
 fn:Str->Bool
 calm:Bool
 pn:yyP
 xe:yyE
def frs(l:List Env):List Addr:=l.filterMap (·.frame)
abbrev Cx.fs(X:Cx):List Addr:=frs X.outer
def Vis(sc:Scope)(x:Str):Prop:=sc.names.lookup x=some .local\/sc.names.lookup x=some .cell\/sc.names.lookup x=some .free
def Loc(sc:Scope)(x:Str):Prop:=sc.names.lookup x=some .local\/sc.names.lookup x=some .cell
def zoF(env:Env)(h:Heap)(m:yyS)(x:Str)(u:Value):Prop :=
 (env.kindOf x=some .local/\m x=some u)\/((env.kindOf x=some .cell\/env.kindOf x=some .free)/\∃c,env.cells.lookup x=some c/\h.IsCell c (some u))
structure Cx.Ok(X:Cx):Prop where
 mod:Mod X.K X.mg X.base
 kind:X.env.scope.kind=.function
 glob:X.env.globals=mainGlobals
 blt:X.env.builtins=builtinsNs
 above:X.s₀.heap.objs.size<=X.env.locals
 inj:∀x y c,X.env.cells.lookup x=some c->X.env.cells.lookup y=some c->x=y
 has:∀x,(X.env.kindOf x=some .cell\/X.env.kindOf x=some .free)->∃c,X.env.cells.lookup x=some c
 cab:∀x c,X.fn x=true->X.env.cells.lookup x=some c->X.s₀.heap.objs.size<=c
 hd:X.calm=true->X.A.handled=none
 frames:X.A.frames=some X.stack
 stk:X.stack=X.outer\/(X.stack=X.env::X.outer/\X.env.frame=some X.env.locals)
 exf:∀b∈X.ex,b≠X.env.locals/\∀x c,X.env.cells.lookup x=some c->c≠b
 bs:∀b o,X.base.get? b=some o->X.s₀.heap.get? b=some o/\X.H₀ b=none
 bsz:X.base.objs.size<=X.s₀.heap.objs.size
 noex:∀b o,X.base.get? b=some o->b∉X.ex
 exfs:∀b∈X.ex,b∉X.fs
 funs:X.s₀.heap.FunFrames X.base X.outer
 frf:∀b∈X.fs,X.H₀ b=none
structure Inv(X:Cx)(pins:yyP)(σ:List (Option V))(H:Hp)(s:Shared):Prop where
 ok:X.Ok
 os:s.os=X.s₀.os
 bare:AllBare s.gens
 base:Un X.fs X.ex X.H₀ H X.s₀.heap s.heap
 loc:∃m,s.heap.Ns X.env.locals m/\∀(i:Nat)(x:Str)(v:V),X.N[i]?=some x->σ[i]?=some (some v)->Vis X.env.scope x->∃u,z0U v u/\zoF X.env s.heap m x u
 cell:∀x c,X.env.cells.lookup x=some c->∃v,s.heap.IsCell c v
 free:H X.env.locals=none
 freeC:∀x c,X.env.cells.lookup x=some c->H c=none
 pin:∀p∈X.pn++pins,s.heap.get? p.1=some p.2/\H p.1=none/\p.1≠X.env.locals/\p.1∉X.fs/\∀v,p.2.data≠.cell v
 hok:HOk X.prog X.w H s.heap
 len:σ.length=X.N.length
section
variable{X:Cx}{pins:yyP}{σ:List (Option V)}{H H':Hp}{s:Shared}{h':Heap}
def Cx.Ok.nofr(ok:X.Ok){b:Addr}{o:Obj}(e:X.base.get? b=some o):b∉X.fs:=fun hb=>by have:=(ok.funs.mem hb).1;rw[e]at this;cases this
theorem Inv.bs(I:Inv X pins σ H s):∀b o,X.base.get? b=some o->s.heap.get? b=some o/\H b=none:=fun b o e =>
 ⟨I.base.keep b o (I.ok.bs b o e).1 (I.ok.bs b o e).2 (I.ok.nofr e) (I.ok.noex b o e),I.base.free b o (I.ok.bs b o e).1 (I.ok.bs b o e).2 (I.ok.noex b o e)⟩
def Inv.bk(I:Inv X pins σ H s):∀b o,X.base.get? b=some o->s.heap.get? b=some o:=fun b o e=>(I.bs b o e).1
theorem Inv.mod(I:Inv X pins σ H s):Mod X.K X.mg X.base:=I.ok.mod
def Inv.kIn(I:Inv X pins σ H s):X.K.In s.heap:=I.ok.mod.kin.keeps I.bk
theorem Inv.lt(I:Inv X pins σ H s):X.env.locals<s.heap.objs.size:=let⟨_,hn,_⟩:=I.loc;hn.lt
def Inv.sz(I:Inv X pins σ H s):X.s₀.heap.objs.size<=s.heap.objs.size:=y0w I.ok.above (y1y I.lt)
def Inv.nofs(I:Inv X pins σ H s){a:Addr}(h:s.heap.objs.size<=a):a∉X.fs:=fun hb=>by obtain⟨_,o,ho,_⟩:=I.ok.funs.mem hb;exact absurd (y0h (y0b ho) (y0w I.sz h)) (y1c _)
def Inv.cne(I:Inv X pins σ H s):∀x c,X.env.cells.lookup x=some c->c≠X.env.locals:=fun x c e z=>by obtain⟨v,o,ho,hd⟩:=I.cell x c e;obtain⟨m,⟨o',es,ep,ho',hd',_⟩,_⟩:=I.loc;rw[z,ho']at ho;cases ho;rw[hd']at hd;cases hd
theorem Inv.funs(I:Inv X pins σ H s):s.heap.FunFrames X.base X.outer:=by
 have all:∀(l:List Env),(∀b∈frs l,b∈X.fs)->X.s₀.heap.FunFrames X.base l->s.heap.FunFrames X.base l:=by
  intro l;induction l with
  |nil=>intro _ _;trivial
  |cons env r ih =>
   intro hs hl;obtain⟨hk,⟨L,o,hf,hn,ho,hd⟩,hr⟩:=hl;have hL:L∈X.fs:=hs L (by unfold frs;rw[y1P,hf];exact y0z);obtain⟨sl,e⟩:=I.base.slot L o ho (I.ok.frf L hL) hL fun z=>I.ok.exfs L z hL;exact⟨hk,⟨L,_,hf,hn,e,hd⟩,ih (fun b hb=>hs b (by unfold frs;rw[y1P,hf];exact y0f _ hb)) hr⟩
 exact all X.outer (fun _ hb=>hb) I.ok.funs
theorem Inv.stack(I:Inv X pins σ H s):s.heap.FunFrames X.base X.stack:=by
 rcases I.ok.stk with e|⟨e,hf⟩
 .rw[e];exact I.funs
 .rw[e];obtain⟨m,hn,_⟩:=I.loc;refine .cons (by rw[I.ok.kind];decide) hf hn ?_ I.funs;exact y2I (y0w I.ok.bsz I.ok.above)
def Inv.stkSub(I:Inv X pins σ H s):∀b∈frs X.stack,b∈X.env.locals::X.fs:=fun b hb=>by
 rcases I.ok.stk with e|⟨e,hf⟩
 .rw[e]at hb;exact y0f _ hb
 .rw[e]at hb;unfold frs at hb;rw[y1P,hf]at hb;exact hb
def Inv.stkFree(I:Inv X pins σ H s):∀b∈frs X.stack,H b=none:=fun b hb=>by
 rcases y0o.mp (I.stkSub b hb)with e|hb
 .rw[e];exact I.free
 .obtain⟨_,o,ho,_⟩:=I.ok.funs.mem hb;exact I.base.free b o ho (I.ok.frf b hb) fun z=>I.ok.exfs b z hb
def Inv.step{g':Array GenState}{t':Nat}{d':Drawn}{ch:List Addr}(I:Inv X pins σ H s)(hch:∀b∈ch,(b∈X.ex\/X.s₀.heap.objs.size<=b)/\b≠X.env.locals/\(∀x c,X.env.cells.lookup x=some c->c≠b)/\∀p∈X.pn++pins,p.1≠b)(keep:∀b o,b≠X.env.locals->b∉X.fs->b∉ch->s.heap.get? b=some o->H b=none->h'.get? b=some o)(slot:∀b o,b≠X.env.locals->b∈X.fs->b∉ch->s.heap.get? b=some o->H b=none->∃sl,h'.get? b=some { o with slots:=sl })(free:∀b o,b∉ch->s.heap.get? b=some o->H b=none->H' b=none)(there:∀b o,b∉ch->s.heap.get? b=some o->∃o',h'.get? b=some o')(tups:∀b xs,H b=some (.tup xs)->H' b=some (.tup xs))(frzs:∀b o u,H b=some (.frz o u)->H' b=some (.frz o u))(tbls:∀b ps,H b=some (.tbl ps)->∃more,H' b=some (.tbl (ps++more)))(ns:∀m,s.heap.Ns X.env.locals m->h'.Ns X.env.locals m)(hok:HOk X.prog X.w H' h')(hg:AllBare g') : Inv X pins σ H' { s with heap:=h',gens:=g',drawn:=d',toks:=t' }:=by
 have neL:∀b o,X.s₀.heap.get? b=some o->b≠X.env.locals:=fun b o e=>y0q (y0h (y0b e) I.ok.above);have neC:∀b o,X.s₀.heap.get? b=some o->b∉X.ex->b∉ch:=fun b o e hx hb=>by
  rcases(hch b hb).1 with z|z
  .exact hx z
  .exact absurd (y0h (y0b e) z) (y1c _)
 have cellK:∀x c,X.env.cells.lookup x=some c->∀v,s.heap.IsCell c v->h'.IsCell c v:=fun x c e v ⟨o,ho,hd⟩=>by
  have nch:c∉ch:=fun z=>(hch c z).2.2.1 x c e rfl;by_cases hc:c∈X.fs
  .obtain⟨sl,q⟩:=slot c o (I.cne x c e) hc nch ho (I.freeC x c e);exact⟨_,q,hd⟩
  .exact⟨o,keep c o (I.cne x c e) hc nch ho (I.freeC x c e),hd⟩
 refine⟨I.ok,I.os,hg,⟨fun b o e n hb hx=>?_,fun b o e n hb hx=>?_,fun b o e n hx=>?_,fun b o e hx=>?_,fun b xs e=>tups b xs (I.base.tups b xs e),fun b o xs e=>frzs b o xs (I.base.frzs b o xs e),fun b ps e=>?_⟩,?_,fun x c e=>?_,?_,fun x c e=>?_,fun p hp=>?_,hok,I.len⟩
 .exact keep b o (neL b o e) hb (neC b o e hx) (I.base.keep b o e n hb hx) (I.base.free b o e n hx)
 .obtain⟨sl,e1⟩:=I.base.slot b o e n hb hx;obtain⟨sl',e2⟩:=slot b _ (neL b o e) hb (neC b o e hx) e1 (I.base.free b o e n hx);exact⟨sl',e2⟩
 .obtain⟨o',e1⟩:=I.base.there b o e hx;exact free b o' (neC b o e hx) e1 (I.base.free b o e n hx)
 .obtain⟨o',e1⟩:=I.base.there b o e hx;exact there b o' (neC b o e hx) e1
 .obtain⟨m1,e1⟩:=I.base.tbls b ps e;obtain⟨m2,e2⟩:=tbls b _ e1;exact⟨m1++m2,by rw[e2,Array.append_assoc]⟩
 .obtain⟨m,hn,hl⟩:=I.loc;refine⟨m,ns m hn,fun i x v e1 e2 e3=>?_⟩;obtain⟨u,r,l⟩:=hl i x v e1 e2 e3;refine⟨u,r,?_⟩;rcases l with l|⟨k,c,e,z⟩
  .exact .inl l
  .exact .inr ⟨k,c,e,cellK x c e _ z⟩
 .obtain⟨v,z⟩:=I.cell x c e;exact⟨v,cellK x c e v z⟩
 .obtain⟨m,⟨o,_,_,ho,_⟩,_⟩:=I.loc;exact free _ o (fun z=>(hch _ z).2.1 rfl) ho I.free
 .obtain⟨v,o,ho,hd⟩:=I.cell x c e;exact free c o (fun z=>(hch c z).2.2.1 x c e rfl) ho (I.freeC x c e)
 .obtain⟨e,n,ne,nf,d⟩:=I.pin p hp;have nch:p.1∉ch:=fun z=>(hch p.1 z).2.2.2 p hp rfl;exact⟨keep p.1 p.2 ne nf nch e n,free p.1 p.2 nch e n,ne,nf,d⟩
def Inv.un{t':Nat}(I:Inv X pins σ H s)(u:Un X.fs [] H H' s.heap h')(hok:HOk X.prog X.w H' h'):Inv X pins σ H' { s with heap:=h',toks:=t' }:=by
 obtain⟨m,⟨o,es,ep,ho,r⟩,_⟩:=id I.loc;obtain⟨sl,hL⟩:=u.any ho I.free (by simp);exact I.step (g':=s.gens) (d':=s.drawn) (ch:=[]) (fun _ z=>nomatch z) (fun b o _ hb _ e n=>u.keep b o e n hb (by simp)) (fun b o _ hb _ e n=>u.slot b o e n hb (by simp)) (fun b o _ e n=>u.free b o e n (by simp)) (fun b o _ e=>u.there b o e (by simp)) u.tups u.frzs u.tbls (fun m' hm=>by obtain⟨o',es',ep',ho',r'⟩:=hm;rw[ho]at ho';cases ho';exact⟨_,es',ep',hL,r'⟩) hok I.bare
def Inv.call{g':Array GenState}{t':Nat}{d':Drawn}{ch:List Addr}(I:Inv X pins σ H s)(u:Un (frs X.stack) ch H H' s.heap h')(hok:HOk X.prog X.w H' h')(hg:AllBare g')(hch:∀b∈ch,(b∈X.ex\/X.s₀.heap.objs.size<=b)/\b≠X.env.locals/\(∀x c,X.env.cells.lookup x=some c->c≠b)/\∀p∈X.pn++pins,p.1≠b) : Inv X pins σ H' { s with heap:=h',gens:=g',drawn:=d',toks:=t' }:=by
 obtain⟨m,⟨o,es,ep,ho,r⟩,_⟩:=id I.loc;obtain⟨sl,hL⟩:=u.any ho I.free fun z=>(hch _ z).2.1 rfl;exact I.step (ch:=ch) hch (fun b o hL hb hc e n=>u.keep b o e n (fun z=>(y0o.mp (I.stkSub b z)).elim hL hb) hc) (fun b o _ _ hc e n=>u.any e n hc) (fun b o hc e n=>u.free b o e n hc) (fun b o hc e=>u.there b o e hc) u.tups u.frzs u.tbls (fun m' hm=>by obtain⟨o',es',ep',ho',r'⟩:=hm;rw[ho]at ho';cases ho';exact⟨_,es',ep',hL,r'⟩) hok hg
def Inv.turned{t':Nat}{it:Addr}(I:Inv X pins σ H s)(k:∀b o,b≠it->s.heap.get? b=some o->h'.get? b=some o)(hn:H it=none)(hL:it≠X.env.locals)(h1:it∈X.ex\/X.s₀.heap.objs.size<=it)(h2:∀x c,X.env.cells.lookup x=some c->c≠it)(h3:∀p∈X.pn++pins,p.1≠it):Inv X pins σ H { s with heap:=h',toks:=t' }:=by
 have nit:∀b u,H b=some u->b≠it:=fun b u e z=>by rw[z,hn]at e;cases e
 refine I.step (g':=s.gens) (d':=s.drawn) (ch:=[it]) (fun b hb=>?_) (fun b o _ _ hc e _=>k b o (fun z=>hc (by simp[z])) e) (fun b o _ _ hc e _=>⟨o.slots,k b o (fun z=>hc (by simp[z])) e⟩) (fun _ _ _ _ n=>n)
  (fun b o hc e=>⟨o,k b o (fun z=>hc (by simp[z])) e⟩) (fun _ _ e=>e) (fun _ _ _ e=>e) (fun b ps e=>⟨#[],by rw[e];simp⟩) (fun m hm=>?_) (fun b u e=>?_) I.bare
 .have e:b=it:=by simpa using hb
  subst e;exact⟨h1,hL,h2,h3⟩
 .obtain⟨o,es,ep,ho,r⟩:=hm;exact⟨o,es,ep,k _ o (y1h hL) ho,r⟩
 .refine(I.hok b u e).stay (fun c v hc q=>k c v ?_ q) (fun _ q=>q) fun _ _ q=>q;rcases hc with z|z
  .rw[z];exact nit b u e
  .exact nit c _ z
def Inv.tok(I:Inv X pins σ H s)(t:Nat):Inv X pins σ H { s with toks:=t }:=I.un (h':=s.heap) (t':=t) Un.refl I.hok
theorem Inv.kept{t':Nat}(I:Inv X pins σ H s)(k:∀b u,s.heap.get? b=some u->h'.get? b=some u):Inv X pins σ H { s with heap:=h',toks:=t' }:=I.un (Un.kept k) (I.hok.kept k)
theorem Inv.laid{a:Addr}{o:HO}{t':Nat}(I:Inv X pins σ H s)(k:∀b u,s.heap.get? b=some u->h'.get? b=some u)(hp:s.heap.objs.size<=a)(new:z1d X.prog X.w (upd H a o) h' a o) : Inv X pins σ (upd H a o) { s with heap:=h',toks:=t' }:=I.un (Un.laid k hp (I.hok.fresh hp)) (I.hok.laid k hp new)
theorem Inv.write{x e:Addr}{o:HO}{t':Nat}(I:Inv X pins σ H s)(mu:Mut (H x))(he:e=x\/H e=some (.own x))(k:∀b u,b≠e->s.heap.get? b=some u->h'.get? b=some u)(heo:∃u,h'.get? e=some u)(new:z1d X.prog X.w (upd H x o) h' x o):Inv X pins σ (upd H x o) { s with heap:=h',toks:=t' }:=I.un (Un.write mu he k heo) (I.hok.write mu he k heo new)
def Inv.pins_of{pins':yyP}(I:Inv X pins σ H s)(h:∀p∈pins',s.heap.get? p.1=some p.2/\H p.1=none/\p.1≠X.env.locals/\p.1∉X.fs/\∀v,p.2.data≠.cell v):Inv X pins' σ H s :=
 ⟨I.ok,I.os,I.bare,I.base,I.loc,I.cell,I.free,I.freeC,fun p hp=>(y0G.mp hp).elim (fun z=>I.pin p (y0x _ z)) (h p),I.hok,I.len⟩
def z5O{N:List Str}(hN:N.Nodup){i j:Nat}{x:Str}(a:N[i]?=some x)(b:N[j]?=some x):i=j:=by obtain⟨h1,e1⟩:=y05.mp a;obtain⟨h2,e2⟩:=y05.mp b;exact(List.getElem_inj hN).mp (e1.trans e2.symm)
def z4g{M:Model}{A:Around}{E:yyE}{i:Nat}{x:Str}{v:V}{u:Value}{Q:Unit->Shared->Prop}(I:Inv X pins σ H s)(hN:X.N.Nodup)(hi:X.N[i]?=some x)(hx:Loc X.env.scope x)(r:z0U v u)(h:∀s',Inv X pins (σ.set i (some v)) H s'->(∃a,Heap.SameBut a s.heap s'.heap/\(a=X.env.locals\/X.env.cells.lookup x=some a))->Q () s')(hf:X.fn x=true\/X.env.scope.names.lookup x=some .local:=by first|exact .inl rfl|exact .inr rfl|assumption):wpAny M A (storeName X.env x u) Q E s:=by
 obtain⟨m,hn,hl⟩:=id I.loc;have hcls:(X.env.scope.kind == .class||(X.env.scope.kind == .module&&X.env.locals != X.env.globals))=false:=by rw[I.ok.kind];rfl
 have hiσ:i<σ.length:=by rw[I.len];exact(y05.mp hi).1
 have cne:=I.cne;have tracked:∀{a:Addr}{h':Heap},(∃o,s.heap.get? a=some o/\H a=none)->Heap.SameBut a s.heap h'->HOk X.prog X.w H h':=fun{a h'} ha hs b ob e=>by
  obtain⟨_,_,hfree⟩:=ha;refine(I.hok b ob e).stay (fun c w' hc q=>(hs.2 c ?_).trans q) (fun _ q=>q) fun _ _ q=>q;rintro rfl;rcases hc with rfl|hc
  .rw[hfree]at e;cases e
  .rw[hfree]at hc;cases hc
 rcases hx with hk|hk
 .refine wpAny_storeName_local hk hn (fun h' hn' hs=>?_) hcls;obtain⟨oL,_,_,hoL,_⟩:=id hn;refine h _ ⟨I.ok,I.os,I.bare,⟨fun b o e n hb hx=>?_,fun b o e n hb hx=>?_,I.base.free,fun b o e hx=>?_,I.base.tups,I.base.frzs,I.base.tbls⟩,⟨_,hn',fun j y v' e1 e2 e3=>?_⟩,fun y c e=>?_,I.free,I.freeC,fun p hp=>?_,tracked ⟨oL,hoL,I.free⟩ hs,by simpa using I.len⟩ ⟨_,hs,.inl rfl⟩
  .exact(hs.2 b (y0q (y0h (y0b e) I.ok.above))).trans (I.base.keep b o e n hb hx)
  .obtain⟨sl,e1⟩:=I.base.slot b o e n hb hx;exact⟨sl,(hs.2 b (y0q (y0h (y0b e) I.ok.above))).trans e1⟩
  .obtain⟨o',e1⟩:=I.base.there b o e hx;exact⟨o',(hs.2 b (y0q (y0h (y0b e) I.ok.above))).trans e1⟩
  .by_cases hj:j=i
   .subst hj;rw[hi]at e1;cases e1;rw[y2q hiσ]at e2;cases e2;exact⟨u,r,.inl ⟨hk,by simp⟩⟩
   .rw[List.getElem?_set_ne (y1h hj)]at e2;obtain⟨u',r',q⟩:=hl j y v' e1 e2 e3;refine⟨u',r',?_⟩;rcases q with⟨k,e⟩|⟨k,c,e,z⟩
    .refine .inl ⟨k,?_⟩;have:y≠x:=fun e=>hj (z5O hN e1 (e▸hi));simp[this,e]
    .exact .inr ⟨k,c,e,z.sameBut hs (cne y c e)⟩
  .obtain⟨w',z⟩:=I.cell y c e;exact⟨w',z.sameBut hs (cne y c e)⟩
  .obtain⟨e,n,ne,nf,d⟩:=I.pin p hp;exact⟨(hs.2 p.1 ne).trans e,n,ne,nf,d⟩
 .have hfn:X.fn x=true:=by
   rcases hf with z|z
   .exact z
   .rw[z]at hk;cases hk
  obtain⟨c,hc⟩:=I.ok.has x (.inl hk);obtain⟨w',z⟩:=I.cell x c hc;refine wpAny_storeName_cell I.ok.kind hk hc z (fun h' hc' hs=>?_);obtain⟨oc,hoc,hocd⟩:=id z;refine h { s with heap:=h' } ⟨I.ok,I.os,I.bare,⟨fun b o e n hb hx=>?_,fun b o e n hb hx=>?_,I.base.free,fun b o e hx=>?_,I.base.tups,I.base.frzs,I.base.tbls⟩,⟨m,hn.sameBut hs (y1h (cne x c hc)),fun j y v' e1 e2 e3=>?_⟩,fun y c' e=>?_,I.free,I.freeC,fun p hp=>?_,tracked ⟨oc,hoc,I.freeC x c hc⟩ hs,by simpa using I.len⟩ ⟨c,hs,.inr hc⟩
  .exact(hs.2 b (y0q (y0h (y0b e) (I.ok.cab x c hfn hc)))).trans (I.base.keep b o e n hb hx)
  .obtain⟨sl,e1⟩:=I.base.slot b o e n hb hx;exact⟨sl,(hs.2 b (y0q (y0h (y0b e) (I.ok.cab x c hfn hc)))).trans e1⟩
  .obtain⟨o',e1⟩:=I.base.there b o e hx;exact⟨o',(hs.2 b (y0q (y0h (y0b e) (I.ok.cab x c hfn hc)))).trans e1⟩
  .by_cases hj:j=i
   .subst hj;rw[hi]at e1;cases e1;rw[y2q hiσ]at e2;cases e2;exact⟨u,r,.inr ⟨.inl hk,c,hc,hc'⟩⟩
   .rw[List.getElem?_set_ne (y1h hj)]at e2;obtain⟨u',r',q⟩:=hl j y v' e1 e2 e3;refine⟨u',r',?_⟩;rcases q with q|⟨k,c',e,z'⟩
    .exact .inl q
    .refine .inr ⟨k,c',e,z'.sameBut hs ?_⟩;rintro rfl;exact hj (z5O hN e1 (I.ok.inj _ _ _ e hc▸hi))
  .by_cases hcc:c'=c
   .subst hcc;exact⟨_,hc'⟩
   .obtain⟨w2,z2⟩:=I.cell y c' e;exact⟨w2,z2.sameBut hs hcc⟩
  .obtain⟨e,n,ne,nf,d⟩:=I.pin p hp;refine⟨(hs.2 p.1 ?_).trans e,n,ne,nf,d⟩;intro q;rw[q,hoc]at e;have q':oc=p.2:=y0d e;exact d w' (by rw[<-q'];exact hocd)
def z7M{M:Model}{A:Around}{E:yyE}{i:Nat}{x:Str}{v:V}{u:Value}{Q:Unit->Shared->Prop}(I:Inv X pins σ H s)(hN:X.N.Nodup)(hi:X.N[i]?=some x)(hx:Loc X.env.scope x)(r:z0U v u)(h:∀s',Inv X pins (σ.set i (some v)) H s'->Q () s')(hf:X.fn x=true\/X.env.scope.names.lookup x=some .local:=by first|exact .inl rfl|exact .inr rfl|assumption):wpAny M A (storeName X.env x u) Q E s :=
 z4g I hN hi hx r (fun s' I' _=>h s' I') hf
def Inv.call'{s':Shared}{ch:List Addr}(I:Inv X pins σ H s)(ho:s'.os=s.os)(u:Un (frs X.stack) ch H H' s.heap s'.heap)(hok:HOk X.prog X.w H' s'.heap)(hg:AllBare s'.gens)(hch:∀b∈ch,(b∈X.ex\/X.s₀.heap.objs.size<=b)/\b≠X.env.locals/\(∀x c,X.env.cells.lookup x=some c->c≠b)/\∀p∈X.pn++pins,p.1≠b):Inv X pins σ H' s':=by obtain⟨h',g',d',t',o'⟩:=s';have e:o'=s.os:=ho;subst e;exact I.call (g':=g') (t':=t') (d':=d') u hok hg hch
end
abbrev XK:=Value->Option Addr->Hp->Prop
abbrev St:=List (Option V)
abbrev VK:=V->Hp->Prop
abbrev TE:=St->Hp->VK->Prop
abbrev TT:=St->Hp->(Bool->Hp->Prop)->Prop
abbrev TA:=St->Hp->(List V->Hp->Prop)->Prop
structure z3Z where
 nx:St->Hp->Prop
 rt:VK
 bk:St->Hp->Prop:=fun _ _=>False
 ct:St->Hp->Prop:=fun _ _=>False
abbrev TS:=z3Z->St->Hp->Prop
def EP(X:Cx)(pins:yyP)(σ:St)(Q:VK)(u:Value)(s':Shared):Prop:=∃v H',Inv X pins σ H' s'/\z0U v u/\Q v H'
def TP(X:Cx)(pins:yyP)(σ:St)(Q:Bool->Hp->Prop)(b:Bool)(s':Shared):Prop:=∃H',Inv X pins σ H' s'/\Q b H'
def AP(X:Cx)(pins:yyP)(σ:St)(Q:List V->Hp->Prop)(us:List Value)(s':Shared):Prop:=∃vs H',Inv X pins σ H' s'/\z0J vs us/\Q vs H'
def SP(X:Cx)(pins:yyP)(D:z3Z)(f:Flow)(s':Shared):Prop :=
 match f with
 |.next=>∃σ' H',Inv X pins σ' H' s'/\D.nx σ' H'
 |.brk=>∃σ' H',Inv X pins σ' H' s'/\D.bk σ' H'
 |.cont=>∃σ' H',Inv X pins σ' H' s'/\D.ct σ' H'
 |.ret u=>∃v σ' H',Inv X pins σ' H' s'/\z0U v u/\D.rt v H'
def PE(X:Cx)(e:Expr)(t:TE):Prop :=
 ∀(pins:yyP)(s:Shared)(σ:St)(H:Hp)(Q:VK),Inv X pins σ H s->t σ H Q->wpAny (model X.prog X.w) X.A (eval e X.env) (EP X pins σ Q) X.xe s
def PT(X:Cx)(e:Expr)(t:TT):Prop :=
 ∀(pins:yyP)(s:Shared)(σ:St)(H:Hp)(Q:Bool->Hp->Prop),Inv X pins σ H s->t σ H Q->wpAny (model X.prog X.w) X.A (isTrue e X.env (eval e X.env)) (TP X pins σ Q) X.xe s
def PW(X:Cx)(e:Expr)(t:TT):Prop :=
 ∀(whole:Sem Value)(pins:yyP)(s:Shared)(σ:St)(H:Hp)(Q:Bool->Hp->Prop),Inv X pins σ H s->t σ H Q->wpAny (model X.prog X.w) X.A (isTrue e X.env whole) (TP X pins σ Q) X.xe s
def PW.pt{X:Cx}{e:Expr}{t:TT}(h:PW X e t):PT X e t:=h _
def PA(X:Cx)(es:List Expr)(t:TA):Prop :=
 ∀(pos:Pos)(pins:yyP)(s:Shared)(σ:St)(H:Hp)(Q:List V->Hp->Prop),Inv X pins σ H s->t σ H Q->wpAny (model X.prog X.w) X.A (spliced (backTo pos (starEach es X.env))) (AP X pins σ Q) X.xe s
def PS(X:Cx)(st:Stmt)(t:TS):Prop :=
 ∀(pins:yyP)(s:Shared)(σ:St)(H:Hp)(D:z3Z),Inv X pins σ H s->t D σ H->wpAny (model X.prog X.w) X.A (exec st X.env) (SP X pins D) X.xe s
def PSs(X:Cx)(st:List Stmt)(t:TS):Prop :=
 ∀(pins:yyP)(s:Shared)(σ:St)(H:Hp)(D:z3Z),Inv X pins σ H s->t D σ H->wpAny (model X.prog X.w) X.A (execs st X.env) (SP X pins D) X.xe s
def thn{α:Type}{t:Sem α}{Q Q':α->Shared->Prop}{M:Model}{A:Around}{E:yyE}{s:Shared}(h:wpAny M A t Q E s)(hQ:∀a s,Q a s->Q' a s):wpAny M A t Q' E s:=y0B h hQ fun _ _ x=>x
def exA{α:Sort _}{f g:α->Prop}{a:α}(h:f a)(k:g a):∃x,f x/\g x:=⟨a,h,k⟩
def exB{α β:Sort _}{f g:α->β->Prop}{a:α}{b:β}(h:f a b)(k:g a b):∃x y,f x y/\g x y:=⟨a,b,h,k⟩
def exC{α β:Sort _}{f f' g:α->β->Prop}{a:α}{b:β}(h:f a b)(h':f' a b)(k:g a b):∃x y,f x y/\f' x y/\g x y:=⟨a,b,h,h',k⟩
def exD{α β γ δ:Sort _}{f1 f2 f3 f4 g:α->β->γ->δ->Prop}(a:α)(b:β)(c:γ)(d:δ)(h1:f1 a b c d)(h2:f2 a b c d)(h3:f3 a b c d)(h4:f4 a b c d)(k:g a b c d):∃x y z w,f1 x y z w/\f2 x y z w/\f3 x y z w/\f4 x y z w/\g x y z w:=⟨a,b,c,d,h1,h2,h3,h4,k⟩
def exF{α β:Sort _}{f1 f2 f3 g:α->β->Prop}(a:α){b:β}(h1:f1 a b)(h2:f2 a b)(h3:f3 a b)(k:g a b):∃x y,f1 x y/\f2 x y/\f3 x y/\g x y:=⟨a,b,h1,h2,h3,k⟩
def exG{α β:Sort _}{f1 f2 g:α->β->Prop}(a:α){b:β}(h1:f1 a b)(h2:f2 a b)(k:g a b):∃x y,f1 x y/\f2 x y/\g x y:=⟨a,b,h1,h2,k⟩
def z1w{X:Cx}{pins:yyP}{σ:St}{Q:VK}{t:Sem Value}{R:yyE}{s:Shared}(h:wpAny (model X.prog X.w) X.A t (EP X pins σ Q) X.xe s)(k:∀u s1 x H1,Inv X pins σ H1 s1->z0U x u->Q x H1->R u s1):wpAny (model X.prog X.w) X.A t R X.xe s:=thn h fun u s1 z=>by obtain⟨x,H1,I1,r,q⟩:=z;exact k u s1 x H1 I1 r q
section
variable{X:Cx}
def bin{a b:Expr}{ta tb:TE}(ha:PE X a ta)(hb:PE X b tb){pins:yyP}{s:Shared}{σ:St}{H:Hp}{R:V->V->Hp->Prop}(I:Inv X pins σ H s)(h:ta σ H fun x H1=>tb σ H1 fun y H2=>R x y H2){α:Type}{Q:α->Shared->Prop}{f:Value->Value->Sem α}(hf:∀v u s2 x y H2,Inv X pins σ H2 s2->z0U x v->z0U y u->R x y H2->wpAny (model X.prog X.w) X.A (f v u) Q X.xe s2) : wpAny (model X.prog X.w) X.A (eval a X.env) (fun v s₁=>wpAny (model X.prog X.w) X.A (eval b X.env) (fun u s₂=>wpAny (model X.prog X.w) X.A (f v u) Q X.xe s₂) X.xe s₁) X.xe s:=by refine z1w (ha pins s σ H _ I h) fun v s1 x H1 I1 r1 q1=>?_;refine z1w (hb pins s1 σ H1 _ I1 q1) fun u s2 y H2 I2 r2 q2=>?_;exact hf v u s2 x y H2 I2 r1 r2 q2
def zks(i:Nat):TE:=fun σ H Q=>∃v,σ[i]?=some (some v)/\Q v H
def tC(v:V):TE:=fun _ H Q=>Q v H
def z9t{i:Nat}{x:Str}{pos:Pos}(hN:X.N[i]?=some x)(hv:Vis X.env.scope x)(hd:(x==("__debug__":Str))=false:=by decide)(hcd:(x==("__classdict__":Str))=false:=by decide):PE X (.Name x pos) (zks i):=by
 intro pins s σ H Q I h;obtain⟨v,e,h⟩:=h;obtain⟨m,hn,hl⟩:=I.loc;obtain⟨u,r,l⟩:=hl i x v hN e hv;have fin:EP X pins σ Q u s:=⟨v,H,I,r,h⟩;rcases l with⟨hk,hm⟩|⟨hk,c,hc,hcell⟩
 .exact wpAny_Name (wpAny_loadName_local I.ok.kind hk hn hm fin) hd
 .rcases hk with hk|hk
  .exact wpAny_Name (wpAny_loadName_cell I.ok.kind hk hc hcell fin) hd
  .exact wpAny_Name (wpAny_loadName_free I.ok.kind hk hc hcell fin hcd) hd
def z06{i j pos}:PE X (.Constant (.int i) j pos) (tC (.int i)):=fun _ _ _ H _ I h=>wpAny_Constant_int ⟨.int i,H,I.tok _,⟨_,rfl⟩,h⟩
def z8N{b j pos}:PE X (.Constant (.bool b) j pos) (tC (.bl b)):=fun _ _ _ H _ I h=>Constant_bool ⟨.bl b,H,I,rfl,h⟩
def zeY{j pos}:PE X (.Constant .none j pos) (tC .non):=fun _ _ _ H _ I h=>Constant_none ⟨.non,H,I,rfl,h⟩
def z1h{x j pos}:PE X (.Constant (.str x) j pos) (tC (.str x)):=fun _ _ _ H _ I h=>Calls.Constant_str ⟨.str x,H,I.tok _,⟨_,rfl⟩,h⟩
def Gl(X:Cx)(x:Str):Prop:=X.env.kindOf x=some .globalImplicit
def z2x{E:yyE}{pins:yyP}{s:Shared}{σ:St}{H:Hp}{x:Str}{u:Value}{pos:Pos}{Q:yyE}(I:Inv X pins σ H s)(hg:Gl X x)(hm:X.mg x=some u)(h:Q u s)(hd:(x==("__debug__":Str))=false:=by decide):wpAny (model X.prog X.w) X.A (eval (.Name x pos) X.env) Q E s :=
 Calls.Name_function_global I.ok.kind hg (Calls.loadGlobal_global (by rw[I.ok.glob];exact I.mod.glob.keeps I.bk) hm h) hd
def z55{E:yyE}{pins:yyP}{s:Shared}{σ:St}{H:Hp}{x:Str}{u:Value}{pos:Pos}{Q:yyE}(I:Inv X pins σ H s)(hg:Gl X x)(hm:X.mg x=none)(hv:bootBuiltins x=some u)(h:Q u s)(hn:x≠"__name__":=by decide)(hd:(x==("__debug__":Str))=false:=by decide):wpAny (model X.prog X.w) X.A (eval (.Name x pos) X.env) Q E s:=by obtain⟨mb,h1,h2⟩:=I.mod.blt;exact Calls.Name_function_global I.ok.kind hg (Calls.loadGlobal_builtin (by rw[I.ok.glob];exact I.mod.glob.keeps I.bk) hm (by rw[I.ok.blt];exact h1.keeps I.bk) ((h2 x hn).trans hv) h) hd
def z1G{x:Str}{v:V}{u:Value}{pos:Pos}(hg:Gl X x)(hm:X.mg x=some u)(r:z0U v u)(hd:(x==("__debug__":Str))=false:=by decide):PE X (.Name x pos) (tC v) :=
 fun _ _ _ H _ I h=>z2x I hg hm ⟨v,H,I,r,h⟩ hd
def zdC{x:Str}{v:V}{u:Value}{pos:Pos}(hg:Gl X x)(hm:X.mg x=none)(hv:bootBuiltins x=some u)(r:z0U v u)(hn:x≠"__name__":=by decide)(hd:(x==("__debug__":Str))=false:=by decide):PE X (.Name x pos) (tC v) :=
 fun _ _ _ H _ I h=>z55 I hg hm hv ⟨v,H,I,r,h⟩ hn hd
def t2I(ta tb:TE)(k:Int->Int->Hp->Prop):St->Hp->Prop:=fun σ H=>ta σ H fun x H1=>tb σ H1 fun y H2=>∃i j,x=.int i/\y=.int j/\k i j H2
variable{a b:Expr}{ta tb:TE}{pos:Pos}
def PC(X:Cx)(op:CmpOp)(a b:Expr)(t:TE):Prop :=
 ∀(pins:yyP)(s:Shared)(σ:St)(H:Hp)(Q:VK),Inv X pins σ H s->t σ H Q ->
  wpAny (model X.prog X.w) X.A (eval a X.env) (fun v s₁=>wpAny (model X.prog X.w) X.A (eval b X.env) (fun u s₂=>wpAny (model X.prog X.w) X.A (compareOp op v u) (EP X pins σ Q) X.xe s₂) X.xe s₁) X.xe s
def zbG(b:Expr){op:CmpOp}(h:op≠.In)(h2:op≠.NotIn):behindInMarks op b=false:=by
 have e1:(op==CmpOp.In)=false:=by cases op<;>first|rfl|exact absurd rfl h
 have e2:(op==CmpOp.NotIn)=false:=by cases op<;>first|rfl|exact absurd rfl h2
 cases b<;>simp[behindInMarks,e1,e2]
def zhG(p:Int->Int->Bool)(ta tb:TE):TE:=fun σ H Q=>t2I ta tb (fun i j H2=>Q (.bl (p i j)) H2) σ H
abbrev zp4:TE->TE->TE:=zhG fun i j=>decide (i=j)
abbrev zp8:TE->TE->TE:=zhG fun i j=>!decide (i=j)
def zdj{op:CmpOp}{p:Int->Int->Bool}(ha:PE X a ta)(hb:PE X b tb)(rule:∀(i j:Int)(t u:Tok)(Q:yyE)(s:Shared),Q (.bool (p i j)) s->wpAny (model X.prog X.w) X.A (compareOp op (.int i t) (.int j u)) Q X.xe s):PC X op a b (zhG p ta tb):=by intro pins s σ H Q I h;refine bin ha hb I h fun v u s2 x y H2 I2 rx ry q=>?_;obtain⟨i,j,rfl,rfl,q⟩:=q;obtain⟨t,rfl⟩:=rx;obtain⟨t',rfl⟩:=ry;exact rule i j t t' _ s2 ⟨.bl _,H2,I2,rfl,q⟩
def z17(ha:PE X a ta)(hb:PE X b tb):PC X .Eq a b (zp4 ta tb):=zdj ha hb fun _ _ _ _ _ _ h=>eq_int (by rw[Bool.beq_eq_decide_eq];exact h)
def zcO(ha:PE X a ta)(hb:PE X b tb):PC X .NotEq a b (zp8 ta tb):=zdj ha hb fun _ _ _ _ _ _ h=>ne_int (by rw[bne,Bool.beq_eq_decide_eq];exact h)
def tB(t:TE):TT:=fun σ H Q=>t σ H fun x H1=>∃c,x=.bl c/\Q c H1
def z0I{op:CmpOp}{t:TE}(h:PC X op a b t)(h1:behindInMarks op b=false:=by first|exact zbG _ (by decide) (by decide)|rfl):PT X (.Compare a [op] [b] pos) (tB t):=by intro pins s σ H Q I hw;refine wpAny_isTrue_Compare1 (thn (h pins s σ H _ I hw) fun v s1 h1=>thn h1 fun u s2 h2=>thn h2 fun c s3 hz8=>?_) h1;obtain⟨x,H1,I1,r1,q1⟩:=hz8;obtain⟨d,rfl,q⟩:=q1;cases r1;exact y17 ⟨H1,I1,q⟩
def z4C{e:Expr}{t:TE}(h:PE X e t)(he:∀whole,isTrue e X.env whole=(do let v <-whole;standAt e.pos;holding [v] (truthy v)):=by intro _;rfl):PT X e (tB t):=by intro pins s σ H Q I hw;refine isTrue_plain (z1w (h pins s σ H _ I hw) fun v s1 x H1 I1 r1 q1=>?_) (he _);obtain⟨d,rfl,q⟩:=q1;cases r1;exact y17 ⟨H1,I1,q⟩
variable{tA tB':TT}{z6q:List Expr}
def zp1(t u:TT):TT:=fun σ H Q=>t σ H fun c H1=>if c=true then u σ H1 Q else Q false H1
def tOr(t u:TT):TT:=fun σ H Q=>t σ H fun c H1=>if c=true then Q true H1 else u σ H1 Q
def zoy(t:TT):TT:=fun σ H Q=>t σ H fun c H1=>Q (!c) H1
def z5w(ha:PT X a tA):PW X (.BoolOp .And [a] pos) tA:=by
 intro wh pins s σ H Q I h;refine isTrue_and (thn (ha pins s σ H Q I h) fun c s1 e=>?_);cases c with
 |true=>exact isTrue_and_nil e
 |false=>exact e
def z4D(ha:PT X a tA):PW X (.BoolOp .Or [a] pos) tA:=by
 intro wh pins s σ H Q I h;refine isTrue_or (thn (ha pins s σ H Q I h) fun c s1 e=>?_);cases c with
 |false=>exact isTrue_or_nil e
 |true=>exact e
def z8j(ha:PT X a tA)(hb:PW X (.BoolOp .And (b::z6q) pos) tB'):PW X (.BoolOp .And (a::b::z6q) pos) (zp1 tA tB'):=by
 intro wh pins s σ H Q I h;refine isTrue_and (thn (ha pins s σ H _ I h) fun c s1 hz8=>?_);obtain⟨H1,I1,q1⟩:=hz8;cases c with
 |true=>exact hb wh pins s1 σ H1 Q I1 q1
 |false=>exact⟨H1,I1,q1⟩
def z78(ha:PT X a tA)(hb:PW X (.BoolOp .Or (b::z6q) pos) tB'):PW X (.BoolOp .Or (a::b::z6q) pos) (tOr tA tB'):=by
 intro wh pins s σ H Q I h;refine isTrue_or (thn (ha pins s σ H _ I h) fun c s1 hz8=>?_);obtain⟨H1,I1,q1⟩:=hz8;cases c with
 |true=>exact⟨H1,I1,q1⟩
 |false=>exact hb wh pins s1 σ H1 Q I1 q1
def z6o(ha:PT X a tA):PT X (.UnaryOp .Not a pos) (zoy tA):=by intro pins s σ H Q I h;exact isTrue_not (ha pins s σ H (fun c H1=>Q (!c) H1) I h)
def zhw(ta tb:TE):TE:=fun σ H Q=>ta σ H fun x H1=>∃c,x=.bl c/\if c=true then tb σ H1 Q else Q (.bl false) H1
def zjW(ta:TE):TE:=fun σ H Q=>ta σ H fun x H1=>∃c,x=.bl c/\Q (.bl (!c)) H1
def zgd{op}{t:TE}(h:PE X a t):PE X (.BoolOp op [a] pos) t:=fun pins s σ H Q I hw=>BoolOp_one (h pins s σ H Q I hw)
def zf3(ha:PE X a ta)(hb:PE X (.BoolOp .And (b::z6q) pos) tb):PE X (.BoolOp .And (a::b::z6q) pos) (zhw ta tb):=by
 intro pins s σ H Q I h;refine BoolOp_and (z1w (ha pins s σ H _ I h) fun v s1 x H1 I1 r1 q1=>?_);obtain⟨c,rfl,q1⟩:=q1;cases r1;refine y17 ?_;cases c with
 |true=>exact hb pins s1 σ H1 Q I1 q1
 |false=>exact⟨.bl false,H1,I1,rfl,q1⟩
def zg3(ha:PE X a ta):PE X (.UnaryOp .Not a pos) (zjW ta):=by intro pins s σ H Q I h;refine UnaryOp_ (z1w (ha pins s σ H _ I h) fun v s1 x H1 I1 r1 q1=>?_);obtain⟨c,rfl,q1⟩:=q1;cases r1;exact not_of (y17 ⟨.bl (!c),H1,I1,rfl,q1⟩)
def tIf(t:TT)(ta tb:TE):TE:=fun σ H Q=>t σ H fun c H1=>if c=true then ta σ H1 Q else tb σ H1 Q
def z3g{c:Expr}(hc:PT X c tA)(ha:PE X a ta)(hb:PE X b tb):PE X (.IfExp c a b pos) (tIf tA ta tb):=by
 intro pins s σ H Q I h;refine wpAny_IfExp (thn (hc pins s σ H _ I h) fun d s1 hz8=>?_);obtain⟨H1,I1,q1⟩:=hz8;cases d with
 |true=>exact ha pins s1 σ H1 Q I1 q1
 |false=>exact hb pins s1 σ H1 Q I1 q1
end
def SqL(K:yyF)(H:Hp)(a:Addr)(xs:List V):Prop :=
 Rd H a (.lst xs) \/
  ∃(o:Obj) (its:Array Value) (n:Nat),K.lookup a=some o/\o.cls=.type "list"/\o.dict=none/\o.data=.seq its n/\its.size<=sizeLine/\z0J xs its.toList
def SqT(K:yyF)(H:Hp)(a:Addr)(xs:List V):Prop :=
 Rd H a (.tup xs) \/
  ∃(o:Obj) (its:Array Value) (n:Nat),K.lookup a=some o/\o.cls=.type "tuple"/\o.data=.seq its n/\its.size<=sizeLine/\z0J xs its.toList
def zpl:Value->Option V
 |.none=>some .non
 |.bool b=>some (.bl b)
 |.int i _=>some (.int i)
 |.str x _=>some (.str x)
 |.bytes b _=>some (.byt b)
 |.float b _=>some (.flt b)
 |.ref a=>some (.ref a)
 |.type n=>some (.ty n)
 |_=>none
def z0U.abs{x:V}{u:Value}(r:z0U x u):zpl u=some x:=by
 cases x with
 |non=>cases r;rfl
 |bl _=>cases r;rfl
 |int _=>obtain⟨t,rfl⟩:=r;rfl
 |str _=>obtain⟨t,rfl⟩:=r;rfl
 |byt _=>obtain⟨t,rfl⟩:=r;rfl
 |flt _=>obtain⟨t,rfl⟩:=r;rfl
 |ref _=>cases r;rfl
 |ty _=>cases r;rfl
def z0U.inj{x y:V}{u:Value}(r:z0U x u)(q:z0U y u):x=y:=y0d (r.abs.symm.trans q.abs)
theorem z0J.inj:∀{xs ys:List V}{us:List Value},z0J xs us->z0J ys us->xs=ys
 |_,_,_,.nil,.nil=>rfl
 |_,_,_,.cons r t,.cons r' t'=>by rw[r.inj r',z0J.inj t t']
section
variable{X:Cx}{pins:yyP}{σ:St}{H:Hp}{s:Shared}{a:Addr}{xs ys:List V}
def SqL.of{K:yyF}(h:H a=some (.lst xs)):SqL K H a xs:=.inl (.inl h)
def SqT.of{K:yyF}(h:H a=some (.tup xs)):SqT K H a xs:=.inl (.inl h)
def Inv.list(I:Inv X pins σ H s)(h:SqL X.K H a xs):∃its:List Value,z0J xs its/\PlainL s.heap a its.toArray/\xs.length<=sizeLine:=by
 rcases h with h|⟨o,its,n,hk,hc,hd,hs,hz,r⟩
 .obtain⟨z,its,n,r,e⟩:=h.ok I.hok;exact⟨its,r,⟨_,n,e,rfl,rfl,rfl⟩,z⟩
 .refine⟨its.toList,r,⟨o,n,I.kIn a o hk,hc,hd,by simpa using hs⟩,?_⟩;have e:=r.length;simp only[y1Q]at e;lia
def Inv.tuple(I:Inv X pins σ H s)(h:SqT X.K H a xs):∃its:List Value,z0J xs its/\IsTup s.heap a its.toArray/\xs.length<=sizeLine:=by
 rcases h with h|⟨o,its,n,hk,hc,hs,hz,r⟩
 .obtain⟨z,its,n,r,e⟩:=h.ok I.hok;exact⟨its,r,⟨_,e,rfl,n,rfl⟩,z⟩
 .refine⟨its.toList,r,⟨o,I.kIn a o hk,hc,n,by simpa using hs⟩,?_⟩;have e:=r.length;simp only[y1Q]at e;lia
def Inv.list_inj(I:Inv X pins σ H s)(h:SqL X.K H a xs)(h':SqL X.K H a ys):xs=ys:=by
 obtain⟨its,r,⟨o,n,e,_,_,d⟩,_⟩:=I.list h;obtain⟨its',r',⟨o',n',e',_,_,d'⟩,_⟩:=I.list h';rw[e]at e';cases e';rw[d]at d';injection d' with d1 _;have:its=its':=by simpa using y1n Array.toList d1
 subst this;exact r.inj r'
def Inv.tuple_inj(I:Inv X pins σ H s)(h:SqT X.K H a xs)(h':SqT X.K H a ys):xs=ys:=by
 obtain⟨its,r,⟨o,e,_,n,d⟩,_⟩:=I.tuple h;obtain⟨its',r',⟨o',e',_,n',d'⟩,_⟩:=I.tuple h';rw[e]at e';cases e';rw[d]at d';injection d' with d1 _;have:its=its':=by simpa using y1n Array.toList d1
 subst this;exact r.inj r'
end
abbrev Cx.wish(X:Cx)(E:yyE):Cx:={ X with xe:=E }
abbrev Cx.nox(X:Cx):Cx:=X.wish fun _ _=>False
theorem Cx.Ok.wish{X:Cx}(ok:X.Ok)(E:yyE):(X.wish E).Ok :=
 ⟨ok.mod,ok.kind,ok.glob,ok.blt,ok.above,ok.inj,ok.has,ok.cab,ok.hd,ok.frames,ok.stk,ok.exf,ok.bs,ok.bsz,ok.noex,ok.exfs,ok.funs,ok.frf⟩
def Cx.Ok.unwish{X:Cx}{E:yyE}(ok:(X.wish E).Ok):X.Ok :=
 ⟨ok.mod,ok.kind,ok.glob,ok.blt,ok.above,ok.inj,ok.has,ok.cab,ok.hd,ok.frames,ok.stk,ok.exf,ok.bs,ok.bsz,ok.noex,ok.exfs,ok.funs,ok.frf⟩
section
variable{X:Cx}{pins:yyP}{σ:St}{H:Hp}{s:Shared}{E:yyE}
theorem Inv.wish(I:Inv X pins σ H s)(E:yyE):Inv (X.wish E) pins σ H s:=⟨I.ok.wish E,I.os,I.bare,I.base,I.loc,I.cell,I.free,I.freeC,I.pin,I.hok,I.len⟩
theorem Inv.unwish(I:Inv (X.wish E) pins σ H s):Inv X pins σ H s:=⟨I.ok.unwish,I.os,I.bare,I.base,I.loc,I.cell,I.free,I.freeC,I.pin,I.hok,I.len⟩
theorem SP.unwish{D:z3Z}{f:Flow}{s':Shared}(h:SP (X.wish E) pins D f s'):SP X pins D f s':=by
 cases f with
 |next=>obtain⟨σ',H',I,q⟩:=h;exact⟨σ',H',I.unwish,q⟩
 |brk=>obtain⟨σ',H',I,q⟩:=h;exact⟨σ',H',I.unwish,q⟩
 |cont=>obtain⟨σ',H',I,q⟩:=h;exact⟨σ',H',I.unwish,q⟩
 |ret u=>obtain⟨v,σ',H',I,r,q⟩:=h;exact⟨v,σ',H',I.unwish,r,q⟩
theorem PSs.nox{st:List Stmt}{t:TS}(h:PSs X.nox st t):PSs X st t:=fun pins s σ H D I hw =>
 y0B (h pins s σ H D (I.wish _) hw) (fun _ _ q=>q.unwish) fun _ _ z=>False.elim z
end
section
variable{X:Cx}{st:Stmt}{z6q:List Stmt}{t u:TS}{e:Expr}{te:TE}{pos:Pos}
def zeT:TS:=fun D σ H=>D.nx σ H
def zex(t u:TS):TS:=fun D σ H=>t { D with nx:=u D } σ H
def z0n:PSs X [] zeT:=fun _ _ σ H _ I h=>y2j ⟨σ,H,I,h⟩
def z02(h1:PS X st t)(h2:PSs X z6q u):PSs X (st::z6q) (zex t u):=by
 intro pins s σ H D I h;refine wpAny_execs_cons (thn (h1 pins s σ H { D with nx:=u D } I h) fun f s1 q=>?_);cases f with
 |next =>
  obtain⟨σ',H',I',q⟩:=q;exact h2 pins s1 σ' H' D I' q
 |ret v=>exact q
 |brk=>exact q
 |cont=>exact q
def z07(h1:PS X st t):PSs X [st] t:=by
 intro pins s σ H D I h;refine wpAny_execs_cons (thn (h1 pins s σ H D I h) fun f s1 q=>?_);cases f with
 |next=>exact y2j q
 |ret v=>exact q
 |brk=>exact q
 |cont=>exact q
def Inv.quiet{pins:yyP}{σ:St}{H:Hp}{s:Shared}(I:Inv X pins σ H s):interactive X.env=false:=by simp[interactive,I.ok.kind]
def zk5(te:TE):TS:=fun D σ H=>te σ H fun _ H1=>D.nx σ H1
def z0M(he:PE X e te)(hs:swapsWith e none pos.line X.env=pure false:=by rfl):PS X (.Expr e pos) (zk5 te):=by intro pins s σ H D I h;exact wpAny_Expr_any (z1w (he pins s σ H _ I h) fun v s1 x H1 I1 r1 q1=>⟨σ,H1,I1,q1⟩) I.quiet hs
def zpo(te:TE):TS:=fun D σ H=>te σ H D.rt
def z0y(he:PE X e te):PS X (.Return (some e) pos) (zpo te):=by intro pins s σ H D I h;exact wpAny_Return_some (z1w (he pins s σ H _ I h) fun v s1 x H1 I1 r1 q1=>⟨x,σ,H1,I1,r1,q1⟩)
def zoh(c:TT)(t u:TS):TS:=fun D σ H=>c σ H fun b H1=>if b=true then t D σ H1 else u D σ H1
def z15{c:Expr}{a b:List Stmt}{tc:TT}(hc:PT X c tc)(ha:PSs X a t)(hb:PSs X b u):PS X (.If c a b pos) (zoh tc t u):=by
 intro pins s σ H D I h;refine wpAny_If (thn (hc pins s σ H _ I h) fun d s1 hz8=>?_);obtain⟨H1,I1,q1⟩:=hz8;cases d with
 |true=>exact ha pins s1 σ H1 D I1 q1
 |false=>exact hb pins s1 σ H1 D I1 q1
end
abbrev TG:=V->St->Hp->(St->Hp->Prop)->Prop
abbrev TGs:=List V->St->Hp->(St->Hp->Prop)->Prop
def PG(X:Cx)(target:Expr)(t:TG):Prop :=
 ∀(pins:yyP)(s:Shared)(σ:St)(H:Hp)(v:V)(u:Value)(Q:St->Hp->Prop),Inv X pins σ H s->z0U v u->t v σ H Q ->
  wpAny (model X.prog X.w) X.A (assign target X.env u) (fun _ s'=>∃σ' H',Inv X pins σ' H' s'/\Q σ' H') X.xe s
def PGs(X:Cx)(ts:List Expr)(t:TGs):Prop :=
 ∀(pins:yyP)(s:Shared)(σ:St)(H:Hp)(vs:List V)(us:List Value)(Q:St->Hp->Prop),Inv X pins σ H s->z0J vs us->t vs σ H Q ->
  wpAny (model X.prog X.w) X.A (assignInOrder ((assignEach ts X.env).map (·.2)) us) (fun _ s'=>∃σ' H',Inv X pins σ' H' s'/\Q σ' H') X.xe s
abbrev zjV:=V->V->V->Hp->(Hp->Prop)->Prop
def zlY(X:Cx)(t:zjV):Prop :=
 ∀(pins:yyP)(s:Shared)(σ:St)(H:Hp)(o i v:V)(ov iv u:Value)(Q:Hp->Prop),Inv X pins σ H s->z0U o ov->z0U i iv->z0U v u->t o i v H Q ->
  wpAny (model X.prog X.w) X.A (setItem ov iv u) (fun _ s'=>∃H',Inv X pins σ H' s'/\Q H') X.xe s
section
variable{X:Cx}{pos:Pos}
def z9G(i:Nat):TG:=fun v σ H Q=>Q (σ.set i (some v)) H
def z0c{i:Nat}{x:Str}(hN:X.N.Nodup)(hi:X.N[i]?=some x)(hx:Loc X.env.scope x)(hf:X.fn x=true\/X.env.scope.names.lookup x=some .local:=by first|exact .inl rfl|exact .inr rfl|assumption):PG X (.Name x pos) (z9G i):=by intro pins s σ H v u Q I r h;exact wpAny_assign_Name (z7M I hN hi hx r (fun s' I'=>⟨_,H,I',h⟩) hf)
def zpm:TGs:=fun vs σ H Q=>vs=[]/\Q σ H
def zi8(t:TG)(u:TGs):TGs:=fun vs σ H Q=>∃v r,vs=v::r/\t v σ H fun σ' H'=>u r σ' H' Q
def z18:PGs X [] zpm:=by intro pins s σ H vs us Q I r h;obtain⟨e,h⟩:=h;subst e;cases r;exact assignInOrder_nil ⟨σ,H,I,h⟩
def z0h{e:Expr}{es:List Expr}{t:TG}{u:TGs}(h1:PG X e t)(h2:PGs X es u)(hs:(assignEach (e::es) X.env).map (·.2)=assign e X.env::(assignEach es X.env).map (·.2):=by rfl):PGs X (e::es) (zi8 t u):=by
 intro pins s σ H vs us Q I r h;obtain⟨v,vr,e1,h⟩:=h;subst e1;cases r with
 |cons r rr =>
  rw[hs];refine assignInOrder_cons (thn (h1 pins s σ H _ _ _ I r h) fun _ s1 hz8=>?_);obtain⟨σ1,H1,I1,q1⟩:=hz8;exact h2 pins s1 σ1 H1 _ _ Q I1 rr q1
def zlK(K:yyF)(n:Nat)(t:TGs):TG:=fun v σ H Q=>∃a xs,v=.ref a/\SqT K H a xs/\xs.length=n/\t xs σ H Q
def z2k{es:List Expr}{k:Nat}{t:TGs}{n:Nat}(hc:X.calm=true)(h:PGs X es t)(hn:(assignEach es X.env).length=n:=by rfl)(hst:(assignEach es X.env).findIdx? (·.1)=none:=by rfl):PG X (.Tuple es k pos) (zlK X.K n t):=by intro pins s σ H v u Q I r hw;obtain⟨a,xs,e1,hq,hl,hw⟩:=hw;subst e1;cases r;obtain⟨its,rv,ht,hz⟩:=I.tuple hq;refine assign_Tuple_tuple (I.ok.hd hc) ht (by simp[hn,<-hl,rv.length]) hst fun h' hx=>?_;have I1:Inv X pins σ H { s with heap:=h' }:=I.kept (t':=s.toks) fun b o e=>hx b o (y0q (y0b e)) e;exact h pins _ σ H xs _ Q I1 (by simpa using rv) hw
def zoJ(to ti:TE)(t:zjV):TG:=fun v σ H Q=>to σ H fun o H1=>ti σ H1 fun i H2=>t o i v H2 fun H3=>Q σ H3
def z49{o i:Expr}{to ti:TE}{t:zjV}(ho:PE X o to)(hi:PE X i ti)(hs:zlY X t)
  (ha:∀v,assign (.Subscript o i pos) X.env v=(do
   let ov <-holding [v] (eval o X.env);let iv <-holding [v,ov] (eval i X.env)
   standAt pos
   holding [v,ov,iv] (setItem ov iv v)
   release [v,ov,iv] []):=by intro _;rfl):PG X (.Subscript o i pos) (zoJ to ti t):=by
 intro pins s σ H v u Q I r h;rw[ha];refine y02 (y1i (z1w (ho pins s σ H _ I h) fun ov s1 x H1 I1 r1 q1=>?_));refine y02 (y1i (z1w (hi pins s1 σ H1 _ I1 q1) fun iv s2 y H2 I2 r2 q2=>?_));refine y02 (y1w (y02 (y1i (thn (hs pins s2 σ H2 x y v ov iv u _ I2 r1 r2 r q2) fun _ s3 hz8=>?_))));obtain⟨H3,I3,q3⟩:=hz8;exact wpAny_release ⟨σ,H3,I3,q3⟩
def zfF(te:TE)(g:TG):TS:=fun D σ H=>te σ H fun x H1=>g x σ H1 D.nx
def z29{tg e:Expr}{te:TE}{g:TG}(he:PE X e te)(hg:PG X tg g)(hs:swapsWithSole [tg] e pos.line X.env=pure false:=by rfl)(hw:swappedStores [tg] e X.env=pure none:=by rfl)(h1:(assignEach [tg] X.env).map (·.2)=[assign tg X.env]:=by rfl):PS X (.Assign [tg] e pos) (zfF te g):=by intro pins s σ H D I h;refine wpAny_Assign_stores (z1w (he pins s σ H _ I h) fun v s1 x H1 I1 r1 q1=>?_) hs hw;rw[h1];exact thn (hg pins s1 σ H1 x v _ I1 r1 q1) fun _ s2 q=>q
def z0k{i:Nat}{x:Str}{e:Expr}{te:TE}{pos':Pos}(hN:X.N.Nodup)(hi:X.N[i]?=some x)(hx:Loc X.env.scope x)(he:PE X e te)(hs:swapsWith e (some (.Name x pos')) pos.line X.env=pure false:=by rfl)(hf:X.fn x=true\/X.env.scope.names.lookup x=some .local:=by first|exact .inl rfl|exact .inr rfl|assumption) : PS X (.Assign [.Name x pos'] e pos) (zfF te (z9G i)):=by intro pins s σ H D I h;refine wpAny_Assign_Name (z1w (he pins s σ H _ I h) fun v s1 y H1 I1 r1 q1=>?_) hs;exact z7M I1 hN hi hx r1 (fun s2 I2=>⟨_,H1,I2,q1⟩) hf
end
section
variable{X:Cx}{pos:Pos}
def z7K(c:TT)(tb:TS):TS:=fun D σ H=>∃W:Nat->St->Hp->Prop,(∃m,W m σ H)/\∀m σ H,W m σ H ->
 c σ H fun b H1=>if b=true then ∃N:St->Hp->Prop,(∀σ' H',N σ' H'->∃m',m'<m/\W m' σ' H')/\tb { D with nx:=N,ct:=N,bk:=D.nx } σ H1 else D.nx σ H1
def z3e{c:Expr}{body:List Stmt}{tc:TT}{tb:TS}(hp:PassesOwn (model X.prog X.w) X.A X.env X.xe)(hc:PT X c tc)(hb:PSs X body tb):PS X (.While c body [] pos) (z7K tc tb):=by
 intro pins s σ H D I h;obtain⟨W,⟨m0,w0⟩,z4N⟩:=h;refine wpAny_While (codeAny_whileLoop (fun n s'=>∃σ' H',Inv X pins σ' H' s'/\W n σ' H') ?_ m0 ⟨σ,H,I,w0⟩);rintro n s1 ⟨σ1,H1,I1,w1⟩;refine y1K hp (thn (hc pins s1 σ1 H1 _ I1 (z4N n σ1 H1 w1)) fun b s2 hz8=>?_);obtain⟨H2,I2,q2⟩:=hz8;cases b with
 |true =>
  obtain⟨N,hN,q2⟩:=q2;rw[if_pos rfl];refine y1K hp (thn (hb pins s2 σ1 H2 _ I2 q2) fun f s3 q3=>?_);cases f with
  |next =>
   obtain⟨σ3,H3,I3,n3⟩:=q3;obtain⟨m',hm,w3⟩:=hN σ3 H3 n3;exact⟨m',hm,σ3,H3,I3,w3⟩
  |cont =>
   obtain⟨σ3,H3,I3,n3⟩:=q3;obtain⟨m',hm,w3⟩:=hN σ3 H3 n3;exact⟨m',hm,σ3,H3,I3,w3⟩
  |brk=>exact q3
  |ret v=>exact q3
 |false =>
  rw[if_neg y0u];exact y2j ⟨σ1,H2,I2,q2⟩
end
structure It where
 go:Nat->Hp->Prop
 yld:Nat->Hp->V->Hp->Prop
 stop:Nat->Hp->Prop
def z43(X:Cx)(pins:yyP)(H:Hp)(b:Addr):Prop :=
 H b=none/\b≠X.env.locals/\b∉X.fs/\(b∈X.ex\/X.s₀.heap.objs.size<=b)/\(∀x c,X.env.cells.lookup x=some c->c≠b)/\∀p∈X.pn++pins,p.1≠b
def Inv.fpOk{X:Cx}{pins:yyP}{σ:St}{H H':Hp}{s:Shared}{b:Addr}(I:Inv X pins σ H s)(hb:s.heap.objs.size<=b)(hn:H' b=none):z43 X pins H' b:=by
 refine⟨hn,y2S (y0h I.lt hb),I.nofs hb,.inr (y0w I.sz hb),fun x c e z=>?_,fun p hp z=>?_⟩
 .obtain⟨v,q⟩:=I.cell x c e;exact absurd (y0h q.lt (by rw[z];exact hb)) (y1c _)
 .exact absurd (y0h (y0b (I.pin p hp).1) (by rw[z];exact hb)) (y1c _)
structure z9b(P:Program)(w:World)(K:yyF)(tg:Expr)(J:It)(fp:List Addr)(it:Addr)(tn:Nat->Heap->Prop):Prop where
 mem:it∈fp
 obj:∀i h,tn i h->∀b∈fp,∃o,h.get? b=some o/\∀v,o.data≠.cell v
 keep:∀i h h',tn i h->(∀b∈fp,∀o,h.get? b=some o->h'.get? b=some o)->tn i h'
 item:∀(X:Cx),X.prog=P->X.w=w->X.K=K->X.calm=true->∀(i:Nat)(pins:yyP)(s:Shared)(σ:St)(H:Hp)(E:yyE),Inv X pins σ H s->(∀b∈fp,z43 X pins H b)->tn i s.heap->J.go i H ->
  wpAny (model P w) X.A (pyNext (.ref it)) (fun r s1=>∃u,r=some u /\
   wpAny (model P w) X.A (letOwnedTupleGo tg (.ref it) u) (fun _ s2=>∃x H',Inv X pins σ H' s2/\z0U x u/\J.yld i H x H'/\tn (i+1) s2.heap/\∀b∈fp,H' b=none) E s1) E s
 done:∀(X:Cx),X.prog=P->X.w=w->X.K=K->X.calm=true->∀(i:Nat)(pins:yyP)(s:Shared)(σ:St)(H:Hp)(E:yyE),Inv X pins σ H s->(∀b∈fp,z43 X pins H b)->tn i s.heap->J.stop i H ->
  wpAny (model P w) X.A (pyNext (.ref it)) (fun r s1=>r=none/\Inv X pins σ H s1) E s
 self:∀(A:Around)(i:Nat)(s:Shared)(Q:yyE)(E:yyE),tn i s.heap->Q (.ref it) s->wpAny (model P w) A (pyIter (.ref it)) Q E s
abbrev TI:=St->Hp->(It->Hp->Prop)->Prop
def PIE(X:Cx)(pins:yyP)(σ:St)(tg:Expr)(R:It->Hp->Prop)(itv:Value)(s2:Shared):Prop :=
 ∃(it:Addr)(fp:List Addr)(tn:Nat->Heap->Prop)(J:It)(H':Hp),itv=.ref it/\Inv X pins σ H' s2/\z9b X.prog X.w X.K tg J fp it tn/\tn 0 s2.heap/\(∀b∈fp,z43 X pins H' b)/\R J H'
def PI(X:Cx)(tg iter:Expr)(wi:TI):Prop :=
 ∀(pins:yyP)(s:Shared)(σ:St)(H:Hp)(R:It->Hp->Prop),Inv X pins σ H s->wi σ H R ->
  wpAny (model X.prog X.w) X.A (eval iter X.env) (fun v s1=>wpAny (model X.prog X.w) X.A (pyIter v) (PIE X pins σ tg R) X.xe s1) X.xe s
def zb7{M:Model}{A:Around}{E:yyE}{s:Shared}{tg:Expr}{it:Addr}{u:Value}{o:Obj}{n:String}{vs:Array Value}{Q:Unit->Shared->Prop}(ho:s.heap.get? it=some o)(hc:o.cls=.type n)(hd:o.data=.fields vs)(hn:["enumerate","zip","dict_itemiterator","dict_reverseitemiterator","odict_iterator","itertools.zip_longest","itertools.pairwise"].contains n=false)(hQ:Q () s):wpAny M A (letOwnedTupleGo tg (.ref it) u) Q E s:=by
 unfold letOwnedTupleGo;cases tg<;>first
  |exact y07 hQ
  | (cases u<;>first
    |exact y07 hQ
    | (refine y02 (wpAny_load ho ?_)
       rw[hc,hd];show wpAny M A (if(["enumerate","zip","dict_itemiterator","dict_reverseitemiterator","odict_iterator","itertools.zip_longest","itertools.pairwise"].contains n&&vs[0]?==some (rawInt _))=true then _ else _) Q E s;rw[if_neg (by intro h;rw[hn,Bool.false_and]at h;cases h)];exact y07 hQ))
def Itl(K:yyF)(a:Addr):It :=
 ⟨fun i H=>∃xs x,SqL K H a xs/\xs[i]?=some x,fun i H x H'=>H'=H/\∀xs,SqL K H a xs->xs[i]?=some x,fun i H=>∃xs,SqL K H a xs/\xs.length<=i⟩
def Itt(K:yyF)(a:Addr):It :=
 ⟨fun i H=>∃xs x,SqT K H a xs/\xs[i]?=some x,fun i H x H'=>H'=H/\∀xs,SqT K H a xs->xs[i]?=some x,fun i H=>∃xs,SqT K H a xs/\xs.length<=i⟩
def Itr(lo:Int)(n:Nat):It:=⟨fun i _=>i<n,fun i H x H'=>H'=H/\x=.int (lo+i),fun i _=>n<=i⟩
def z9Q{P:Program}{w:World}{K:yyF}{tg:Expr}(a it:Addr):z9b P w K tg (Itl K a) [it] it (fun i h=>h.IsListIter it a i) where
 mem:=by simp
 obj:=fun i h st b hb=>by
  have e:b=it:=by simpa using hb
  subst e;obtain⟨o,e,c,d⟩:=st;exact⟨o,e,fun v z=>by rw[d]at z;cases z⟩
 keep:=fun i h h' st k=>st.at fun o e=>k it (by simp) o e
 item:=by intro X hP hw hK hc i pins s σ H E I hf st hg;subst hP hw hK;obtain⟨xs,x,hq,hx⟩:=hg;obtain⟨its,rv,p,hz⟩:=I.list hq;obtain⟨u,hu,ru⟩:=rv.get hx;obtain⟨f0,f1,f2,f3,f4,f5⟩:=hf it (by simp);refine wpAny_pyNext_list_item st p.isList (x:=u) (by simpa using hu) fun h' st' sb=>?_;have I1:Inv X pins σ H { s with heap:=h' }:=I.turned (t':=s.toks) (fun b o hb e=>(sb.2 b hb).trans e) f0 f1 f3 f4 f5;obtain⟨o,e,c,d⟩:=id st';exact⟨u,rfl,zb7 (s:={ s with heap:=h' }) e c d (by decide) ⟨x,H,I1,ru,⟨rfl,fun ys hy=>by rw[I.list_inj hy hq];exact hx⟩,st',fun b hb=>(hf b hb).1⟩⟩
 done:=by intro X hP hw hK hc i pins s σ H E I hf st hg;subst hP hw hK;obtain⟨xs,hq,hx⟩:=hg;obtain⟨its,rv,p,hz⟩:=I.list hq;obtain⟨f0,f1,f2,f3,f4,f5⟩:=hf it (by simp);have hl:=rv.length;exact wpAny_pyNext_list_end (I.ok.hd hc) st p.isList (by simp;lia) fun h' eb=>⟨rfl,I.turned (t':=s.toks) (fun b o hb e=>eb b o hb e) f0 f1 f3 f4 f5⟩
 self:=fun _ _ _ _ _ st h=>wpAny_pyIter_listiter st h
def z94{P:Program}{w:World}{K:yyF}{tg:Expr}(a it:Addr):z9b P w K tg (Itt K a) [it] it (fun i h=>h.IsTupleIter it a i) where
 mem:=by simp
 obj:=fun i h st b hb=>by
  have e:b=it:=by simpa using hb
  subst e;obtain⟨o,e,c,d⟩:=st;exact⟨o,e,fun v z=>by rw[d]at z;cases z⟩
 keep:=fun i h h' st k=>st.at fun o e=>k it (by simp) o e
 item:=by intro X hP hw hK hc i pins s σ H E I hf st hg;subst hP hw hK;obtain⟨xs,x,hq,hx⟩:=hg;obtain⟨its,rv,p,hz⟩:=I.tuple hq;obtain⟨u,hu,ru⟩:=rv.get hx;obtain⟨f0,f1,f2,f3,f4,f5⟩:=hf it (by simp);refine wpAny_pyNext_tuple_item st (show s.heap.IsTuple a its.toArray from p) (x:=u) (by simpa using hu) fun h' st' sb=>?_;have I1:Inv X pins σ H { s with heap:=h' }:=I.turned (t':=s.toks) (fun b o hb e=>(sb.2 b hb).trans e) f0 f1 f3 f4 f5;obtain⟨o,e,c,d⟩:=id st';exact⟨u,rfl,zb7 (s:={ s with heap:=h' }) e c d (by decide) ⟨x,H,I1,ru,⟨rfl,fun ys hy=>by rw[I.tuple_inj hy hq];exact hx⟩,st',fun b hb=>(hf b hb).1⟩⟩
 done:=by intro X hP hw hK hc i pins s σ H E I hf st hg;subst hP hw hK;obtain⟨xs,hq,hx⟩:=hg;obtain⟨its,rv,p,hz⟩:=I.tuple hq;obtain⟨f0,f1,f2,f3,f4,f5⟩:=hf it (by simp);have hl:=rv.length;exact wpAny_pyNext_tuple_end (I.ok.hd hc) st (show s.heap.IsTuple a its.toArray from p) (by simp;lia) fun h' eb=>⟨rfl,I.turned (t':=s.toks) (fun b o hb e=>eb b o hb e) f0 f1 f3 f4 f5⟩
 self:=fun _ _ _ _ _ st h=>wpAny_pyIter_tupleiter st h
def z8U{P:Program}{w:World}{K:yyF}{tg:Expr}(it:Addr)(lo:Int)(n:Nat):z9b P w K tg (Itr lo n) [it] it (fun i h=>IsRangeIter h it (lo+(i:Nat)*1) ((n:Int)-(i:Nat)) 1) where
 mem:=by simp
 obj:=fun i h st b hb=>by
  have e:b=it:=by simpa using hb
  subst e;exact⟨_,st,fun v z=>by have z':Data.fields _=Data.cell v:=z;cases z'⟩
 keep:=fun i h h' st k=>k it (by simp) _ st
 item:=by intro X hP hw hK hc i pins s σ H E I hf st hg;subst hP hw hK;obtain⟨f0,f1,f2,f3,f4,f5⟩:=hf it (by simp);have W:=Walks.range (prog:=X.prog) (w:=X.w) (I.ok.hd hc) it lo 1 n;refine W.item i s _ _ hg st fun v h' tk hv st' kk=>?_;obtain⟨t,rfl⟩:=hv;have I1:Inv X pins σ H { s with heap:=h',toks:=tk }:=I.turned (fun b o hb e=>kk b o (by simpa using hb) e) f0 f1 f3 f4 f5;refine⟨_,rfl,zb7 (s:={ s with heap:=h',toks:=tk }) (n:="range_iterator") st' rfl rfl (by decide) ⟨.int (lo+i),H,I1,⟨t,?_⟩,⟨rfl,rfl⟩,st',fun b hb=>(hf b hb).1⟩⟩;rw[Int.mul_one]
 done:=by intro X hP hw hK hc i pins s σ H E I hf st hg;subst hP hw hK;obtain⟨f0,f1,f2,f3,f4,f5⟩:=hf it (by simp);exact wpAny_pyNext_range_end (I.ok.hd hc) st (by have:n<=i:=hg;lia) fun h' eb=>⟨rfl,I.turned (t':=s.toks) (fun b o hb e=>eb b o hb e) f0 f1 f3 f4 f5⟩
 self:=fun _ _ _ _ _ st h=>wpAny_pyIter_rangeiter st h
section
variable{X:Cx}{tg:Expr}
def zix(K:yyF)(tl:TE):TI:=fun σ H R=>tl σ H fun x H1=>∃a,x=.ref a/\(∃xs,SqL K H1 a xs)/\R (Itl K a) H1
def zmw(K:yyF)(tl:TE):TI:=fun σ H R=>tl σ H fun x H1=>∃a,x=.ref a/\(∃xs,SqT K H1 a xs)/\R (Itt K a) H1
def z1Z{l:Expr}{tl:TE}(hl:PE X l tl):PI X tg l (zix X.K tl):=by
 intro pins s σ H R I h;refine z1w (hl pins s σ H _ I h) fun v s1 x H1 I1 r1 q1=>?_;obtain⟨a,e,⟨xs,hq⟩,q⟩:=q1;subst e;cases r1;obtain⟨its,rv,p,hz⟩:=I1.list hq;refine wpAny_pyIter_list p.isList ?_;refine⟨s1.heap.objs.size,[s1.heap.objs.size],_,_,H1,rfl,I1.kept (t':=s1.toks) fun b o e=>y03 _ e,z9Q a _,⟨_,y09 _ rfl,rfl,rfl⟩,fun b hb=>?_,q⟩;have e:b=s1.heap.objs.size:=by simpa using hb
 subst e;exact I1.fpOk (y0a _) (I1.hok.fresh (y0a _))
def z2P{l:Expr}{tl:TE}(hl:PE X l tl):PI X tg l (zmw X.K tl):=by
 intro pins s σ H R I h;refine z1w (hl pins s σ H _ I h) fun v s1 x H1 I1 r1 q1=>?_;obtain⟨a,e,⟨xs,hq⟩,q⟩:=q1;subst e;cases r1;obtain⟨its,rv,p,hz⟩:=I1.tuple hq;refine y1W (show s1.heap.IsTuple a its.toArray from p) ?_;refine⟨s1.heap.objs.size,[s1.heap.objs.size],_,_,H1,rfl,I1.kept (t':=s1.toks) fun b o e=>y03 _ e,z94 a _,⟨_,y09 _ rfl,rfl,rfl⟩,fun b hb=>?_,q⟩;have e:b=s1.heap.objs.size:=by simpa using hb
 subst e;exact I1.fpOk (y0a _) (I1.hok.fresh (y0a _))
def zcv{pins:yyP}{σ:St}{H:Hp}{s:Shared}{R:It->Hp->Prop}{E:yyE}{lo hi:Int}{t u v:Tok}{tk:Nat}(I:Inv X pins σ H s)(h1:-(2^62)<=lo)(h2:lo<2^62)(h3:-(2^62)<=hi)(h4:hi<2^62)(q:R (Itr lo (hi-lo).toNat) H):wpAny (model X.prog X.w) X.A (pyIter (.ref s.heap.objs.size)) (PIE X pins σ tg R) E { s with heap:=s.heap.push { cls:=.type "range",data:=.fields #[.int lo t,.int hi u,.int 1 v] },toks:=tk }:=by
 refine wpAny_pyIter_range (IsRange.new ..) (small_one h1 h2 h3 h4) ?_;have I1:Inv X pins σ H { s with heap:=s.heap.push { cls:=.type "range",data:=.fields #[.int lo t,.int hi u,.int 1 v] },toks:=tk }:=I.kept fun b o e=>y03 _ e;refine⟨(s.heap.push { cls:=.type "range",data:=.fields #[.int lo t,.int hi u,.int 1 v] }).objs.size,[(s.heap.push { cls:=.type "range",data:=.fields #[.int lo t,.int hi u,.int 1 v] }).objs.size],_,_,H,rfl,
  I1.kept (t':=tk) fun b o e=>y03 _ e,z8U _ lo (hi-lo).toNat,?_,fun b hb=>?_,q⟩
 .have e1:lo+((0:Nat):Int)*1=lo:=by simp
  have e2:(((hi-lo).toNat:Nat):Int)-((0:Nat):Int)=Builtin.Range.rangeSize lo hi 1:=by rw[rangeSize_one];split<;>lia
  show IsRangeIter _ _ (lo+((0:Nat):Int)*1) ((((hi-lo).toNat:Nat):Int)-((0:Nat):Int)) 1;rw[e1,e2];exact y09 _ rfl
 .have e:b=(s.heap.push { cls:=.type "range",data:=.fields #[.int lo t,.int hi u,.int 1 v] }).objs.size:=by simpa using hb
  subst e;exact I1.fpOk (y0a _) (I1.hok.fresh (y0a _))
def zh2(ta:TA):TI:=fun σ H R=>ta σ H fun vs H1=>∃j:Int,vs=[.int j]/\-(2^62)<=j/\j<2^62/\R (Itr 0 j.toNat) H1
def z27{a:Expr}{ta:TA}{p pos:Pos}(hg:Gl X "range")(hm:X.mg "range"=none)(ha:PA X [a] ta)(hs:starEach [a] X.env=[(false,eval a X.env)]:=by rfl):PI X tg (.Call (.Name "range" p) [a] [] pos) (zh2 ta):=by
 intro pins s σ H R I h;refine Call_ (z55 I hg hm boot_range (y1z (thn (ha pos pins s σ H _ I h) fun us s1 hz8=>?_) hs rfl));obtain⟨vs,H1,I1,r1,q1⟩:=hz8;obtain⟨j,e,q1,q2,q⟩:=q1;subst e;cases r1 with
 |cons r rr =>
  cases rr;obtain⟨t,rfl⟩:=r;exact call_range_1 (zcv I1 (by lia) (by lia) q1 q2 (by simpa using q))
def zoE(wi:TI)(g:TG)(tb:TS):TS:=fun D σ H=>wi σ H fun J H1=>∃W:Nat->Nat->St->Hp->Prop,(∃m,W 0 m σ H1)/\∀i m σ H,W i m σ H ->
 (J.stop i H/\D.nx σ H)\/(J.go i H/\∃N:St->Hp->Prop,(∀σ' H',N σ' H'->∃m',m'<m/\W (i+1) m' σ' H')/\∀x H',J.yld i H x H'->g x σ H' fun σ2 H2=>tb { D with nx:=N,ct:=N,bk:=D.nx } σ2 H2)
def z7O(fp:List Addr)(h:Heap):yyP:=fp.filterMap fun b=>(h.get? b).map fun o=>(b,o)
def z0F{fp:List Addr}{h:Heap}{b:Addr}{o:Obj}(hb:b∈fp)(e:h.get? b=some o):(b,o)∈z7O fp h:=y2k.mpr ⟨b,hb,by rw[e];rfl⟩
def za5{fp:List Addr}{h:Heap}{p:Addr × Obj}(hp:p∈z7O fp h):p.1∈fp/\h.get? p.1=some p.2:=by
 obtain⟨b,hb,e⟩:=y2k.mp hp;cases q:h.get? b with
 |none=>rw[q]at e;cases e
 |some o =>
  rw[q]at e;have e':(b,o)=p:=y0d e;subst e';exact⟨hb,q⟩
def Inv.pinned{pins:yyP}{σ:St}{H:Hp}{s:Shared}{fp:List Addr}(I:Inv X pins σ H s)(hf:∀b∈fp,z43 X pins H b)(ho:∀b∈fp,∃o,s.heap.get? b=some o/\∀v,o.data≠.cell v):Inv X (pins++z7O fp s.heap) σ H s :=
 I.pins_of fun p hp=>(y0G.mp hp).elim (fun z=>I.pin p (y0c _ z)) fun z=>by obtain⟨hb,e⟩:=za5 z;obtain⟨f0,f1,f2,_⟩:=hf p.1 hb;obtain⟨o,e',d⟩:=ho p.1 hb;rw[e]at e';cases e';exact⟨e,f0,f1,f2,d⟩
def Inv.unpinned{pins pl:yyP}{σ:St}{H:Hp}{s:Shared}(I:Inv X (pins++pl) σ H s):Inv X pins σ H s:=I.pins_of fun p hp=>I.pin p (y0c _ (y0x _ hp))
def z2R{iter:Expr}{body:List Stmt}{wi:TI}{g:TG}{tb:TS}{pos:Pos}(hp:PassesOwn (model X.prog X.w) X.A X.env X.xe)(hc:X.calm=true)(hi:PI X tg iter wi)(hg:PG X tg g)(hb:PSs X body tb)(hs:∀x,foldedSetIterable iter X.env x=pure x:=by intro _;rfl):PS X (.For tg iter body [] pos) (zoE wi g tb):=by
 intro pins s σ H D I h;refine wpAny_For (thn (hi pins s σ H _ I h) fun v s1 h1=>thn h1 fun itv s2 h2=>?_) hs;obtain⟨it,fp,tn,J,H2,e,I2,T,st2,f2,W,⟨m0,w0⟩,z4N⟩:=h2;subst e;have stat:∀{H':Hp},(∀b∈fp,H' b=none)->∀b∈fp,z43 X pins H' b:=fun hn b hb=>⟨hn b hb,(f2 b hb).2⟩;refine codeAny_forLoop_any (fun n s'=>∃i σ' H',Inv X pins σ' H' s'/\tn i s'.heap/\(∀b∈fp,H' b=none)/\W i n σ' H') ?_ m0 ⟨0,σ,H2,I2,st2,fun b hb=>(f2 b hb).1,w0⟩;rintro n s3 ⟨i,σ3,H3,I3,st3,fr3,w3⟩;rcases z4N i n σ3 H3 w3 with⟨stop,qn⟩|⟨go,N,hN,step⟩
 .refine y1K hp (thn (T.done X rfl rfl rfl hc i pins s3 σ3 H3 X.xe I3 (stat fr3) st3 stop) fun r s4 hz8=>?_);obtain⟨hr,I4⟩:=hz8;subst hr;exact y2j ⟨σ3,H3,I4,qn⟩
 .refine y1K hp (thn (T.item X rfl rfl rfl hc i pins s3 σ3 H3 X.xe I3 (stat fr3) st3 go) fun r s4 hz8=>?_);obtain⟨u,hr,h4⟩:=hz8;subst hr;refine y1K hp (thn h4 fun _ s5 hz8=>?_);obtain⟨x,H5,I5,r5,y5,st5,fr5⟩:=hz8;have I5':=I5.pinned (stat fr5) (T.obj _ _ st5);refine y1K hp (thn (hg _ s5 σ3 H5 x u _ I5' r5 (step x H5 y5)) fun _ s6 hz8=>?_);obtain⟨σ6,H6,I6,q6⟩:=hz8;refine y1K hp (thn (hb _ s6 σ6 H6 _ I6 q6) fun f s7 q7=>?_);have again:∀{σ7:St}{H7:Hp},Inv X (pins++z7O fp s5.heap) σ7 H7 s7->N σ7 H7->∃m,m<n/\∃i σ' H',Inv X pins σ' H' s7/\tn i s7.heap/\(∀b∈fp,H' b=none)/\W i m σ' H':=fun{σ7 H7} I7 n7=>by
   obtain⟨m',hm,w7⟩:=hN σ7 H7 n7;refine⟨m',hm,i+1,σ7,H7,I7.unpinned,T.keep _ _ _ st5 fun b hb o e=>(I7.pin (b,o) (y0c _ (y0c _ (z0F hb e)))).1,fun b hb=>?_,w7⟩;obtain⟨o,e,d⟩:=T.obj _ _ st5 b hb;exact(I7.pin (b,o) (y0c _ (y0c _ (z0F hb e)))).2.1
  cases f with
  |next=>obtain⟨σ7,H7,I7,n7⟩:=q7;exact again I7 n7
  |cont=>obtain⟨σ7,H7,I7,n7⟩:=q7;exact again I7 n7
  |brk=>obtain⟨σ7,H7,I7,q7⟩:=q7;exact⟨σ7,H7,I7.unpinned,q7⟩
  |ret v=>obtain⟨x7,σ7,H7,I7,r7,q7⟩:=q7;exact⟨x7,σ7,H7,I7.unpinned,r7,q7⟩
end
def z7N{K:yyF}{a:Addr}{xs:List V}{g:TG}{tb:TS}{D:z3Z}{σ:St}{H:Hp}(Pv:Nat->St->Hp->Prop)(h0:Pv 0 σ H)(hl:∀i σ H,i<=xs.length->Pv i σ H->SqL K H a xs)(hs:∀i x σ H,xs[i]?=some x->Pv i σ H->g x σ H fun σ2 H2=>tb { D with nx:=Pv (i+1),ct:=Pv (i+1),bk:=D.nx } σ2 H2)(hd:∀σ H,Pv xs.length σ H->D.nx σ H) : ∃W:Nat->Nat->St->Hp->Prop,(∃m,W 0 m σ H)/\∀i m σ H,W i m σ H -> ((Itl K a).stop i H/\D.nx σ H)\/((Itl K a).go i H/\∃N:St->Hp->Prop,(∀σ' H',N σ' H'->∃m',m'<m/\W (i+1) m' σ' H')/\∀x H',(Itl K a).yld i H x H'->g x σ H' fun σ2 H2=>tb { D with nx:=N,ct:=N,bk:=D.nx } σ2 H2):=by
 refine⟨fun i m σ H=>m=xs.length-i/\i<=xs.length/\Pv i σ H,⟨xs.length,by simp,y0t _,h0⟩,?_⟩;rintro i m σ H ⟨rfl,hi,p⟩;have q:=hl i σ H hi p;by_cases hlt:i<xs.length
 .refine .inr ⟨⟨xs,xs[i],q,by simp[hlt]⟩,Pv (i+1),fun σ' H' p'=>⟨xs.length-(i+1),by lia,rfl,hlt,p'⟩,fun x H' y=>?_⟩;obtain⟨e,y⟩:=y;subst e;exact hs i x σ _ (y xs q) p
 .have e:i=xs.length:=by lia
  subst e;exact .inl ⟨⟨xs,q,y0a _⟩,hd σ H p⟩
def zdz{K:yyF}{a:Addr}{xs:List V}{g:TG}{tb:TS}{D:z3Z}{σ:St}{H:Hp}(Pv:Nat->St->Hp->Prop)(h0:Pv 0 σ H)(hl:∀i σ H,i<=xs.length->Pv i σ H->SqT K H a xs)(hs:∀i x σ H,xs[i]?=some x->Pv i σ H->g x σ H fun σ2 H2=>tb { D with nx:=Pv (i+1),ct:=Pv (i+1),bk:=D.nx } σ2 H2)(hd:∀σ H,Pv xs.length σ H->D.nx σ H) : ∃W:Nat->Nat->St->Hp->Prop,(∃m,W 0 m σ H)/\∀i m σ H,W i m σ H -> ((Itt K a).stop i H/\D.nx σ H)\/((Itt K a).go i H/\∃N:St->Hp->Prop,(∀σ' H',N σ' H'->∃m',m'<m/\W (i+1) m' σ' H')/\∀x H',(Itt K a).yld i H x H'->g x σ H' fun σ2 H2=>tb { D with nx:=N,ct:=N,bk:=D.nx } σ2 H2):=by
 refine⟨fun i m σ H=>m=xs.length-i/\i<=xs.length/\Pv i σ H,⟨xs.length,by simp,y0t _,h0⟩,?_⟩;rintro i m σ H ⟨rfl,hi,p⟩;have q:=hl i σ H hi p;by_cases hlt:i<xs.length
 .refine .inr ⟨⟨xs,xs[i],q,by simp[hlt]⟩,Pv (i+1),fun σ' H' p'=>⟨xs.length-(i+1),by lia,rfl,hlt,p'⟩,fun x H' y=>?_⟩;obtain⟨e,y⟩:=y;subst e;exact hs i x σ _ (y xs q) p
 .have e:i=xs.length:=by lia
  subst e;exact .inl ⟨⟨xs,q,y0a _⟩,hd σ H p⟩
def z6P{lo:Int}{n:Nat}{g:TG}{tb:TS}{D:z3Z}{σ:St}{H:Hp}(Pv:Nat->St->Hp->Prop)(h0:Pv 0 σ H)(hs:∀i σ H,i<n->Pv i σ H->g (.int (lo+i)) σ H fun σ2 H2=>tb { D with nx:=Pv (i+1),ct:=Pv (i+1),bk:=D.nx } σ2 H2)(hd:∀σ H,Pv n σ H->D.nx σ H) : ∃W:Nat->Nat->St->Hp->Prop,(∃m,W 0 m σ H)/\∀i m σ H,W i m σ H -> ((Itr lo n).stop i H/\D.nx σ H)\/((Itr lo n).go i H/\∃N:St->Hp->Prop,(∀σ' H',N σ' H'->∃m',m'<m/\W (i+1) m' σ' H')/\∀x H',(Itr lo n).yld i H x H'->g x σ H' fun σ2 H2=>tb { D with nx:=N,ct:=N,bk:=D.nx } σ2 H2):=by
 refine⟨fun i m σ H=>m=n-i/\i<=n/\Pv i σ H,⟨n,by simp,y0t _,h0⟩,?_⟩;rintro i m σ H ⟨rfl,hi,p⟩;by_cases hlt:i<n
 .refine .inr ⟨hlt,Pv (i+1),fun σ' H' p'=>⟨n-(i+1),by lia,rfl,hlt,p'⟩,fun x H' y=>?_⟩;obtain⟨e,y⟩:=y;subst e y;exact hs i σ _ hlt p
 .have e:i=n:=by lia
  subst e;exact .inl ⟨y0a _,hd σ H p⟩
abbrev R2:=V->V->Hp->VK->Prop
def OpR(X:Cx)(f:Value->Value->Sem Value)(r:R2):Prop :=
 ∀(pins:yyP)(s:Shared)(σ:St)(H:Hp)(x y:V)(v u:Value)(Q:VK),Inv X pins σ H s->z0U x v->z0U y u->r x y H Q ->
  wpAny (model X.prog X.w) X.A (f v u) (EP X pins σ Q) X.xe s
def UnR(X:Cx)(f:Value->Sem Value)(r:V->Hp->VK->Prop):Prop :=
 ∀(pins:yyP)(s:Shared)(σ:St)(H:Hp)(x:V)(v:Value)(Q:VK),Inv X pins σ H s->z0U x v->r x H Q ->
  wpAny (model X.prog X.w) X.A (f v) (EP X pins σ Q) X.xe s
def z1s(X:Cx)(f:Value)(r:List V->Hp->VK->Prop):Prop :=
 ∀(pins:yyP)(s:Shared)(σ:St)(H:Hp)(xs:List V)(us:List Value)(Q:VK),Inv X pins σ H s->z0J xs us->r xs H Q ->
  wpAny (model X.prog X.w) X.A (call f us) (EP X pins σ Q) X.xe s
def zpb(X:Cx)(r:V->Hp->(Bool->Hp->Prop)->Prop):Prop :=
 ∀(pins:yyP)(s:Shared)(σ:St)(H:Hp)(x:V)(v:Value)(Q:Bool->Hp->Prop),Inv X pins σ H s->z0U x v->r x H Q ->
  wpAny (model X.prog X.w) X.A (truthy v) (TP X pins σ Q) X.xe s
def tOp(r:R2)(ta tb:TE):TE:=fun σ H Q=>ta σ H fun x H1=>tb σ H1 fun y H2=>r x y H2 Q
def tUn(r:V->Hp->VK->Prop)(ta:TE):TE:=fun σ H Q=>ta σ H fun x H1=>r x H1 Q
def rI(C:Int->Int->Prop)(g:Int->Int->V):R2:=fun x y H Q=>∃i j,x=.int i/\y=.int j/\C i j/\Q (g i j) H
def rI0(g:Int->Int->V):R2:=fun x y H Q=>∃i j,x=.int i/\y=.int j/\Q (g i j) H
def rU(g:Int->V):V->Hp->VK->Prop:=fun x H Q=>∃i,x=.int i/\Q (g i) H
section
variable{X:Cx}{a b c:Expr}{ta tb tc:TE}{pos:Pos}
def zjD(ha:PE X a ta)(hb:PE X b tb){pins:yyP}{s:Shared}{σ:St}{H:Hp}{R:V->V->Hp->Prop}(I:Inv X pins σ H s)(h:ta σ H fun x H1=>tb σ H1 fun y H2=>R x y H2){Q:yyE}{f:Value->Value->Sem Value}(hf:∀v u s2 x y H2,Inv X pins σ H2 s2->z0U x v->z0U y u->R x y H2->wpAny (model X.prog X.w) X.A (f v u) Q X.xe s2) : wpAny (model X.prog X.w) X.A (eval a X.env) (fun v s₁=>wpAny (model X.prog X.w) X.A (eval b X.env) (fun u s₂=>wpAny (model X.prog X.w) X.A (f v u) Q X.xe s₂) X.xe s₁) X.xe s:=by refine z1w (ha pins s σ H _ I h) fun v s1 x H1 I1 r1 q1=>?_;refine z1w (hb pins s1 σ H1 _ I1 q1) fun u s2 y H2 I2 r2 q2=>?_;exact hf v u s2 x y H2 I2 r1 r2 q2
def z0f{op:Operator}{r:R2}(ho:OpR X (binaryOp op) r)(ha:PE X a ta)(hb:PE X b tb):PE X (.BinOp a op b pos) (tOp r ta tb):=by intro pins s σ H Q I h;exact wpAny_BinOp (zjD ha hb I h fun v u s2 x y H2 I2 rx ry q=>ho pins s2 σ H2 x y v u Q I2 rx ry q)
def zeR{op:UnaryOp}{r:V->Hp->VK->Prop}(ho:UnR X (unaryOp op) r)(ha:PE X a ta):PE X (.UnaryOp op a pos) (tUn r ta):=by intro pins s σ H Q I h;exact UnaryOp_ (z1w (ha pins s σ H _ I h) fun v s1 x H1 I1 r1 q1=>ho pins s1 σ H1 x v Q I1 r1 q1)
def opI{f:Value->Value->Sem Value}{C:Int->Int->Prop}{g:Int->Int->Int}(rule:∀(i j:Int)(t u:Tok)(s:Shared)(Q:yyE)(E:yyE),C i j->Q (.int (g i j) s.toks) { s with toks:=s.toks+1 }->wpAny (model X.prog X.w) X.A (f (.int i t) (.int j u)) Q E s) : OpR X f (rI C fun i j=>.int (g i j)):=by intro pins s σ H x y v u Q I rx ry h;obtain⟨i,j,rfl,rfl,hc,q⟩:=h;obtain⟨t,rfl⟩:=rx;obtain⟨t',rfl⟩:=ry;exact rule i j t t' s _ _ hc ⟨.int (g i j),H,I.tok _,⟨_,rfl⟩,q⟩
def zmq{f:Value->Value->Sem Value}{g:Int->Int->Int}(rule:∀(i j:Int)(t u:Tok)(s:Shared)(Q:yyE)(E:yyE),Q (.int (g i j) s.toks) { s with toks:=s.toks+1 }->wpAny (model X.prog X.w) X.A (f (.int i t) (.int j u)) Q E s) : OpR X f (rI0 fun i j=>.int (g i j)):=by intro pins s σ H x y v u Q I rx ry h;obtain⟨i,j,rfl,rfl,q⟩:=h;obtain⟨t,rfl⟩:=rx;obtain⟨t',rfl⟩:=ry;exact rule i j t t' s _ _ ⟨.int (g i j),H,I.tok _,⟨_,rfl⟩,q⟩
def zgg{f:Value->Value->Sem Value}{g:Int->Int->Bool}(rule:∀(i j:Int)(t u:Tok)(s:Shared)(Q:yyE)(E:yyE),Q (.bool (g i j)) s->wpAny (model X.prog X.w) X.A (f (.int i t) (.int j u)) Q E s) : OpR X f (rI0 fun i j=>.bl (g i j)):=by intro pins s σ H x y v u Q I rx ry h;obtain⟨i,j,rfl,rfl,q⟩:=h;obtain⟨t,rfl⟩:=rx;obtain⟨t',rfl⟩:=ry;exact rule i j t t' s _ _ ⟨.bl (g i j),H,I,rfl,q⟩
def zoz(i j:Int):Prop:=0<j/\j<1073741824
def zp3(i j:Int):Prop:=0<=j/\j<=1000000/\i.natAbs<2^64
def zjQ(i j:Int):Prop:=(-(2^64)<i/\i<2^64)\/(-(2^64)<j/\j<2^64)
def zjQ.ok{i j:Int}(h:zjQ i j):IntMulOk i j:=by
 rcases h with⟨h1,h2⟩|⟨h1,h2⟩
 .exact .of_left (intBits_le_64 h1 h2)
 .exact .of_right (intBits_le_64 h1 h2)
def z1g:OpR X (binaryOp .Add) (rI0 fun i j=>.int (i+j)):=zmq fun _ _ _ _ _ _ _ q=>add_int q
def z2O:OpR X (binaryOp .Sub) (rI0 fun i j=>.int (i-j)):=zmq fun _ _ _ _ _ _ _ q=>sub_int q
def z4V:OpR X (binaryOp .Mult) (rI zjQ fun i j=>.int (i*j)):=opI fun _ _ _ _ _ _ _ hc q=>mul_int q hc.ok
def z2g:OpR X (binaryOp .FloorDiv) (rI zoz fun i j=>.int (i/j)):=opI fun i j _ _ _ _ _ hc q=>by have h1:(0:Int)<j:=hc.1;have h2:j<1073741824:=hc.2;exact floordiv_int (by lia) (by rw[Int.fdiv_eq_ediv_of_nonneg i (by lia)];exact q) (.inl (PyProof.noPylong_small (by lia)))
def z16:OpR X (binaryOp .Mod) (rI (fun _ j=>0<j) fun i j=>.int (i%j)):=opI fun i j _ _ _ _ _ hc q=>by have h1:(0:Int)<j:=hc;exact mod_int' (by lia) (by rw[Int.fmod_eq_emod_of_nonneg i (by lia)];exact q)
def z9n:OpR X (binaryOp .Pow) (rI zp3 fun i j=>.int (i^j.toNat)):=opI fun _ _ _ _ _ _ _ hc q=>pow_int_small hc.1 hc.2.1 hc.2.2 q
def unI{f:Value->Sem Value}{g:Int->Int}(rule:∀(i:Int)(t:Tok)(s:Shared)(Q:yyE)(E:yyE),Q (.int (g i) s.toks) { s with toks:=s.toks+1 }->wpAny (model X.prog X.w) X.A (f (.int i t)) Q E s) : UnR X f (rU fun i=>.int (g i)):=by intro pins s σ H x v Q I rx h;obtain⟨i,rfl,q⟩:=h;obtain⟨t,rfl⟩:=rx;exact rule i t s _ _ ⟨.int (g i),H,I.tok _,⟨_,rfl⟩,q⟩
def zdh:UnR X (unaryOp .USub) (rU fun i=>.int (-i)):=unI fun _ _ _ _ _ q=>neg_int q
end
def zjA:V->V->Bool
 |.non,.non=>true|.non,.int _=>true|.int _,.non=>true|.non,.bl _=>true|.bl _,.non=>true|.non,.str _=>true|.str _,.non=>true
 |.int _,.int _=>true|.bl _,.bl _=>true|.str _,.str _=>true|.byt _,.byt _=>true
 |.int _,.str _=>true|.str _,.int _=>true|.bl _,.str _=>true|.str _,.bl _=>true
 |_,_=>false
def rEq:R2:=fun x y H Q=>zjA x y=true/\Q (.bl (decide (x=y))) H
def rNe:R2:=fun x y H Q=>zjA x y=true/\Q (.bl (!decide (x=y))) H
def zav{i j:Int}:decide (V.int i=V.int j)=(i==j):=by rw[y1L];simp
def zdf{i j:Bool}:decide (V.bl i=V.bl j)=(i==j):=by rw[y1L];simp
def zau{i j:Str}:decide (V.str i=V.str j)=(i==j):=by rw[y1L];simp
def zbg{i j:Array UInt8}:decide (V.byt i=V.byt j)=(i.toList==j.toList):=by rw[y1L];cases i;cases j;simp
section
variable{X:Cx}{a b c:Expr}{ta tb tc:TE}{pos:Pos}
def z0C{pins:yyP}{σ:St}{H:Hp}{s:Shared}{Q:VK}{k k':Bool}(I:Inv X pins σ H s)(q:Q (.bl k) H)(e:k=k'):EP X pins σ Q (.bool k') s:=by subst e;exact⟨.bl k,H,I,rfl,q⟩
def zgN:OpR X (compareOp .Eq) rEq:=by
 intro pins s σ H x y v u Q I rx ry h;obtain⟨hs,q⟩:=h;cases x with
 |non =>
  cases rx;cases y with
  |non=>cases ry;exact PySem.EqNone.eq_none_none (z0C I q (by simp))
  |bl j=>cases ry;exact PySem.EqNone.eq_none_bool (z0C I q (by simp))
  |int j=>obtain⟨t',rfl⟩:=ry;exact PySem.EqNone.eq_none_int (z0C I q (by simp))
  |str j=>obtain⟨t',rfl⟩:=ry;exact PySem.EqNone.eq_none_str (z0C I q (by simp))
  |_=>exact absurd (show false=true from hs) y0u
 |bl i =>
  cases rx;cases y with
  |non=>cases ry;exact PySem.EqNone.eq_bool_none (z0C I q (by simp))
  |bl j=>cases ry;exact eq_bool (z0C I q zdf)
  |str j=>obtain⟨t',rfl⟩:=ry;exact PySem.EqMixed.eq_bool_str (z0C I q (by simp))
  |_=>exact absurd (show false=true from hs) y0u
 |int i =>
  obtain⟨t,rfl⟩:=rx;cases y with
  |non=>cases ry;exact PySem.EqNone.eq_int_none (z0C I q (by simp))
  |int j=>obtain⟨t',rfl⟩:=ry;exact eq_int (z0C I q zav)
  |str j=>obtain⟨t',rfl⟩:=ry;exact PySem.EqMixed.eq_int_str (z0C I q (by simp))
  |_=>exact absurd (show false=true from hs) y0u
 |str i =>
  obtain⟨t,rfl⟩:=rx;cases y with
  |non=>cases ry;exact PySem.EqNone.eq_str_none (z0C I q (by simp))
  |bl j=>cases ry;exact PySem.EqMixed.eq_str_bool (z0C I q (by simp))
  |int j=>obtain⟨t',rfl⟩:=ry;exact PySem.EqMixed.eq_str_int (z0C I q (by simp))
  |str j=>obtain⟨t',rfl⟩:=ry;exact eq_str (z0C I q zau)
  |_=>exact absurd (show false=true from hs) y0u
 |byt i =>
  obtain⟨t,rfl⟩:=rx;cases y with
  |byt j=>obtain⟨t',rfl⟩:=ry;exact PySem.W.eq_bytes (z0C I q zbg)
  |_=>exact absurd (show false=true from hs) y0u
 |_=>cases y<;>exact absurd (show false=true from hs) y0u
def zkq:OpR X (compareOp .NotEq) rNe:=by
 intro pins s σ H x y v u Q I rx ry h;obtain⟨hs,q⟩:=h;cases x with
 |non =>
  cases rx;cases y with
  |non=>cases ry;exact PySem.EqNone.ne_none_none (z0C I q (by simp))
  |bl j=>cases ry;exact PySem.EqNone.ne_none_bool (z0C I q (by simp))
  |int j=>obtain⟨t',rfl⟩:=ry;exact PySem.EqNone.ne_none_int (z0C I q (by simp))
  |str j=>obtain⟨t',rfl⟩:=ry;exact PySem.EqNone.ne_none_str (z0C I q (by simp))
  |_=>exact absurd (show false=true from hs) y0u
 |bl i =>
  cases rx;cases y with
  |non=>cases ry;exact PySem.EqNone.ne_bool_none (z0C I q (by simp))
  |bl j=>cases ry;exact ne_bool (z0C I q (y1n not zdf))
  |str j=>obtain⟨t',rfl⟩:=ry;exact PySem.EqMixed.ne_bool_str (z0C I q (by simp))
  |_=>exact absurd (show false=true from hs) y0u
 |int i =>
  obtain⟨t,rfl⟩:=rx;cases y with
  |non=>cases ry;exact PySem.EqNone.ne_int_none (z0C I q (by simp))
  |int j=>obtain⟨t',rfl⟩:=ry;exact ne_int (z0C I q (y1n not zav))
  |str j=>obtain⟨t',rfl⟩:=ry;exact PySem.EqMixed.ne_int_str (z0C I q (by simp))
  |_=>exact absurd (show false=true from hs) y0u
 |str i =>
  obtain⟨t,rfl⟩:=rx;cases y with
  |non=>cases ry;exact PySem.EqNone.ne_str_none (z0C I q (by simp))
  |bl j=>cases ry;exact PySem.EqMixed.ne_str_bool (z0C I q (by simp))
  |int j=>obtain⟨t',rfl⟩:=ry;exact PySem.EqMixed.ne_str_int (z0C I q (by simp))
  |str j=>obtain⟨t',rfl⟩:=ry;exact ne_str (z0C I q (y1n not zau))
  |_=>exact absurd (show false=true from hs) y0u
 |byt i =>
  obtain⟨t,rfl⟩:=rx;cases y with
  |byt j=>obtain⟨t',rfl⟩:=ry;exact PySem.W.ne_bytes (z0C I q (y1n not zbg))
  |_=>exact absurd (show false=true from hs) y0u
 |_=>cases y<;>exact absurd (show false=true from hs) y0u
def z6k:OpR X (compareOp .Lt) (rI0 fun i j=>.bl (decide (i<j))):=zgg fun _ _ _ _ _ _ _ q=>lt_int q
def z3s:OpR X (compareOp .LtE) (rI0 fun i j=>.bl (decide (i<=j))):=zgg fun _ _ _ _ _ _ _ q=>le_int q
def zdp:OpR X (compareOp .Gt) (rI0 fun i j=>.bl (decide (j<i))):=zgg fun _ _ _ _ _ _ _ q=>gt_int q
def zhg:OpR X (compareOp .GtE) (rI0 fun i j=>.bl (decide (j<=i))):=zgg fun _ _ _ _ _ _ _ q=>ge_int q
def zaV:OpR X (compareOp .In) (fun x y H Q=>∃i j,x=.str i/\y=.str j/\Q (.bl (!(Builtin.Str.occurrences j i 0 j.length 1).isEmpty)) H):=by intro pins s σ H x y v u Q I rx ry h;obtain⟨i,j,rfl,rfl,q⟩:=h;obtain⟨t,rfl⟩:=rx;obtain⟨t',rfl⟩:=ry;exact in_str (z0C I q rfl)
def zff:OpR X (compareOp .Is) (fun x y H Q=>y=.non/\Q (.bl (decide (x=.non))) H):=by
 intro pins s σ H x y v u Q I rx ry h;obtain⟨rfl,q⟩:=h;cases ry;refine is_none_gen (z0C I q ?_);cases x<;>first
  | (cases rx;rfl)
  | (obtain⟨t,rfl⟩:=rx;rfl)
def z1C(b:Expr){op:CmpOp}(h:op≠.In:=by decide)(h2:op≠.NotIn:=by decide):behindInMarks op b=false:=by
 have e1:(op==CmpOp.In)=false:=by cases op<;>first|rfl|exact absurd rfl h
 have e2:(op==CmpOp.NotIn)=false:=by cases op<;>first|rfl|exact absurd rfl h2
 cases b<;>simp[behindInMarks,e1,e2]
def z9I{op:CmpOp}{r:R2}(ho:OpR X (compareOp op) r)(ha:PE X a ta)(hb:PE X b tb)(hm:behindInMarks op b=false):PE X (.Compare a [op] [b] pos) (tOp r ta tb):=by intro pins s σ H Q I h;exact wpAny_Compare1 (zjD ha hb I h fun v u s2 x y H2 I2 rx ry q=>ho pins s2 σ H2 x y v u Q I2 rx ry q) hm
def zeK(t:TE):TT:=fun σ H Q=>t σ H fun x H'=>∃k,x=.bl k/\Q k H'
def z1c{op:CmpOp}{r:R2}(ho:OpR X (compareOp op) r)(ha:PE X a ta)(hb:PE X b tb)(hm:behindInMarks op b=false):PT X (.Compare a [op] [b] pos) (zeK (tOp r ta tb)):=by
 intro pins s σ H Q I h;refine wpAny_isTrue_Compare1 (z1w (ha pins s σ H _ I h) fun v s1 x H1 I1 r1 q1=>z1w (hb pins s1 σ H1 _ I1 q1) fun u s2 y H2 I2 r2 q2 =>
  thn (ho pins s2 σ H2 x y v u _ I2 r1 r2 q2) fun c s3 ⟨z,H3,I3,r3,k,e,q3⟩=>?_) hm
 subst e;cases r3;exact y17 ⟨H3,I3,q3⟩
def zd8(r r':R2)(ta tb tc:TE):TE:=fun σ H Q=>ta σ H fun x H1=>tb σ H1 fun y H2=>r x y H2 fun z H3=>∃k,z=.bl k /\
 (if k=true then tc σ H3 fun w' H4=>r' y w' H4 Q else Q (.bl false) H3)
def z89{op op':CmpOp}{r r':R2}(ho:OpR X (compareOp op) r)(ho':OpR X (compareOp op') r')(ha:PE X a ta)(hb:PE X b tb)(hc:PE X c tc)(hm:lastMarks [op,op'] [b,c]=false:=by with_unfolding_all rfl):PE X (.Compare a [op,op'] [b,c] pos) (zd8 r r' ta tb tc):=by
 intro pins s σ H Q I h;refine Compare_chain (z1w (ha pins s σ H _ I h) fun v s1 x H1 I1 r1 q1=>chain_link (z1w (hb pins s1 σ H1 _ I1 q1) fun u s2 y H2 I2 r2 q2 =>
  thn (ho pins s2 σ H2 x y v u _ I2 r1 r2 q2) fun d s3 ⟨z,H3,I3,r3,k,e,q3⟩=>?_)) hm
 subst e;cases r3;refine y17 ?_;cases k with
 |false=>exact ite_ff ⟨.bl false,H3,I3,rfl,q3⟩
 |true=>exact ite_tt (chain_last (thn (hc pins s3 σ H3 _ I3 q3) fun w' s4 ⟨z',H4,I4,r4,q4⟩=>ho' pins s4 σ H4 y z' u w' Q I4 r2 r4 q4))
def z3p{op op':CmpOp}{r r':R2}(ho:OpR X (compareOp op) r)(ho':OpR X (compareOp op') r')(ha:PE X a ta)(hb:PE X b tb)(hc:PE X c tc)(hm:lastMarks [op,op'] [b,c]=false:=by with_unfolding_all rfl):PT X (.Compare a [op,op'] [b,c] pos) (zeK (zd8 r r' ta tb tc)):=by
 intro pins s σ H Q I h;refine isTrue_chain (z1w (ha pins s σ H _ I h) fun v s1 x H1 I1 r1 q1=>test_link (z1w (hb pins s1 σ H1 _ I1 q1) fun u s2 y H2 I2 r2 q2 =>
  thn (ho pins s2 σ H2 x y v u _ I2 r1 r2 q2) fun d s3 ⟨z,H3,I3,r3,k,e,q3⟩=>?_)) hm
 subst e;cases r3;refine y17 ?_;cases k with
 |false =>
  obtain⟨k',e',q'⟩:=q3;cases e';exact ite_ff ⟨H3,I3,q'⟩
 |true =>
  refine ite_tt (test_last (z1w (hc pins s3 σ H3 _ I3 q3) fun w' s4 z' H4 I4 r4 q4=>z1w (ho' pins s4 σ H4 y z' u w' _ I4 r2 r4 q4) fun d' s5 z2 H5 I5 r5 hz9=>?_));obtain⟨k2,e2,q5⟩:=hz9;subst e2;cases r5;exact y17 ⟨H5,I5,q5⟩
def zmA(K:yyF)(x:V)(H:Hp)(k:Bool):Prop :=
 match x with
 |.non=>k=false
 |.bl b=>k=b
 |.int i=>k=(i != 0)
 |.str y=>y.length<=sizeLine/\k=((y.length:Int) != 0)
 |.byt y=>y.size<=sizeLine/\k=((y.size:Int) != 0)
 |.ref p=>(∃xs,SqL K H p xs/\k=!xs.isEmpty)\/(∃xs,SqT K H p xs/\k=!xs.isEmpty)\/∃kvs,H p=some (.dK kvs)/\k=!kvs.isEmpty
 |_=>False
def z92{κ:Type}{kvs:List (κ × V)}{vs:List (κ × Value)}(r:KV kvs vs):(!vs.isEmpty)=!kvs.isEmpty:=by cases r<;>rfl
def z52{xs:List V}{its:List Value}(r:z0J xs its):(!its.toArray.isEmpty)=!xs.isEmpty:=by cases r<;>simp
def z3P:(sizeLine:Nat)<2^63:=by rw[y2d];decide
def zg1:zpb X (fun x H Q=>∃k,zmA X.K x H k/\Q k H):=by
 intro pins s σ H x v Q I rx h;obtain⟨k,e,q⟩:=h;have hl:=z3P;have hs:sizeLine=16777216:=y2d;cases x with
 |non =>
  cases rx;have e':k=false:=e;subst e';exact truthy_none ⟨H,I,q⟩
 |bl b =>
  cases rx;have e':k=b:=e;subst e';exact y17 ⟨H,I,q⟩
 |int i =>
  obtain⟨t,rfl⟩:=rx;have e':k=(i != 0):=e;subst e';exact PySem.P.truthy_int ⟨H,I,q⟩
 |str y =>
  obtain⟨t,rfl⟩:=rx;obtain⟨hy,e'⟩:y.length<=sizeLine/\k=((y.length:Int) != 0):=e;subst e';exact PySem.P.truthy_str (by lia) ⟨H,I.tok _,q⟩
 |byt y =>
  obtain⟨t,rfl⟩:=rx;obtain⟨hy,e'⟩:y.size<=sizeLine/\k=((y.size:Int) != 0):=e;subst e';exact PySem.W.truthy_bytes (by lia) ⟨H,I.tok _,q⟩
 |ref p =>
  cases rx;have e':(∃xs,SqL X.K H p xs/\k=!xs.isEmpty)\/(∃xs,SqT X.K H p xs/\k=!xs.isEmpty)\/∃kvs,H p=some (.dK kvs)/\k=!kvs.isEmpty:=e;rcases e' with⟨xs,hx,e'⟩|⟨xs,hx,e'⟩|⟨kvs,hx,e'⟩
  .subst e';obtain⟨its,r,pl,hz⟩:=I.list hx;have hlen:=r.length;exact wpAny_truthy_list pl.isList (by simp only[y0g];lia) ⟨H,I.tok _,by rw[z52 r];exact q⟩
  .subst e';obtain⟨its,r,pl,hz⟩:=I.tuple hx;have hlen:=r.length;exact truthy_tuple pl (by simp only[y0g];lia) ⟨H,I.tok _,by rw[z52 r];exact q⟩
  .subst e';obtain⟨hz,hS,vs,r,m⟩:kvs.length<=sizeLine/\(p==sysModules)=false/\∃vs,KV kvs vs/\s.heap.DictOf (z0W X.prog X.w) p vs:=I.hok p _ hx;have hlen:kvs.length=vs.length:=y23 r;exact wpAny_truthy_dict hS m (by lia) ⟨H,I.tok _,by rw[z92 r];exact q⟩
 |_=>exact(show False from e).elim
def zcH(ha:PE X a ta)(he:∀whole,isTrue a X.env whole=(do let v <-whole;standAt a.pos;holding [v] (truthy v))) : PT X a (fun σ H Q=>ta σ H fun x H'=>∃k,zmA X.K x H' k/\Q k H'):=by intro pins s σ H Q I h;exact isTrue_plain (z1w (ha pins s σ H _ I h) fun v s1 x H1 I1 r1 q1=>zg1 pins s1 σ H1 x v Q I1 r1 q1) (he _)
def z2E{x:V}{us:List Value}(r:z0J [x] us):∃u,us=[u]/\z0U x u:=by
 cases r with
 |cons r1 r2=>cases r2;exact⟨_,rfl,r1⟩
def zbY{x y:V}{us:List Value}(r:z0J [x,y] us):∃u w',us=[u,w']/\z0U x u/\z0U y w':=by
 cases r with
 |cons r1 r2 =>
  cases r2 with
  |cons r3 r4=>cases r4;exact⟨_,_,rfl,r1,r3⟩
def z9L(hc:X.calm=true):z1s X (.builtin "min") (fun xs H Q=>∃i j,xs=[.int i,.int j]/\Q (.int (if j<i then j else i)) H):=by
 intro pins s σ H xs us Q I r h;obtain⟨i,j,rfl,q⟩:=h;obtain⟨u,w',rfl,⟨t,rfl⟩,⟨t',rfl⟩⟩:=zbY r;refine min_two_ints (I.ok.hd hc) fun h' tk k=>⟨_,H,I.kept k,?_,q⟩;by_cases hj:j<i
 .rw[if_pos hj,if_pos hj];exact⟨_,rfl⟩
 .rw[if_neg hj,if_neg hj];exact⟨_,rfl⟩
def z3V:z1s X (.type "str") (fun xs H Q=>∃i,xs=[.int i]/\i.natAbs.log2<1920/\Q (.str (toString i)) H):=by intro pins s σ H xs us Q I r h;obtain⟨i,rfl,hz,q⟩:=h;obtain⟨u,rfl,t,rfl⟩:=z2E r;exact PySem.P.str_of_int hz ⟨.str _,H,I.tok _,⟨_,rfl⟩,q⟩
end
structure ze8(h:Heap)(x dx C:Addr)(mA:yyS):Prop where
 obj:h.get? x=some (PySem.W.instObj C dx)
 ns:h.Ns1 dx mA
 ne:dx≠x
def zbn{h:Heap}{dx:Addr}{mA:yyS}(n:h.Ns1 dx mA):∃od,h.get? dx=some od/\∀name,PySem.W.lookIn name od=some (mA name):=by
 obtain⟨o,es,ep,ho,hd,hk,_,hm⟩:=n;refine⟨o,ho,fun name=>?_⟩;have e:=hm name;unfold nsFind findBy at e;rw[<-Array.find?_toList]at e;unfold PySem.W.lookIn;rw[hd];dsimp only;split
 .rename_i y q;rw[q]at e;exact y1n some e
 .rename_i q;rw[q]at e;have a:es.toList.any (·.refKey)=false:=by
   rw[List.any_eq_false];intro y hy;obtain⟨z,t,hkey⟩:=hk y (Array.mem_toList_iff.mp hy);simp[DictEntry.refKey,hkey]
  have a':¬es.toList.any (·.refKey)=true:=by rw[a];exact y0u
  rw[if_neg a'];exact y1n some e
def ze8.look{h:Heap}{x dx C:Addr}{mA:yyS}(I:ze8 h x dx C mA):∃od,PySem.W.InstAt h x (PySem.W.instObj C dx) C (some od)/\∀name,PySem.W.lookIn name od=some (mA name) :=
 let⟨od,ho,hl⟩:=zbn I.ns
 ⟨od,⟨I.obj,rfl,rfl,ho⟩,hl⟩
section
variable{prog:Program}{w:World}{A:Around}{E:yyE}{s:Shared}{K:yyF}{x dx C f:Addr}{mA:yyS}{name:Str}{v:Value}
def zdq{expr:Bool}{Q:yyE}(X:K.In s.heap)(I:ze8 s.heap x dx C mA)(hg:PySem.W.plainGet K C name=true)(hh:PySem.W.hasDictIn K C=true)(ha:PySem.W.findIn K (.ref C) name=some none)(hv:mA name=some v)(hv':PySem.W.handedIn v=true)(h:Q v { s with toks:=s.toks+1 }) : wpAny (model prog w) A (getAttr (.ref x) name expr) Q E s:=by obtain⟨od,J,hl⟩:=I.look;exact PySem.W.get_value X J (PySem.W.plainGet_of hg).1 (PySem.W.findObj_own hh ha rfl (by rw[hl,hv])) hv' h
def zcm{pl:Sem Bool}{Q:Value × List Value->Shared->Prop}(X:K.In s.heap)(I:ze8 s.heap x dx C mA)(hg:PySem.W.plainGet K C name=true)(hf:PySem.W.findIn K (.ref C) name=some (some (.ref f)))(ht:PySem.W.isFn K (.ref f)=true)(hv:mA name=none)(h:Q (.ref f,[.ref x]) s) : wpAny (model prog w) A (getMethod (.ref x) name pl) Q E s:=by obtain⟨od,J,hl⟩:=I.look;exact PySem.W.method_fn X J (PySem.W.plainGet_of hg).1 (PySem.W.plainGet_of hg).2 hf (y1M.mp ht) (by show(PySem.W.lookIn name od).map (·.isSome)=some false;rw[hl,hv];rfl) h
def zds{ns:List Str}{Q:Unit->Shared->Prop}(X:K.In s.heap)(I:ze8 s.heap x dx C mA)(hs:PySem.W.findIn K (.ref C) "__setattr__"=some (some (.builtin "object.__setattr__")))(hp:PySem.W.plainOver K C=true)(ht:PySem.W.takerIn K C name=some none)(hh:PySem.W.hasDictIn K C=true)(hw:PySem.Within mA ns)(hsz:ns.length<=sizeLine)(h:∀h',ze8 h' x dx C (fun y=>if y=name then some v else mA y)->Heap.SameBut dx s.heap h'->Q () { s with heap:=h',toks:=s.toks+2 }) : wpAny (model prog w) A (setAttr (.ref x) name v) Q E s:=by obtain⟨od,J,hl⟩:=I.look;refine PySem.W.set_plain X J hs (PySem.W.osa_open (s:={ s with toks:=s.toks+1 }) (r:=none) X J hp ht fun b=>?_);obtain⟨cd,hc,hd'⟩:=PySem.W.any_some hh;have hx:s.heap.get? x=some ⟨.ref C,some dx,.plain,#[]⟩:=I.obj;refine y02 (y07 (y02 (y02 (wpAny_loadPart hx (y02 (PySem.W.Looks.here (s:={ s with toks:=s.toks+1 }) (PySem.W.looks_clsIn X hc) ?_))))));rw[hd'];refine y07 (a:=some dx) (y02 (y07 (y02 ?_)));refine wpAny_nsSet1 (s:={ s with toks:=s.toks+1 }) I.ns fun h' hn2 hs2=>?_;obtain⟨oD,esD,epD,hoD,hdD,hcD⟩:=hn2.count (PySem.Within.cons name v hw);refine y02 (wpAny_lookBehind hoD (by rw[hdD];exact pastItsLine_dict (y0w hcD (by rw[y0m];lia))) ?_);exact y07 (h _ ⟨(hs2.2 _ (y1h I.ne)).trans I.obj,hn2,I.ne⟩ hs2)
def zch{R:Result->Shared->Prop}{vs:List Value}{kw:List (Str × Value)}(X:K.In s.heap)(hm:PySem.W.makesIn K C=true)(hi:PySem.W.findIn K (.ref C) "__init__"=some (some (.ref f)))(hf:PySem.W.typeIn K (.ref f)=some (.type "function"))(h:codeAny (model prog w) (A.under (.builtin "type.__call__" ⟨.ref C::vs,kw⟩)) (.call (.ref f) ⟨.ref (s.heap.objs.size+1)::vs,kw⟩) (PySem.W.InitBack (s.heap.objs.size+1) R) { s with heap:=(s.heap.push PySem.W.emptyDict).push (PySem.W.instObj C s.heap.objs.size) }) : codeAny (model prog w) A (.call (.ref C) ⟨vs,kw⟩) R s:=by obtain⟨hh,g,d,t,os⟩:=s;exact PySem.W.make_core (PySem.W.makes_of X hm) (PySem.W.looks_findIn X hi) (fun self=>PySem.W.bind_fn X self hf) (.inl rfl) h
end
def z3Y(f:Str)(v:V):List (Str × V)->List (Str × V)
 |[]=>[(f,v)]
 | (g,x)::r=>if g=f then(g,v)::r else(g,x)::z3Y f v r
theorem z0p(f g:Str)(v:V):∀fs:List (Str × V),(z3Y f v fs).lookup g=if g=f then some v else fs.lookup g
 |[]=>by
  show List.lookup g [(f,v)]=_;by_cases h:g=f
  .have hb:(g==f)=true:=y1M.mpr h;simp only[List.lookup,hb,if_pos h]
  .have hb:(g==f)=false:=y1o.mpr h;simp only[List.lookup,hb,if_neg h]
 | (k,x)::r=>by
  have ih:=z0p f g v r;rw[show z3Y f v ((k,x)::r)=(if k=f then(k,v)::r else(k,x)::z3Y f v r)from rfl];by_cases hk:k=f
  .rw[if_pos hk];by_cases h:g=k
   .have hb:(g==k)=true:=y1M.mpr h;simp only[List.lookup,hb,if_pos (h.trans hk)]
   .have hb:(g==k)=false:=y1o.mpr h;simp only[List.lookup,hb,if_neg (fun e:g=f=>h (e.trans hk.symm))]
  .rw[if_neg hk];by_cases h:g=k
   .have hb:(g==k)=true:=y1M.mpr h;simp only[List.lookup,hb,if_neg (fun e:g=f=>hk (h.symm.trans e))]
   .have hb:(g==k)=false:=y1o.mpr h;simp only[List.lookup,hb];exact ih
theorem z4c(f:Str)(v:V):∀fs:List (Str × V),f∈(z3Y f v fs).map (·.1)/\∀g,g∈fs.map (·.1)->g∈(z3Y f v fs).map (·.1)
 |[]=>⟨by simp[z3Y],fun g h=>by simp at h⟩
 | (k,x)::r=>by
  obtain⟨i1,i2⟩:=z4c f v r;rw[show z3Y f v ((k,x)::r)=(if k=f then(k,v)::r else(k,x)::z3Y f v r)from rfl];by_cases hk:k=f
  .rw[if_pos hk];subst hk;exact⟨by simp,fun g h=>by simpa using h⟩
  .rw[if_neg hk];refine⟨?_,fun g h=>?_⟩
   .rw[y0i];exact y0f _ i1
   .rw[y0i]at h⊢;rcases y0o.mp h with e|e
    .exact y0o.mpr (.inl e)
    .exact y0f _ (i2 g e)
theorem z2Y(f:Str)(v:V):∀fs:List (Str × V),(z3Y f v fs).length<=fs.length+1
 |[]=>by simp[z3Y]
 | (k,x)::r=>by
  have ih:=z2Y f v r;rw[show z3Y f v ((k,x)::r)=(if k=f then(k,v)::r else(k,x)::z3Y f v r)from rfl];by_cases hk:k=f
  .rw[if_pos hk,y0m,y0m];lia
  .rw[if_neg hk,y0m,y0m];lia
def z4Q.some_of{v:V}{o:Option Value}(r:z4Q (some v) o):∃u,o=some u/\z0U v u:=by
 cases o with
 |none=>exact(show False from r).elim
 |some u=>exact⟨u,rfl,r⟩
def z4Q.none_of{o:Option Value}(r:z4Q none o):o=none:=by
 cases o with
 |none=>rfl
 |some u=>exact(show False from r).elim
def z9e{v:V}{u:Value}(r:z0U v u):PySem.W.handedIn u=true:=by
 cases v with
 |non=>cases(show u=Value.none from r);rfl
 |bl b=>cases(show u=Value.bool b from r);rfl
 |int i=>obtain⟨t,e⟩:=(show ∃t,u=Value.int i t from r);cases e;rfl
 |str x=>obtain⟨t,e⟩:=(show ∃t,u=Value.str x t from r);cases e;rfl
 |byt b=>obtain⟨t,e⟩:=(show ∃t,u=Value.bytes b t from r);cases e;rfl
 |flt b=>obtain⟨t,e⟩:=(show ∃t,u=Value.float b t from r);cases e;rfl
 |ref a=>cases(show u=Value.ref a from r);rfl
 |ty n=>cases(show u=Value.type n from r);rfl
section
variable{P:Program}{w:World}{H H':Hp}{h h':Heap}{a C dx:Addr}{fs fs':List (Str × V)}
def z5U(hok:HOk P w H h)(e:H a=some (.ins C dx fs)):∃mA,ze8 h a dx C mA/\(∀f,z4Q (fs.lookup f) (mA f))/\PySem.Within mA (fs.map (·.1))/\fs.length<=1000/\H dx=some (.own a):=by obtain⟨d,z,ne,ob,mA,n,r,q⟩:=(show z1d P w H h a (.ins C dx fs)from hok a _ e);exact⟨mA,⟨ob,n,ne⟩,r,q,z,d⟩
end
structure Cls(K:yyF)(C:Addr):Prop where
 pg:PySem.W.plainGet K C Str.empty=true
 hd:PySem.W.hasDictIn K C=true
 po:PySem.W.plainOver K C=true
 sa:PySem.W.findIn K (.ref C) "__setattr__"=some (some (.builtin "object.__setattr__"))
def Cls.get{K:yyF}{C:Addr}(c:Cls K C)(f:Str):PySem.W.plainGet K C f=true:=c.pg
def z2Q(K:yyF)(C:Addr)(f:Str):Prop:=PySem.W.findIn K (.ref C) f=some none
def z2Q.taker{K:yyF}{C:Addr}{f:Str}(n:z2Q K C f):PySem.W.takerIn K C f=some none:=by unfold PySem.W.takerIn;rw[show PySem.W.findIn K (.ref C) f=some none from n];rfl
structure zdM(K:yyF)(C:Addr)(m:Str)(f:Addr):Prop where
 at_:PySem.W.findIn K (.ref C) m=some (some (.ref f))
 fn:PySem.W.isFn K (.ref f)=true
 kp:PySem.W.keepIn K (.ref f)=true
section
variable{X:Cx}{pins:yyP}{σ:St}{H:Hp}{s:Shared}{a C dx:Addr}{fs:List (Str × V)}{f:Str}{v:V}{A:Around}{E:yyE}
def z8K{b:Bool}{Q:yyE}(I:Inv X pins σ H s)(e:H a=some (.ins C dx fs))(c:Cls X.K C)(n:z2Q X.K C f)(l:fs.lookup f=some v)(h:∀u s',Inv X pins σ H s'->z0U v u->Q u s'):wpAny (model X.prog X.w) A (getAttr (.ref a) f b) Q E s:=by obtain⟨mA,O,r,_,_,_⟩:=z5U I.hok e;obtain⟨u,hu,ru⟩:=z4Q.some_of (v:=v) (o:=mA f) (by rw[<-l];exact r f);exact zdq I.kIn O (c.get f) c.hd n hu (z9e ru) (h u _ (I.tok _) ru)
def z8R{m:Str}{g:Addr}{pl:Sem Bool}{Q:Value × List Value->Shared->Prop}(I:Inv X pins σ H s)(e:H a=some (.ins C dx fs))(c:Cls X.K C)(k:zdM X.K C m g)(l:fs.lookup m=none)(h:Q (.ref g,[.ref a]) s):wpAny (model X.prog X.w) A (getMethod (.ref a) m pl) Q E s:=by obtain⟨mA,O,r,_,_,_⟩:=z5U I.hok e;have hn:mA m=none:=z4Q.none_of (by rw[<-l];exact r m);exact zcm I.kIn O (c.get m) k.at_ k.fn hn h
def z8u{y:V}{u:Value}{Q:Unit->Shared->Prop}(I:Inv X pins σ H s)(e:H a=some (.ins C dx fs))(c:Cls X.K C)(n:z2Q X.K C f)(hl:fs.length<1000)(ry:z0U y u)(h:∀s',Inv X pins σ (upd H a (.ins C dx (z3Y f y fs))) s'->Q () s'):wpAny (model X.prog X.w) A (setAttr (.ref a) f u) Q E s:=by
 obtain⟨mA,O,r,wi,_,ho⟩:=z5U I.hok e;have hz:(fs.map (·.1)).length<=sizeLine:=by rw[y00,y2d];lia
 refine zds I.kIn O c.sa c.po n.taker c.hd wi hz fun h' O' sb=>h _ ?_;have hd:∃o,h'.get? dx=some o:=let⟨o,_,_,e',_⟩:=O'.ns;⟨o,e'⟩;refine I.write (x:=a) (e:=dx) (by rw[e];exact y1m) (.inr ho) (fun b q hb z=>(sb.2 b hb).trans z) hd ?_;refine⟨by rw[z04 O.ne];exact ho,?_,O.ne,O'.obj,_,O'.ns,fun g=>?_,fun g hg=>?_⟩
 .have:=z2Y f y fs;lia
 .show z4Q ((z3Y f y fs).lookup g) (if g=f then some u else mA g);rw[z0p];by_cases q:g=f
  .rw[if_pos q,if_pos q];exact ry
  .rw[if_neg q,if_neg q];exact r g
 .by_cases q:g=f
  .rw[q];exact(z4c f y fs).1
  .refine(z4c f y fs).2 g (wi g fun z=>hg ?_);show(if g=f then some u else mA g)=none;rw[if_neg q];exact z
def Inv.made(I:Inv X pins σ H s):Inv X pins σ (upd (upd H s.heap.objs.size (.own (s.heap.objs.size+1))) (s.heap.objs.size+1) (.ins C s.heap.objs.size [])) { s with heap:=(s.heap.push PySem.W.emptyDict).push (PySem.W.instObj C s.heap.objs.size) }:=by
 have e1:(s.heap.push PySem.W.emptyDict).get? s.heap.objs.size=some PySem.W.emptyDict:=y09 s.heap rfl;have e2:((s.heap.push PySem.W.emptyDict).push (PySem.W.instObj C s.heap.objs.size)).get? (s.heap.objs.size+1)=some (PySem.W.instObj C s.heap.objs.size):=by
  have:=y09 (s.heap.push PySem.W.emptyDict) (o:=PySem.W.instObj C s.heap.objs.size) rfl
  rwa [y1g]at this
 have e3:(s.heap.push PySem.W.emptyDict).Ns s.heap.objs.size (fun _=>none):=⟨PySem.W.emptyDict,#[],_,e1,rfl,(fun e he=>absurd he (by simp)),fun _=>rfl⟩;have I1:=I.laid (a:=s.heap.objs.size) (o:=.own (s.heap.objs.size+1)) (h':=s.heap.push PySem.W.emptyDict) (t':=s.toks) (fun b u q=>y03 _ q) (y0a _) ⟨_,e1⟩;refine I1.laid (a:=s.heap.objs.size+1) (o:=.ins C s.heap.objs.size []) (t':=s.toks) (fun b u q=>y03 _ q) (Nat.le_of_eq (y1g _ _)) ?_;have ne:s.heap.objs.size≠s.heap.objs.size+1:=y0q (Nat.lt_succ_self _);refine⟨by rw[z04 ne,z01],y0t _,ne,e2,fun _=>none,(Heap.Ns1.of_empty e3).at fun o q=>y03 _ q,fun _=>y1m,fun y hy=>absurd rfl hy⟩
def zeq{prog:Program}{w:World}{env:Env}{e:Expr}{f:Str}{pos:Pos}{s:Shared}{Q:yyE}(hb:attributeBase e f env (eval e env)=eval e env)(h:wpAny (model prog w) A (eval e env) (fun o s₁=>wpAny (model prog w) A (getAttr o f true) Q E s₁) E s):wpAny (model prog w) A (eval (.Attribute e f pos) env) Q E s :=
 Attribute_any_ h (by rw[arm_eval_Attribute,hb])
end
def zoL(K:yyF)(ta:TE)(f:Str):TE:=fun σ H Q=>ta σ H fun x H1=>∃a C dx fs v,x=.ref a/\H1 a=some (.ins C dx fs)/\Cls K C/\z2Q K C f/\fs.lookup f=some v/\Q v H1
def zoZ(K:yyF)(ta tv:TE)(f:Str):TS:=fun D σ H=>tv σ H fun y H1=>ta σ H1 fun x H2=>∃a C dx fs,x=.ref a/\H2 a=some (.ins C dx fs)/\Cls K C/\z2Q K C f/\fs.length<1000 /\
 D.nx σ (upd H2 a (.ins C dx (z3Y f y fs)))
section
variable{X:Cx}{o e value:Expr}{f:Str}{pos pos' tpos:Pos}{ta tv:TE}
def z50(he:PE X e ta)(hb:attributeBase e f X.env (eval e X.env)=eval e X.env):PE X (.Attribute e f pos) (zoL X.K ta f):=by intro pins s σ H Q I h;refine zeq hb (thn (he pins s σ H _ I h) fun u s1 hz8=>?_);obtain⟨x,H1,I1,rx,a,C,dx,fs,v,ex,ea,c,n,l,q⟩:=hz8;subst ex;obtain rfl:u=Value.ref a:=rx;exact z8K I1 ea c n l fun u' s2 I2 ru=>⟨v,H1,I2,ru,q⟩
def z7P(ha:PE X o ta)(hv:PE X value tv)(hs:swapsWith value (some (.Attribute o f pos')) pos.line X.env=pure false):PS X (.Assign [.Attribute o f pos'] value pos) (zoZ X.K ta tv f):=by intro pins s σ H D I h;refine plainObj_wpAny_Assign_Attribute (z1w (hv pins s σ H _ I h) fun u s1 y H1 I1 ry q=>z1w (ha pins s1 σ H1 _ I1 q) fun ov s2 x H2 I2 rx hz9=>?_) hs;obtain⟨a,C,dx,fs,ex,ea,c,n,l,q2⟩:=hz9;subst ex;obtain rfl:ov=Value.ref a:=rx;exact z8u I2 ea c n l ry fun s3 I3=>⟨σ,_,I3,q2⟩
end
section
variable{X:Cx}{pins:yyP}{σ:St}{H:Hp}{s:Shared}{A:Around}{E:yyE}{Q:yyE}{c:Value}{b:Bool}
inductive z8Q(K:yyF)(H:Hp):V->Value->Prop where
 |non:z8Q K H .non (.type "NoneType")
 |bl (x:Bool):z8Q K H (.bl x) (.type "bool")
 |int (i:Int):z8Q K H (.int i) (.type "int")
 |str (x:Str):z8Q K H (.str x) (.type "str")
 |flt (x:UInt64):z8Q K H (.flt x) (.type "float")
 |lst {a:Addr} {xs:List V} (e:H a=some (.lst xs)):z8Q K H (.ref a) (.type "list")
 |frz {a:Addr} {o:Obj} {xs:List V} (e:H a=some (.frz o (.lst xs))):z8Q K H (.ref a) (.type "list")
 |tup {a:Addr} {xs:List V} (e:H a=some (.tup xs)):z8Q K H (.ref a) (.type "tuple")
 |dK {a:Addr} {kvs:List (Key × V)} (e:H a=some (.dK kvs)):z8Q K H (.ref a) (.type "dict")
 |dT {a:Addr} {kvs:List (List Key × V)} (e:H a=some (.dT kvs)):z8Q K H (.ref a) (.type "dict")
 |ins {a C dx:Addr} {fs:List (Str × V)} (e:H a=some (.ins C dx fs)) (cl:Cls K C) (ha:PySem.W.findIn K (.ref C) "__class__"=some (some (.builtin "object.__class__")))
   (hn:PySem.W.specialIn K (.builtin "object.__class__") "__get__"=some (some (.builtin "getset_descriptor.__get__"))) (htk:PySem.W.takesIn K (.builtin "object.__class__")=some true)
   (hm:PySem.W.mroIn K C (.type "object")=some true):z8Q K H (.ref a) (.ref C)
def z9K{x:V}{u t:Value}(I:Inv X pins σ H s)(rx:z0U x u)(ty:z8Q X.K H x t)(e:PySem.W.kitOne X.K t c=some b)(h:∀tk,Q (.bool b) { s with toks:=tk }) : wpAny (model X.prog X.w) A (call (.builtin "isinstance") [u,c]) Q E s:=by
 cases ty with
 |non=>cases(show u=Value.none from rx);exact y12 PySem.W.kitx_none I.kIn y1m e (fun z=>nomatch z) h
 |bl y=>cases(show u=Value.bool y from rx);exact y12 PySem.W.kitx_bool I.kIn y1m e (fun z=>nomatch z) h
 |int i=>obtain⟨t,q⟩:=(show ∃t,u=Value.int i t from rx);cases q;exact y12 PySem.W.kitx_int I.kIn y1m e (fun z=>nomatch z) h
 |str y=>obtain⟨t,q⟩:=(show ∃t,u=Value.str y t from rx);cases q;exact y12 PySem.W.kitx_str I.kIn y1m e (fun z=>nomatch z) h
 |flt y=>obtain⟨t,q⟩:=(show ∃t,u=Value.float y t from rx);cases q;exact y12 PySem.W.kitx_float I.kIn y1m e (fun z=>nomatch z) h
 |@lst a xs ea =>
  cases(show u=Value.ref a from rx);obtain⟨_,_,n,_,h1⟩:=(show z1d X.prog X.w H s.heap a (.lst xs)from I.hok a _ ea);exact y12 PySem.W.kitx_list I.kIn ⟨_,h1,rfl⟩ e (fun z=>nomatch z) h
 |@frz a ob xs ea =>
  cases(show u=Value.ref a from rx);obtain⟨_,_,_,n,_,h1⟩:=(show z1d X.prog X.w H s.heap a (.frz ob (.lst xs))from I.hok a _ ea);exact y12 PySem.W.kitx_list I.kIn ⟨_,h1,rfl⟩ e (fun z=>nomatch z) h
 |@tup a xs ea =>
  cases(show u=Value.ref a from rx);obtain⟨_,_,n,_,h1⟩:=(show z1d X.prog X.w H s.heap a (.tup xs)from I.hok a _ ea);exact y12 PySem.W.kitx_tuple I.kIn ⟨_,h1,rfl⟩ e (fun z=>nomatch z) h
 |@dK a kvs ea =>
  cases(show u=Value.ref a from rx);obtain⟨_,_,vs,_,p⟩:=(show z1d X.prog X.w H s.heap a (.dK kvs)from I.hok a _ ea);obtain⟨o,es,ep,h1,h2,_⟩:=p;exact y12 PySem.W.kitx_dict I.kIn ⟨o,h1,h2.1⟩ e (fun z=>nomatch z) h
 |@dT a kvs ea =>
  cases(show u=Value.ref a from rx);obtain⟨_,_,xs,_,o,es,ep,h1,h2,_⟩:=(show z1d X.prog X.w H s.heap a (.dT kvs)from I.hok a _ ea);exact y12 PySem.W.kitx_dict I.kIn ⟨o,h1,h2.1⟩ e (fun z=>nomatch z) h
 |@ins a C dx fs ea cl ha hn htk hm =>
  cases(show u=Value.ref a from rx);obtain⟨mA,O,_⟩:=z5U I.hok ea;obtain⟨od,J,_⟩:=O.look;exact y12 (PySem.W.kitx_own (cl.get _) cl.hd ha hn htk hm) I.kIn J e (fun z=>nomatch z) h
end
structure z2F(k:Nat)(A:Around):Prop where
 hd:A.handled=none
 dp:A.depth+3*k+5<recursionLimit
 un:A.units+16*k+200<cLine
def z2F.mono{j k:Nat}{A:Around}(r:z2F k A)(h:j<=k):z2F j A:=⟨r.hd,by have:=r.dp;lia,by have:=r.un;lia⟩
theorem z2F.deeper{k:Nat}{A:Around}(r:z2F (k+1) A)(env:Env):z2F k (A.deeper env) :=
 ⟨r.hd,by have:=r.dp;show A.depth+1+3*k+5<_;lia,by have:=r.un;show A.units+3+16*k+200<_;lia⟩
def z8V{A:Around}{C:Addr}{us:List Value}{kw:List (Str × Value)}:(A.under (.builtin "type.__call__" ⟨.ref C::us,kw⟩)).depth=A.depth+1:=by
 first|rfl|simp[Around.under,Code.weight,Code.isCreation,Code.isGuard,Code.isCaller,Code.frames,Code.isFrame,guardIds]
def z8S{A:Around}{C:Addr}{us:List Value}{kw:List (Str × Value)}:(A.under (.builtin "type.__call__" ⟨.ref C::us,kw⟩)).units=A.units+1:=by
 first|rfl|simp[Around.under,Code.cUnits,Code.frames,Code.isFrame]
def z2F.make{k:Nat}{A:Around}(r:z2F (k+1) A)(C:Addr)(us:List Value)(kw:List (Str × Value)):z2F k (A.under (.builtin "type.__call__" ⟨.ref C::us,kw⟩)) :=
 ⟨r.hd,by have:=r.dp;rw[z8V];lia,by have:=r.un;rw[z8S];lia⟩
theorem z2F.depth{k:Nat}{A:Around}(r:z2F k A):A.depth<recursionLimit:=by have:=r.dp;lia
theorem z2F.units{k:Nat}{A:Around}(r:z2F k A):A.units+64<cLine:=by have:=r.un;lia
def z2F.units0{k:Nat}{A:Around}(r:z2F k A):A.units<cLine:=by have:=r.un;lia
def zit:TA:=fun _ H Q=>Q [] H
def z9q(ta:TE)(tr:TA):TA:=fun σ H Q=>ta σ H fun x H1=>tr σ H1 fun xs H2=>Q (x::xs) H2
section
variable{X:Cx}{e:Expr}{es:List Expr}{te:TE}{t:TA}{pos:Pos}
def z03:PA X [] zit:=fun _ _ _ _ H Q I h=>Calls.spliced_nil ⟨[],H,I,.nil,h⟩
def z00(ha:PE X e te)(hr:PA X es t)(hs:starEach (e::es) X.env=(false,eval e X.env)::starEach es X.env:=by rfl):PA X (e::es) (z9q te t):=by intro pos pins s σ H Q I h;rw[hs];show wpAny _ _ (spliced ((false,eval e X.env)::backTo pos (starEach es X.env))) _ _ s;refine Calls.spliced_cons (z1w (ha pins s σ H _ I h) fun u s1 x H1 I1 r1 q1=>?_);exact thn (hr pos pins s1 σ H1 _ I1 q1) fun us s2 ⟨xs,H2,I2,r2,q2⟩=>⟨x::xs,H2,I2,.cons r1 r2,q2⟩
def zop(t:TA):TE:=fun σ H Q=>t σ H fun xs H1=>xs.length<=sizeLine/\∀p,H1 p=none->Q (.ref p) (upd H1 p (.tup xs))
def zoB(t:TA):TE:=fun σ H Q=>t σ H fun xs H1=>xs.length<=sizeLine/\∀p,H1 p=none->Q (.ref p) (upd H1 p (.lst xs))
def z0A{x1}(h:PA X es t):PE X (.Tuple es x1 pos) (zop t):=by intro pins s σ H Q I hq;refine wpAny_Tuple_spliced (thn (h pos pins s σ H _ I hq) fun us s1 ⟨xs,H1,I1,r,z,q⟩=>⟨by rw[<-r.length];exact z,?_⟩);have hf:H1 s1.heap.objs.size=none:=I1.hok.fresh (y0a _);refine⟨.ref s1.heap.objs.size,upd H1 s1.heap.objs.size (.tup xs),I1.laid (t':=s1.toks) (fun b u e=>y03 _ e) (y0a _) ?_,rfl,q _ hf⟩;exact⟨z,us,0,r,y09 _ rfl⟩
def z1W(h:PA X es t):PE X (.List es pos) (zoB t):=by intro pins s σ H Q I hq;refine wpAny_List_spliced (thn (h pos pins s σ H _ I hq) fun us s1 ⟨xs,H1,I1,r,z,q⟩=>⟨by rw[<-r.length];exact z,?_⟩);have hf:H1 s1.heap.objs.size=none:=I1.hok.fresh (y0a _);refine⟨.ref s1.heap.objs.size,upd H1 s1.heap.objs.size (.lst xs),I1.laid (t':=s1.toks) (fun b u e=>y03 _ e) (y0a _) ?_,rfl,q _ hf⟩;exact⟨z,us,0,r,y09 _ rfl⟩
end
abbrev Sp:=List V->Hp->VK->XK->Prop
abbrev CXT:=List Env->Hp->Shared->XK->yyE
structure zbw(P:Program)(w:World)(K:yyF)(mg:yyS)(base:Heap)(A:Around)(outer:List Env)(s:Shared)(H:Hp):Prop where
 frames:A.frames=some outer
 mod:Mod K mg base
 bs:∀b o,base.get? b=some o->s.heap.get? b=some o/\H b=none
 bsz:base.objs.size<=s.heap.objs.size
 funs:s.heap.FunFrames base outer
 frf:∀b∈frs outer,H b=none
 hok:HOk P w H s.heap
 bare:AllBare s.gens
def CE(outer:List Env)(P:Program)(w:World)(H:Hp)(s:Shared)(Q:VK)(u:Value)(s':Shared):Prop :=
 ∃v H',s'.os=s.os/\AllBare s'.gens/\Un (frs outer) [] H H' s.heap s'.heap/\HOk P w H' s'.heap/\z0U v u/\Q v H'
def CR(CX:CXT)(outer:List Env)(P:Program)(w:World)(H:Hp)(s:Shared)(Q:VK)(E:XK)(r:Result)(s':Shared):Prop :=
 match r with
 |.ok (.ret u)=>CE outer P w H s Q u s'
 |.ok _=>False
 |.error e=>CX outer H s E e s'
structure z0u(P:Program)(w:World)(K:yyF)(mg:yyS)(base:Heap)(CX:CXT)(k:Nat)(f:Addr)(fd:FuncData)(ps:List Str)(sp:Sp):Prop where
 len:∀vs H Q E,sp vs H Q E->vs.length=ps.length
 run:∀(A:Around)(outer:List Env)(s:Shared)(H:Hp)(args:Args)(us:List Value)(vs:List V)(Q:VK)(E:XK),z2F k A->zbw P w K mg base A outer s H->BindsTo s fd args (ps.zip us)->z0J vs us->sp vs H Q E ->
  codeAny (model P w) A (.call (.ref f) args) (CR CX outer P w H s Q E) s
theorem z0u.mono{P:Program}{w:World}{K:yyF}{mg:yyS}{base:Heap}{CX:CXT}{j k:Nat}{f:Addr}{fd:FuncData}{ps:List Str}{sp:Sp}(F:z0u P w K mg base CX j f fd ps sp)(h:j<=k) : z0u P w K mg base CX k f fd ps sp:=⟨F.len,fun A outer s H args us vs Q E hr=>F.run A outer s H args us vs Q E (hr.mono h)⟩
def zbw.make{P:Program}{w:World}{K:yyF}{mg:yyS}{base:Heap}{A:Around}{outer:List Env}{s:Shared}{H:Hp}(e:zbw P w K mg base A outer s H)(C:Addr)(us:List Value)(kw:List (Str × Value)) : zbw P w K mg base (A.under (.builtin "type.__call__" ⟨.ref C::us,kw⟩)) outer s H:=⟨by first|exact e.frames|(simpa[Around.under,Code.envs,Code.isFrame,pushEnvs]using e.frames),e.mod,e.bs,e.bsz,e.funs,e.frf,e.hok,e.bare⟩
section
variable{X:Cx}{pins:yyP}{σ:St}{H:Hp}{s s':Shared}
def Inv.env0(I:Inv X pins σ H s):zbw X.prog X.w X.K X.mg X.base X.A X.stack s H :=
 ⟨I.ok.frames,I.ok.mod,I.bs,y0w I.ok.bsz I.sz,I.stack,I.stkFree,I.hok,I.bare⟩
def Inv.after{Q:VK}{u:Value}(I:Inv X pins σ H s)(h:CE X.stack X.prog X.w H s Q u s'):EP X pins σ Q u s':=by obtain⟨v,H',os,bare,un,hok,r,q⟩:=h;obtain⟨hh,g,d,t,os'⟩:=s';obtain rfl:os'=s.os:=os;exact⟨v,H',I.call (h':=hh) (g':=g) (d':=d) (t':=t) (ch:=[]) un hok bare (fun b z=>absurd z (by simp)),r,q⟩
end
def ziA(sp:Sp)(dvs:List V)(E:XK)(t:TA):TE:=fun σ H Q=>t σ H fun vs H1=>sp (vs++dvs) H1 Q E
def zj4(C:Addr)(m:Str)(sp:Sp)(dvs:List V)(E:XK)(ta:TE)(t:TA):TE:=fun σ H Q=>ta σ H fun x H1=>∃a dx fs,x=.ref a/\H1 a=some (.ins C dx fs)/\fs.lookup m=none /\
 t σ H1 fun vs H2=>sp (x::(vs++dvs)) H2 Q E
def zgS(C:Addr)(sp:Sp)(dvs:List V)(E:XK)(t:TA):TE:=fun σ H Q=>t σ H fun vs H1=>∀x dx,H1 x=none->H1 dx=none->dx≠x ->
 sp (.ref x::(vs++dvs)) (upd (upd H1 dx (.own x)) x (.ins C dx [])) (fun v H2=>v=.non/\Q (.ref x) H2) E
def z0i(K:yyF)(fd:FuncData)(ps:List Str)(ds:List Value):Prop :=
 ∀(s:Shared)(us:List Value),K.In s.heap->(us++ds).length=ps.length->BindsTo s fd ⟨us,[]⟩ (ps.zip (us++ds))
def z0i.all{K:yyF}{fd:FuncData}{ps:List Str}(h:∀us:List Value,us.length=ps.length->bindArgs fd ⟨us,[]⟩=pure (ps.zip us)):z0i K fd ps []:=fun s us _ hl=>by rw[y1A]at hl⊢;exact .of_eq (h us hl)
def z2t(CX:CXT)(X:Cx)(E:XK):Prop:=∀(pins:yyP)(σ:St)(H:Hp)(s:Shared)(e:Value)(s':Shared),Inv X pins σ H s->CX X.stack H s E e s'->X.xe e s'
section
variable{X:Cx}{CX:CXT}{k:Nat}{f C:Addr}{fd:FuncData}{ps:List Str}{sp:Sp}{dvs:List V}{ds:List Value}{E:XK}{x m:Str}{p pos apos:Pos}{e o:Expr}{es:List Expr}{ta:TE}{t:TA}
def z9Z{pins:yyP}{σ:St}{H:Hp}{s:Shared}{Q:VK}{us:List Value}{vs:List V}(F:z0u X.prog X.w X.K X.mg X.base CX k f fd ps sp)(hr:z2F k X.A)(hb:z0i X.K fd ps ds)(hd:z0J dvs ds)(hx:z2t CX X E)(I:Inv X pins σ H s)(r:z0J vs us)(h:sp (vs++dvs) H Q E):wpAny (model X.prog X.w) X.A (call (.ref f) us) (EP X pins σ Q) X.xe s:=by
 have r2:z0J (vs++dvs) (us++ds):=r.append hd;have hl:(us++ds).length=ps.length:=by rw[<-r2.length];exact F.len _ _ _ _ h
 refine wpAny_call (y2f (F.run X.A X.stack s H ⟨us,[]⟩ (us++ds) (vs++dvs) Q E hr I.env0 (hb s us I.kIn hl) r2 h) fun r s' hq=>?_);cases r with
 |error e=>exact hx pins σ H s e s' I hq
 |ok fl =>
  cases fl with
  |ret u=>exact I.after hq
  |next=>exact False.elim hq
  |brk=>exact False.elim hq
  |cont=>exact False.elim hq
def z0t(F:z0u X.prog X.w X.K X.mg X.base CX k f fd ps sp)(hr:z2F k X.A)(hg:Gl X x)(hm:X.mg x=some (.ref f))(hk:PySem.W.keepIn X.K (.ref f)=true)(hb:z0i X.K fd ps ds)(hd:z0J dvs ds)(hx:z2t CX X E)(ha:PA X (e::es) t)(hdb:(x==("__debug__":Str))=false:=by decide)(he:starEach (e::es) X.env=(false,eval e X.env)::starEach es X.env:=by rfl)(hpl:(backTo pos (starEach es X.env)).any (·.1)=false:=by rfl) : PE X (.Call (.Name x p) (e::es) [] pos) (ziA sp dvs E t):=by intro pins s σ H Q I h;refine y1s (z2x I hg hm ?_ hdb);refine y1X (h₀:=X.base) I.ok.mod.kin hk (thn (ha pos pins s σ H _ I h) fun us s1 ⟨vs,H1,I1,r,q⟩=>⟨I1.kIn,?_⟩) he hpl;exact z9Z F hr hb hd hx I1 r q
def z5J{pl:Sem Bool}(he:PE X o ta)(c:Cls X.K C)(hm:zdM X.K C m f)(F:z0u X.prog X.w X.K X.mg X.base CX k f fd ps sp)(hr:z2F k X.A)(hb:z0i X.K fd ps ds)(hd:z0J dvs ds)(hx:z2t CX X E)(ha:PA X (e::es) t)
  (hst:starEach (e::es) X.env=(false,eval e X.env)::starEach es X.env:=by rfl) (hpl:(backTo pos (starEach es X.env)).any (·.1)=false:=by rfl)
  (ht:eval (.Call (.Attribute o m apos) (e::es) [] pos) X.env=(do
   let ov <-eval o X.env
   standAt apos.atName
   let(f,first) <-holding [ov] (getMethod ov m pl)
   callWith pos f first (backTo pos (starEach (e::es) X.env)) (backToKw pos (keywordEach [] X.env))):=by rfl) :
  PE X (.Call (.Attribute o m apos) (e::es) [] pos) (zj4 C m sp dvs E ta t):=by
 intro pins s σ H Q I h;refine PySem.W.methodCall_KW (pl:=pl) (z1w (he pins s σ H _ I h) fun u s1 x H1 I1 rx hz9=>?_) ht;obtain⟨a,dx,fs,ex,ea,l,q⟩:=hz9;subst ex;obtain rfl:u=Value.ref a:=rx;refine z8R I1 ea c hm l ?_;refine y1X (first:=[.ref a]) (h₀:=X.base) I.ok.mod.kin hm.kp (thn (ha pos pins s1 σ H1 _ I1 q) fun us s2 ⟨vs,H2,I2,r,q2⟩=>⟨I2.kIn,?_⟩) hst hpl;exact z9Z (us:=.ref a::us) (vs:=.ref a::vs) F hr hb hd hx I2 (.cons rfl r) q2
structure Mk(K:yyF)(C f:Addr):Prop where
 makes:PySem.W.makesIn K C=true
 init:PySem.W.findIn K (.ref C) "__init__"=some (some (.ref f))
 fn:PySem.W.isFn K (.ref f)=true
 kp:PySem.W.keepIn K (.ref C)=true
def zcG{pins:yyP}{σ:St}{H:Hp}{s:Shared}{Q:VK}{us:List Value}{vs:List V}(M:Mk X.K C f)(F:z0u X.prog X.w X.K X.mg X.base CX k f fd ps sp)(hr:z2F (k+1) X.A)(hb:z0i X.K fd ps ds)(hd:z0J dvs ds)(hx:z2t CX X E)(I:Inv X pins σ H s)(r:z0J vs us)(h:∀x dx,H x=none->H dx=none->dx≠x->sp (.ref x::(vs++dvs)) (upd (upd H dx (.own x)) x (.ins C dx [])) (fun v H2=>v=.non/\Q (.ref x) H2) E) : wpAny (model X.prog X.w) X.A (call (.ref C) us) (EP X pins σ Q) X.xe s:=by
 have hq:=h (s.heap.objs.size+1) s.heap.objs.size (I.hok.fresh (Nat.le_succ _)) (I.hok.fresh (y0a _)) (y0q (Nat.lt_succ_self _));have I2:=Inv.made (C:=C) I;have r2:z0J (V.ref (s.heap.objs.size+1)::(vs++dvs)) (Value.ref (s.heap.objs.size+1)::(us++ds)):=.cons rfl (r.append hd);have hl:(Value.ref (s.heap.objs.size+1)::us++ds).length=ps.length:=by have e:=r2.length;rw[F.len _ _ _ _ hq]at e;exact e.symm
 refine wpAny_call (zch (f:=f) I.kIn M.makes M.init (y1M.mp M.fn) (y2f (F.run _ X.stack _ _ ⟨Value.ref (s.heap.objs.size+1)::us,[]⟩ (Value.ref (s.heap.objs.size+1)::(us++ds)) _ _ E (hr.make C us [])
  (I2.env0.make C us []) (hb _ (Value.ref (s.heap.objs.size+1)::us) I2.kIn hl) r2 hq) fun r s' hq'=>?_))
 cases r with
 |error e=>exact hx pins σ _ _ e s' I2 hq'
 |ok fl =>
  cases fl with
  |ret u =>
   obtain⟨v,H',I3,rv,ev,q3⟩:=I2.after hq';subst ev;exact⟨rv,⟨V.ref (s.heap.objs.size+1),H',I3,rfl,q3⟩⟩
  |next=>exact False.elim hq'
  |brk=>exact False.elim hq'
  |cont=>exact False.elim hq'
def zeh(M:Mk X.K C f)(F:z0u X.prog X.w X.K X.mg X.base CX k f fd ps sp)(hr:z2F (k+1) X.A)(hg:Gl X x)(hm:X.mg x=some (.ref C))(hb:z0i X.K fd ps ds)(hd:z0J dvs ds)(hx:z2t CX X E)(ha:PA X (e::es) t)(hdb:(x==("__debug__":Str))=false:=by decide)(he:starEach (e::es) X.env=(false,eval e X.env)::starEach es X.env:=by rfl)(hpl:(backTo pos (starEach es X.env)).any (·.1)=false:=by rfl) : PE X (.Call (.Name x p) (e::es) [] pos) (zgS C sp dvs E t):=by intro pins s σ H Q I h;refine y1s (z2x I hg hm ?_ hdb);refine y1X (h₀:=X.base) I.ok.mod.kin M.kp (thn (ha pos pins s σ H _ I h) fun us s1 ⟨vs,H1,I1,r,q⟩=>⟨I1.kIn,?_⟩) he hpl;exact zcG M F hr hb hd hx I1 r q
end
section
variable{X:Cx}{CX:CXT}{k:Nat}{f C:Addr}{fd:FuncData}{ps ks:List Str}{sp:Sp}{E:XK}{x m:Str}{p pos apos kpos:Pos}{e o:Expr}{es:List Expr}{kws:List Keyword}{te ta:TE}{t tk:TA}{nm:Option Str}
variable{g:List Value->List Value->List Value}{gV:List V->List V->List V}
end
structure z0j(N P:List Str)(sc:Scope):Prop where
 kind:sc.kind=.function:=by rfl
 co:sc.isCoroutine=false:=by rfl
 gen:sc.isGenerator=false:=by rfl
 nd:N.Nodup:=by decide +kernel
 pre:N.take P.length=P:=by rfl
 par:∀x∈P,sc.names.lookup x=some .local\/sc.names.lookup x=some .cell:=by decide +kernel
 nofree:∀y∈sc.names,y.2≠.free:=by decide +kernel
theorem z6x{kindOf:Str->Option NameKind}{x:Str}:∀{binds:List (Str × Value)}{m:yyS},(∀v,(x,v)∉binds)->bindL kindOf binds m x=m x
 |[],_,_=>rfl
 | (n,v)::r,m,h=>by
  unfold bindL;rw[z6x fun w hw=>h w (y0f _ hw)];split
  .have:x≠n:=by rintro rfl;exact h v y0z
   simp[this]
  .rfl
theorem z64{kindOf:Str->Option NameKind}{x:Str}:∀{binds:List (Str × Value)}{m:yyS},(∀v,(x,v)∉binds)->bindC kindOf binds m x=m x
 |[],_,_=>rfl
 | (n,v)::r,m,h=>by
  unfold bindC;rw[z64 fun w hw=>h w (y0f _ hw)];split
  .rfl
  .have:x≠n:=by rintro rfl;exact h v y0z
   simp[this]
theorem z6E{kindOf:Str->Option NameKind}{x:Str}{v:Value}:∀{P:List Str}{vs:List Value}{i:Nat}{m:yyS},P.Nodup->P[i]?=some x->vs[i]?=some v->kindOf x=some .local ->
  bindL kindOf (P.zip vs) m x=some v
 |[],_,_,_,_,h,_,_=>by simp at h
 |_::_,[],_,_,_,_,h,_=>by simp at h
 |p::P,w::vs,0,m,nd,h1,h2,hk=>by
  simp at h1 h2;subst h1;subst h2;show bindL kindOf ((p,w)::P.zip vs) m p=_;unfold bindL;rw[z6x fun v hv=>(y1N.mp nd).1 (y2K hv).1,if_pos hk];simp
 |p::P,w::vs,i+1,m,nd,h1,h2,hk=>by show bindL kindOf ((p,w)::P.zip vs) m x=_;unfold bindL;exact z6E (i:=i) (y1N.mp nd).2 (by simpa using h1) (by simpa using h2) hk
theorem z6F{kindOf:Str->Option NameKind}{x:Str}{v:Value}:∀{P:List Str}{vs:List Value}{i:Nat}{m:yyS},P.Nodup->P[i]?=some x->vs[i]?=some v->kindOf x≠some .local ->
  bindC kindOf (P.zip vs) m x=some v
 |[],_,_,_,_,h,_,_=>by simp at h
 |_::_,[],_,_,_,_,h,_=>by simp at h
 |p::P,w::vs,0,m,nd,h1,h2,hk=>by
  simp at h1 h2;subst h1;subst h2;show bindC kindOf ((p,w)::P.zip vs) m p=_;unfold bindC;rw[z64 fun v hv=>(y1N.mp nd).1 (y2K hv).1,if_neg hk];simp
 |p::P,w::vs,i+1,m,nd,h1,h2,hk=>by show bindC kindOf ((p,w)::P.zip vs) m x=_;unfold bindC;exact z6F (i:=i) (y1N.mp nd).2 (by simpa using h1) (by simpa using h2) hk
def start(N:List Str)(vs:List V):St:=vs.map some++List.replicate (N.length-vs.length) none
def z60(CX:CXT)(P:Program)(w:World)(K:yyF)(mg:yyS)(base:Heap)(N:List Str)(qual:Str)(scope:Scope)(f:Addr)(cd:Value)(A:Around)(outer:List Env)(s:Shared)(H:Hp)(E:XK):Cx where
 prog:=P
 w:=w
 K:=K
 mg:=mg
 base:=base
 A:=A.deeper (envOfC qual scope s.heap.objs.size f cd)
 N:=N
 s₀:=s
 H₀:=H
 env:=envOfC qual scope s.heap.objs.size f cd
 outer:=outer
 stack:=envOfC qual scope s.heap.objs.size f cd::outer
 ex:=[]
 calm:=true
 fn:=fun _=>true
 pn:=[]
 xe:=fun e s'=>wpAny (model P w) (A.deeper (envOfC qual scope s.heap.objs.size f cd)) (leaving (envOfC qual scope s.heap.objs.size f cd) e) (fun _ s''=>CX outer H s E e s'') (fun e' s''=>CX outer H s E e' s'') s'
def z82{sc:Scope}{n:Nat}{x:Str}(h:sc.names.lookup x=some .cell):∃c,(cellsFrom n sc.names []).lookup x=some c:=by have q:=PySem.W.cellsFrom_some sc.names n [] (.inl h);exact Option.isSome_iff_exists.mp q
def za4{CX:CXT}{P:Program}{w:World}{K:yyF}{mg:yyS}{base:Heap}{N ps:List Str}{qual:Str}{scope:Scope}{f:Addr}{cd:Value}{A:Around}{outer:List Env}{s s1:Shared}{H:Hp}{E:XK}{us:List Value}{vs:List V}(S:z0j N ps scope)(hd:A.handled=none)(e0:zbw P w K mg base A outer s H)(hl:vs.length=ps.length)(r:z0J vs us)(x:InCallC s s.heap.objs.size (bindL (envOfC qual scope s.heap.objs.size f cd).kindOf (ps.zip us) fun _=>none) (cellsFrom (s.heap.objs.size+1) scope.names []) (bindC (envOfC qual scope s.heap.objs.size f cd).kindOf (ps.zip us) fun _=>none) s1) : Inv (z60 CX P w K mg base N qual scope f cd A outer s H E) [] (start N vs) H s1:=by
 have hpl:ps.length<=N.length:=by have:=y1n List.length S.pre;rw[y0k]at this;lia
 obtain⟨h1,tk,rfl,hk⟩:=x.done;have noA:∀b:Addr,b∉(z60 CX P w K mg base N qual scope f cd A outer s H E).ex:=fun b z=>absurd (show b∈([]:List Addr)from z) (by simp);refine⟨⟨e0.mod,S.kind,rfl,rfl,y0a _,fun y z c h1 h2=>?_,fun y hy=>?_,fun y c _ h=>?_,fun _=>hd,Around.frames_deeper e0.frames,.inr ⟨rfl,rfl⟩,fun b z=>absurd z (noA b),e0.bs,e0.bsz,fun b _ _=>noA b,fun b z=>absurd z (noA b),e0.funs,e0.frf⟩,
  rfl,e0.bare,Un.kept hk,⟨_,x.toInCall.ns,fun i y v h1 h2 h3=>?_⟩,fun y c h=>⟨_,x.cell y c h⟩,e0.hok.fresh (y0a _),fun y c h=>?_,fun p hp=>absurd (show p∈([]:yyP)from hp) (by simp),e0.hok.kept hk,?_⟩
 .exact name_of_addr x.apart (y0T h1) (y0T h2)
 .have hy:scope.names.lookup y=some .cell\/scope.names.lookup y=some .free:=hy;rcases hy with hy|hy
  .exact z82 hy
  .exact absurd rfl (S.nofree _ (y0T hy))
 .exact y1y (x.above y c (y0T h))
 .have hi:i<vs.length:=by
   unfold start at h2;by_cases hi:i<vs.length
   .exact hi
   .rw[y25 (by simpa using hi)]at h2;rw[List.getElem?_replicate]at h2;split at h2<;>cases h2
  have ha:vs[i]?=some v:=by
   unfold start at h2;rw[y1a (by simpa using hi),y08]at h2;cases e:vs[i]? with
   |none=>rw[e]at h2;cases h2
   |some a=>rw[e]at h2;cases h2;rfl
  obtain⟨u,hu,rv⟩:=r.get ha;have hp:ps[i]?=some y:=by rw[<-S.pre,y2g (by lia)];exact h1
  have ndP:ps.Nodup:=by rw[<-S.pre];exact S.nd.sublist (List.take_sublist _ _)
  refine⟨u,rv,?_⟩;rcases S.par y (y0O hp)with k|k
  .exact .inl ⟨k,z6E ndP hp hu k⟩
  .obtain⟨c,e⟩:=z82 (n:=s.heap.objs.size+1) k;refine .inr ⟨.inl k,c,e,?_⟩;have q:=x.cell y c e;rw[z6F ndP hp hu (by show scope.names.lookup y≠_;rw[k];decide)]at q;exact q
 .exact e0.hok.fresh (y1y (x.above y c (y0T h)))
 .unfold start;show _=N.length;rw[y06,y00,y1F];lia
def zdD{CX:CXT}{P:Program}{w:World}{K:yyF}{mg:yyS}{base:Heap}{k:Nat}{f:Addr}{name qual:Str}{params:Arguments}{body:List Stmt}{scope:Scope}{dV kV doc pm cdv ct oc:Value}{an od:Option Addr}{osl:Array (Option Value)}{N ps:List Str}{sp:Sp}(lk:K.lookup f=some ⟨oc,od,.func (PySem.W.fnOf name qual params body scope dV kV doc pm an cdv ct),osl⟩)(hcd:PySem.W.codeIn K cdv qual=true)(S:z0j N ps scope)(len:∀vs H Q E,sp vs H Q E->vs.length=ps.length)(hbody:∀(A:Around)(outer:List Env)(s:Shared)(H:Hp)(vs:List V)(Q:VK)(E:XK),z2F k (A.deeper (envOfC qual scope s.heap.objs.size f cdv))->sp vs H Q E -> ∃t,PSs (z60 CX P w K mg base N qual scope f cdv A outer s H E) body t/\t { nx:=fun _ H'=>Q .non H',rt:=Q } (start N vs) H) : z0u P w K mg base CX (k+1) f (PySem.W.fnOf name qual params body scope dV kV doc pm an cdv ct) ps sp:=by
 refine⟨len,fun A outer s H args us vs Q E hr e0 hb r hsp=>?_⟩;have hl:=len _ _ _ _ hsp;have KX:K.In s.heap:=e0.mod.kin.keeps fun b o e=>(e0.bs b o e).1;have lim:s.heap.NoLimit:=e0.mod.nolimit.keeps fun b o e=>(e0.bs b o e).1;have hkind:∀y∈ps.zip us,scope.names.lookup y.1=some .local\/(scope.names.lookup y.1=some .cell/\((cellsFrom (s.heap.objs.size+1) scope.names []).lookup y.1).isSome=true):=fun⟨n,v⟩ hy=>by
  rcases S.par n (y2K hy).1 with q|q
  .exact .inl q
  .exact .inr ⟨q,PySem.W.cellsFrom_some _ _ _ (.inl q)⟩
 refine codeAny_call_function hr.depth (KX _ _ lk) rfl S.co S.gen rfl (PySem.W.codeRec_of KX hcd) (hb _ _ _ _ ?_);refine wpAny_newFunctionEnv_cells S.kind hkind fun env he s1 x=>?_;subst he;refine⟨lim.keeps x.toInCall.keep,codeAny_func ?_⟩;obtain⟨t,ht,hq⟩:=hbody A outer s H vs Q E (hr.deeper _) hsp;have I:Inv (z60 CX P w K mg base N qual scope f cdv A outer s H E) [] (start N vs) H s1:=za4 S hr.hd e0 hl r x;refine y0B (ht [] s1 (start N vs) H _ I hq) (fun fl s' hs=>?_) fun e s' hs=>hs;have fin:∀{σ':St}{H':Hp}{v:V}{u:Value},Inv (z60 CX P w K mg base N qual scope f cdv A outer s H E) [] σ' H' s'->z0U v u->Q v H'->CE outer P w H s Q u s' :=
  fun{σ' H' v u} J rv q=>⟨v,H',J.os,J.bare,J.base,J.hok,rv,q⟩
 cases fl with
 |ret u =>
  obtain⟨v,σ',H',J,rv,q⟩:=hs;exact fin J rv q
 |next =>
  obtain⟨σ',H',J,q⟩:=hs;exact fin (v:=V.non) (u:=Value.none) J rfl q
 |brk =>
  obtain⟨_,_,_,q⟩:=hs;exact False.elim q
 |cont =>
  obtain⟨_,_,_,q⟩:=hs;exact False.elim q
section
variable{X:Cx}{x:Str}{p pos:Pos}{e:Expr}{es:List Expr}{t:TA}{id T:String}{r:List V->Hp->VK->Prop}
def tCB(r:List V->Hp->VK->Prop)(t:TA):TE:=fun σ H Q=>t σ H fun vs H1=>r vs H1 Q
def z0e(hc:z1s X (.builtin id) r)(hg:Gl X x)(hm:X.mg x=none)(hv:bootBuiltins x=some (.builtin id))(ha:PA X (e::es) t)(hn:x≠"__name__":=by decide)(hdb:(x==("__debug__":Str))=false:=by decide)(he:starEach (e::es) X.env=(false,eval e X.env)::starEach es X.env:=by rfl)(hpl:(backTo pos (starEach es X.env)).any (·.1)=false:=by rfl):PE X (.Call (.Name x p) (e::es) [] pos) (tCB r t):=by intro pins s σ H Q I h;refine y1s (z55 I hg hm hv ?_ hn hdb);exact PyProof.Rows.callWith_builtin1 (thn (ha pos pins s σ H _ I h) fun us s1 ⟨vs,H1,I1,r1,q1⟩=>hc pins s1 σ H1 vs us Q I1 r1 q1) he hpl
def z0o(hc:z1s X (.type T) r)(hg:Gl X x)(hm:X.mg x=none)(hv:bootBuiltins x=some (.type T))(ha:PA X (e::es) t)(hn:x≠"__name__":=by decide)(hdb:(x==("__debug__":Str))=false:=by decide)(he:starEach (e::es) X.env=(false,eval e X.env)::starEach es X.env:=by rfl)(hpl:(backTo pos (starEach es X.env)).any (·.1)=false:=by rfl):PE X (.Call (.Name x p) (e::es) [] pos) (tCB r t):=by intro pins s σ H Q I h;refine y1s (z55 I hg hm hv ?_ hn hdb);exact y1z (thn (ha pos pins s σ H _ I h) fun us s1 ⟨vs,H1,I1,r1,q1⟩=>hc pins s1 σ H1 vs us Q I1 r1 q1) he hpl
end
end L2
namespace HT
open PySem PyProof.Rows
section
open PySem.SeqAt
open PySem.AutoSeq1 (wpAny_loadPart')
open PySem.MeetsSeq PySem.MeetsSeq2 PySem.MeetsSeq3
end
section
variable{prog:Program}{w:World}{A:Around}{E:yyE}{s:Shared}
def cat_tup{t b:Addr}{vs ws:List Value}{Q:yyE}(ht:IsTup s.heap t vs.toArray)(hb:IsTup s.heap b ws.toArray)(hv:vs≠[])(h1:ws=[]->Q (.ref t) s)(h2:ws≠[]->Q (.ref s.heap.objs.size) { s with heap:=s.heap.push { cls:=.type "tuple",data:=.seq (vs++ws).toArray } })(hsz:vs.length+ws.length<=sizeLine):wpAny (model prog w) A (binaryOp .Add (.ref t) (.ref b)) Q E s:=by
 obtain⟨⟨cls,dd,data,sl⟩,ho,hc,n,hd⟩:=id ht;obtain⟨⟨cls2,dd2,data2,sl2⟩,ho2,hc2,n2,hd2⟩:=id hb;simp only at hc hd hc2 hd2;subst hc hd hc2 hd2;have e:vs.toArray++ws.toArray=(vs++ws).toArray:=by simp
 by_cases hw:ws=[]
 .exact concat_meets ⟨_,ho,rfl⟩ ⟨_,ho2,rfl⟩ noFill_tuple_add seq_tuple_add y2r y2l (y2h _ _)
   (tuple_addW1 t b vs.toArray ws.toArray n n2 dd dd2 sl sl2 (by simpa using hv) (by simp[hw])) ⟨ho,ho2,h1 hw⟩
 .refine concat_meets ⟨_,ho,rfl⟩ ⟨_,ho2,rfl⟩ noFill_tuple_add seq_tuple_add y2r y2l (y2h _ _)
   (tuple_addW2 t b vs.toArray ws.toArray n n2 dd dd2 sl sl2 (by simpa using hv) (by simpa using hw) (by rw[y0g,y0g];exact hsz)) ⟨ho,ho2,?_⟩
  rw[e];exact h2 hw
def sIx(n d:Nat):Option Int->Nat
 |none=>d
 |some v=>if v<0 then(v+(n:Int)).toNat else min v.toNat n
def sIx_none(n d:Nat):sIx n d none=d:=rfl
def sIx_nat(n d k:Nat):sIx n d (some (k:Int))=min k n:=by show(if(k:Int)<0 then((k:Int)+(n:Int)).toNat else min (k:Int).toNat n)=min k n;rw[if_neg (by lia),y2u]
def zfJ(n d:Nat)(hd:d<=n)(o:Option Int):sIx n d o<=n:=by
 cases o with
 |none=>exact hd
 |some v =>
  show(if v<0 then(v+(n:Int)).toNat else min v.toNat n)<=n;by_cases hv:v<0
  .rw[if_pos hv];lia
  .rw[if_neg hv];exact Nat.min_le_right _ _
def zaW(v:Int)(n d:Nat):(if v<0 then max (v+(n:Int)) 0 else min v (n:Int))=((sIx n d (some v):Nat):Int):=by
 show(if v<0 then max (v+(n:Int)) 0 else min v (n:Int))=(((if v<0 then(v+(n:Int)).toNat else min v.toNat n):Nat):Int);by_cases hv:v<0
 .simp only[if_pos hv];lia
 .simp only[if_neg hv];lia
def z8F(lo hi:Option Int)(n:Nat):Builtin.Slice.sliceAdjust lo hi 1 (n:Int)=(((sIx n 0 lo:Nat):Int),((sIx n n hi:Nat):Int)):=by
 have h1:¬((1:Int)<0):=by lia
 unfold Builtin.Slice.sliceAdjust;simp only[h1,if_false];refine Prod.ext ?_ ?_
 .cases lo with
  |none=>rfl
  |some v=>exact zaW v n 0
 .cases hi with
  |none=>rfl
  |some v=>exact zaW v n n
def z8v(i j:Nat):Builtin.Slice.slicePlaces (i:Int) (j:Int) 1=j-i:=by
 unfold Builtin.Slice.slicePlaces;have h1:(1:Int)>0:=by lia
 simp only[h1,if_true,Int.ediv_one];split<;>lia
def z5g{v:Value}{o:Option Int}{Q:Option Int->Shared->Prop}(p:IsPart v o)(h:Q o s):wpAny (model prog w) A (Builtin.Slice.slicePartIndex v) Q E s:=by
 cases p with
 |none=>exact slicePart_none h
 |int i t=>exact slicePart_int h
def sliceApplied_gen{sl:Addr}{vl vu:Value}{lo hi:Option Int}{n:Nat}{Q:Int × Int × Nat->Shared->Prop}(hs:s.heap.IsSliceOf sl vl vu .none)(pl:IsPart vl lo)(pu:IsPart vu hi)(h:Q (((sIx n 0 lo:Nat):Int),1,sIx n n hi-sIx n 0 lo) s):wpAny (model prog w) A (Builtin.Slice.sliceApplied (.ref sl) (pure (n:Int))) Q E s:=by
 obtain⟨os,hos,hcs,hds⟩:=id hs;unfold Builtin.Slice.sliceApplied Builtin.Slice.sliceFields;refine y02 (y02 (y1j hos hds (x:=vl) rfl (y02 (y1j hos hds (x:=vu) rfl (y02 (y1j hos hds (x:=.none) rfl (y07 ?_)))))));refine y02 (slicePart_none ?_);show wpAny _ _ (if((1:Int)==0)=true then _ else _) _ _ s;rw[if_neg (by decide)];refine y02 (z5g pl (y02 (z5g pu (y02 (y07 ?_)))));show wpAny _ _ (match Builtin.Slice.sliceAdjust lo hi 1 (n:Int)with|(lo,hi)=>pure (lo,(1:Int),Builtin.Slice.slicePlaces lo hi 1)) _ _ s
 rw[z8F lo hi n];show wpAny _ _ (pure (((sIx n 0 lo:Nat):Int),(1:Int),Builtin.Slice.slicePlaces ((sIx n 0 lo:Nat):Int) ((sIx n n hi:Nat):Int) 1)) _ _ s;rw[z8v];exact y07 h
def zbB(xs:Array Value)(i k:Nat):((List.range k).filterMap fun(m:Nat)=>xs[((i:Int)+(m:Int)*1).toNat]?).toArray=((xs.toList.drop i).take k).toArray:=by
 have e:(fun(m:Nat)=>xs[((i:Int)+(m:Int)*1).toNat]?)=fun m=>xs[i+m]?:=by
  funext m;have:((i:Int)+(m:Int)*1).toNat=i+m:=by lia
  rw[this]
 rw[e];have:=pick_run xs i k;rw[List.filterMap_map]at this;have e2:((fun x=>xs[x]?)∘fun x=>i+x)=fun m=>xs[i+m]?:=rfl;rw[e2]at this;rw[this]
def getItem_tuple_cut{t sl:Addr}{items:Array Value}{vl vu:Value}{lo hi:Option Int}{Q:yyE}(ht:IsTup s.heap t items)(hs:s.heap.IsSliceOf sl vl vu .none)(pl:IsPart vl lo)(pu:IsPart vu hi)(hw:¬(sIx items.size 0 lo=0/\sIx items.size items.size hi=items.size))(h:Q (.ref s.heap.objs.size) { s with heap:=s.heap.push { cls:=.type "tuple",data:=.seq ((items.toList.drop (sIx items.size 0 lo)).take (sIx items.size items.size hi-sIx items.size 0 lo)).toArray } })(hsz:items.size<=sizeLine):wpAny (model prog w) A (getItem (.ref t) (.ref sl)) Q E s:=by
 have htake:sizeOk (.seq ((items.toList.drop (sIx items.size 0 lo)).take (sIx items.size items.size hi-sIx items.size 0 lo)).toArray):=by show((items.toList.drop (sIx items.size 0 lo)).take (sIx items.size items.size hi-sIx items.size 0 lo)).toArray.size<=sizeLine;rw[y0g,y0k,y1R,y1Q];lia
 have hj:sIx items.size items.size hi<=items.size:=zfJ _ _ (y0a _) hi;obtain⟨os,hos,hcs,hds⟩:=id hs;have hTs:s.TypeIs (.ref sl) "slice":=⟨os,hos,hcs⟩;unfold getItem;try with_reducible refine y1i ?_
 first|refine y02 (y07 ?_)|skip
 refine y02 (wpAny_sequenceKey ht.typeIs (by decide) ?_);refine y02 (y11 (name:=Str.ofString "__getitem__") ht.typeIs y0W
  (y1d y0W ht.typeIs entry_tuple_getitem ?_ (args_tuple_getitem _ _)))
 show wpAny _ _ (Builtin.Tuple.tupleItemsOf (.ref t)>>=_) _ _ s;refine y02 (tupleItemsOf_ ht ?_);refine y02 (wpAny_typeOf hTs ?_);rw[if_pos (by decide)];refine y02 (sliceApplied_gen hs pl pu ?_);have hno:¬((((sIx items.size 0 lo:Nat):Int)==0&&(1:Int)==1&&(sIx items.size items.size hi-sIx items.size 0 lo)==items.size)=true):=by intro q;rw[y13,y13]at q;have q1:((sIx items.size 0 lo:Nat):Int)=0:=eq_of_beq q.1.1;have q2:sIx items.size items.size hi-sIx items.size 0 lo=items.size:=eq_of_beq q.2;exact hw ⟨by lia,by lia⟩
 show wpAny _ _ (if(((sIx items.size 0 lo:Nat):Int)==0&&(1:Int)==1&&(sIx items.size items.size hi-sIx items.size 0 lo)==items.size)=true then _ else _) _ _ s;rw[if_neg hno,zbB];first
  |exact y02 (m:=Builtin.Tuple.tupleExact _) (y0P (y07 ⟨_,rfl,y07 h⟩) htake)
  |exact y02 (m:=Builtin.Tuple.tupleExact _) (y0P (y02 (y07 (y07 ⟨_,rfl,y07 h⟩))) htake)
  |exact y02 (y02 (m:=Builtin.Tuple.tupleExact _) (y0P (y07 (y07 ⟨_,rfl,y07 h⟩)) htake))
  |exact y02 (y02 (m:=Builtin.Tuple.tupleExact _) (y0P (y07 ⟨_,rfl,y07 h⟩) htake))
end
end HT
namespace L2
open PySem PySem.Spec PyProof.Rows
abbrev TO:=St->Hp->(Option Int->Hp->Prop)->Prop
def PO(X:Cx)(e:Option Expr)(t:TO):Prop :=
 ∀(pins:yyP)(s:Shared)(σ:St)(H:Hp)(Q:Option Int->Hp->Prop),Inv X pins σ H s->t σ H Q ->
  wpAny (model X.prog X.w) X.A (evalPart e X.env) (fun u s'=>∃o H',Inv X pins σ H' s'/\IsPart u o/\Q o H') X.xe s
def zdS:TO:=fun _ H Q=>Q none H
def zi6(t:TE):TO:=fun σ H Q=>t σ H fun x H1=>∃i,x=.int i/\Q (some i) H1
section
variable{X:Cx}{e:Expr}{te:TE}{lo hi:Option Expr}{tl th:TO}{pos p2:Pos}
def z1u:PO X none zdS:=by intro pins s σ H Q I h;rw[evalPart_none];exact y07 ⟨none,H,I,.none,h⟩
def z1j(h:PE X e te):PO X (some e) (zi6 te):=by intro pins s σ H Q I hw;rw[evalPart_some];refine z1w (h pins s σ H _ I hw) fun u s1 x H1 I1 r1 q1=>?_;obtain⟨i,rfl,q⟩:=q1;obtain⟨t,rfl⟩:=r1;exact⟨some i,H1,I1,.int i t,q⟩
def SlR(X:Cx)(r:V->Option Int->Option Int->Hp->VK->Prop):Prop :=
 ∀(pins:yyP)(s:Shared)(σ:St)(H:Hp)(x:V)(v vl vu:Value)(lo hi:Option Int)(sl:Addr)(Q:VK),Inv X pins σ H s->z0U x v->s.heap.IsSliceOf sl vl vu .none->IsPart vl lo->IsPart vu hi->r x lo hi H Q ->
  ∃T id,typeLookup (.type T) "__getitem__"=pure (some (.builtin id))/\s.TypeIs v T/\wpAny (model X.prog X.w) X.A (getItem v (.ref sl)) (EP X pins σ Q) X.xe s
def tSl(r:V->Option Int->Option Int->Hp->VK->Prop)(te:TE)(tl th:TO):TE:=fun σ H Q=>te σ H fun x H1=>tl σ H1 fun l H2=>th σ H2 fun u H3=>r x l u H3 Q
def z0Z{r:V->Option Int->Option Int->Hp->VK->Prop}(hr:SlR X r)(he:PE X e te)(hl:PO X lo tl)(hu:PO X hi th):PE X (.Subscript e (.Slice lo hi none p2) pos) (tSl r te tl th):=by intro pins s σ H Q I h;refine Subscript_ (z1w (he pins s σ H _ I h) fun v s1 x H1 I1 r1 q1=>?_);refine wpAny_Slice (thn (hl pins s1 σ H1 _ I1 q1) fun vl s2 ⟨l,H2,I2,pl,q2⟩=>thn (hu pins s2 σ H2 _ I2 q2) fun vu s3 hz8=>?_);obtain⟨u,H3,I3,pu,q3⟩:=hz8;rw[evalPart_none];refine y07 ?_;have I4:Inv X pins σ H3 { s3 with heap:=s3.heap.push { cls:=.type "slice",data:=.fields #[vl,vu,.none] } }:=I3.kept (t':=s3.toks) fun b ob q=>y03 _ q;obtain⟨T,id,hT,ht,hg⟩:=hr pins { s3 with heap:=s3.heap.push { cls:=.type "slice",data:=.fields #[vl,vu,.none] } } σ H3 x v vl vu l u s3.heap.objs.size Q I4 r1 (Heap.IsSliceOf.new ..) pl pu q3;show wpAny (model X.prog X.w) X.A (subscriptTail e (.Slice lo hi none p2) v (.ref s3.heap.objs.size)) (EP X pins σ Q) X.xe { s3 with heap:=s3.heap.push { cls:=.type "slice",data:=.fields #[vl,vu,.none] } };exact tail_any (ops:=[.ref s3.heap.objs.size,v]) ht hT hg (by with_unfolding_all rfl)
def z4Z(xs:List V)(lo hi:Option Int):List V:=(xs.drop (HT.sIx xs.length 0 lo)).take (HT.sIx xs.length xs.length hi-HT.sIx xs.length 0 lo)
def z4m(xs:List V)(lo hi:Option Int):(z4Z xs lo hi).length<=xs.length:=by unfold z4Z;rw[y0k,y1R];lia
def zpn(K:yyF):V->Option Int->Option Int->Hp->VK->Prop:=fun x lo hi H Q=>∃a xs,x=.ref a/\SqT K H a xs /\
 ¬(HT.sIx xs.length 0 lo=0/\HT.sIx xs.length xs.length hi=xs.length)/\∀p,H p=none->Q (.ref p) (upd H p (.tup (z4Z xs lo hi)))
def zgb:SlR X (zpn X.K):=by
 intro pins s σ H x v vl vu lo hi sl Q I rx hs pl pu h;obtain⟨a,xs,rfl,hx,hw,q⟩:=h;cases rx;obtain⟨its,r,ht,hz⟩:=I.tuple hx;have hlen:its.toArray.size=xs.length:=by rw[y0g];exact r.length.symm
 refine⟨"tuple",_,y0W.lookup,ht.typeIs,?_⟩;refine HT.getItem_tuple_cut ht hs pl pu (by rw[hlen];exact hw) ?_ (by rw[hlen];exact hz);rw[hlen];refine⟨.ref s.heap.objs.size,_,I.laid (t':=s.toks) (o:=.tup (z4Z xs lo hi)) (fun b ob q=>y03 _ q) (y0a _) ?_,rfl,q _ (I.hok.fresh (y0a _))⟩;exact⟨y0w (z4m xs lo hi) hz,_,0,(r.drop (HT.sIx xs.length 0 lo)).take (HT.sIx xs.length xs.length hi-HT.sIx xs.length 0 lo),y09 _ rfl⟩
def zie(K:yyF):R2:=fun x y H Q=>∃a b xs ys,x=.ref a/\y=.ref b/\SqT K H a xs/\SqT K H b ys/\xs≠[]/\xs.length+ys.length<=sizeLine /\
 (ys=[]->Q (.ref a) H)/\(ys≠[]->∀p,H p=none->Q (.ref p) (upd H p (.tup (xs++ys))))
def z0J.nil_iff{xs:List V}{us:List Value}(r:z0J xs us):us=[]↔xs=[]:=by
 cases r with
 |nil=>simp
 |cons _ _=>simp
def ze3:OpR X (binaryOp .Add) (zie X.K):=by intro pins s σ H x y v u Q I rx ry h;obtain⟨a,b,xs,ys,rfl,rfl,ha,hb,hx,hz,q1,q2⟩:=h;cases rx;cases ry;obtain⟨its,r1,p1,_⟩:=I.tuple ha;obtain⟨its2,r2,p2,_⟩:=I.tuple hb;refine HT.cat_tup p1 p2 (fun z=>hx (r1.nil_iff.mp z)) (fun z=>⟨.ref a,H,I,rfl,q1 (r2.nil_iff.mp z)⟩) (fun z=>?_) (by rw[<-r1.length,<-r2.length];exact hz);refine⟨.ref s.heap.objs.size,_,I.laid (t':=s.toks) (o:=.tup (xs++ys)) (fun b ob q=>y03 _ q) (y0a _) ?_,rfl,q2 (fun w=>z (r2.nil_iff.mpr w)) _ (I.hok.fresh (y0a _))⟩;exact⟨by rw[y06];exact hz,_,0,r1.append r2,y09 _ rfl⟩
end
def ixN(n:Nat)(i:Int):Option Nat:=if 0<=i then(if i<n then some i.toNat else none)else if -(n:Int)<=i then some (i+n).toNat else none
def atI{α:Type}(xs:List α)(i:Int):Option α:=(ixN xs.length i).bind fun j=>xs[j]?
def zab{n:Nat}{i:Int}{j:Nat}(h:ixN n i=some j):seqIndex? i n=some j/\j<n/\-(n:Int)<=i/\i<n:=by
 unfold ixN at h;by_cases h0:0<=i
 .rw[if_pos h0]at h;by_cases h1:i<n
  .rw[if_pos h1]at h;have e:i.toNat=j:=y0d h;exact⟨by rw[seqIndex_of h0 h1,e],by lia,by lia,h1⟩
  .rw[if_neg h1]at h;cases h
 .rw[if_neg h0]at h;by_cases h1:-(n:Int)<=i
  .rw[if_pos h1]at h;have e:(i+n).toNat=j:=y0d h;exact⟨by rw[seqIndex_neg (by lia) h1,e],by lia,h1,by lia⟩
  .rw[if_neg h1]at h;cases h
def zbm{α:Type}{xs:List α}{i:Int}{v:α}(h:atI xs i=some v):∃j,seqIndex? i xs.length=some j/\xs[j]?=some v/\j<xs.length/\-(xs.length:Int)<=i/\i<xs.length:=by
 unfold atI at h;cases e:ixN xs.length i with
 |none=>rw[e]at h;cases h
 |some j =>
  rw[e]at h;obtain⟨h1,h2,h3,h4⟩:=zab e;exact⟨j,h1,h,h2,h3,h4⟩
def z0S{α:Type}{xs:List α}{j:Nat}{v:α}(h:xs[j]?=some v):atI xs (j:Int)=some v:=by
 have hj:j<xs.length:=(y05.mp h).1;have e:ixN xs.length (j:Int)=some j:=by unfold ixN;rw[if_pos (by lia),if_pos (by lia)];simp
 unfold atI;rw[e];exact h
def zdT(b:Expr):Prop:=∀o i,subscripted b false o i=operate [o,i] (getItem o i)
def IxR(X:Cx)(r:R2):Prop :=
 ∀(value slice:Expr)(pins:yyP)(s:Shared)(σ:St)(H:Hp)(x y:V)(v u:Value)(Q:VK),Inv X pins σ H s->z0U x v->z0U y u->r x y H Q ->
  subscripted slice false v u=operate [v,u] (getItem v u)->wpAny (model X.prog X.w) X.A (subscriptTail value slice v u) (EP X pins σ Q) X.xe s
def MtR(X:Cx)(id:String)(r:V->List V->Hp->VK->Prop):Prop :=
 ∀(pins:yyP)(s:Shared)(σ:St)(H:Hp)(x:V)(xs:List V)(v:Value)(us:List Value)(Q:VK),Inv X pins σ H s->z0U x v->z0J xs us->r x xs H Q ->
  wpAny (model X.prog X.w) X.A (call (.builtin id) (v::us)) (EP X pins σ Q) X.xe s
section
variable{X:Cx}{a b:Expr}{ta tb:TE}{pos:Pos}
def z1L{r:R2}(hr:IxR X r)(ha:PE X a ta)(hb:PE X b tb)(hs:zdT b):PE X (.Subscript a b pos) (tOp r ta tb):=by intro pins s σ H Q I h;exact Subscript_ (zjD ha hb I h fun v u s2 x y H2 I2 rx ry q=>hr a b pins s2 σ H2 x y v u Q I2 rx ry q (hs _ _))
def zmL(K:yyF):R2:=fun x y H Q=>∃p xs i v,x=.ref p/\y=.int i/\SqL K H p xs/\atI xs i=some v/\Q v H
def zoO(K:yyF):R2:=fun x y H Q=>∃p xs i v,x=.ref p/\y=.int i/\SqT K H p xs/\atI xs i=some v/\Q v H
def z1F:IxR X (zmL X.K):=by
 intro value slice pins s σ H x y v u Q I rx ry h hs;obtain⟨p,xs,i,z,rfl,rfl,hq,he,q⟩:=h;cases rx;obtain⟨t,rfl⟩:=ry;obtain⟨its,r,pl,hz⟩:=I.list hq;obtain⟨j,h1,h2,h3,h4,h5⟩:=zbm he;obtain⟨w,ew,rw'⟩:=r.get h2;have hl:=r.length;have hn:=z3P;have fin:EP X pins σ Q w s:=⟨z,H,I,rw',q⟩;by_cases h0:0<=i
 .have hj:i.toNat=j:=by
   rw[seqIndex_of h0 h5]at h1;exact y0d h1
  exact item_listR pl.isList h0 (by lia) (by rw[hj];simpa using ew) fin hs
 .have hj:(i+(its.toArray.size:Int)).toNat=j:=by
   rw[seqIndex_neg (by lia) h4]at h1;rw[y0g,<-hl];exact y0d h1
  exact subscriptTail_builtinR (x:=w) pl.isList.typeIs slot_list_getitem.lookup
   (wpAny_getItem_list_neg (Q:=fun r s'=>r=w/\EP X pins σ Q r s') pl.isList (by lia) (by rw[y0g]<;>lia) (by lia) (by rw[hj];simpa using ew) ⟨rfl,fin⟩) hs
def z3O:IxR X (zoO X.K):=by
 intro value slice pins s σ H x y v u Q I rx ry h hs;obtain⟨p,xs,i,z,rfl,rfl,hq,he,q⟩:=h;cases rx;obtain⟨t,rfl⟩:=ry;obtain⟨its,r,pl,hz⟩:=I.tuple hq;obtain⟨j,h1,h2,h3,h4,h5⟩:=zbm he;obtain⟨w,ew,rw'⟩:=r.get h2;have hl:=r.length;have hn:=z3P;have fin:EP X pins σ Q w s:=⟨z,H,I,rw',q⟩;exact subscriptTail_builtinR (x:=w) pl.typeIs slot_tuple_getitem.lookup
  (getItem_tuple (j:=j) (Q:=fun r s'=>r=w/\EP X pins σ Q r s') pl (by lia) (by lia) (by rw[y0g,<-hl];exact h1) (by simpa using ew) ⟨rfl,fin⟩) hs
def z8z(its:List Value)(n j:Nat)(u:Value):Obj.mapSeq (·.setIfInBounds j u) { cls:=.type "list",data:=.seq its.toArray n }={ cls:=.type "list",data:=.seq (its.set j u).toArray n }:=by simp[Obj.mapSeq]
theorem Inv.lst{pins:yyP}{σ:St}{H:Hp}{s:Shared}{p:Addr}{xs:List V}(I:Inv X pins σ H s)(h:H p=some (.lst xs)) : ∃(its:List Value) (n:Nat),z0J xs its/\s.heap.get? p=some { cls:=.type "list",data:=.seq its.toArray n }/\xs.length<=sizeLine:=by obtain⟨z,its,n,r,e⟩:=I.hok p _ h;exact⟨its,n,r,e,z⟩
def Inv.lstUpd{pins:yyP}{σ:St}{H:Hp}{s:Shared}{p:Addr}{xs ys:List V}{its its':List Value}{n n':Nat}{f:Obj->Obj}(I:Inv X pins σ H s)(h:H p=some (.lst xs))(ho:s.heap.get? p=some { cls:=.type "list",data:=.seq its.toArray n })(hf:f { cls:=.type "list",data:=.seq its.toArray n }={ cls:=.type "list",data:=.seq its'.toArray n' })(r:z0J ys its')(hz:ys.length<=sizeLine)(t:Nat) : Inv X pins σ (upd H p (.lst ys)) { s with heap:=s.heap.update p f,toks:=t }:=by
 have e:(s.heap.update p f).get? p=some { cls:=.type "list",data:=.seq its'.toArray n' }:=by rw[Heap.get?_update_self f ho (by rw[hf]<;>rfl),hf]
 refine I.write (x:=p) (e:=p) (by rw[h];trivial) (.inl rfl) (fun b u hb q=>(Heap.get?_update_other _ _ (y1h hb)).trans q) ⟨_,e⟩ ?_;exact⟨hz,its',n',r,e⟩
def zhM:V->V->V->Hp->(Hp->Prop)->Prop:=fun o i v H Q=>∃p xs k j,o=.ref p/\i=.int k/\H p=some (.lst xs)/\ixN xs.length k=some j/\Q (upd H p (.lst (xs.set j v)))
def z2c:zlY X zhM:=by
 intro pins s σ H o i v ov iv u Q I ro ri rv h;obtain⟨p,xs,k,j,rfl,rfl,hp,hj,q⟩:=h;cases ro;obtain⟨t,rfl⟩:=ri;obtain⟨its,n,r,ho,hz⟩:=I.lst hp;obtain⟨h1,h2,h3,h4⟩:=zab hj;have hl:=r.length;have hn:=z3P;have I':Inv X pins σ (upd H p (.lst (xs.set j v))) { s with heap:=s.heap.update p (Obj.mapSeq (·.setIfInBounds j u)) } :=
  I.lstUpd hp ho (z8z its n j u) (r.set rv j) (by rw[List.length_set];exact hz) s.toks
 by_cases h0:0<=k
 .have hk:k.toNat=j:=by
   rw[seqIndex_of h0 h4]at h1;exact y0d h1
  exact PySem.W.ki_setAt ho h0 (by lia) (by rw[y0g,<-hl];exact h4) (by rw[hk];exact⟨_,I',q⟩)
 .have hk:(k+(its.toArray.size:Int)).toNat=j:=by
   rw[seqIndex_neg (by lia) h3]at h1;rw[y0g,<-hl];exact y0d h1
  exact PySem.W.ki_setBack ho (by lia) (by rw[y0g,<-hl];exact h3) (by lia) (by rw[hk];exact⟨_,I',q⟩)
def z6l(lo hi:Option Int)(n:Nat):(sliceBounds lo hi none n).1=((HT.sIx n 0 lo:Nat):Int)/\(sliceBounds lo hi none n).2.1=((HT.sIx n n hi:Nat):Int)/\(sliceBounds lo hi none n).2.2=1:=by
 refine⟨?_,?_,rfl⟩
 .cases lo with
  |none=>simp[sliceBounds,HT.sIx]
  |some i =>
   simp only[sliceBounds,HT.sIx,Option.getD_none,show(1:Int)>0 by decide,if_true];by_cases h:i<0
   .simp only[h,if_true]<;>lia
   .simp only[h,if_false]<;>lia
 .cases hi with
  |none=>simp[sliceBounds,HT.sIx]
  |some i =>
   simp only[sliceBounds,HT.sIx,Option.getD_none,show(1:Int)>0 by decide,if_true];by_cases h:i<0
   .simp only[h,if_true]<;>lia
   .simp only[h,if_false]<;>lia
def z5A(its:List Value)(lo hi:Option Int):slicePick its.toArray lo hi none=((its.drop (HT.sIx its.length 0 lo)).take (HT.sIx its.length its.length hi-HT.sIx its.length 0 lo)).toArray:=by obtain⟨h1,h2,h3⟩:=z6l lo hi its.toArray.size;unfold slicePick;rw[h1,h2,h3];simp only[sliceRange_one,pick_run,y0g]<;>rfl
def zph(K:yyF):V->Option Int->Option Int->Hp->VK->Prop:=fun x lo hi H Q=>∃a xs,x=.ref a/\SqL K H a xs/\∀p,H p=none->Q (.ref p) (upd H p (.lst (z4Z xs lo hi)))
def z7i:SlR X (zph X.K):=by intro pins s σ H x v vl vu lo hi sl Q I rx hs pl pu h;obtain⟨a,xs,rfl,hx,q⟩:=h;cases rx;obtain⟨its,r,ht,hz⟩:=I.list hx;have hlen:=r.length;refine⟨"list",_,slot_list_getitem.lookup,ht.isList.typeIs,?_⟩;refine wpAny_getItem_list_slice ht.isList hs pl pu .none (by simp) ?_ (by rw[y0g]<;>lia);rw[z5A,<-hlen];refine⟨.ref s.heap.objs.size,_,I.laid (t':=s.toks) (o:=.lst (z4Z xs lo hi)) (fun b ob q=>y03 _ q) (y0a _) ?_,rfl,q _ (I.hok.fresh (y0a _))⟩;exact⟨y0w (z4m xs lo hi) hz,_,0,(r.drop (HT.sIx xs.length 0 lo)).take (HT.sIx xs.length xs.length hi-HT.sIx xs.length 0 lo),y09 _ rfl⟩
def z0a:z1s X (.builtin "len") (fun xs H Q=>∃p ys,xs=[.ref p]/\(SqL X.K H p ys\/SqT X.K H p ys)/\Q (.int ys.length) H):=by
 intro pins s σ H xs us Q I r h;obtain⟨p,ys,rfl,hq,q⟩:=h;obtain⟨u,rfl,rx⟩:=z2E r;cases rx;have hn:=z3P;rcases hq with hq|hq
 .obtain⟨its,r',pl,hz⟩:=I.list hq;have hlen:=r'.length;exact Calls.call_len_list pl.isList (by simp only[y0g]<;>lia) ⟨.int ys.length,H,I.tok _,⟨s.toks+1,by rw[y0g,hlen]⟩,q⟩
 .obtain⟨its,r',pl,hz⟩:=I.tuple hq;have hlen:=r'.length;exact len_tuple pl (by simp only[y0g]<;>lia) ⟨.int ys.length,H,I.tok _,⟨s.toks+1,by rw[y0g,hlen]⟩,q⟩
def z6a:z1s X (.builtin "len") (fun xs H Q=>∃z,xs=[.str z]/\z.length<=sizeLine/\Q (.int z.length) H):=by intro pins s σ H xs us Q I r h;obtain⟨z,rfl,hz,q⟩:=h;obtain⟨u,rfl,t,rfl⟩:=z2E r;have hn:=z3P;exact len_str (by lia) ⟨.int z.length,H,I.tok _,⟨_,rfl⟩,q⟩
def z1s.or{f:Value}{r r':List V->Hp->VK->Prop}(h:z1s X f r)(h':z1s X f r'):z1s X f (fun xs H Q=>r xs H Q\/r' xs H Q):=by
 intro pins s σ H xs us Q I rs q;rcases q with q|q
 .exact h pins s σ H xs us Q I rs q
 .exact h' pins s σ H xs us Q I rs q
def z3T:z1s X (.type "list") (fun xs H Q=>∃p ys,xs=[.ref p]/\(SqL X.K H p ys\/SqT X.K H p ys)/\∀l,H l=none->Q (.ref l) (upd H l (.lst ys))):=by
 intro pins s σ H xs us Q I r h;obtain⟨p,ys,rfl,hq,q⟩:=h;obtain⟨u,rfl,rx⟩:=z2E r;cases rx;have fin:∀(its:List Value),z0J ys its->ys.length<=sizeLine->∀(h':Heap)(c':Nat),(∀b o',s.heap.get? b=some o'->h'.get? b=some o') ->
   h'.get? s.heap.objs.size=some { cls:=.type "list",dict:=none,data:=.seq its.toArray c',slots:=#[] }->EP X pins σ Q (.ref s.heap.objs.size) { s with heap:=h' }:=fun its r' hz h' c' kp e =>
  ⟨.ref s.heap.objs.size,_,I.laid (t':=s.toks) kp (y0a _) (show z1d X.prog X.w _ h' _ (.lst ys)from⟨hz,its,c',r',e⟩),rfl,q _ (I.hok.fresh (y0a _))⟩
 rcases hq with hq|hq
 .obtain⟨its,r',pl,hz⟩:=I.list hq;have hlen:=r'.length;obtain⟨o,ho,hc,n,hd⟩:=pl.isList;exact call_list_seq p (.inl rfl) ho hc hd (fun h' c' kp e=>fin its r' hz h' c' kp e) (by simp only[y0g]<;>lia)
 .obtain⟨its,r',pl,hz⟩:=I.tuple hq;have hlen:=r'.length;obtain⟨o,ho,hc,n,hd⟩:=pl;exact call_list_seq p (.inr rfl) ho hc hd (fun h' c' kp e=>fin its r' hz h' c' kp e) (by simp only[y0g]<;>lia)
def z0K:z1s X (.type "tuple") (fun xs H Q=>∃p ys,xs=[.ref p]/\((SqL X.K H p ys/\∀l,H l=none->Q (.ref l) (upd H l (.tup ys)))\/(SqT X.K H p ys/\Q (.ref p) H))):=by
 intro pins s σ H xs us Q I r h;obtain⟨p,ys,rfl,h⟩:=h;obtain⟨u,rfl,rx⟩:=z2E r;cases rx;rcases h with⟨hq,q⟩|⟨hq,q⟩
 .obtain⟨its,r',pl,hz⟩:=I.list hq;have hlen:=r'.length;refine call_tuple_list pl.isList (fun h' kp=>?_) (by simp only[y0g]<;>lia);have I1:Inv X pins σ H { s with heap:=h' }:=I.kept (t':=s.toks) kp;have I2:Inv X pins σ (upd H h'.objs.size (.tup ys)) { s with heap:=h'.push { cls:=.type "tuple",data:=.seq its.toArray } } :=
   I1.laid (t':=s.toks) (fun b o e=>y03 _ e) (y0a _) (show z1d X.prog X.w _ _ _ (.tup ys)from⟨hz,its,0,r',y09 _ rfl⟩)
  exact⟨.ref h'.objs.size,_,I2,rfl,q _ (I1.hok.fresh (y0a _))⟩
 .obtain⟨its,r',pl,hz⟩:=I.tuple hq;exact call_tuple_same pl ⟨.ref p,H,I,rfl,q⟩
def tyV(K:yyF)(T:String)(x:V)(H:Hp):Prop:=match x with
 |.str _=>T="str"
 |.int _=>T="int"
 |.ref p=>(T="list"/\∃xs,SqL K H p xs)\/(T="tuple"/\((∃o,K.lookup p=some o/\o.cls=.type "tuple"/\o.dict=none)\/∃xs,H p=some (.tup xs))) \/
   (T="dict"/\((∃kvs,H p=some (.dK kvs))\/∃kvs,H p=some (.dT kvs)))\/(T="set"/\∃S n,H p=some (.set S n))
 |_=>False
def zde{pins:yyP}{σ:St}{H:Hp}{s:Shared}{T:String}{x:V}{v:Value}(I:Inv X pins σ H s)(r:z0U x v)(ty:tyV X.K T x H) : s.TypeIs v T/\∀a,v=.ref a->∃ob,s.heap.get? a=some ob/\ob.dict=none:=by
 cases x with
 |str z =>
  obtain⟨t,rfl⟩:=r;cases(show T="str" from ty);exact⟨typeIs_str s z t,fun _ e=>nomatch e⟩
 |int i =>
  obtain⟨t,rfl⟩:=r;cases(show T="int" from ty);exact⟨y2i s i t,fun _ e=>nomatch e⟩
 |ref p =>
  cases r;rcases ty with⟨rfl,xs,hq⟩|⟨rfl,⟨o,hk,hc,hd⟩|⟨xs,hq⟩⟩|⟨rfl,hk⟩|⟨rfl,S,n,hk⟩
  .obtain⟨its,_,pl,_⟩:=I.list hq;refine⟨pl.isList.typeIs,fun a e=>?_⟩;cases e;obtain⟨o,n,e,c,hd,_⟩:=pl;exact⟨o,e,hd⟩
  .refine⟨⟨o,I.kIn p o hk,hc⟩,fun a e=>?_⟩;cases e;exact⟨o,I.kIn _ o hk,hd⟩
  .obtain⟨_,its,n,_,h1⟩:=(show z1d X.prog X.w H s.heap p (.tup xs)from I.hok p _ hq);refine⟨⟨_,h1,rfl⟩,fun a e=>?_⟩;cases e;exact⟨_,h1,rfl⟩
  .have z:∃o,s.heap.get? p=some o/\o.ExactDict:=by
    rcases hk with⟨kvs,hk⟩|⟨kvs,hk⟩
    .obtain⟨_,_,_,_,o,_,_,e,ex,_⟩:=I.hok p _ hk;exact⟨o,e,ex⟩
    .obtain⟨_,_,_,_,o,_,_,e,ex,_⟩:=I.hok p _ hk;exact⟨o,e,ex⟩
   obtain⟨o,e,ex⟩:=z;refine⟨⟨o,e,ex.1⟩,fun a e2=>?_⟩;cases e2;exact⟨o,e,ex.2.1⟩
  .obtain⟨o,_,_,_,e,ex,_⟩:=I.hok p _ hk;refine⟨⟨o,e,ex.1⟩,fun a e2=>?_⟩;cases e2;exact⟨o,e,ex.2.1⟩
 |_=>exact False.elim ty
def zoq(K:yyF)(T:String)(r:V->List V->Hp->VK->Prop)(to:TE):TE:=fun σ H Q=>to σ H fun x H1=>tyV K T x H1/\r x [] H1 Q
def tBM(K:yyF)(T:String)(r:V->List V->Hp->VK->Prop)(to:TE)(t:TA):TE:=fun σ H Q=>to σ H fun x H1=>tyV K T x H1/\t σ H1 fun xs H2=>r x xs H2 Q
variable{o e:Expr}{es:List Expr}{to:TE}{t:TA}{name:Str}{apos cpos:Pos}{T id:String}{r:V->List V->Hp->VK->Prop}
def zfu(pa:PlainAttrs T)(slot:Slot T name id)(hty:typeOf (.builtin id)=pure (.type "method_descriptor"))(hm:MtR X id r)(ho:PE X o to)(hbase:attributeBase o name X.env (eval o X.env)=eval o X.env:=by rfl)(hline:(apos.endLine==cpos.line)=true:=by rfl):PE X (.Call (.Attribute o name apos) [] [] cpos) (zoq X.K T r to):=by intro pins s σ H Q I h;refine wpAny_Call_method0_late hbase hline (z1w (ho pins s σ H _ I h) fun v s1 x H1 I1 r1 hz9=>?_);obtain⟨ty,q1⟩:=hz9;obtain⟨h1,h2⟩:=zde I1 r1 ty;exact⟨T,id,pa,slot,hty,h1,h2,y2s rfl (PySem.evalArgs_none (hm pins s1 σ H1 x [] v [] Q I1 r1 .nil q1))⟩
def z2A(pa:PlainAttrs T)(slot:Slot T name id)(hty:typeOf (.builtin id)=pure (.type "method_descriptor"))(hm:MtR X id r)(ho:PE X o to)(ha:PA X (e::es) t)(hbase:attributeBase o name X.env (eval o X.env)=eval o X.env:=by rfl)(hfew:((backTo cpos (starEach (e::es) X.env)).all (fun x=>!x.1)&&(backToKw cpos (keywordEach [] X.env)).all (fun x=>x.1.isSome)&&decide ((e::es).length+([]:List Keyword).length+(if([]:List Keyword).isEmpty then 0 else 1)<30))=true:=by rfl)(hline:(apos.endLine==cpos.line)=true:=by rfl)(hs:starEach (e::es) X.env=(false,eval e X.env)::starEach es X.env:=by rfl)(hplain:(backTo cpos (starEach es X.env)).any (·.1)=false:=by rfl) : PE X (.Call (.Attribute o name apos) (e::es) [] cpos) (tBM X.K T r to t):=by intro pins s σ H Q I h;refine wpAny_Call_method_late hbase hfew hline rfl (z1w (ho pins s σ H _ I h) fun v s1 x H1 I1 r1 hz9=>?_);obtain⟨ty,q1⟩:=hz9;obtain⟨h1,h2⟩:=zde I1 r1 ty;refine⟨T,id,pa,slot,hty,h1,h2,?_⟩;have hA:=ha cpos pins s1 σ H1 _ I1 q1;rw[hs]at hA⊢;refine y2s (by show(false||(backTo cpos (starEach es X.env)).any (·.1))=false;rw[hplain]<;>rfl) (y2J ?_);exact thn hA fun us s2 ⟨vs,H2,I2,r2,q2⟩=>hm pins s2 σ H2 x vs v us Q I2 r1 r2 q2
end
def MtM(X:Cx)(id:String)(r:V->List V->Hp->VK->Prop):Prop :=
 ∀(pins:yyP)(s:Shared)(σ:St)(H:Hp)(x:V)(xs:List V)(v:Value)(us:List Value)(Q:VK),Inv X pins σ H s->z0U x v->z0J xs us->r x xs H Q ->
  wpAny (model X.prog X.w) X.A (call (.builtin id) (v::us)) (EP X pins σ Q) X.xe s
def z0J.one:∀{x:V}{us:List Value},z0J [x] us->∃u,us=[u]/\z0U x u
 |_,_,.cons r .nil=>⟨_,rfl,r⟩
def z0J.zero:∀{us:List Value},z0J [] us->us=[]
 |_,.nil=>rfl
theorem z0J.eraseIdx:∀{xs:List V}{us:List Value}(i:Nat),z0J xs us->z0J (xs.eraseIdx i) (us.eraseIdx i)
 |_,_,_,.nil=>.nil
 |_,_,0,.cons _ t=>t
 |_,_,i+1,.cons r t=>.cons r (z0J.eraseIdx i t)
theorem z0J.rep{xs:List V}{us:List Value}(h:z0J xs us):∀k:Nat,z0J (List.replicate k xs).flatten (List.replicate k us).flatten
 |0=>.nil
 |k+1=>by rw[y1e,y1e,y1p,y1p];exact z0J.append h (z0J.rep h k)
theorem z6u{α:Type}:∀(l:List α)(i:Nat),(l.eraseIdx i).length<=l.length
 |[],_=>y0a _
 |_::_,0=>Nat.le_succ _
 |_::r,i+1=>Nat.succ_le_succ (z6u r i)
theorem z4k(its:List Value):∀(k:Nat)(acc:List Value),
  List.foldl (fun x1 x2=>x1++x2) acc.toArray (List.replicate k its.toArray)=(acc++(List.replicate k its).flatten).toArray
 |0,acc=>by simp
 |k+1,acc=>by
  have e:acc.toArray++its.toArray=(acc++its).toArray:=by simp
  have e2:(acc++its)++(List.replicate k its).flatten=acc++(List.replicate (k+1) its).flatten:=by rw[y1e,y1p,y14]
  rw[<-e2,<-z4k its k (acc++its),<-e,y1e,List.foldl_cons]
section
variable{X:Cx}{pins:yyP}{σ:St}{H:Hp}{s:Shared}{l b:Addr}{xs ys zs:List V}
def Inv.lset{its its':List Value}{n:Nat}{f:Array Value->Array Value}{t':Nat}(I:Inv X pins σ H s)(hH:H l=some (.lst xs))(e:s.heap.get? l=some { cls:=.type "list",data:=.seq its.toArray n })(hf:f its.toArray=its'.toArray)(hv:z0J ys its')(hz:ys.length<=sizeLine) : Inv X pins σ (upd H l (.lst ys)) { s with heap:=s.heap.update l (Obj.mapSeq f),toks:=t' }:=by have q:=PySem.IsL.update e f;rw[hf]at q;refine I.write (x:=l) (e:=l) (by rw[hH];exact trivial) (.inl rfl) (fun b' u hb hu=>(Heap.get?_update_other s.heap (Obj.mapSeq f) (y1h hb)).trans hu) ⟨_,q⟩ ?_;exact⟨hz,its',_,hv,q⟩
def Inv.lnew{its:List Value}{t':Nat}(I:Inv X pins σ H s)(hv:z0J ys its)(hz:ys.length<=sizeLine) : Inv X pins σ (upd H s.heap.objs.size (.lst ys)) { s with heap:=s.heap.push { cls:=.type "list",data:=.seq its.toArray },toks:=t' } :=
 I.laid (fun _ _ q=>y03 _ q) (y0a _) ⟨hz,its,0,hv,y09 _ rfl⟩
theorem Inv.fresh(I:Inv X pins σ H s):H s.heap.objs.size=none:=I.hok.fresh (y0a _)
def Inv.lstM(I:Inv X pins σ H s)(hH:H l=some (.lst xs)):xs.length<=sizeLine/\∃(its:List Value) (n:Nat),z0J xs its/\xs.length=its.length/\s.heap.get? l=some { cls:=.type "list",data:=.seq its.toArray n }:=by obtain⟨z,its,n,r,e⟩:=I.hok l _ hH;exact⟨z,its,n,r,r.length,e⟩
def zcM{n:Nat}(h:n<=sizeLine):Builtin.List.listTooLong n=false:=by unfold Builtin.List.listTooLong;exact y0J (by lia)
end
section
variable{X:Cx}
def ze5:V->List V->Hp->VK->Prop:=fun x vs H Q=>∃l xs y,x=.ref l/\vs=[y]/\H l=some (.lst xs)/\xs.length<sizeLine/\Q .non (upd H l (.lst (xs++[y])))
def z0H:MtM X "list.append" ze5:=by intro pins s σ H x vs v us Q I rx rv h;obtain⟨l,xs,y,rfl,rfl,hH,hz,q⟩:=h;cases rx;obtain⟨u,rfl,ru⟩:=rv.one;obtain⟨z,its,n,r,hl,e⟩:=I.lstM hH;refine y1S F.slot_list_append ⟨_,e,rfl⟩ F.entry_list_append (F.args_list_append_2 _ _) (PySem.list_append l its.toArray n u (by rw[y0g];lia)) ⟨e,?_⟩;refine⟨.non,_,I.lset (its':=its++[u]) hH e (by simp) (r.append (.cons ru .nil)) ?_,rfl,q⟩;rw[y06,y0p];lia
def zfL:V->List V->Hp->VK->Prop:=fun x vs H Q=>∃l xs i k y,x=.ref l/\vs=[.int i]/\H l=some (.lst xs)/\-(2^63)<=i/\i<2^63/\seqIndex? i xs.length=some k/\xs[k]?=some y/\Q y (upd H l (.lst (xs.eraseIdx k)))
def zbK:MtM X "list.pop" zfL:=by
 intro pins s σ H x vs v us Q I rx rv h;obtain⟨l,xs,i,k,y,rfl,rfl,hH,h1,h2,hk,hy,q⟩:=h;cases rx;obtain⟨u,rfl,ru⟩:=rv.one;obtain⟨t,rfl⟩:=ru;obtain⟨z,its,n,r,hl,e⟩:=I.lstM hH;obtain⟨w,hw,rw'⟩:=r.get hy;refine y1S F.slot_list_pop ⟨_,e,rfl⟩ F.entry_list_pop (F.args_list_pop_2 _ _)
  (MeetsSeq.list_pop_at l its.toArray n i t k w (fitsIndex_both h1 h2) (by rw[y0g,<-hl];exact hk) (by rw[<-Array.getElem?_toList];exact hw) (by rw[y0g];lia)) ⟨e,?_⟩
 refine⟨y,_,I.lset (its':=its.eraseIdx k) hH e ?_ (r.eraseIdx k) ?_,rw',q⟩
 .show its.toArray.eraseIdxIfInBounds k=(its.eraseIdx k).toArray;rw[List.eraseIdxIfInBounds_toArray]
 .have:=z6u xs k;lia
def zeQ:V->List V->Hp->VK->Prop:=fun x vs H Q=>∃l xs,x=.ref l/\vs=[]/\H l=some (.lst xs)/\Q .non (upd H l (.lst []))
def zbR:MtM X "list.clear" zeQ:=by intro pins s σ H x vs v us Q I rx rv h;obtain⟨l,xs,rfl,rfl,hH,q⟩:=h;cases rx;have hus:=rv.zero;subst hus;obtain⟨z,its,n,r,hl,e⟩:=I.lstM hH;refine y1S F.slot_list_clear ⟨_,e,rfl⟩ F.entry_list_clear (F.args_list_clear_1 _) (AutoSeq1.list_clear_list_0 l its.toArray n (by rw[y0g];lia)) ⟨e,?_⟩;exact⟨.non,_,I.lset (its':=[]) (ys:=[]) hH e rfl .nil (y0t _),rfl,q⟩
def zpi:R2:=fun x y H Q=>∃l b xs zs,x=.ref l/\y=.ref b/\H l=some (.lst xs)/\H b=some (.lst zs)/\xs.length+zs.length<=sizeLine/\∀p,H p=none->Q (.ref p) (upd H p (.lst (xs++zs)))
def zfa:OpR X (binaryOp .Add) zpi:=by
 intro pins s σ H x y v u Q I rx ry h;obtain⟨l,b,xs,zs,rfl,rfl,hH,hB,hz,q⟩:=h;cases rx;cases ry;obtain⟨z,its,n,r,hl,e⟩:=I.lstM hH;obtain⟨z2,its2,n2,r2,hl2,e2⟩:=I.lstM hB;refine PySem.P.add_list e e2 ?_ (by rw[y0g,y0g];lia);have ea:its.toArray++its2.toArray=(its++its2).toArray:=by simp
 rw[ea];exact⟨.ref _,_,I.lnew (t':=s.toks) (r.append r2) (by rw[y06];lia),rfl,q _ I.fresh⟩
def zoK:R2:=fun x y H Q=>∃l k xs,x=.ref l/\y=.int k/\H l=some (.lst xs)/\-(2^63)<=k/\k<2^63/\xs.length*k.toNat<=sizeLine /\
 ∀p,H p=none->Q (.ref p) (upd H p (.lst (List.replicate k.toNat xs).flatten))
def z5u{α:Type}(xs:List α)(k:Nat):(List.replicate k xs).flatten.length=k*xs.length:=by
 induction k with
 |zero=>simp
 |succ k ih=>rw[y1e,y1p,y06,ih,Nat.succ_mul,Nat.add_comm]
def z9U:OpR X (binaryOp .Mult) zoK:=by
 intro pins s σ H x y v u Q I rx ry h;obtain⟨l,k,xs,rfl,rfl,hH,h1,h2,hz,q⟩:=h;cases rx;obtain⟨t,rfl⟩:=ry;obtain⟨z,its,n,r,hl,e⟩:=I.lstM hH;have hlen:its.toArray.size*k.toNat<=sizeLine:=by rw[y0g,<-hl];exact hz
 have hcap:¬its.toArray.size*k.toNat>(2^63-1)/8:=by
  have:(sizeLine:Nat)<=(2^63-1)/8:=by decide
  lia
 have hfit:¬(!Builtin.List.listFitsIndex k)=true:=by rw[fitsIndex_both h1 h2];exact y0u
 have hlong:¬Builtin.List.listTooLong (its.toArray.size*k.toNat)=true:=by rw[zcM hlen];exact y0u
 have hnew:List.foldl (fun x1 x2=>x1++x2) #[] (List.replicate (if its.toArray.isEmpty=true then 0 else k.toNat) its.toArray)=(List.replicate k.toNat its).flatten.toArray:=by
  have f0:∀m:Nat,List.foldl (fun x1 x2=>x1++x2) #[] (List.replicate m its.toArray)=(List.replicate m its).flatten.toArray:=fun m=>by have:=z4k its m [];rw[y20]at this;exact this
  rw[f0];cases its with
  |nil=>simp
  |cons a r'=>rw[if_neg (by simp)]
 refine y1I (T:="list") (U:="int") (by decide) ⟨_,e,rfl⟩ (fun s'=>y2i s' k t) noFill_list_mul y2L y1B repeat_list y2E.lookup
  (y1S y1B (y2i s k t) y2F (y2v _ _) (int___rmul___int_list k t l its.toArray n)
   ⟨e,rfl,⟨_,e,rfl⟩,y1S F.slot_list_mul ⟨_,e,rfl⟩ F.entry_list_mul (F.args_list_mul_2 _ _) (AutoListH.list___mul___list_int_3 l its.toArray n k t hfit hcap hlong) ⟨e,?_⟩⟩)
 rw[hnew];exact⟨.ref _,_,I.lnew (t':=s.toks) (r.rep k.toNat) (by rw[z5u,Nat.mul_comm];exact hz),rfl,q _ I.fresh⟩
end
section
variable{prog:Program}{w:World}{A:Around}{E:yyE}{s:Shared}
end
section
variable{X:Cx}
end
section
variable{κ:Type}[DecidableEq κ]
def z2S(kvs:List (κ × V))(k:κ):Option V:=(kvs.find? fun kv=>decide (kv.1=k)).map (·.2)
def z1X(kvs:List (κ × V))(k:κ)(v:V):List (κ × V) :=
 if(kvs.any fun kv=>decide (kv.1=k))=true then kvs.map (fun kv=>if kv.1=k then(kv.1,v)else kv)else kvs++[(k,v)]
def z3a{p:κ × V}{r:List (κ × V)}{k:κ}(e:p.1=k):z2S (p::r) k=some p.2:=by simp[z2S,y1C,e]
def z35{p:κ × V}{r:List (κ × V)}{k:κ}(e:¬p.1=k):z2S (p::r) k=z2S r k:=by simp[z2S,y1C,e]
theorem z41(k:κ):∀kvs:List (κ × V),(kvs.any fun kv=>decide (kv.1=k))=(z2S kvs k).isSome
 |[]=>rfl
 |p::r=>by
  rw[List.any_cons];by_cases e:p.1=k
  .simp only[z3a e,y0U e,Bool.true_or,Option.isSome_some]
  .rw[z35 e,y0J e,Bool.false_or];exact z41 k r
def z1v(kvs:List (κ × V))(k:κ)(v:V):(z1X kvs k v).length<=kvs.length+1:=by
 unfold z1X;split
 .rw[y00];lia
 .rw[y06,y0m,y2m];lia
def zbL{kvs:List (κ × V)}{k:κ}(v:V)(h:z2S kvs k=none):z1X kvs k v=kvs++[(k,v)]:=by unfold z1X;rw[z41,h];exact if_neg (by decide)
def z4Q.isSome_eq{o:Option V}{u:Option Value}(r:z4Q o u):o.isSome=u.isSome:=by
 cases o with
 |none=>cases u with
  |none=>rfl
  |some _=>exact(show False from r).elim
 |some _=>cases u with
  |none=>exact(show False from r).elim
  |some _=>rfl
theorem z4Q.getD{o:Option V}{u:Option Value}{d:V}{d':Value}(r:z4Q o u)(rd:z0U d d'):z0U (o.getD d) (u.getD d'):=by
 cases o with
 |none=>cases u with
  |none=>exact rd
  |some _=>exact(show False from r).elim
 |some _=>cases u with
  |none=>exact(show False from r).elim
  |some _=>exact r
def KV.val{kvs:List (κ × V)}{vs:List (κ × Value)}(r:KV kvs vs)(k:κ):z4Q (z2S kvs k) (valueAt vs k):=by
 unfold KV at r;induction r with
 |nil=>exact y1m
 |@cons p q ps qs h t ih =>
  obtain⟨h1,h2⟩:=h;by_cases e:p.1=k
  .have e':q.1=k:=h1.symm.trans e;have b:valueAt (q::qs) k=some q.2:=by simp[valueAt,y1C,e']
   rw[z3a e,b];exact h2
  .have e':¬q.1=k:=fun z=>e (h1.trans z);have b:valueAt (q::qs) k=valueAt qs k:=by simp[valueAt,y1C,e']
   rw[z35 e,b];exact ih
theorem KV.any{kvs:List (κ × V)}{vs:List (κ × Value)}(r:KV kvs vs)(k:κ):(kvs.any fun kv=>decide (kv.1=k))=vs.any fun kv=>decide (kv.1=k):=by
 unfold KV at r;induction r with
 |nil=>rfl
 |cons h t ih=>rw[List.any_cons,List.any_cons,ih,h.1]
def KV.repl{kvs:List (κ × V)}{vs:List (κ × Value)}(r:KV kvs vs)(k:κ){y:V}{u:Value}(ry:z0U y u) : KV (kvs.map fun kv=>if kv.1=k then(kv.1,y)else kv) (vs.map fun kv=>if kv.1=k then(kv.1,u)else kv):=by
 unfold KV at r⊢;induction r with
 |nil=>exact .nil
 |@cons p q ps qs h t ih =>
  rw[y0i,y0i];refine .cons ?_ ih;obtain⟨h1,h2⟩:=h;by_cases e:p.1=k
  .rw[if_pos e,if_pos (h1.symm.trans e)];exact⟨h1,ry⟩
  .rw[if_neg e,if_neg (fun z=>e (h1.trans z))];exact⟨h1,h2⟩
def KV.put{kvs:List (κ × V)}{vs:List (κ × Value)}(r:KV kvs vs)(k:κ){y:V}{u:Value}(ry:z0U y u):KV (z1X kvs k y) (stored vs k u):=by
 unfold z1X stored;rw[r.any k];by_cases e:(vs.any fun kv=>decide (kv.1=k))=true
 .rw[if_pos e,if_pos e];exact r.repl k ry
 .rw[if_neg e,if_neg e];exact Paired.snoc r ⟨rfl,ry⟩
theorem KV.length{kvs:List (κ × V)}{vs:List (κ × Value)}(r:KV kvs vs):kvs.length=vs.length:=y23 r
end
def z6b{P:Program}{w:World}{k:Key}{u:Value}(r:z0U (kV k) u):(z0W P w).is k u=true:=by
 cases k with
 |inl i=>obtain⟨t,e⟩:=(show ∃t,u=Value.int i t from r);subst e;exact z75 P w i t
 |inr x=>obtain⟨t,e⟩:=(show ∃t,u=Value.str x t from r);subst e;exact z7l P w x t
theorem z6v{P:Program}{w:World}:∀{ks:List Key}{us:List Value},z0J (ks.map kV) us->ItemsAre (z0W P w) ks us
 |[],_,r=>by rw[y0Z]at r;cases r;exact .nil
 |k::ks,_,r=>by
  rw[y0i]at r;cases r with
  |cons h t=>exact .cons (z6b h) (z6v t)
abbrev KT(H:Hp):List (List Key × V)->List (List Key × Addr × Value)->Prop:=Paired fun p q=>p.1=q.1/\H q.2.1=some (.tup (p.1.map kV))/\z0U p.2 q.2.2
def KT.val{H:Hp}{kvs:List (List Key × V)}{xs:List (List Key × Addr × Value)}(r:KT H kvs xs)(k:List Key):z4Q (z2S kvs k) ((atKey xs k).map (·.2)):=by
 induction r with
 |nil=>exact y1m
 |@cons p q ps qs h t ih =>
  obtain⟨h1,_,h2⟩:=h;by_cases e:p.1=k
  .have e':q.1=k:=h1.symm.trans e;have b:atKey (q::qs) k=some q.2:=by simp[atKey,y1C,e']
   rw[z3a e,b];exact h2
  .have e':¬q.1=k:=fun z=>e (h1.trans z);have b:atKey (q::qs) k=atKey qs k:=by simp[atKey,y1C,e']
   rw[z35 e,b];exact ih
def KT.repl{H:Hp}{kvs:List (List Key × V)}{xs:List (List Key × Addr × Value)}(r:KT H kvs xs)(k:List Key){y:V}{u:Value}(ry:z0U y u) : KT H (kvs.map fun kv=>if kv.1=k then(kv.1,y)else kv) (xs.map (putAt k u)):=by
 induction r with
 |nil=>exact .nil
 |@cons p q ps qs h t ih =>
  rw[y0i,y0i];refine .cons ?_ ih;obtain⟨h1,h2,h3⟩:=h;unfold putAt;by_cases e:p.1=k
  .rw[if_pos e,if_pos (h1.symm.trans e)];exact⟨h1,h2,ry⟩
  .rw[if_neg e,if_neg (fun z=>e (h1.trans z))];exact⟨h1,h2,h3⟩
def KT.put{H:Hp}{kvs:List (List Key × V)}{xs:List (List Key × Addr × Value)}(r:KT H kvs xs)(k:List Key){b:Addr}{y:V}{u:Value}(hb:H b=some (.tup (k.map kV)))(ry:z0U y u) : KT H (z1X kvs k y) (storedH xs k b u):=by
 have e:(kvs.any fun kv=>decide (kv.1=k))=(atKey xs k).isSome:=by rw[z41,(r.val k).isSome_eq,y24]
 unfold z1X storedH;rw[e];by_cases q:(atKey xs k).isSome=true
 .rw[if_pos q,if_pos q];exact r.repl k ry
 .rw[if_neg q,if_neg q];exact Paired.snoc r ⟨rfl,hb,ry⟩
def KT.keeps{H H':Hp}{kvs:List (List Key × V)}{xs:List (List Key × Addr × Value)}(r:KT H kvs xs)(ht:∀b ys,H b=some (.tup ys)->H' b=some (.tup ys)):KT H' kvs xs :=
 Paired.mapP r fun _ _ z=>⟨z.1,ht _ _ z.2.1,z.2.2⟩
section
variable{P:Program}{w:World}{H:Hp}{h:Heap}{a:Addr}
def zeZ{u:HO}(ok:HOk P w H h)(e:Rd H a u):z1d P w H h a u:=e.ok ok
def z79{kvs:List (Key × V)}(ok:HOk P w H h)(e:Rd H a (.dK kvs)):kvs.length<=sizeLine/\(a==sysModules)=false/\∃vs,KV kvs vs/\h.DictOf (z0W P w) a vs :=
 show z1d P w H h a (.dK kvs)from zeZ ok e
def zdX{kvs:List (Key × V)}(ok:HOk P w H h)(e:H a=some (.dK kvs)):kvs.length<=sizeLine/\(a==sysModules)=false/\∃vs,KV kvs vs/\h.DictOf (z0W P w) a vs:=z79 ok (.inl e)
def z4F{ks:List Key}(ok:HOk P w H h)(e:H a=some (.tup (ks.map kV))):(tupleKind (z0W P w)).is h ks a:=by obtain⟨_,its,n,r,h1⟩:=(show z1d P w H h a (.tup (ks.map kV))from ok a _ e);exact⟨_,its.toArray,n,h1,rfl,rfl,by simpa using z6v r⟩
def z7n{kvs:List (List Key × V)}(ok:HOk P w H h)(e:Rd H a (.dT kvs)):kvs.length<=sizeLine/\(a==sysModules)=false /\ ∃xs,KT H kvs xs/\h.DictOfH (tupleKind (z0W P w)) a xs:=by
 obtain⟨z,y,xs,r,o,es,ep,h1,h2,h3,h4,h5⟩:=(show z1d P w H h a (.dT kvs)from zeZ ok e);refine⟨z,y,xs,r,o,es,ep,h1,h2,h3,h4,fun x hx=>?_,h5⟩;have all:∀{l:List (List Key × V)}{m:List (List Key × Addr × Value)},KT H l m->∀x∈m,(tupleKind (z0W P w)).is h x.1 x.2.1:=by
  intro l m q;induction q with
  |nil=>intro x hx;exact nomatch hx
  |@cons p q ps qs hq t ih =>
   intro x hx;rcases y0o.mp hx with e|hx
   .subst e;exact z4F ok (by rw[<-hq.1];exact hq.2.1)
   .exact ih x hx
 exact all r x hx
def zeI{kvs:List (List Key × V)}(ok:HOk P w H h)(e:H a=some (.dT kvs)):kvs.length<=sizeLine/\(a==sysModules)=false /\ ∃xs,KT H kvs xs/\h.DictOfH (tupleKind (z0W P w)) a xs:=z7n ok (.inl e)
end
def z5k(H:Hp)(a:Addr)(y:V)(r:Option V):Prop :=
 (∃kvs k,Rd H a (.dK kvs)/\y=kV k/\r=z2S kvs k)\/∃kvs k b,Rd H a (.dT kvs)/\y=.ref b/\H b=some (.tup (k.map kV))/\r=z2S kvs k
def zcB(H:Hp)(a:Addr)(y v:V)(H':Hp):Prop :=
 (∃kvs k,H a=some (.dK kvs)/\y=kV k/\kvs.length<sizeLine/\H'=upd H a (.dK (z1X kvs k v))) \/
 ∃kvs k b,H a=some (.dT kvs)/\y=.ref b/\H b=some (.tup (k.map kV))/\kvs.length<sizeLine/\H'=upd H a (.dT (z1X kvs k v))
theorem z5k.k{H:Hp}{a:Addr}{kvs:List (Key × V)}{k:Key}(e:H a=some (.dK kvs)):z5k H a (kV k) (z2S kvs k):=.inl ⟨kvs,k,.inl e,rfl,rfl⟩
def z5k.t{H:Hp}{a b:Addr}{kvs:List (List Key × V)}{k:List Key}(e:H a=some (.dT kvs))(eb:H b=some (.tup (k.map kV))):z5k H a (.ref b) (z2S kvs k):=.inr ⟨kvs,k,b,.inl e,rfl,eb,rfl⟩
theorem zcB.k{H:Hp}{a:Addr}{kvs:List (Key × V)}{k:Key}{v:V}(e:H a=some (.dK kvs))(hl:kvs.length<sizeLine):zcB H a (kV k) v (upd H a (.dK (z1X kvs k v))):=.inl ⟨kvs,k,e,rfl,hl,rfl⟩
def zcB.t{H:Hp}{a b:Addr}{kvs:List (List Key × V)}{k:List Key}{v:V}(e:H a=some (.dT kvs))(eb:H b=some (.tup (k.map kV)))(hl:kvs.length<sizeLine) : zcB H a (.ref b) v (upd H a (.dT (z1X kvs k v))):=.inr ⟨kvs,k,b,e,rfl,eb,hl,rfl⟩
section
variable{X:Cx}{pins:yyP}{σ:St}{H:Hp}{s:Shared}{a:Addr}{y v:V}{u r:Value}{o:Option V}{A:Around}{E:yyE}
def Inv.big(I:Inv X pins σ H s):sysModules<s.heap.objs.size:=by have h:mainGlobals<s.heap.objs.size:=(I.mod.glob.keeps I.bk).lt;exact y2T (by decide) h
def z9C{Q:yyE}(hu:A.units+1<cLine)(I:Inv X pins σ H s)(g:z5k H a y (some v))(ry:z0U y u)(h:∀w' s',Inv X pins σ H s'->z0U v w'->Q w' s') : wpAny (model X.prog X.w) A (getItem (.ref a) u) Q E s:=by
 rcases g with⟨kvs,k,e,ey,l⟩|⟨kvs,k,b,e,ey,eb,l⟩
 .subst ey;obtain⟨z,hd,vs,rel,dd⟩:=z79 I.hok e;obtain⟨w',hw,rw'⟩:=z4Q.some_of (v:=v) (o:=valueAt vs k) (by rw[l];exact rel.val k);exact wpAny_getItem_of (z6b ry) dd.mapOf hw (h w' _ (I.tok _) rw')
 .subst ey;cases(show u=Value.ref b from ry);obtain⟨z,hd,xs,rel,dd⟩:=z7n I.hok e;obtain⟨w',hw,rw'⟩:=z4Q.some_of (v:=v) (o:=(atKey xs k).map (·.2)) (by rw[l];exact rel.val k);obtain⟨p,hp,hp2⟩:=y15.mp hw;refine wpAny_getItem_heap (y1Y hu) (z4F I.hok eb) dd hp ?_;rw[hp2];exact h w' _ (I.tok _) rw'
def zpe{Q:yyE}(hu:A.units+1<cLine)(I:Inv X pins σ H s)(g:z5k H a y o)(ry:z0U y u)(h:∀s',Inv X pins σ H s'->Q (.bool o.isSome) s') : wpAny (model X.prog X.w) A (compareOp .In u (.ref a)) Q E s:=by
 rcases g with⟨kvs,k,e,ey,l⟩|⟨kvs,k,b,e,ey,eb,l⟩
 .subst ey;obtain⟨z,hd,vs,rel,dd⟩:=z79 I.hok e;refine wpAny_in_of (z6b ry) hd dd.mapOf ?_;rw[<-(rel.val k).isSome_eq,<-l];exact h _ (I.tok _)
 .subst ey;cases(show u=Value.ref b from ry);obtain⟨z,hd,xs,rel,dd⟩:=z7n I.hok e;refine wpAny_in_heap (y1Y hu) (z4F I.hok eb) hd dd ?_;have q:=(rel.val k).isSome_eq;rw[y24]at q;rw[<-q,<-l];exact h _ (I.tok _)
def zee{Q:yyE}(hu:A.units+1<cLine)(I:Inv X pins σ H s)(g:z5k H a y o)(ry:z0U y u)(h:∀s',Inv X pins σ H s'->Q (.bool (!o.isSome)) s') : wpAny (model X.prog X.w) A (compareOp .NotIn u (.ref a)) Q E s:=by
 rcases g with⟨kvs,k,e,ey,l⟩|⟨kvs,k,b,e,ey,eb,l⟩
 .subst ey;obtain⟨z,hd,vs,rel,dd⟩:=z79 I.hok e;refine wpAny_notIn_of (z6b ry) hd dd.mapOf ?_;rw[<-(rel.val k).isSome_eq,<-l];exact h _ (I.tok _)
 .subst ey;cases(show u=Value.ref b from ry);obtain⟨z,hd,xs,rel,dd⟩:=z7n I.hok e;refine wpAny_notIn_heap (y1Y hu) (z4F I.hok eb) hd dd ?_;have q:=(rel.val k).isSome_eq;rw[y24]at q;rw[<-q,<-l];exact h _ (I.tok _)
def z3A{h':Heap}{t':Nat}{ob:HO}(I:Inv X pins σ H s)(mu:Mut (H a))(hs:Heap.SameBut a s.heap h')(he:∃q,h'.get? a=some q)(new:z1d X.prog X.w (upd H a ob) h' a ob) : Inv X pins σ (upd H a ob) { s with heap:=h',toks:=t' } :=
 I.write (x:=a) (e:=a) mu (.inl rfl) (fun b q hb z=>(hs.2 b hb).trans z) he new
def z9j{P:Program}{w:World}{H':Hp}{h':Heap}{kvs:List (Key × V)}{vs:List (Key × Value)}(z:kvs.length<=sizeLine)(hd:(a==sysModules)=false)(rel:KV kvs vs)(dd:h'.DictOf (z0W P w) a vs) : z1d P w H' h' a (.dK kvs):=⟨z,hd,vs,rel,dd⟩
def zaC{H':Hp}{Q:Unit->Shared->Prop}(hu:A.units+1<cLine)(I:Inv X pins σ H s)(g:zcB H a y v H')(ry:z0U y u)(rv:z0U v r)(h:∀s',Inv X pins σ H' s'->Q () s') : wpAny (model X.prog X.w) A (setItem (.ref a) u r) Q E s:=by
 rcases g with⟨kvs,k,e,ey,l,eH⟩|⟨kvs,k,b,e,ey,eb,l,eH⟩
 .subst ey eH;obtain⟨z,hd,vs,rel,dd⟩:=zdX I.hok e;have hz:vs.length<=sizeLine:=by rw[<-rel.length];exact z
  have hl:(z1X kvs k v).length<=sizeLine:=by have:=z1v kvs k v;lia
  refine wpAny_setItem_pairs (hsz:=hz) (z6b ry) dd fun h' dd' hs=>h _ ?_;have he:∃q,h'.get? a=some q:=let⟨q,_,_,hq,_⟩:=dd';⟨q,hq⟩;exact z3A I (by rw[e];exact y1m) hs he (z9j hl hd (rel.put k rv) dd')
 .subst ey eH;cases(show u=Value.ref b from ry);obtain⟨z,hd,xs,rel,dd⟩:=zeI I.hok e;have hz:xs.length<=sizeLine:=by rw[<-y23 rel];exact z
  have hl:(z1X kvs k v).length<=sizeLine:=by have:=z1v kvs k v;lia
  refine wpAny_setItem_heap (hsz:=hz) (y1Y hu) (z4F I.hok eb) dd fun h' dd' hs=>h _ ?_;obtain⟨q,es,ep,hq,h2,h3,h4,_,h5⟩:=dd';refine z3A I (by rw[e];exact y1m) hs ⟨q,hq⟩ ⟨hl,hd,_,(rel.put k eb rv).keeps fun c ys ec=>?_,q,es,ep,hq,h2,h3,h4,h5⟩;rw[z04 (z4b ec e (fun z=>nomatch z))];exact ec
end
section
variable{X:Cx}{pins:yyP}{σ:St}{H:Hp}{s:Shared}{a:Addr}{kvs:List (Key × V)}{k:Key}{u:Value}{A:Around}{E:yyE}
end
def zfq(i:Expr):Prop:=∀ov iv,subscripted i false ov iv=operate [ov,iv] (getItem ov iv)
def z7h{prog:Program}{w:World}{A:Around}{E:yyE}{s:Shared}{env:Env}{value slice:Expr}{pos:Pos}{T id:String}{Q:yyE}(hl:typeLookup (.type T) "__getitem__"=pure (some (.builtin id)))(hs:zfq slice)(h:wpAny (model prog w) A (eval value env) (fun o s₁=>wpAny (model prog w) A (eval slice env) (fun i s₂=>s₂.TypeIs o T/\wpAny (model prog w) A (getItem o i) Q E s₂) E s₁) E s) : wpAny (model prog w) A (eval (.Subscript value slice pos) env) Q E s:=by
 refine Subscript_ (y0B h (fun o s₁ h₁=>y0B h₁ (fun i s₂ h₂=>?_) fun _ _ x=>x) fun _ _ x=>x);obtain⟨hT,h₂⟩:=h₂;unfold subscriptTail;refine y02 ?_;rw[getitemInPython_of_ne hT.not_modules];refine y02 (y2M hT hl ?_);have fin:wpAny (model prog w) A (subscripted slice false o i) (fun r s₃=>wpAny (model prog w) A (letTemporaryGo value o r>>=fun _=>pure r) Q E s₃) E s₂:=by rw[hs o i];exact wpAny_operating (y0B h₂ (fun r s₃ h₃=>y02 (wpAny_letTemporaryGo (y07 h₃))) fun _ _ x=>x)
 first
  |exact y07 (y02 fin)
  |exact y02 (y07 (y02 fin))
  |exact y02 fin
def z7A{X:Cx}{pins:yyP}{σ:St}{H:Hp}{s:Shared}{a:Addr}{y:V}{o:Option V}(I:Inv X pins σ H s)(g:z5k H a y o):s.TypeIs (.ref a) "dict":=by
 rcases g with⟨kvs,k,e,_,_⟩|⟨kvs,k,b,e,_,_,_⟩
 .obtain⟨_,_,vs,_,dd⟩:=z79 I.hok e;exact dd.typeIs
 .obtain⟨_,_,xs,_,dd⟩:=z7n I.hok e;exact dd.typeIs
def zjd(td ty:TE):TE:=fun σ H Q=>td σ H fun x H1=>ty σ H1 fun y H2=>∃a v,x=.ref a/\z5k H2 a y (some v)/\Q v H2
def zox(ty td:TE):TE:=fun σ H Q=>ty σ H fun y H1=>td σ H1 fun x H2=>∃a o,x=.ref a/\z5k H2 a y o/\Q (.bl o.isSome) H2
def zdF(ty td:TE):TE:=fun σ H Q=>ty σ H fun y H1=>td σ H1 fun x H2=>∃a o,x=.ref a/\z5k H2 a y o/\Q (.bl (!o.isSome)) H2
def zjN(td ty tv:TE):TS:=fun D σ H=>tv σ H fun v H1=>td σ H1 fun x H2=>ty σ H2 fun y H3=>∃a H4,x=.ref a/\zcB H3 a y v H4/\D.nx σ H4
section
variable{X:Cx}{o i e value:Expr}{pos pos' tpos:Pos}{td ty tv:TE}
def z7C(hu:X.A.units+1<cLine)(ho:PE X o td)(hi:PE X i ty)(hs:zfq i):PE X (.Subscript o i pos) (zjd td ty):=by intro pins s σ H Q I h;refine z7h y2a.lookup hs (z1w (ho pins s σ H _ I h) fun u s1 x H1 I1 rx q1=>z1w (hi pins s1 σ H1 _ I1 q1) fun iv s2 y H2 I2 ry hz9=>?_);obtain⟨a,v,ex,g,q2⟩:=hz9;subst ex;obtain rfl:u=Value.ref a:=rx;exact⟨z7A I2 g,z9C hu I2 g ry fun w' s3 I3 rw'=>⟨v,H2,I3,rw',q2⟩⟩
def zf5(hu:X.A.units+1<cLine)(hi:PE X i ty)(ho:PE X o td):PC X .In i o (zox ty td):=by intro pins s σ H Q I h;refine z1w (hi pins s σ H _ I h) fun iv s1 y H1 I1 ry q1=>z1w (ho pins s1 σ H1 _ I1 q1) fun u s2 x H2 I2 rx hz9=>?_;obtain⟨a,ov,ex,g,q2⟩:=hz9;subst ex;obtain rfl:u=Value.ref a:=rx;exact zpe hu I2 g ry fun s3 I3=>⟨.bl ov.isSome,H2,I3,rfl,q2⟩
def z6z(hu:X.A.units+1<cLine)(hi:PE X i ty)(ho:PE X o td):PC X .NotIn i o (zdF ty td):=by intro pins s σ H Q I h;refine z1w (hi pins s σ H _ I h) fun iv s1 y H1 I1 ry q1=>z1w (ho pins s1 σ H1 _ I1 q1) fun u s2 x H2 I2 rx hz9=>?_;obtain⟨a,ov,ex,g,q2⟩:=hz9;subst ex;obtain rfl:u=Value.ref a:=rx;exact zee hu I2 g ry fun s3 I3=>⟨.bl (!ov.isSome),H2,I3,rfl,q2⟩
def z7B(hu:X.A.units+1<cLine)(ho:PE X o td)(hi:PE X i ty)(hv:PE X value tv)(hs:swapsWith value (some (.Subscript o i pos')) pos.line X.env=pure false) : PS X (.Assign [.Subscript o i pos'] value pos) (zjN td ty tv):=by intro pins s σ H D I h;refine wpAny_Assign_Subscript (z1w (hv pins s σ H _ I h) fun r s1 v H1 I1 rv q1=>z1w (ho pins s1 σ H1 _ I1 q1) fun u s2 x H2 I2 rx q2=>z1w (hi pins s2 σ H2 _ I2 q2) fun iv s3 y H3 I3 ry hz9=>?_) hs;obtain⟨a,H4,ex,g,q3⟩:=hz9;subst ex;obtain rfl:u=Value.ref a:=rx;exact zaC hu I3 g ry rv fun s4 I4=>⟨σ,H4,I4,q3⟩
end
def z7D{P:Program}{w:World}{H:Hp}(h:Heap)(hb:sysModules<h.objs.size):z1d P w H (h.push { cls:=.type "dict",data:=.dict #[] }) h.objs.size (.dK []) :=
 ⟨y0t _,y1o.mpr (y1h (y0q hb)),[],.nil,Heap.DictOf.new h⟩
def z7L{P:Program}{w:World}{H:Hp}(h:Heap)(hb:sysModules<h.objs.size):z1d P w H (h.push { cls:=.type "dict",data:=.dict #[] }) h.objs.size (.dT []) :=
 ⟨y0t _,y1o.mpr (y1h (y0q hb)),[],.nil,_,#[],0,y09 _ rfl,⟨rfl,rfl,rfl⟩,rfl,rfl,List.nodup_nil⟩
def zfM:TE:=fun _ H Q=>∀p,H p=none->Q (.ref p) (upd H p (.dT []))
section
variable{X:Cx}{pos:Pos}
def zct:PE X (.Dict [] [] pos) zfM:=fun pins s σ H Q I h =>
 wpAny_Dict_empty ⟨.ref s.heap.objs.size,_,I.laid (a:=s.heap.objs.size) (o:=.dT []) (t':=s.toks) (fun _ _ q=>y03 _ q) (y0a _) (z7L s.heap I.big),rfl,h _ (I.hok.fresh (y0a _))⟩
end
def z9p:List (TE × TE)->St->Hp->(List (V × V)->Hp->Prop)->Prop
 |[],_,H,Q=>Q [] H
 | (tk,tv)::r,σ,H,Q=>tk σ H fun x H1=>tv σ H1 fun y H2=>z9p r σ H2 fun ps H3=>Q ((x,y)::ps) H3
abbrev VV:List (V × V)->List (Value × Value)->Prop:=Paired fun p q=>z0U p.1 q.1/\z0U p.2 q.2
def PPs(X:Cx)(pos:Pos)(keys:List (Option Expr))(values:List Expr)(trs:List (TE × TE)):Prop :=
 ∀(pins:yyP)(s:Shared)(σ:St)(H:Hp)(Q:List (V × V)->Hp->Prop),Inv X pins σ H s->z9p trs σ H Q ->
  wpAny (model X.prog X.w) X.A (evalPairs (pairTrees keys values X.env pos)) (fun vs s'=>∃ps H',Inv X pins σ H' s'/\VV ps vs/\Q ps H') X.xe s
def zaO{X:Cx}{pos:Pos}:PPs X pos [] [] []:=fun pins s σ H Q I h=>pairTrees_nil_walk ⟨[],H,I,.nil,h⟩
def z8e{X:Cx}{pos:Pos}{k v:Expr}{ks:List (Option Expr)}{vs:List Expr}{tk tv:TE}{trs:List (TE × TE)}(hk:PE X k tk)(hv:PE X v tv)(hr:PPs X pos ks vs trs) : PPs X pos (some k::ks) (v::vs) ((tk,tv)::trs):=fun pins s σ H Q I h =>
 pairTrees_cons_walk (thn (hk pins s σ H _ I h) fun u s1 ⟨x,H1,I1,rx,q1⟩=>thn (hv pins s1 σ H1 _ I1 q1) fun w2 s2 ⟨y,H2,I2,ry,q2⟩ =>
  thn (hr pins s2 σ H2 _ I2 q2) fun ws s3 ⟨ps,H3,I3,rel,q3⟩=>⟨(x,y)::ps,H3,I3,.cons ⟨rx,ry⟩ rel,q3⟩)
def z4o(kvs more:List (Key × V)):List (Key × V):=more.foldl (fun acc kv=>z1X acc kv.1 kv.2) kvs
def KV.merge:∀{more:List (Key × V)}{rs:List (Key × Value)}{kvs:List (Key × V)}{vs:List (Key × Value)},KV more rs->KV kvs vs->KV (z4o kvs more) (merged vs rs):=by
 intro more rs kvs vs r;unfold KV at r;induction r generalizing kvs vs with
 |nil=>intro q;exact q
 |@cons p q ps qs h t ih =>
  intro r0;have e:KV (z1X kvs p.1 p.2) (stored vs q.1 q.2):=by have:=r0.put p.1 h.2;rw[<-h.1];exact this
  exact ih e
theorem z39:∀(more kvs:List (Key × V)),(z4o kvs more).length<=kvs.length+more.length
 |[],kvs=>by show kvs.length<=kvs.length+0;lia
 |p::r,kvs=>by have h1:=z39 r (z1X kvs p.1 p.2);have h2:=z1v kvs p.1 p.2;show(z4o (z1X kvs p.1 p.2) r).length<=_;rw[y0m];lia
theorem z4W{P:Program}{w:World}:∀{kvs:List (Key × V)}{ws:List (Value × Value)},VV (kvs.map fun kv=>(kV kv.1,kv.2)) ws->∃rs,Carries (z0W P w) ws rs/\KV kvs rs
 |[],_,r=>by rw[y0Z]at r;cases r;exact⟨[],y1m,.nil⟩
 |p::kvs,_,r=>by
  rw[y0i]at r;cases r with
  |@cons a b as bs h t =>
   obtain⟨rs,c,q⟩:=z4W (P:=P) (w:=w) t;obtain⟨b1,b2⟩:=b;exact⟨(p.1,b2)::rs,⟨z6b h.1,rfl,c⟩,.cons ⟨rfl,h.2⟩ q⟩
def zjm(trs:List (TE × TE)):TE:=fun σ H Q=>∀p,H p=none->z9p trs σ (upd H p (.dK [])) fun ps H2=>H2 p=some (.dK [])/\∃kvs:List (Key × V),ps=kvs.map (fun kv=>(kV kv.1,kv.2))/\kvs.length<=15/\Q (.ref p) (upd H2 p (.dK (z4o [] kvs)))
def ze6{X:Cx}{pos:Pos}{keys:List (Option Expr)}{values:List Expr}{trs:List (TE × TE)}(h:PPs X pos keys values trs)(hall:keys.all (·.isSome)=true)(hl:keys.length=values.length)(h0:keys≠[])(h15:keys.length<=15):PE X (.Dict keys values pos) (zjm trs):=by
 intro pins s σ H Q I q;have hn:=I.hok.fresh (y0a s.heap.objs.size);have I1:=I.laid (a:=s.heap.objs.size) (o:=.dK []) (h':=s.heap.push { cls:=.type "dict",data:=.dict #[] }) (t':=s.toks) (fun _ _ q=>y03 _ q) (y0a _) (z7D s.heap I.big);refine wpAny_Dict_walk (knd:=z0W X.prog X.w) hall hl h0 h15 (thn (h pins _ σ _ _ I1 (q _ hn)) fun ws s2 hz8=>?_);obtain⟨ps,H2,I2,rel,e,kvs,ep,lk,q2⟩:=hz8;subst ep;obtain⟨rs,c,rk⟩:=z4W (P:=X.prog) (w:=X.w) rel;obtain⟨z,hd,vs0,r0,dd⟩:=zdX I2.hok e;cases r0;refine⟨rs,c,dd,fun h' dd' hs=>⟨.ref s.heap.objs.size,_,?_,rfl,q2⟩⟩;have hz:(z4o [] kvs).length<=sizeLine:=by have h1:=z39 kvs [];rw[y2m]at h1;rw[y2d];lia
 have he:∃q,h'.get? s.heap.objs.size=some q:=let⟨q,_,_,hq,_⟩:=dd';⟨q,hq⟩;exact z3A I2 (by rw[e];exact y1m) hs he (z9j hz hd (rk.merge .nil) dd')
structure M1(X:Cx)(o:Expr)(m:Str)(apos:Pos)(e:Expr)(cpos:Pos):Prop where
 base:attributeBase o m X.env (eval o X.env)=eval o X.env
 few:((backTo cpos (starEach [e] X.env)).all (fun x=>!x.1)&&(backToKw cpos (keywordEach [] X.env)).all (fun x=>x.1.isSome)
  && decide (([e]:List Expr).length+([]:List Keyword).length+(if([]:List Keyword).isEmpty then 0 else 1)<30))=true
 line:(apos.endLine==cpos.line)=true
 trees:backTo cpos (starEach [e] X.env)=[(false,eval e X.env)]
def IsD(H:Hp)(a:Addr):Prop:=(∃kvs,Rd H a (.dK kvs))\/∃kvs,Rd H a (.dT kvs)
def zeM{X:Cx}{pins:yyP}{σ:St}{H:Hp}{s:Shared}{a:Addr}(I:Inv X pins σ H s)(d:IsD H a) : s.TypeIs (.ref a) "dict"/\(∀b,Value.ref a=.ref b->∃ob,s.heap.get? b=some ob/\ob.dict=none)/\(a==sysModules)=false:=by
 rcases d with⟨kvs,e⟩|⟨kvs,e⟩
 .obtain⟨_,hd,vs,_,dd⟩:=z79 I.hok e;refine⟨dd.typeIs,fun b q=>?_,hd⟩;cases q;obtain⟨ob,_,_,h1,h2,_⟩:=dd;exact⟨ob,h1,h2.2.1⟩
 .obtain⟨_,hd,xs,_,dd⟩:=z7n I.hok e;refine⟨dd.typeIs,fun b q=>?_,hd⟩;cases q;obtain⟨ob,_,_,h1,h2,_⟩:=dd;exact⟨ob,h1,h2.2.1⟩
section
variable{X:Cx}{pins:yyP}{σ:St}{H:Hp}{s:Shared}{a:Addr}{y d:V}{u r:Value}{o:Option V}{A:Around}{E:yyE}
def zfe{Q:yyE}(hu:A.units+1<cLine)(I:Inv X pins σ H s)(g:z5k H a y o)(ry:z0U y u)(h:∀w' s',Inv X pins σ H s'->z0U (o.getD .non) w'->Q w' s') : wpAny (model X.prog X.w) A (call (.builtin "dict.get") [.ref a,u]) Q E s:=by
 rcases g with⟨kvs,k,e,ey,l⟩|⟨kvs,k,b,e,ey,eb,l⟩
 .subst ey;obtain⟨z,hd,vs,rel,dd⟩:=z79 I.hok e;refine call_meetsIn y2A dd.typeIs PySem.F.entry_dict_get (PySem.F.args_dict_get_2 _ _) (meets_dict_get (z0W X.prog X.w) a (z6b ry) hd) ⟨_,dd.mapOf,h _ _ (I.tok _) ?_⟩;rw[l];exact(rel.val k).getD rfl
 .subst ey;cases(show u=Value.ref b from ry);obtain⟨z,hd,xs,rel,dd⟩:=z7n I.hok e;refine call_meetsIn y2A dd.typeIs PySem.F.entry_dict_get (PySem.F.args_dict_get_2 _ _) (meetsH_dict_get (tupleKind (z0W X.prog X.w)) a b hd) ⟨y1Y hu,k,xs,z4F I.hok eb,dd,h _ _ (I.tok _) ?_⟩;rw[l];exact(rel.val k).getD rfl
end
def zft(td ty:TE):TE:=fun σ H Q=>td σ H fun x H1=>∃a,x=.ref a/\IsD H1 a/\ty σ H1 fun y H2=>∃o,z5k H2 a y o/\Q (o.getD .non) H2
section
variable{X:Cx}{o e f:Expr}{apos cpos:Pos}{td ty tx:TE}
def zc5(hu:X.A.units+1<cLine)(ho:PE X o td)(he:PE X e ty)(m:M1 X o "get" apos e cpos):PE X (.Call (.Attribute o "get" apos) [e] [] cpos) (zft td ty):=by intro pins s σ H Q I h;refine wpAny_Call_method m.base m.few m.line PySem.F.plainAttrs_dict y2A PySem.F.type_dict_get (z1w (ho pins s σ H _ I h) fun u s1 x H1 I1 rx hz9=>?_);obtain⟨a,ex,d,q1⟩:=hz9;subst ex;obtain rfl:u=Value.ref a:=rx;obtain⟨t1,t2,_⟩:=zeM I1 d;refine⟨t1,t2,?_⟩;rw[m.trees];refine y2s rfl (y2J (Calls.spliced_cons (thn (he pins s1 σ H1 _ I1 q1) fun iv s2 ⟨y,H2,I2,ry,ov,g,q2⟩=>Calls.spliced_nil ?_)));exact zfe hu I2 g ry fun w' s3 I3 rw'=>⟨_,H2,I3,rw',q2⟩
end
section
variable{X:Cx}{pins:yyP}{σ:St}{H:Hp}{s:Shared}{a:Addr}{kvs:List (Key × V)}{A:Around}{E:yyE}
end
section
variable{X:Cx}{pins:yyP}{σ:St}{H:Hp}{s:Shared}{a:Addr}{y:V}{u:Value}{A:Around}{E:yyE}
end
end L2
namespace Att
open PySem PySem.W PySem.Calls PyProof.Rows
def z4e{P:Params}{h:Heap}:∀(ns:List Int)(vs:List Value),WellAll P h vs (ns.map WData.int)->IntsAre vs ns:=by
 intro ns;induction ns with
 |nil =>
  intro vs w;rw[y0Z]at w;cases w;exact .nil
 |cons n ns ih =>
  intro vs w;rw[y0i]at w;cases w with
  |cons a b =>
   cases a;exact .cons _ _ (ih _ b)
def zb0{l:OpenLaw}{n:Nat}(hn:l.most=some n){P:Params}{h:Heap}{args:List WData}{vals:List Value}(hpre:l.row.toRowW.claim.pre args=true)(hwl:WellAll P h vals args) : ∃a vs ns,vals=[Value.ref a]/\args=[WData.list (ns.map WData.int)]/\h.get? a=some { cls:=.type "list",data:=.seq vs.toArray }/\IntsAre vs ns/\ns.length<=n:=by
 have hsh:WShape.hasAll [] args [.list .int]=true:=(pre_splitW hpre).1;have hc:l.pre.holds [] { args:=args }=true:=(pre_splitW hpre).2;obtain⟨d,r,rfl,h1,h2⟩:=hasAllW_cons hsh;obtain rfl:=hasAllW_nil h2;obtain⟨xs,rfl,h3⟩:=hasW_list h1;obtain⟨ns,rfl⟩:=items_int h3;have hlen:ns.length<=n:=by
  unfold OpenLaw.pre at hc;have h4:(WTm.not (.lt (.lit (.int (n:Int))) (.len (.arg 0)))).holds [] { args:=[.list (ns.map .int)] }=true:=by have h4:=(holds_andW hc).1;rw[hn]at h4;exact h4
  have h5:=condW_of h4 (w_not (w_lt w_lit (w_len_list (w_arg rfl))));rw[y00]at h5;refine Nat.le_of_not_lt fun q=>?_;have q':(n:Int)<((ns.length:Nat):Int):=by lia
  first
   | (rw[y0U q']at h5;exact absurd h5 (by decide))
   | (simp at h5;lia)
 cases hwl with
 |cons w1 w2 =>
  cases w2;cases w1 with
  |list ho hall=>exact⟨_,_,ns,rfl,rfl,ho,z4e ns _ hall,hlen⟩
def zaH(l:OpenLaw)(args:List WData):l.row.toRowW.claim.post args (.bool true) args=true :=
 postW_of (r:=l.row.toRowW) (X:=(true==true))
  (show WShape.has [] (.bool true) .bool=true by first|rfl|decide|simp[WShape.has,WShape.arms,WShape.armsAll])
  (show(WTm.eq .res (.lit (.bool true))).value [] { args:=args,res:=some (.bool true),after:=args }=some (.bool (true==true))from w_eq_bool (w_res rfl) w_lit) rfl
def attach_call{l:OpenLaw}{n:Nat}{q:Program}{loose:List Str}{XP:(yyS)->Heap->Prop}{YP:World->Heap->Prop}{d:DefRec}(hn:l.most=some n)(hdf:d.params.defaults=[])(call:∀(w:World) (s₀ s₁:Shared) (mg mb:yyS) (fa:Addr) (o:Obj) (pm cd doc:Value) (a:Addr) (vs:List Value) (ns:List Int), Ground q loose [] XP w s₀ mg mb s₁.heap->YP w s₁.heap -> s₁.heap.get? fa=some o->o.data=.func (docDef d.name d.params d.body d.scope pm cd doc)->s₁.heap.CodeRec cd d.name->mg d.name=some (.ref fa) -> s₁.heap.get? a=some { cls:=.type "list",data:=.seq vs.toArray }->IntsAre vs ns->ns.length<=n->s₁.gens=#[] -> codeAny (model l.prog w) callerA (.call (.ref fa) ⟨[.ref a],[]⟩) (fun r s'=>r=.ok (.ret (.bool true))/\OldK s₁.heap s'.heap/\s'.os=s₁.os/\AllBare s'.gens) s₁) : WalkO q loose XP YP l.row.toRowW d [] (fun f vs=>PySem.call f vs):=by intro w s₀ s₁ mg mb G Y fa o pm cd doc dV kV ho hd hcd hD hmg hg args vals as hpre hlay hrd hwl hlo;obtain rfl:dV=.none:=Dflts.none hD hdf;obtain rfl:kV=.none:=Dflts.noKw hD;obtain⟨a,vs,ns,rfl,rfl,hobj,hints,hlen⟩:=zb0 hn hpre hwl;refine enter_call (y2f (call w s₀ s₁ mg mb fa o pm cd doc a vs ns G Y ho (fd_plain hd) hcd hmg hobj hints hlen hg) fun r s' hq=>?_);obtain⟨rfl,h2,h3,h4⟩:=hq;exact⟨.inl ⟨.bool true,.bool true,[],rfl,fun _=>rfl,.bool true,zaH l _,fun _=>⟨List.Pairwise.nil,fun _ hm=>(nomatch hm)⟩⟩,h2,h3,h4⟩
section
variable{prog:Program}{w:World}{A:Around}{E:yyE}{s:Shared}{K:Frag}
def zm2(h:Heap)(L d:Addr):yyP:=(List.range h.objs.size).filterMap fun a=>if a=L\/a=d then none else(h.get? a).map fun o=>(a,o)
end
end Att
namespace L2
open PySem PySem.Spec PyProof.Rows
theorem z6R:∀{vs:List Value}{ns:List Int},IntsAre vs ns->z0J (ns.map V.int) vs
 |_,_,.nil=>.nil
 |_,_,.cons n t h=>.cons ⟨t,rfl⟩ (z6R h)
def z0r(s:Stmt)(j:Nat):Stmt:=match s with
 |.ClassDef _ _ _ body _ _ _ _ _ _ _=>body.getD j (.Pass ⟨0,0,0,0⟩)
 |_=>.Pass ⟨0,0,0,0⟩
def z1k(s:Stmt):Arguments:=match s with
 |.FunctionDef _ a _ _ _ _ _ _ _ _=>a
 |_=>{ posonlyargs:=[],args:=[],vararg:=none,kwonlyargs:=[],kw_defaults:=[],kwarg:=none,defaults:=[] }
def z0E(s:Stmt):List Stmt:=match s with
 |.FunctionDef _ _ b _ _ _ _ _ _ _=>b
 |_=>[]
def z05(s:Stmt):Scope:=match s with
 |.FunctionDef _ _ _ _ _ _ sc _ _ _=>sc
 |_=>{ kind:=.function,names:=[],isGenerator:=false,isCoroutine:=false }
abbrev E0:XK:=fun _ _ _=>False
structure Fun(K:yyF)(x qual:Str)(st:Stmt)(f:Addr)(fd:FuncData):Prop where
 ex:∃(oc:Value)(od:Option Addr)(kV doc pm:Value)(an:Option Addr)(cdv ct:Value)(osl:Array (Option Value)),
  fd=PySem.W.fnOf x qual (z1k st) (z0E st) (z05 st) .none kV doc pm an cdv ct/\K.lookup f=some ⟨oc,od,.func fd,osl⟩/\PySem.W.codeIn K cdv qual=true
 kp:PySem.W.keepIn K (.ref f)=true
section
variable{P:Program}{w:World}{K:yyF}{mg:yyS}{base:Heap}
def Fun.binds{x qual:Str}{st:Stmt}{f:Addr}{fd:FuncData}{ps:List Str}(F:Fun K x qual st f fd)(h:∀(kV doc pm:Value)(an:Option Addr)(cdv ct:Value)(us:List Value),us.length=ps.length->bindArgs (PySem.W.fnOf x qual (z1k st) (z0E st) (z05 st) .none kV doc pm an cdv ct) ⟨us,[]⟩=pure (ps.zip us)):z0i K fd ps []:=by obtain⟨oc,od,kV,doc,pm,an,cdv,ct,osl,rfl,lk,hcd⟩:=F.ex;exact .all (h kV doc pm an cdv ct)
def z6B{x qual:Str}{st:Stmt}{f:Addr}{oc:Value}{od an:Option Addr}{osl:Array (Option Value)}{kV doc pm cdv ct:Value}(l:K.lookup f=some ⟨oc,od,.func (PySem.W.fnOf x qual (z1k st) (z0E st) (z05 st) .none kV doc pm an cdv ct),osl⟩)(c:PySem.W.codeIn K cdv qual=true)(k:PySem.W.keepIn K (.ref f)=true):Fun K x qual st f (PySem.W.fnOf x qual (z1k st) (z0E st) (z05 st) .none kV doc pm an cdv ct):=⟨⟨oc,od,kV,doc,pm,an,cdv,ct,osl,rfl,l,c⟩,k⟩
end
def z71{A:Around}{k:Nat}(hr:z2F k A):A.units+1<cLine:=y1k (Nat.add_le_add_left (by decide:1<=64) _) hr.units
def z2o{n:Nat}(h:n<=1000):n<sizeLine:=y1k h (by decide)
section
variable{X:Cx}
def pv(i:Nat){x:Str}{pos:Pos}(hN:X.N[i]?=some x:=by rfl)(hv:Vis X.env.scope x:=by first|exact Or.inl rfl|exact Or.inr (Or.inl rfl)|exact Or.inr (Or.inr rfl))(hd:(x==("__debug__":Str))=false:=by decide)(hcd:(x==("__classdict__":Str))=false:=by decide):PE X (.Name x pos) (zks i):=z9t hN hv hd hcd
end
def z5n{A B:Prop}(h:B):if false=true then A else B:=by rw[if_neg y0u];exact h
def z8x{A B:Prop}(h:A):if true=true then A else B:=by rw[if_pos rfl];exact h
def z1q{c A B:Prop}[Decidable c](h1:c->A)(h2:¬c->B):if c then A else B:=by
 by_cases h:c
 .rw[if_pos h];exact h1 h
 .rw[if_neg h];exact h2 h
def z08(H H':Hp):Prop:=∀b o,H b=some o->H' b=some o
def z08.refl(H:Hp):z08 H H:=fun _ _ h=>h
def z08.trans{H H1 H2:Hp}(a:z08 H H1)(b:z08 H1 H2):z08 H H2:=fun c o h=>b c o (a c o h)
def z08.free{H H':Hp}(e:z08 H H'){l:Addr}(h:H' l=Option.none):H l=Option.none:=by
 cases q:H l with
 |none=>rfl
 |some o =>
  rw[e l o q]at h;cases h
def z08.seq{K:yyF}{H H':Hp}{a:Addr}{xs:List V}(e:z08 H H')(h:SqL K H a xs):SqL K H' a xs:=by
 rcases h with(h|⟨o,h⟩)|h
 .exact .inl (.inl (e _ _ h))
 .exact .inl (.inr ⟨o,e _ _ h⟩)
 .exact .inr h
section
variable{κ:Type}[DecidableEq κ]
theorem zam:∀{l:List κ}{k:κ},l.Nodup->¬k∈l->(l++[k]).Nodup
 |[],k,_,_=>by simp
 |a::r,k,h,hk=>by
  obtain⟨h1,h2⟩:=y1N.mp h;show(a::(r++[k])).Nodup;refine y1N.mpr ⟨fun m=>?_,zam h2 fun m=>hk (y0o.mpr (Or.inr m))⟩;rcases y0G.mp m with q|q
  .exact h1 q
  .exact hk (y0o.mpr (Or.inl (y0r.mp q).symm))
end
end L2
namespace Gu
open PySem L2
def top(i:Nat):Stmt:=PySem.Challenge.pw_guisery_k04_machines_refused.main.body.getD i (.Pass ⟨0,0,0,0⟩)
abbrev zfc:Stmt:=top 0
abbrev zfK:Stmt:=top 15
abbrev zac:Stmt:=top 16
abbrev z9v:Stmt:=top 17
abbrev z68:Stmt:=top 18
abbrev z4A:Stmt:=top 22
abbrev zcP:Stmt:=top 23
abbrev z85:Stmt:=top 24
abbrev zf9:Stmt:=top 25
abbrev zd5:Stmt:=top 26
abbrev z58:Stmt:=top 27
abbrev z62:Stmt:=top 28
abbrev z4K:Stmt:=top 29
abbrev z4d:Stmt:=top 30
abbrev z8E:Stmt:=top 31
abbrev z1O:Stmt:=top 32
abbrev zaG:Stmt:=top 34
abbrev z8o:Stmt:=top 35
abbrev zge:Stmt:=top 36
abbrev za0:Stmt:=top 37
abbrev z9D:Stmt:=top 38
abbrev z9W:Stmt:=top 39
abbrev z6M:Stmt:=top 40
abbrev z6y:Stmt:=top 41
abbrev zbe:Stmt:=top 44
abbrev z5e:Stmt:=top 45
abbrev zg2:Stmt:=top 46
abbrev z7U:Stmt:=top 47
abbrev z9J:Stmt:=top 48
abbrev zda:Stmt:=top 49
abbrev zcZ:Stmt:=top 51
abbrev zga:Stmt:=top 54
abbrev zdm:Stmt:=top 55
abbrev z9l:Stmt:=top 56
abbrev z6U:Stmt:=top 60
abbrev zaJ:Stmt:=top 61
abbrev z8f:Stmt:=top 62
abbrev zcV:Stmt:=top 63
abbrev z3F:Stmt:=top 70
abbrev z38:Stmt:=top 71
abbrev z3G:Stmt:=top 72
abbrev z5d:Stmt:=top 73
abbrev z3D:Stmt:=top 74
abbrev z1y:Stmt:=top 76
abbrev z1l:Stmt:=top 79
abbrev z1n:Stmt:=top 80
abbrev z46:Stmt:=top 81
abbrev z4S:Stmt:=top 82
abbrev z1z:Stmt:=top 83
abbrev zal:Stmt:=z0r (top 90) 0
abbrev zeC:Stmt:=z0r (top 90) 1
abbrev zeJ:Stmt:=z0r (top 90) 2
abbrev zeV:Stmt:=z0r (top 90) 3
abbrev zfo:Stmt:=z0r (top 90) 4
abbrev zd4:Stmt:=z0r (top 90) 5
abbrev zfA:Stmt:=z0r (top 90) 6
abbrev zfj:Stmt:=z0r (top 90) 7
abbrev zg9:Stmt:=z0r (top 90) 8
abbrev zfV:Stmt:=z0r (top 90) 9
abbrev zas:Stmt:=z0r (top 90) 10
abbrev zfs:Stmt:=z0r (top 90) 11
abbrev zeW:Stmt:=z0r (top 90) 12
abbrev zeH:Stmt:=z0r (top 90) 13
abbrev z83:Stmt:=z0r (top 90) 14
abbrev zcW:Stmt:=z0r (top 90) 15
abbrev zeX:Stmt:=z0r (top 90) 16
abbrev zd2:Stmt:=z0r (top 90) 17
abbrev zfm:Stmt:=z0r (top 90) 18
abbrev z51:Stmt:=z0r (top 90) 19
abbrev z9V:Stmt:=z0r (top 90) 20
abbrev z9P:Stmt:=z0r (top 90) 21
abbrev zd3:Stmt:=z0r (top 90) 22
abbrev zd0:Stmt:=z0r (top 90) 23
abbrev zaj:Stmt:=z0r (top 90) 24
abbrev zcX:Stmt:=z0r (top 90) 25
abbrev zd6:Stmt:=z0r (top 90) 26
abbrev z2C:Stmt:=z0r (top 90) 27
abbrev zb8:Stmt:=z0r (top 90) 28
abbrev zax:Stmt:=z0r (top 90) 29
abbrev zbq:Stmt:=z0r (top 90) 30
abbrev zeG:Stmt:=z0r (top 90) 31
abbrev z9X:Stmt:=top 92
abbrev z3q:Stmt:=top 93
abbrev z3n:Stmt:=top 94
abbrev zbf:Stmt:=top 95
abbrev z6s:Stmt:=top 96
abbrev z3v:Stmt:=top 97
abbrev zaK:Stmt:=top 98
abbrev zaz:Stmt:=top 99
abbrev za6:Stmt:=top 100
open PySem.W PyProof.Rows
section
variable(tb:String->Option Builtin)(p:Program)(w:World)(m:Nat)(an:Option Value)
def zfh:Nat->SharedT->Thread->Option SharedT
 |0,_,_=>none
 |n+1,x,y=>match through y,stepOk m an y with
  |true,_=>some x
  |false,false=>none
  |false,true=>match stepT (denote tb) p w x y with
   |some z=>zfh n z.1 z.2
   |none=>none
end
section
variable{tb:String->Option Builtin}{p:Program}{w:World}{m:Nat}{an:Option Value}
theorem zag:∀(n:Nat)(x r:SharedT)(y:Thread),zfh tb p w m an n x y=some r->topRun tb p w m an n x.abs y=some r.abs
 |0,_,_,_,h=>by cases h
 |n+1,x,r,y,h=>by
  unfold zfh at h;unfold topRun;cases ht:through y<;>cases hk:stepOk m an y<;>rw[ht,hk]at h<;>dsimp only at h⊢
  .cases h
  .cases hs:stepT (denote tb) p w x y with
   |none=>rw[hs]at h;cases h
   |some z =>
    rw[hs]at h;rw[stepT_spec (s':=z.1) (t':=z.2) hs];exact zag n _ _ _ h
  .cases h;rfl
  .cases h;rfl
end
noncomputable def zcu(P:Params):BT:=(.node (boot_o_0 P) (.node (boot_o_1 P) (.node (boot_o_3 P) (.node (boot_o_7 P) .nil .nil) .nil) (.node (boot_o_5 P) (.node (boot_o_9 P) .nil .nil) .nil)) (.node (boot_o_2 P) (.node (boot_o_4 P) (.node (boot_o_8 P) .nil .nil) .nil) (.node (boot_o_6 P) (.node (boot_o_10 P) .nil .nil) .nil)))
noncomputable def zcw(w:World)(os:OsState):SharedT:=⟨zcu w.params,11,(boot_heap w.params).life,Array.mk [],boot_drawn,boot_toks,os⟩
def zcb(P:Params):absHeap (zcu P) 11 (boot_heap P).life=boot_heap P:=by kernel_rfl
section
variable(tb:String->Option Builtin)(p:Program)(w:World)(m:Nat)(an:Option Value)
def z8A:Nat->SharedT->Thread->Option (SharedT × Thread)
 |0,x,y=>some (x,y)
 |n+1,x,y=>match through y,stepOk m an y with
  |true,_=>none
  |false,false=>none
  |false,true=>match stepT (denote tb) p w x y with
   |some z=>z8A n z.1 z.2
   |none=>none
end
section
variable{tb:String->Option Builtin}{p:Program}{w:World}{m:Nat}{an:Option Value}
theorem z7I:∀(n:Nat)(x x':SharedT)(y y':Thread),z8A tb p w m an n x y=some (x',y')->topGo tb p w m an n x.abs y=some (x'.abs,y')
 |0,_,_,_,_,h=>by cases h;rfl
 |n+1,x,x',y,y',h=>by
  unfold z8A at h;unfold topGo;cases ht:through y<;>cases hk:stepOk m an y<;>rw[ht,hk]at h<;>dsimp only at h⊢
  .cases h
  .cases hs:stepT (denote tb) p w x y with
   |none=>rw[hs]at h;cases h
   |some z =>
    rw[hs]at h;rw[stepT_spec (s':=z.1) (t':=z.2) hs];exact z7I n _ _ _ _ h
  .cases h
  .cases h
end
abbrev St0:=World->OsState->SharedT
def zc3(T:BT)(l:List (Nat × Obj)):BT:=l.foldl (fun t x=>t.ins x.1 x.2) T
noncomputable def z1K(T:Params->BT)(n k:Nat):St0:=fun w os=>⟨T w.params,n,(boot_heap w.params).life,Array.mk [],boot_drawn,k,os⟩
def z8W(p:Program)(c:Value)(fr:Addr):Env:={ scope:=p.main.scope,locals:=mainNs,globals:=mainNs,cells:=[],code:=c,frame:=some fr }
def cdP(p:Program)(c:Value)(fr:Addr):Code:=.body (behindTheImports p) (z8W p c fr)
def zeB(p:Program)(a n:Nat):List Stmt:=((behindTheImports p).drop a).take n
def zP:Pos:=⟨0,0,0,0⟩
def z0R(tb:String->Option Builtin)(p:Program)(c:Value)(fr:Addr)(a n k:Nat)(S S':St0)(q q':Pos):Prop :=
 ∀w os,segRunT tb p w 11 (some (.ref 6)) 1 k (S w os) (piecesOf (zeB p a n) (z8W p c fr) (cdP p c fr) q [topFrame zP])=some (.next,S' w os,cdP p c fr,q')
def zfB{tb:String->Option Builtin}{p:Program}{c:Value}{fr:Addr}{a n k:Nat}{S S':St0}{q q':Pos}(hf:∀(w:World) os,segRunT tb p (w.withFollow "special-get-raises" false) 11 (some (.ref 6)) 1 k (S (w.withFollow "special-get-raises" false) os) (piecesOf (zeB p a n) (z8W p c fr) (cdP p c fr) q [topFrame zP])=some (.next,S' (w.withFollow "special-get-raises" false) os,cdP p c fr,q'))(ht:∀(w:World) os,segRunT tb p (w.withFollow "special-get-raises" true) 11 (some (.ref 6)) 1 k (S (w.withFollow "special-get-raises" true) os) (piecesOf (zeB p a n) (z8W p c fr) (cdP p c fr) q [topFrame zP])=some (.next,S' (w.withFollow "special-get-raises" true) os,cdP p c fr,q')):z0R tb p c fr a n k S S' q q' :=
 fun w os=>byRow2 "special-get-raises" (P:=fun w=>∀os,segRunT tb p w 11 (some (.ref 6)) 1 k (S w os) (piecesOf (zeB p a n) (z8W p c fr) (cdP p c fr) q [topFrame zP])=some (.next,S' w os,cdP p c fr,q')) hf ht w os
def z0R.app{tb:String->Option Builtin}{p:Program}{c:Value}{fr:Addr}{a n k N:Nat}{S S':St0}{q q':Pos}{w:World}{os:OsState}{r:Shared}(h:z0R tb p c fr a n k S S' q q')(z:topRun tb p w 11 (some (.ref 6)) N (S' w os).abs (restOf ((behindTheImports p).drop (a+n)) (z8W p c fr) (cdP p c fr) q' [topFrame zP])=some r) : topRun tb p w 11 (some (.ref 6)) (k+N) (S w os).abs (restOf ((behindTheImports p).drop a) (z8W p c fr) (cdP p c fr) q [topFrame zP])=some r:=by
 have e:(behindTheImports p).drop a=zeB p a n++(behindTheImports p).drop (a+n):=by unfold zeB;rw[<-List.drop_drop,y2B]
 rw[e];exact piece_app (segRun_of (h w os)) z
def z7v{p q:Program}{loose:List Str}{Xt:Shared->Bool}{α:Type}{Yf:Shared->α}{Ya:World->α}{N M k0:Nat}{c:Value}{fr:Addr}{q0:Pos}{Sa Sf:St0}{Tf:Params->BT}{nf kf:Nat}(eo:opening p=plainProg p.main.scope.names)(hN:Nat.ble 600 N=true)(f:∀s,fenceModules? p s=some s)(hSf:Sf=z1K Tf nf kf){Hf:Params->Heap}(hH:∀P,absHeap (Tf P) nf (boot_heap P).life=Hf P)(pre:∀w os,z8A treeTable p w 11 (some (.ref 6)) k0 (zcw w os) (topStub p)=some (Sa w os,⟨denote treeTable (cdP p c fr),cdP p c fr,q0,[topFrame zP]⟩))(blk:∀w os,segRunT treeTable p w 11 (some (.ref 6)) 1 1 (Sa w os) (blockOf (behindTheImports p) (z8W p c fr) (cdP p c fr) q0 [topFrame zP])=some (.next,Sa w os,cdP p c fr,q0))(run:∀w os,topRun treeTable p w 11 (some (.ref 6)) M (Sa w os).abs (restOf ((behindTheImports p).drop 0) (z8W p c fr) (cdP p c fr) q0 [topFrame zP])=some (Sf w os).abs)(le:Nat.ble (k0+(1+M)) N=true)(looks:∀w os,((staticsOk (importedModules p.main.body) (boot_heap w.params) (Hf w.params)&&namesBound p (Hf w.params)&&gensDone ⟨Hf w.params,Array.mk [],boot_drawn,kf,os⟩&&laidKept (boot_heap w.params) (Hf w.params)),openSeen q loose (importedModules p.main.body) Xt true ⟨Hf w.params,Array.mk [],boot_drawn,kf,os⟩,Yf ⟨Hf w.params,Array.mk [],boot_drawn,kf,os⟩)=(true,openGood q loose,Ya w)):LeftO p q loose Xt Yf Ya N:=by
 subst hSf;refine LeftO.of_pieces (H₀:=boot_heap) (H₁:=Hf) (gs₀:=Array.mk []) (gs₁:=Array.mk []) (d₀:=boot_drawn) (d₁:=boot_drawn) (k₀:=boot_toks) (k₁:=kf) (m₀:=11) (ann:=some (.ref 6)) (M:=k0+(1+M)) (boot_open eo hN f) (fun w=>by kernel_rfl) (fun w os=>?_) le (fun w=>funext fun os=>looks w os);have z0:(⟨boot_heap w.params,Array.mk [],boot_drawn,boot_toks,os⟩:Shared)=(zcw w os).abs:=by show _=(⟨absHeap (zcu w.params) 11 (boot_heap w.params).life,_,_,_,_⟩:Shared);rw[zcb];rfl
 rw[z0];have z1:(⟨Hf w.params,Array.mk [],boot_drawn,kf,os⟩:Shared)=(z1K Tf nf kf w os).abs:=by show _=(⟨absHeap (Tf w.params) nf (boot_heap w.params).life,_,_,_,_⟩:Shared);rw[hH];rfl
 rw[z1];exact go_top (z7I _ _ _ _ _ (pre w os)) (piece_block (segRun_of (blk w os)) (run w os))
def yE(P:Params)(x:Str)(t:Tok)(v:Value):DictEntry:={ hash:=PyData.keyHash P x,key:=Value.str x t,val:=v }
def yR(P:Params)(x:Str)(t:Tok)(a:Addr):DictEntry:=yE P x t (.ref a)
def yN(P:Params)(x:Str)(t:Tok):DictEntry:=yE P x t .none
def yDi(l:Array DictEntry)(n:Nat):Obj:={ cls:=.type "dict",data:=.dict l n }
def yF(s:Stmt)(x y:Str)(kV dc pm:Value)(an:Option Addr)(cd ct:Value):Obj:=⟨.type "function",none,.func (PySem.W.fnOf x y (z1k s) (z0E s) (z05 s) .none kV dc pm an cd ct),#[]⟩
def yM(s:Stmt)(x y m:Str)(t:Tok)(c:Addr):Obj:=yF s x y .none .none (.str m t) none (.ref c) .none
def yP(s:Stmt)(x y:Str):Obj:=⟨.none,none,.func { PySem.W.fnOf x y (z1k s) (z0E s) (z05 s) .none .none .none .none none .none .none with globals:=0 },#[]⟩
def yC(vs:Array Value):Obj:={ cls:=.type "code",data:=.fields vs }
def yT(vs:Array Value):Obj:={ cls:=.type "tuple",data:=.seq vs }
def yQ(vs:Array Value):Obj:={ cls:=.none,data:=.fields vs }
def yB(t:String)(vs:Array Value):Obj:={ cls:=.type t,data:=.fields vs }
def yG(a b:Addr)(x:Str)(t:Tok):Obj:={ cls:=.type "frame",slots:=#[some (.ref a),some (.ref 3),some (.ref b),none,some (.str x t),none,some (.ref 0)] }
def yK(n q:Str)(a:Tok)(l r f:Int)(A:Addr)(t:Bool)(B:Addr)(v w x y:Value)(k:Int)(d:Tok):Obj:=yC #[.str n a,.str q (a+1),.str "/claim/cut.py" (a+2),.int l 0,.int r 0,.int 0 0,.int 0 0,.int f 0,.ref A,.bool t,.int 181 0,.ref B,v,w,x,y,.int k 0,.int l 0,.str "/claim/cut.py" d]
def yL(n q:Str)(a:Tok)(l r:Int)(A B w x y:Addr)(k:Nat):Obj:=yK n q a l r 3 A true B .none (.ref w) (.ref x) (.ref y) k (k+1)
def yX(n:Str)(b m s a:Addr)(t u:Tok):Obj:={ cls:=.type "type",data:=Data.cls { name:=n,bases:=[.ref b],mro:=[.ref m,.ref b,.type "ValueError",.type "Exception",.type "BaseException",.type "object"],ns:=s,qualname:=n },slots:=#[some (.ref a),none,some (.str n t),some (.str n u),some (.builtin "ValueError.__new__"),some (.bool true)] }
def eT:Obj:=yT #[]
def eQ:Obj:=yQ #[]
variable(P:Params)
def o13:=yK "<module>" "<module>" 182 1 0 0 11 false 12 .none .none .none .none 185 186
def o14:=yG 13 3 "__main__" 164
noncomputable def T1:BT:=zc3 (zcu P) [(11,eT),(12,eQ),(13,o13),(14,o14)]
def o17:=yT #[.str "k" 190]
def o19:=yP zfc "_wall" "_wall"
def o20:=yL "_wall" "_wall" 187 1 1 15 16 17 18 19 191
def o21:=yM zfc "_wall" "_wall" "__main__" 164 20
def o22:=yT #[.type "ValueError"]
def o23:=yB "builtin_function_or_method" #[.builtin "type.__prepare__",.type "type"]
def o24:=yDi (#[yE P "__module__" 203 (.str "guisery.errors" 194),yE P "__qualname__" 205 (.str "GuiseError" 204),yE P "__firstlineno__" 207 (.int 5 206),yR P "__static_attributes__" 208 29]) 4
def o27:=yK "GuiseError" "GuiseError" 198 5 0 0 25 false 26 .none .none .none .none 201 202
def o28:=yG 27 24 "guisery.errors" 194
def o30:=yDi (#[yE P "__module__" 203 (.str "guisery.errors" 194),yE P "__firstlineno__" 207 (.int 5 206),yR P "__static_attributes__" 208 29,yR P "__weakref__" 210 32,yN P "__doc__" 211]) 3
def o32:=yB "getset_descriptor" #[.str "__weakref__" 209,.ref 31,.builtin "ExceptionGroup.__weakref__",.none]
def o33:=yB "super" #[.ref 31,.ref 31,.ref 31]
def o34:=yB "builtin_function_or_method" #[.builtin "object.__init_subclass__",.ref 31]
def o35:=yT #[.ref 31]
def o36:=yB "builtin_function_or_method" #[.builtin "type.__prepare__",.type "type"]
def o37:=yDi (#[yE P "__module__" 221 (.str "guisery.errors" 194),yE P "__qualname__" 223 (.str "BadBreadth" 222),yE P "__firstlineno__" 225 (.int 7 224),yR P "__static_attributes__" 226 42]) 4
def o40:=yK "BadBreadth" "BadBreadth" 216 7 0 0 38 false 39 .none .none .none .none 219 220
def o41:=yG 40 37 "guisery.errors" 194
def o43:=yDi (#[yE P "__module__" 221 (.str "guisery.errors" 194),yE P "__firstlineno__" 225 (.int 7 224),yR P "__static_attributes__" 226 42,yN P "__doc__" 227]) 2
def o44:=yX "BadBreadth" 31 44 43 35 214 222
def o45:=yB "super" #[.ref 44,.ref 44,.ref 44]
def o46:=yB "builtin_function_or_method" #[.builtin "object.__init_subclass__",.ref 44]
def o47:=yT #[.ref 31]
def o48:=yB "builtin_function_or_method" #[.builtin "type.__prepare__",.type "type"]
def o49:=yDi (#[yE P "__module__" 237 (.str "guisery.errors" 194),yE P "__qualname__" 239 (.str "BadMachine" 238),yE P "__firstlineno__" 241 (.int 9 240),yR P "__static_attributes__" 242 54]) 4
def o52:=yK "BadMachine" "BadMachine" 232 9 0 0 50 false 51 .none .none .none .none 235 236
def o53:=yG 52 49 "guisery.errors" 194
def o55:=yDi (#[yE P "__module__" 237 (.str "guisery.errors" 194),yE P "__firstlineno__" 241 (.int 9 240),yR P "__static_attributes__" 242 54,yN P "__doc__" 243]) 2
def o56:=yX "BadMachine" 31 56 55 47 230 238
def o57:=yB "super" #[.ref 56,.ref 56,.ref 56]
def o58:=yB "builtin_function_or_method" #[.builtin "object.__init_subclass__",.ref 56]
def o59:=yT #[.ref 31]
def o60:=yB "builtin_function_or_method" #[.builtin "type.__prepare__",.type "type"]
def o61:=yDi (#[yE P "__module__" 253 (.str "guisery.errors" 194),yE P "__qualname__" 255 (.str "BadWord" 254),yE P "__firstlineno__" 257 (.int 11 256),yR P "__static_attributes__" 258 66]) 4
def o64:=yK "BadWord" "BadWord" 248 11 0 0 62 false 63 .none .none .none .none 251 252
def o65:=yG 64 61 "guisery.errors" 194
def o67:=yDi (#[yE P "__module__" 253 (.str "guisery.errors" 194),yE P "__firstlineno__" 257 (.int 11 256),yR P "__static_attributes__" 258 66,yN P "__doc__" 259]) 2
def o68:=yX "BadWord" 31 68 67 59 246 254
def o69:=yB "super" #[.ref 68,.ref 68,.ref 68]
def o70:=yB "builtin_function_or_method" #[.builtin "object.__init_subclass__",.ref 68]
noncomputable def T2:BT:=zc3 (T1 P) [(3,yDi (#[yE P "__name__" 165 (.str "guisery.errors" 194),yN P "__doc__" 166,yN P "__package__" 167,yE P "__loader__" 168 (.builtin "__main__.__loader__#opaque"),yN P "__spec__" 169,yR P "__annotations__" 170 6,yR P "__builtins__" 171 4,yE P "__file__" 173 (.str "/claim/cut.py" 172),yN P "__cached__" 174,yR P "_wall" 193 21,yR P "GuiseError" 213 31,yR P "BadBreadth" 229 44,yR P "BadMachine" 245 56,yR P "BadWord" 261 68]) 14),(12,yQ #[.int 1 0,.int 0 0,.ref 20,.int 5 0,.int 0 0,.ref 27,.int 7 0,.int 0 0,.ref 40,.int 9 0,.int 0 0,.ref 52,.int 11 0,.int 0 0,.ref 64]),(15,eT),(16,eQ),(17,o17),(18,eT),(19,o19),(20,o20),(21,o21),(22,o22),(23,o23),(24,o24 P),(25,eT),(26,eQ),(27,o27),(28,o28),(29,eT),(30,o30 P),(31,{ cls:=.type "type",data:=Data.cls { name:="GuiseError",bases:=[.type "ValueError"],mro:=[.ref 31,.type "ValueError",.type "Exception",.type "BaseException",.type "object"],ns:=30,qualname:="GuiseError",subclasses:=[.ref 44,.ref 56,.ref 68] },slots:=#[some (.ref 22),none,some (.str "GuiseError" 196),some (.str "GuiseError" 204),some (.builtin "ValueError.__new__"),some (.bool true)] }),(32,o32),(33,o33),(34,o34),(35,o35),(36,o36),(37,o37 P),(38,eT),(39,eQ),(40,o40),(41,o41),(42,eT),(43,o43 P),(44,o44),(45,o45),(46,o46),(47,o47),(48,o48),(49,o49 P),(50,eT),(51,eQ),(52,o52),(53,o53),(54,eT),(55,o55 P),(56,o56),(57,o57),(58,o58),(59,o59),(60,o60),(61,o61 P),(62,eT),(63,eQ),(64,o64),(65,o65),(66,eT),(67,o67 P),(68,o68),(69,o69),(70,o70)]
def o71:=yT #[.ref 31]
def o72:=yB "builtin_function_or_method" #[.builtin "type.__prepare__",.type "type"]
def o73:=yDi (#[yE P "__module__" 269 (.str "guisery.errors" 194),yE P "__qualname__" 271 (.str "BadCount" 270),yE P "__firstlineno__" 273 (.int 13 272),yR P "__static_attributes__" 274 78]) 4
def o76:=yK "BadCount" "BadCount" 264 13 0 0 74 false 75 .none .none .none .none 267 268
def o77:=yG 76 73 "guisery.errors" 194
def o79:=yDi (#[yE P "__module__" 269 (.str "guisery.errors" 194),yE P "__firstlineno__" 273 (.int 13 272),yR P "__static_attributes__" 274 78,yN P "__doc__" 275]) 2
def o80:=yX "BadCount" 31 80 79 71 262 270
def o81:=yB "super" #[.ref 80,.ref 80,.ref 80]
def o82:=yB "builtin_function_or_method" #[.builtin "object.__init_subclass__",.ref 80]
def o83:=yT #[.ref 31]
def o84:=yB "builtin_function_or_method" #[.builtin "type.__prepare__",.type "type"]
def o85:=yDi (#[yE P "__module__" 285 (.str "guisery.errors" 194),yE P "__qualname__" 287 (.str "BadName" 286),yE P "__firstlineno__" 289 (.int 15 288),yR P "__static_attributes__" 290 90]) 4
def o88:=yK "BadName" "BadName" 280 15 0 0 86 false 87 .none .none .none .none 283 284
def o89:=yG 88 85 "guisery.errors" 194
def o91:=yDi (#[yE P "__module__" 285 (.str "guisery.errors" 194),yE P "__firstlineno__" 289 (.int 15 288),yR P "__static_attributes__" 290 90,yN P "__doc__" 291]) 2
def o92:=yX "BadName" 31 92 91 83 278 286
def o93:=yB "super" #[.ref 92,.ref 92,.ref 92]
def o94:=yB "builtin_function_or_method" #[.builtin "object.__init_subclass__",.ref 92]
def o95:=yT #[.ref 31]
def o96:=yB "builtin_function_or_method" #[.builtin "type.__prepare__",.type "type"]
def o97:=yDi (#[yE P "__module__" 301 (.str "guisery.errors" 194),yE P "__qualname__" 303 (.str "Taken" 302),yE P "__firstlineno__" 305 (.int 17 304),yR P "__static_attributes__" 306 102]) 4
def zoa:=yK "Taken" "Taken" 296 17 0 0 98 false 99 .none .none .none .none 299 300
def zng:=yG 100 97 "guisery.errors" 194
def zhp:=yDi (#[yE P "__module__" 301 (.str "guisery.errors" 194),yE P "__firstlineno__" 305 (.int 17 304),yR P "__static_attributes__" 306 102,yN P "__doc__" 307]) 2
def zhN:=yX "Taken" 31 104 103 95 294 302
def zkB:=yB "super" #[.ref 104,.ref 104,.ref 104]
def zl3:=yB "builtin_function_or_method" #[.builtin "object.__init_subclass__",.ref 104]
def zmh:=yT #[.ref 31]
def znj:=yB "builtin_function_or_method" #[.builtin "type.__prepare__",.type "type"]
def zkA:=yDi (#[yE P "__module__" 317 (.str "guisery.errors" 194),yE P "__qualname__" 319 (.str "NoGuise" 318),yE P "__firstlineno__" 321 (.int 19 320),yR P "__static_attributes__" 322 114]) 4
def zkX:=yK "NoGuise" "NoGuise" 312 19 0 0 110 false 111 .none .none .none .none 315 316
def zns:=yG 112 109 "guisery.errors" 194
def zjv:=yDi (#[yE P "__module__" 317 (.str "guisery.errors" 194),yE P "__firstlineno__" 321 (.int 19 320),yR P "__static_attributes__" 322 114,yN P "__doc__" 323]) 2
def zj2:=yX "NoGuise" 31 116 115 107 310 318
def znD:=yB "super" #[.ref 116,.ref 116,.ref 116]
def zmI:=yB "builtin_function_or_method" #[.builtin "object.__init_subclass__",.ref 116]
noncomputable def T3:BT:=zc3 (T2 P) [(3,yDi (#[yE P "__name__" 165 (.str "guisery.errors" 194),yN P "__doc__" 166,yN P "__package__" 167,yE P "__loader__" 168 (.builtin "__main__.__loader__#opaque"),yN P "__spec__" 169,yR P "__annotations__" 170 6,yR P "__builtins__" 171 4,yE P "__file__" 173 (.str "/claim/cut.py" 172),yN P "__cached__" 174,yR P "_wall" 193 21,yR P "GuiseError" 213 31,yR P "BadBreadth" 229 44,yR P "BadMachine" 245 56,yR P "BadWord" 261 68,yR P "BadCount" 277 80,yR P "BadName" 293 92,yR P "Taken" 309 104,yR P "NoGuise" 325 116]) 18),(12,yQ #[.int 1 0,.int 0 0,.ref 20,.int 5 0,.int 0 0,.ref 27,.int 7 0,.int 0 0,.ref 40,.int 9 0,.int 0 0,.ref 52,.int 11 0,.int 0 0,.ref 64,.int 13 0,.int 0 0,.ref 76,.int 15 0,.int 0 0,.ref 88,.int 17 0,.int 0 0,.ref 100,.int 19 0,.int 0 0,.ref 112]),(31,{ cls:=.type "type",data:=Data.cls { name:="GuiseError",bases:=[.type "ValueError"],mro:=[.ref 31,.type "ValueError",.type "Exception",.type "BaseException",.type "object"],ns:=30,qualname:="GuiseError",subclasses:=[.ref 44,.ref 56,.ref 68,.ref 80,.ref 92,.ref 104,.ref 116] },slots:=#[some (.ref 22),none,some (.str "GuiseError" 196),some (.str "GuiseError" 204),some (.builtin "ValueError.__new__"),some (.bool true)] }),(71,o71),(72,o72),(73,o73 P),(74,eT),(75,eQ),(76,o76),(77,o77),(78,eT),(79,o79 P),(80,o80),(81,o81),(82,o82),(83,o83),(84,o84),(85,o85 P),(86,eT),(87,eQ),(88,o88),(89,o89),(90,eT),(91,o91 P),(92,o92),(93,o93),(94,o94),(95,o95),(96,o96),(97,o97 P),(98,eT),(99,eQ),(100,zoa),(101,zng),(102,eT),(103,zhp P),(104,zhN),(105,zkB),(106,zl3),(107,zmh),(108,znj),(109,zkA P),(110,eT),(111,eQ),(112,zkX),(113,zns),(114,eT),(115,zjv P),(116,zj2),(117,znD),(118,zmI)]
def o31:Obj:={ cls:=.type "type",data:=Data.cls { name:="GuiseError",bases:=[.type "ValueError"],mro:=[.ref 31,.type "ValueError",.type "Exception",.type "BaseException",.type "object"],ns:=30,qualname:="GuiseError",subclasses:=[.ref 44,.ref 56,.ref 68,.ref 80,.ref 92,.ref 104,.ref 116,.ref 128,.ref 140,.ref 152,.ref 164] },slots:=#[some (.ref 22),none,some (.str "GuiseError" 196),some (.str "GuiseError" 204),some (.builtin "ValueError.__new__"),some (.bool true)] }
def znb:=yT #[.ref 31]
def znV:=yB "builtin_function_or_method" #[.builtin "type.__prepare__",.type "type"]
def znn:=yDi (#[yE P "__module__" 333 (.str "guisery.errors" 194),yE P "__qualname__" 335 (.str "NoPeg" 334),yE P "__firstlineno__" 337 (.int 21 336),yR P "__static_attributes__" 338 126]) 4
def zo8:=yK "NoPeg" "NoPeg" 328 21 0 0 122 false 123 .none .none .none .none 331 332
def znd:=yG 124 121 "guisery.errors" 194
def zgC:=yDi (#[yE P "__module__" 333 (.str "guisery.errors" 194),yE P "__firstlineno__" 337 (.int 21 336),yR P "__static_attributes__" 338 126,yN P "__doc__" 339]) 2
def zhO:=yX "NoPeg" 31 128 127 119 326 334
def zl8:=yB "super" #[.ref 128,.ref 128,.ref 128]
def zn0:=yB "builtin_function_or_method" #[.builtin "object.__init_subclass__",.ref 128]
def zlW:=yT #[.ref 31]
def znh:=yB "builtin_function_or_method" #[.builtin "type.__prepare__",.type "type"]
def znL:=yDi (#[yE P "__module__" 349 (.str "guisery.errors" 194),yE P "__qualname__" 351 (.str "TooMany" 350),yE P "__firstlineno__" 353 (.int 23 352),yR P "__static_attributes__" 354 138]) 4
def zo9:=yK "TooMany" "TooMany" 344 23 0 0 134 false 135 .none .none .none .none 347 348
def zlX:=yG 136 133 "guisery.errors" 194
def zij:=yDi (#[yE P "__module__" 349 (.str "guisery.errors" 194),yE P "__firstlineno__" 353 (.int 23 352),yR P "__static_attributes__" 354 138,yN P "__doc__" 355]) 2
def zjs:=yX "TooMany" 31 140 139 131 342 350
def znz:=yB "super" #[.ref 140,.ref 140,.ref 140]
def zmj:=yB "builtin_function_or_method" #[.builtin "object.__init_subclass__",.ref 140]
def zkK:=yT #[.ref 31]
def zlG:=yB "builtin_function_or_method" #[.builtin "type.__prepare__",.type "type"]
def zl6:=yDi (#[yE P "__module__" 365 (.str "guisery.errors" 194),yE P "__qualname__" 367 (.str "TooLong" 366),yE P "__firstlineno__" 369 (.int 25 368),yR P "__static_attributes__" 370 150]) 4
def znu:=yK "TooLong" "TooLong" 360 25 0 0 146 false 147 .none .none .none .none 363 364
def zn4:=yG 148 145 "guisery.errors" 194
def ziT:=yDi (#[yE P "__module__" 365 (.str "guisery.errors" 194),yE P "__firstlineno__" 369 (.int 25 368),yR P "__static_attributes__" 370 150,yN P "__doc__" 371]) 2
def zj0:=yX "TooLong" 31 152 151 143 358 366
def znX:=yB "super" #[.ref 152,.ref 152,.ref 152]
def zlz:=yB "builtin_function_or_method" #[.builtin "object.__init_subclass__",.ref 152]
def zm5:=yT #[.ref 31]
def zne:=yB "builtin_function_or_method" #[.builtin "type.__prepare__",.type "type"]
def zmQ:=yDi (#[yE P "__module__" 381 (.str "guisery.errors" 194),yE P "__qualname__" 383 (.str "NothingWorn" 382),yE P "__firstlineno__" 385 (.int 27 384),yR P "__static_attributes__" 386 162]) 4
def zmO:=yK "NothingWorn" "NothingWorn" 376 27 0 0 158 false 159 .none .none .none .none 379 380
def zmp:=yG 160 157 "guisery.errors" 194
def zi7:=yDi (#[yE P "__module__" 381 (.str "guisery.errors" 194),yE P "__firstlineno__" 385 (.int 27 384),yR P "__static_attributes__" 386 162,yN P "__doc__" 387]) 2
def zis:=yX "NothingWorn" 31 164 163 155 374 382
def znk:=yB "super" #[.ref 164,.ref 164,.ref 164]
def zok:=yB "builtin_function_or_method" #[.builtin "object.__init_subclass__",.ref 164]
def zmH:=yT #[.str "letters" 395]
def znU:=yP zfK "same_letters" "same_letters"
def zhH:=yL "same_letters" "same_letters" 392 30 1 167 168 169 170 171 396
def zgO:=yM zfK "same_letters" "same_letters" "guisery.letters" 390 172
noncomputable def T4:BT:=zc3 (T3 P) [(3,yDi (#[yE P "__name__" 165 (.str "guisery.letters" 390),yN P "__doc__" 166,yN P "__package__" 167,yE P "__loader__" 168 (.builtin "__main__.__loader__#opaque"),yN P "__spec__" 169,yR P "__annotations__" 170 6,yR P "__builtins__" 171 4,yE P "__file__" 173 (.str "/claim/cut.py" 172),yN P "__cached__" 174,yR P "_wall" 193 21,yR P "GuiseError" 213 31,yR P "BadBreadth" 229 44,yR P "BadMachine" 245 56,yR P "BadWord" 261 68,yR P "BadCount" 277 80,yR P "BadName" 293 92,yR P "Taken" 309 104,yR P "NoGuise" 325 116,yR P "NoPeg" 341 128,yR P "TooMany" 357 140,yR P "TooLong" 373 152,yR P "NothingWorn" 389 164,yR P "same_letters" 398 173]) 23),(12,yQ #[.int 1 0,.int 0 0,.ref 20,.int 5 0,.int 0 0,.ref 27,.int 7 0,.int 0 0,.ref 40,.int 9 0,.int 0 0,.ref 52,.int 11 0,.int 0 0,.ref 64,.int 13 0,.int 0 0,.ref 76,.int 15 0,.int 0 0,.ref 88,.int 17 0,.int 0 0,.ref 100,.int 19 0,.int 0 0,.ref 112,.int 21 0,.int 0 0,.ref 124,.int 23 0,.int 0 0,.ref 136,.int 25 0,.int 0 0,.ref 148,.int 27 0,.int 0 0,.ref 160,.int 30 0,.int 0 0,.ref 172]),(31,o31),(119,znb),(120,znV),(121,znn P),(122,eT),(123,eQ),(124,zo8),(125,znd),(126,eT),(127,zgC P),(128,zhO),(129,zl8),(130,zn0),(131,zlW),(132,znh),(133,znL P),(134,eT),(135,eQ),(136,zo9),(137,zlX),(138,eT),(139,zij P),(140,zjs),(141,znz),(142,zmj),(143,zkK),(144,zlG),(145,zl6 P),(146,eT),(147,eQ),(148,znu),(149,zn4),(150,eT),(151,ziT P),(152,zj0),(153,znX),(154,zlz),(155,zm5),(156,zne),(157,zmQ P),(158,eT),(159,eQ),(160,zmO),(161,zmp),(162,eT),(163,zi7 P),(164,zis),(165,znk),(166,zok),(167,eT),(168,eQ),(169,zmH),(170,eT),(171,znU),(172,zhH),(173,zgO)]
def zo2:=yP zac "turned" "turned"
def zgH:=yK "turned" "turned" 399 32 2 3 174 true 175 .none .none .none (.ref 176) 402 403
def zhm:=yM zac "turned" "turned" "guisery.letters" 390 177
def zl2:=yT #[.str "one" 408,.str "came_of" 409,.str "letter" 410,.str "becomes" 411]
def zkx:=yP z9v "undone" "undone"
def zk7:=yL "undone" "undone" 405 34 1 179 180 181 182 183 412
def zjY:=yM z9v "undone" "undone" "guisery.letters" 390 184
def zmu:=yT #[.str "letters" 418,.str "numbers" 419]
def zkY:=yP z68 "rearranges" "rearranges"
def zjn:=yL "rearranges" "rearranges" 415 39 2 186 187 188 189 190 420
def zje:=yM z68 "rearranges" "rearranges" "guisery.letters" 390 191
def zn6:=yT #[.str "letters" 432,.str "rows" 433]
def zlQ:=yT #[.str "rows" 434]
def zls:=yP z4A "form" "form"
def zkg:=yL "form" "form" 429 44 2 193 194 195 196 197 435
def zgZ:=yM z4A "form" "form" "guisery.machines" 423 198
def zmY:=yT #[.str "letters" 441]
def zm1:=yP zcP "still" "still"
def zjk:=yL "still" "still" 438 47 1 200 201 202 203 204 442
def zhi:=yM zcP "still" "still" "guisery.machines" 423 205
def znF:=yT #[.str "guise" 448,.str "rearranging" 449,.str "goings" 450]
def zmi:=yP z85 "breadth" "breadth"
def zhk:=yL "breadth" "breadth" 445 49 1 207 208 209 210 211 451
def zjS:=yM z85 "breadth" "breadth" "guisery.machines" 423 212
def zm6:=yT #[.str "guise" 457,.str "row" 458]
def zlo:=yT #[.str "guise" 459]
def zlj:=yP zf9 "section_at" "section_at"
def zgF:=yL "section_at" "section_at" 454 52 2 214 215 216 217 218 460
def zjb:=yM zf9 "section_at" "section_at" "guisery.machines" 423 219
def zlD:=yT #[.str "guise" 466,.str "row" 467,.str "word" 468,.str "made" 469,.str "at" 470,.str "letter" 471,.str "rearranging" 472,.str "goings" 473]
def zm9:=yP zd5 "read_from" "read_from"
def zjp:=yL "read_from" "read_from" 463 54 3 221 222 223 224 225 474
def zjK:=yM zd5 "read_from" "read_from" "guisery.machines" 423 226
def znY:=yP z58 "check_machine" "check_machine"
def zju:=yK "check_machine" "check_machine" 477 62 3 3 228 true 229 .none .none .none (.ref 230) 480 481
def ziE:=yM z58 "check_machine" "check_machine" "guisery.machines" 423 231
def znv:=yT #[.str "first" 486,.str "row_at" 487,.str "found" 488,.str "kinds" 489,.str "least" 490,.str "rearranging" 491,.str "goings" 492,.str "kind" 493]
def zle:=yP z62 "least_form" "least_form"
def zjG:=yL "least_form" "least_form" 483 72 2 233 234 235 236 237 494
def ziW:=yM z62 "least_form" "least_form" "guisery.machines" 423 238
def zmn:=yP z4K "rows_come_to" "rows_come_to"
def zgE:=yK "rows_come_to" "rows_come_to" 497 80 2 3 240 true 241 .none .none .none (.ref 242) 500 501
def zko:=yM z4K "rows_come_to" "rows_come_to" "guisery.machines" 423 243
def zkT:=yP z4d "kinds_of_rows" "kinds_of_rows"
def ziq:=yK "kinds_of_rows" "kinds_of_rows" 503 92 1 3 245 true 246 .none .none .none (.ref 247) 506 507
def zk2:=yM z4d "kinds_of_rows" "kinds_of_rows" "guisery.machines" 423 248
def zny:=yP z8E "kinds_gone_to" "kinds_gone_to"
def zjP:=yK "kinds_gone_to" "kinds_gone_to" 509 101 2 3 250 true 251 .none .none .none (.ref 252) 512 513
def zk0:=yM z8E "kinds_gone_to" "kinds_gone_to" "guisery.machines" 423 253
def zl0:=yP z1O "numbered" "numbered"
def zh4:=yK "numbered" "numbered" 515 103 1 3 255 true 256 .none .none .none (.ref 257) 518 519
def zgq:=yM z1O "numbered" "numbered" "guisery.machines" 423 258
def zl7:=yP zaG "check_word" "check_word"
def zgp:=yK "check_word" "check_word" 523 110 2 3 260 true 261 .none .none .none (.ref 262) 526 527
def zjx:=yM zaG "check_word" "check_word" "guisery.words" 521 263
def zon:=yT #[.str "letters" 532,.str "endless" 533,.str "beginning" 534,.str "ring" 535]
def zlg:=yP z8o "check_endless" "check_endless"
def zh9:=yL "check_endless" "check_endless" 529 113 2 265 266 267 268 269 536
def ziF:=yM z8o "check_endless" "check_endless" "guisery.words" 521 270
def zom:=yT #[.str "ring" 542]
def zla:=yP zge "check_ring" "check_ring"
def ziC:=yL "check_ring" "check_ring" 539 118 1 272 273 274 275 276 543
def zhX:=yM zge "check_ring" "check_ring" "guisery.words" 521 277
def zkM:=yT #[.str "beginning" 549,.str "ring" 550,.str "least" 551,.str "ringed" 552,.str "cut" 553]
def zkP:=yP za0 "plain_word" "plain_word"
def ziN:=yL "plain_word" "plain_word" 546 121 2 279 280 281 282 283 554
def zki:=yM za0 "plain_word" "plain_word" "guisery.words" 521 284
def znH:=yT #[.str "ring" 560,.str "size" 561]
def zn2:=yP z9D "least_ring" "least_ring"
def zgw:=yL "least_ring" "least_ring" 557 127 1 286 287 288 289 290 562
def zkf:=yM z9D "least_ring" "least_ring" "guisery.words" 521 291
def zkH:=yT #[.str "beginning" 568,.str "ring" 569,.str "count" 570]
def zlp:=yP z9W "count_ringed" "count_ringed"
def zhe:=yL "count_ringed" "count_ringed" 565 132 2 293 294 295 296 297 571
def zgU:=yM z9W "count_ringed" "count_ringed" "guisery.words" 521 298
def zlc:=yT #[.str "endless" 577,.str "place" 578,.str "beginning" 579,.str "ring" 580]
def znm:=yP z6M "letter_at" "letter_at"
def zhE:=yL "letter_at" "letter_at" 574 137 2 300 301 302 303 304 581
def zia:=yM z6M "letter_at" "letter_at" "guisery.words" 521 305
def zmE:=yT #[.str "one" 587,.str "other" 588,.str "enough" 589,.str "place" 590]
def zlu:=yP z6y "alike_for" "alike_for"
def zjT:=yL "alike_for" "alike_for" 584 144 2 307 308 309 310 311 591
def zhV:=yM z6y "alike_for" "alike_for" "guisery.words" 521 312
def zmD:=yT #[.str "one" 601,.str "other" 602]
def zo3:=yT #[.str "one" 603,.str "other" 604]
def zlq:=yP zbe "joined" "joined"
def ziR:=yL "joined" "joined" 598 152 2 314 315 316 317 318 605
def zgV:=yM zbe "joined" "joined" "guisery.joining" 594 319
def zmr:=yP z5e "joined_row" "joined_row"
def ziS:=yK "joined_row" "joined_row" 608 154 3 3 321 true 322 .none .none .none (.ref 323) 611 612
def zjZ:=yM z5e "joined_row" "joined_row" "guisery.joining" 594 324
def zmg:=yT #[.str "guise" 617]
def zkC:=yT #[.str "guise" 618]
def zlH:=yP zg2 "back" "back"
def zim:=yL "back" "back" 614 160 1 326 327 328 329 330 619
def zkk:=yM zg2 "back" "back" "guisery.joining" 594 331
def zmV:=yP z7U "row_back" "row_back"
def zh1:=yK "row_back" "row_back" 622 162 1 3 333 true 334 .none .none .none (.ref 335) 625 626
def zik:=yM z7U "row_back" "row_back" "guisery.joining" 594 336
def zmN:=yT #[.str "guise" 631,.str "word" 632,.str "made" 633,.str "at" 634]
def znp:=yP z9J "behind" "behind"
def ziB:=yL "behind" "behind" 628 166 2 338 339 340 341 342 635
def zgo:=yM z9J "behind" "behind" "guisery.joining" 594 343
def znA:=yT #[.str "guise" 641,.str "many" 642,.str "told" 643,.str "count" 644]
def znQ:=yP zda "times" "times"
def ziZ:=yL "times" "times" 638 170 2 345 346 347 348 349 645
def zh7:=yM zda "times" "times" "guisery.joining" 594 350
noncomputable def T5:BT:=zc3 (T4 P) [(3,yDi (#[yE P "__name__" 165 (.str "guisery.crews" 648),yN P "__doc__" 166,yN P "__package__" 167,yE P "__loader__" 168 (.builtin "__main__.__loader__#opaque"),yN P "__spec__" 169,yR P "__annotations__" 170 6,yR P "__builtins__" 171 4,yE P "__file__" 173 (.str "/claim/cut.py" 172),yN P "__cached__" 174,yR P "_wall" 193 21,yR P "GuiseError" 213 31,yR P "BadBreadth" 229 44,yR P "BadMachine" 245 56,yR P "BadWord" 261 68,yR P "BadCount" 277 80,yR P "BadName" 293 92,yR P "Taken" 309 104,yR P "NoGuise" 325 116,yR P "NoPeg" 341 128,yR P "TooMany" 357 140,yR P "TooLong" 373 152,yR P "NothingWorn" 389 164,yR P "same_letters" 398 173,yR P "turned" 404 178,yR P "undone" 414 185,yR P "rearranges" 422 192,yE P "MOST_ROWS" 426 (.int 400 425),yE P "MOST_FORM_ROWS" 428 (.int 60 427),yR P "form" 437 199,yR P "still" 444 206,yR P "breadth" 453 213,yR P "section_at" 462 220,yR P "read_from" 476 227,yR P "check_machine" 482 232,yR P "least_form" 496 239,yR P "rows_come_to" 502 244,yR P "kinds_of_rows" 508 249,yR P "kinds_gone_to" 514 254,yR P "numbered" 520 259,yR P "check_word" 528 264,yR P "check_endless" 538 271,yR P "check_ring" 545 278,yR P "plain_word" 556 285,yR P "least_ring" 564 292,yR P "count_ringed" 573 299,yR P "letter_at" 583 306,yR P "alike_for" 593 313,yE P "MOST_TIMES" 597 (.int 64 596),yR P "joined" 607 320,yR P "joined_row" 613 325,yR P "back" 621 332,yR P "row_back" 627 337,yR P "behind" 637 344,yR P "times" 647 351]) 54),(12,yQ #[.int 1 0,.int 0 0,.ref 20,.int 5 0,.int 0 0,.ref 27,.int 7 0,.int 0 0,.ref 40,.int 9 0,.int 0 0,.ref 52,.int 11 0,.int 0 0,.ref 64,.int 13 0,.int 0 0,.ref 76,.int 15 0,.int 0 0,.ref 88,.int 17 0,.int 0 0,.ref 100,.int 19 0,.int 0 0,.ref 112,.int 21 0,.int 0 0,.ref 124,.int 23 0,.int 0 0,.ref 136,.int 25 0,.int 0 0,.ref 148,.int 27 0,.int 0 0,.ref 160,.int 30 0,.int 0 0,.ref 172,.int 32 0,.int 0 0,.ref 177,.int 34 0,.int 0 0,.ref 184,.int 39 0,.int 0 0,.ref 191,.int 44 0,.int 0 0,.ref 198,.int 47 0,.int 0 0,.ref 205,.int 49 0,.int 0 0,.ref 212,.int 52 0,.int 0 0,.ref 219,.int 54 0,.int 0 0,.ref 226,.int 62 0,.int 0 0,.ref 231,.int 72 0,.int 0 0,.ref 238,.int 80 0,.int 0 0,.ref 243,.int 92 0,.int 0 0,.ref 248,.int 101 0,.int 0 0,.ref 253,.int 103 0,.int 0 0,.ref 258,.int 110 0,.int 0 0,.ref 263,.int 113 0,.int 0 0,.ref 270,.int 118 0,.int 0 0,.ref 277,.int 121 0,.int 0 0,.ref 284,.int 127 0,.int 0 0,.ref 291,.int 132 0,.int 0 0,.ref 298,.int 137 0,.int 0 0,.ref 305,.int 144 0,.int 0 0,.ref 312,.int 152 0,.int 0 0,.ref 319,.int 154 0,.int 0 0,.ref 324,.int 160 0,.int 0 0,.ref 331,.int 162 0,.int 0 0,.ref 336,.int 166 0,.int 0 0,.ref 343,.int 170 0,.int 0 0,.ref 350]),(174,eT),(175,eQ),(176,zo2),(177,zgH),(178,zhm),(179,eT),(180,eQ),(181,zl2),(182,eT),(183,zkx),(184,zk7),(185,zjY),(186,eT),(187,eQ),(188,zmu),(189,eT),(190,zkY),(191,zjn),(192,zje),(193,eT),(194,eQ),(195,zn6),(196,zlQ),(197,zls),(198,zkg),(199,zgZ),(200,eT),(201,eQ),(202,zmY),(203,eT),(204,zm1),(205,zjk),(206,zhi),(207,eT),(208,eQ),(209,znF),(210,eT),(211,zmi),(212,zhk),(213,zjS),(214,eT),(215,eQ),(216,zm6),(217,zlo),(218,zlj),(219,zgF),(220,zjb),(221,eT),(222,eQ),(223,zlD),(224,eT),(225,zm9),(226,zjp),(227,zjK),(228,eT),(229,eQ),(230,znY),(231,zju),(232,ziE),(233,eT),(234,eQ),(235,znv),(236,eT),(237,zle),(238,zjG),(239,ziW),(240,eT),(241,eQ),(242,zmn),(243,zgE),(244,zko),(245,eT),(246,eQ),(247,zkT),(248,ziq),(249,zk2),(250,eT),(251,eQ),(252,zny),(253,zjP),(254,zk0),(255,eT),(256,eQ),(257,zl0),(258,zh4),(259,zgq),(260,eT),(261,eQ),(262,zl7),(263,zgp),(264,zjx),(265,eT),(266,eQ),(267,zon),(268,eT),(269,zlg),(270,zh9),(271,ziF),(272,eT),(273,eQ),(274,zom),(275,eT),(276,zla),(277,ziC),(278,zhX),(279,eT),(280,eQ),(281,zkM),(282,eT),(283,zkP),(284,ziN),(285,zki),(286,eT),(287,eQ),(288,znH),(289,eT),(290,zn2),(291,zgw),(292,zkf),(293,eT),(294,eQ),(295,zkH),(296,eT),(297,zlp),(298,zhe),(299,zgU),(300,eT),(301,eQ),(302,zlc),(303,eT),(304,znm),(305,zhE),(306,zia),(307,eT),(308,eQ),(309,zmE),(310,eT),(311,zlu),(312,zjT),(313,zhV),(314,eT),(315,eQ),(316,zmD),(317,zo3),(318,zlq),(319,ziR),(320,zgV),(321,eT),(322,eQ),(323,zmr),(324,ziS),(325,zjZ),(326,eT),(327,eQ),(328,zmg),(329,zkC),(330,zlH),(331,zim),(332,zkk),(333,eT),(334,eQ),(335,zmV),(336,zh1),(337,zik),(338,eT),(339,eQ),(340,zmN),(341,eT),(342,znp),(343,ziB),(344,zgo),(345,eT),(346,eQ),(347,znA),(348,eT),(349,znQ),(350,ziZ),(351,zh7)]
def znw:=yT #[.str "guise" 653,.str "most" 654,.str "leaves" 655,.str "told" 656,.str "count" 657]
def znR:=yP zcZ "order" "order"
def zic:=yL "order" "order" 650 178 2 352 353 354 355 356 658
def zjz:=yM zcZ "order" "order" "guisery.crews" 648 357
def znO:=yT #[.str "guise" 667,.str "word" 668,.str "made" 669,.str "at" 670]
def zn7:=yP zga "worn" "worn"
def zhS:=yL "worn" "worn" 664 190 2 359 360 361 362 363 671
def zjM:=yM zga "worn" "worn" "guisery.wearing" 662 364
def zln:=yT #[.str "guise" 677,.str "endless" 678,.str "beginning" 679,.str "ring" 680,.str "made" 681,.str "at" 682,.str "laps" 683,.str "laps_ahead" 684,.str "lap" 685,.str "first" 686]
def zkU:=yP zdm "worn_endless" "worn_endless"
def zjE:=yL "worn_endless" "worn_endless" 674 194 2 366 367 368 369 370 687
def zjf:=yM zdm "worn_endless" "worn_endless" "guisery.wearing" 662 371
def zmS:=yP z9l "strung" "strung"
def zhq:=yK "strung" "strung" 690 206 1 3 373 true 374 .none .none .none (.ref 375) 693 694
def zkv:=yM z9l "strung" "strung" "guisery.wearing" 662 376
def zkZ:=yT #[.str "letters" 705,.str "word" 706,.str "number" 707,.str "letter" 708]
def zlw:=yP z6U "number_of" "number_of"
def zi4:=yL "number_of" "number_of" 702 211 2 378 379 380 381 382 709
def ziY:=yM z6U "number_of" "number_of" "guisery.floors" 696 383
def zmJ:=yT #[.str "letters" 715,.str "many" 716,.str "number" 717,.str "lightest_first" 718,.str "left" 719,.str "place" 720,.str "letter" 721]
def zlE:=yP zaJ "word_of" "word_of"
def ziv:=yL "word_of" "word_of" 712 217 3 385 386 387 388 389 722
def zj3:=yM zaJ "word_of" "word_of" "guisery.floors" 696 390
def zo6:=yT #[.str "letters" 728,.str "many" 729,.str "count" 730,.str "place" 731]
def zkR:=yP z8f "words_on_floor" "words_on_floor"
def zjt:=yL "words_on_floor" "words_on_floor" 725 228 2 392 393 394 395 396 732
def zjH:=yM z8f "words_on_floor" "words_on_floor" "guisery.floors" 696 397
def znP:=yP zcV "floor" "floor"
def zjJ:=yK "floor" "floor" 735 237 2 3 399 true 400 .none .none .none (.ref 401) 738 739
def zji:=yM zcV "floor" "floor" "guisery.floors" 696 402
def zii:=yDi (#[yR P "sew" 750 405,yR P "join" 753 406,yR P "turn" 757 407,yR P "look" 760 408,yR P "power" 764 409,yR P "drop" 768 410,yR P "hang" 770 411,yR P "wear" 774 412,yR P "doff" 777 413,yR P "unhang" 779 414]) 10
def ziH:=yT #[.str "name" 751,.str "rows" 752]
def zjo:=yT #[.str "name" 754,.str "name" 755,.str "name" 756]
def zkd:=yT #[.str "name" 758,.str "name" 759]
def zh0:=yT #[.str "name" 761,.str "name" 762,.str "word" 763]
def zk6:=yT #[.str "name" 765,.str "name" 766,.str "number" 767]
def zgy:=yT #[.str "name" 769]
def zgX:=yT #[.str "name" 771,.str "word" 772,.str "ring" 773]
def zjL:=yT #[.str "name" 775,.str "name" 776]
def zk9:=yT #[.str "name" 778]
def zi2:=yT #[.str "name" 780]
def zkI:=yP z3F "is_name" "is_name"
def zgL:=yK "is_name" "is_name" 792 247 1 3 415 true 416 .none .none .none (.ref 417) 795 796
def zgt:=yM z3F "is_name" "is_name" "guisery.lines" 742 418
def znK:=yT #[.str "part" 801]
def zol:=yP z38 "plainly_written" "plainly_written"
def zhK:=yL "plainly_written" "plainly_written" 798 249 1 420 421 422 423 424 802
def zj6:=yM z38 "plainly_written" "plainly_written" "guisery.lines" 742 425
def zlP:=yP z3G "word_written" "word_written"
def zhu:=yK "word_written" "word_written" 805 251 1 3 427 true 428 .none .none .none (.ref 429) 808 809
def zhr:=yM z3G "word_written" "word_written" "guisery.lines" 742 430
def zmd:=yP z5d "row_written" "row_written"
def zjw:=yK "row_written" "row_written" 811 253 1 3 432 true 433 .none .none .none (.ref 434) 814 815
def zhD:=yM z5d "row_written" "row_written" "guisery.lines" 742 435
def znG:=yP z3D "rows_written" "rows_written"
def zhh:=yK "rows_written" "rows_written" 817 256 1 3 437 true 438 .none .none .none (.ref 439) 820 821
def zhT:=yM z3D "rows_written" "rows_written" "guisery.lines" 742 440
def ziV:=yDi (#[yR P "name" 823 426,yR P "number" 824 426,yR P "word" 825 431,yR P "ring" 826 431,yR P "rows" 827 441]) 5
def zmR:=yT #[.str "deed" 837,.str "name" 838,.str "parts" 839,.str "kind" 840,.str "part" 841,.str "writer" 842]
def zmb:=yP z1y "line_written" "line_written"
def ziP:=yL "line_written" "line_written" 834 259 1 443 444 445 446 447 843
def zjC:=yM z1y "line_written" "line_written" "guisery.lines" 742 448
def zlS:=yP z1l "check_sewing" "check_sewing"
def zkr:=yK "check_sewing" "check_sewing" 850 268 2 3 450 true 451 .none .none .none (.ref 452) 853 854
def zhl:=yM z1l "check_sewing" "check_sewing" "guisery.sewing" 846 453
def zmf:=yP z1n "names_gone_to" "names_gone_to"
def zgr:=yK "names_gone_to" "names_gone_to" 856 271 1 3 455 true 456 .none .none .none (.ref 457) 859 860
def zgP:=yM z1n "names_gone_to" "names_gone_to" "guisery.sewing" 846 458
def zmK:=yT #[.str "rows" 865,.str "guises" 866]
def zmy:=yT #[.str "rows" 867,.str "guises" 868]
def znx:=yP z46 "sewn" "sewn"
def zjh:=yL "sewn" "sewn" 862 273 2 460 461 462 463 464 869
def zj8:=yM z46 "sewn" "sewn" "guisery.sewing" 846 465
noncomputable def T6:BT:=zc3 (T5 P) [(3,yDi (#[yE P "__name__" 165 (.str "guisery.sewing" 846),yN P "__doc__" 166,yN P "__package__" 167,yE P "__loader__" 168 (.builtin "__main__.__loader__#opaque"),yN P "__spec__" 169,yR P "__annotations__" 170 6,yR P "__builtins__" 171 4,yE P "__file__" 173 (.str "/claim/cut.py" 172),yN P "__cached__" 174,yR P "_wall" 193 21,yR P "GuiseError" 213 31,yR P "BadBreadth" 229 44,yR P "BadMachine" 245 56,yR P "BadWord" 261 68,yR P "BadCount" 277 80,yR P "BadName" 293 92,yR P "Taken" 309 104,yR P "NoGuise" 325 116,yR P "NoPeg" 341 128,yR P "TooMany" 357 140,yR P "TooLong" 373 152,yR P "NothingWorn" 389 164,yR P "same_letters" 398 173,yR P "turned" 404 178,yR P "undone" 414 185,yR P "rearranges" 422 192,yE P "MOST_ROWS" 426 (.int 400 425),yE P "MOST_FORM_ROWS" 428 (.int 60 427),yR P "form" 437 199,yR P "still" 444 206,yR P "breadth" 453 213,yR P "section_at" 462 220,yR P "read_from" 476 227,yR P "check_machine" 482 232,yR P "least_form" 496 239,yR P "rows_come_to" 502 244,yR P "kinds_of_rows" 508 249,yR P "kinds_gone_to" 514 254,yR P "numbered" 520 259,yR P "check_word" 528 264,yR P "check_endless" 538 271,yR P "check_ring" 545 278,yR P "plain_word" 556 285,yR P "least_ring" 564 292,yR P "count_ringed" 573 299,yR P "letter_at" 583 306,yR P "alike_for" 593 313,yE P "MOST_TIMES" 597 (.int 64 596),yR P "joined" 607 320,yR P "joined_row" 613 325,yR P "back" 621 332,yR P "row_back" 627 337,yR P "behind" 637 344,yR P "times" 647 351,yR P "order" 660 358,yR P "order_crews" 661 358,yR P "worn" 673 365,yR P "worn_endless" 689 372,yR P "strung" 695 377,yE P "MOST_WORDS" 699 (.int 1024 698),yE P "MOST_LETTERS_TOLD" 701 (.int 1000 700),yR P "number_of" 711 384,yR P "word_of" 724 391,yR P "words_on_floor" 734 398,yR P "floor" 740 403,yR P "floor_floors" 741 403,yE P "SMALL_LETTERS" 745 (.str "abcdefghijklmnopqrstuvwxyz" 744),yE P "MOST_LETTERS_OF_NAME" 747 (.int 12 746),yE P "EMPTY" 749 (.str "-" 748),yR P "DEEDS" 791 404,yR P "is_name" 797 419,yR P "plainly_written" 804 426,yR P "word_written" 810 431,yR P "row_written" 816 436,yR P "rows_written" 822 441,yR P "WRITERS" 833 442,yR P "line_written" 845 449,yE P "MOST_SEWN_ROWS" 849 (.int 60 848),yR P "check_sewing" 855 454,yR P "names_gone_to" 861 459,yR P "sewn" 871 466]) 81),(12,yQ #[.int 1 0,.int 0 0,.ref 20,.int 5 0,.int 0 0,.ref 27,.int 7 0,.int 0 0,.ref 40,.int 9 0,.int 0 0,.ref 52,.int 11 0,.int 0 0,.ref 64,.int 13 0,.int 0 0,.ref 76,.int 15 0,.int 0 0,.ref 88,.int 17 0,.int 0 0,.ref 100,.int 19 0,.int 0 0,.ref 112,.int 21 0,.int 0 0,.ref 124,.int 23 0,.int 0 0,.ref 136,.int 25 0,.int 0 0,.ref 148,.int 27 0,.int 0 0,.ref 160,.int 30 0,.int 0 0,.ref 172,.int 32 0,.int 0 0,.ref 177,.int 34 0,.int 0 0,.ref 184,.int 39 0,.int 0 0,.ref 191,.int 44 0,.int 0 0,.ref 198,.int 47 0,.int 0 0,.ref 205,.int 49 0,.int 0 0,.ref 212,.int 52 0,.int 0 0,.ref 219,.int 54 0,.int 0 0,.ref 226,.int 62 0,.int 0 0,.ref 231,.int 72 0,.int 0 0,.ref 238,.int 80 0,.int 0 0,.ref 243,.int 92 0,.int 0 0,.ref 248,.int 101 0,.int 0 0,.ref 253,.int 103 0,.int 0 0,.ref 258,.int 110 0,.int 0 0,.ref 263,.int 113 0,.int 0 0,.ref 270,.int 118 0,.int 0 0,.ref 277,.int 121 0,.int 0 0,.ref 284,.int 127 0,.int 0 0,.ref 291,.int 132 0,.int 0 0,.ref 298,.int 137 0,.int 0 0,.ref 305,.int 144 0,.int 0 0,.ref 312,.int 152 0,.int 0 0,.ref 319,.int 154 0,.int 0 0,.ref 324,.int 160 0,.int 0 0,.ref 331,.int 162 0,.int 0 0,.ref 336,.int 166 0,.int 0 0,.ref 343,.int 170 0,.int 0 0,.ref 350,.int 178 0,.int 0 0,.ref 357,.int 190 0,.int 0 0,.ref 364,.int 194 0,.int 0 0,.ref 371,.int 206 0,.int 0 0,.ref 376,.int 211 0,.int 0 0,.ref 383,.int 217 0,.int 0 0,.ref 390,.int 228 0,.int 0 0,.ref 397,.int 237 0,.int 0 0,.ref 402,.int 247 0,.int 0 0,.ref 418,.int 249 0,.int 0 0,.ref 425,.int 251 0,.int 0 0,.ref 430,.int 253 0,.int 0 0,.ref 435,.int 256 0,.int 0 0,.ref 440,.int 259 0,.int 0 0,.ref 448,.int 268 0,.int 0 0,.ref 453,.int 271 0,.int 0 0,.ref 458,.int 273 0,.int 0 0,.ref 465]),(352,eT),(353,eQ),(354,znw),(355,eT),(356,znR),(357,zic),(358,zjz),(359,eT),(360,eQ),(361,znO),(362,eT),(363,zn7),(364,zhS),(365,zjM),(366,eT),(367,eQ),(368,zln),(369,eT),(370,zkU),(371,zjE),(372,zjf),(373,eT),(374,eQ),(375,zmS),(376,zhq),(377,zkv),(378,eT),(379,eQ),(380,zkZ),(381,eT),(382,zlw),(383,zi4),(384,ziY),(385,eT),(386,eQ),(387,zmJ),(388,eT),(389,zlE),(390,ziv),(391,zj3),(392,eT),(393,eQ),(394,zo6),(395,eT),(396,zkR),(397,zjt),(398,zjH),(399,eT),(400,eQ),(401,znP),(402,zjJ),(403,zji),(404,zii P),(405,ziH),(406,zjo),(407,zkd),(408,zh0),(409,zk6),(410,zgy),(411,zgX),(412,zjL),(413,zk9),(414,zi2),(415,eT),(416,eQ),(417,zkI),(418,zgL),(419,zgt),(420,eT),(421,eQ),(422,znK),(423,eT),(424,zol),(425,zhK),(426,zj6),(427,eT),(428,eQ),(429,zlP),(430,zhu),(431,zhr),(432,eT),(433,eQ),(434,zmd),(435,zjw),(436,zhD),(437,eT),(438,eQ),(439,znG),(440,zhh),(441,zhT),(442,ziV P),(443,eT),(444,eQ),(445,zmR),(446,eT),(447,zmb),(448,ziP),(449,zjC),(450,eT),(451,eQ),(452,zlS),(453,zkr),(454,zhl),(455,eT),(456,eQ),(457,zmf),(458,zgr),(459,zgP),(460,eT),(461,eQ),(462,zmK),(463,zmy),(464,znx),(465,zjh),(466,zj8)]
def zlm:=yP z4S "row_at" "row_at"
def zhF:=yK "row_at" "row_at" 872 275 3 3 467 true 468 .none .none .none (.ref 469) 875 876
def zir:=yM z4S "row_at" "row_at" "guisery.sewing" 846 470
def zlM:=yT #[.str "name" 881,.str "going" 882]
def zo0:=yP z1z "place_gone_to" "place_gone_to"
def zhU:=yL "place_gone_to" "place_gone_to" 878 279 2 472 473 474 475 476 883
def zjl:=yM z1z "place_gone_to" "place_gone_to" "guisery.sewing" 846 477
noncomputable def T7:BT:=zc3 (T6 P) [(3,yDi (#[yE P "__name__" 165 (.str "guisery.house" 886),yN P "__doc__" 166,yN P "__package__" 167,yE P "__loader__" 168 (.builtin "__main__.__loader__#opaque"),yN P "__spec__" 169,yR P "__annotations__" 170 6,yR P "__builtins__" 171 4,yE P "__file__" 173 (.str "/claim/cut.py" 172),yN P "__cached__" 174,yR P "_wall" 193 21,yR P "GuiseError" 213 31,yR P "BadBreadth" 229 44,yR P "BadMachine" 245 56,yR P "BadWord" 261 68,yR P "BadCount" 277 80,yR P "BadName" 293 92,yR P "Taken" 309 104,yR P "NoGuise" 325 116,yR P "NoPeg" 341 128,yR P "TooMany" 357 140,yR P "TooLong" 373 152,yR P "NothingWorn" 389 164,yR P "same_letters" 398 173,yR P "turned" 404 178,yR P "undone" 414 185,yR P "rearranges" 422 192,yE P "MOST_ROWS" 426 (.int 400 425),yE P "MOST_FORM_ROWS" 428 (.int 60 427),yR P "form" 437 199,yR P "still" 444 206,yR P "breadth" 453 213,yR P "section_at" 462 220,yR P "read_from" 476 227,yR P "check_machine" 482 232,yR P "least_form" 496 239,yR P "rows_come_to" 502 244,yR P "kinds_of_rows" 508 249,yR P "kinds_gone_to" 514 254,yR P "numbered" 520 259,yR P "check_word" 528 264,yR P "check_endless" 538 271,yR P "check_ring" 545 278,yR P "plain_word" 556 285,yR P "least_ring" 564 292,yR P "count_ringed" 573 299,yR P "letter_at" 583 306,yR P "alike_for" 593 313,yE P "MOST_TIMES" 597 (.int 64 596),yR P "joined" 607 320,yR P "joined_row" 613 325,yR P "back" 621 332,yR P "row_back" 627 337,yR P "behind" 637 344,yR P "times" 647 351,yR P "order" 660 358,yR P "order_crews" 661 358,yR P "worn" 673 365,yR P "worn_endless" 689 372,yR P "strung" 695 377,yE P "MOST_WORDS" 699 (.int 1024 698),yE P "MOST_LETTERS_TOLD" 701 (.int 1000 700),yR P "number_of" 711 384,yR P "word_of" 724 391,yR P "words_on_floor" 734 398,yR P "floor" 740 403,yR P "floor_floors" 741 403,yE P "SMALL_LETTERS" 745 (.str "abcdefghijklmnopqrstuvwxyz" 744),yE P "MOST_LETTERS_OF_NAME" 747 (.int 12 746),yE P "EMPTY" 749 (.str "-" 748),yR P "DEEDS" 791 404,yR P "is_name" 797 419,yR P "plainly_written" 804 426,yR P "word_written" 810 431,yR P "row_written" 816 436,yR P "rows_written" 822 441,yR P "WRITERS" 833 442,yR P "line_written" 845 449,yE P "MOST_SEWN_ROWS" 849 (.int 60 848),yR P "check_sewing" 855 454,yR P "names_gone_to" 861 459,yR P "sewn" 871 466,yR P "row_at" 877 471,yR P "place_gone_to" 885 478,yE P "LEAST_BREADTH" 889 (.int 2 888),yE P "MOST_BREADTH" 891 (.int 5 890),yE P "MOST_WORN" 893 (.int 1000 892),yE P "GUISE" 895 (.str "guise" 894),yE P "PEG" 897 (.str "peg" 896)]) 88),(12,yQ #[.int 1 0,.int 0 0,.ref 20,.int 5 0,.int 0 0,.ref 27,.int 7 0,.int 0 0,.ref 40,.int 9 0,.int 0 0,.ref 52,.int 11 0,.int 0 0,.ref 64,.int 13 0,.int 0 0,.ref 76,.int 15 0,.int 0 0,.ref 88,.int 17 0,.int 0 0,.ref 100,.int 19 0,.int 0 0,.ref 112,.int 21 0,.int 0 0,.ref 124,.int 23 0,.int 0 0,.ref 136,.int 25 0,.int 0 0,.ref 148,.int 27 0,.int 0 0,.ref 160,.int 30 0,.int 0 0,.ref 172,.int 32 0,.int 0 0,.ref 177,.int 34 0,.int 0 0,.ref 184,.int 39 0,.int 0 0,.ref 191,.int 44 0,.int 0 0,.ref 198,.int 47 0,.int 0 0,.ref 205,.int 49 0,.int 0 0,.ref 212,.int 52 0,.int 0 0,.ref 219,.int 54 0,.int 0 0,.ref 226,.int 62 0,.int 0 0,.ref 231,.int 72 0,.int 0 0,.ref 238,.int 80 0,.int 0 0,.ref 243,.int 92 0,.int 0 0,.ref 248,.int 101 0,.int 0 0,.ref 253,.int 103 0,.int 0 0,.ref 258,.int 110 0,.int 0 0,.ref 263,.int 113 0,.int 0 0,.ref 270,.int 118 0,.int 0 0,.ref 277,.int 121 0,.int 0 0,.ref 284,.int 127 0,.int 0 0,.ref 291,.int 132 0,.int 0 0,.ref 298,.int 137 0,.int 0 0,.ref 305,.int 144 0,.int 0 0,.ref 312,.int 152 0,.int 0 0,.ref 319,.int 154 0,.int 0 0,.ref 324,.int 160 0,.int 0 0,.ref 331,.int 162 0,.int 0 0,.ref 336,.int 166 0,.int 0 0,.ref 343,.int 170 0,.int 0 0,.ref 350,.int 178 0,.int 0 0,.ref 357,.int 190 0,.int 0 0,.ref 364,.int 194 0,.int 0 0,.ref 371,.int 206 0,.int 0 0,.ref 376,.int 211 0,.int 0 0,.ref 383,.int 217 0,.int 0 0,.ref 390,.int 228 0,.int 0 0,.ref 397,.int 237 0,.int 0 0,.ref 402,.int 247 0,.int 0 0,.ref 418,.int 249 0,.int 0 0,.ref 425,.int 251 0,.int 0 0,.ref 430,.int 253 0,.int 0 0,.ref 435,.int 256 0,.int 0 0,.ref 440,.int 259 0,.int 0 0,.ref 448,.int 268 0,.int 0 0,.ref 453,.int 271 0,.int 0 0,.ref 458,.int 273 0,.int 0 0,.ref 465,.int 275 0,.int 0 0,.ref 470,.int 279 0,.int 0 0,.ref 477]),(467,eT),(468,eQ),(469,zlm),(470,zhF),(471,zir),(472,eT),(473,eQ),(474,zlM),(475,eT),(476,zo0),(477,zhU),(478,zjl)]
def zkJ:=yB "builtin_function_or_method" #[.builtin "type.__prepare__",.type "type"]
def znc:=yDi (#[yE P "__module__" 905 (.str "guisery.house" 886),yE P "__qualname__" 907 (.str "House" 906),yE P "__firstlineno__" 909 (.int 287 908),yR P "__init__" 917 492,yR P "sew" 923 497,yR P "join" 933 504,yR P "turn" 942 511,yR P "look" 952 518,yR P "power" 962 525,yR P "drop" 970 532,yR P "hang" 980 539,yR P "wear" 992 546,yR P "doff" 1002 553,yR P "unhang" 1010 560,yR P "undo" 1017 567,yR P "redo" 1024 574,yR P "twin" 1031 581,yR P "letters" 1038 588,yR P "names" 1045 595,yR P "pegs" 1052 602,yR P "guise" 1060 609,yR P "word" 1070 616,yR P "first_word" 1078 623,yR P "layers" 1088 630,yR P "parted" 1097 637,yR P "order" 1106 644,yR P "floor" 1115 651,yR P "letter" 1124 658,yR P "alike" 1133 665,yR P "deeds" 1140 672,yR P "check_new" 1149 679,yR P "held_by" 1157 686,yR P "called" 1163 691,yR P "keep" 1174 698,yR P "put" 1183 705,yR P "__static_attributes__" 1188 706]) 36
def zni:=yQ #[.int 289 0,.int 4 0,.ref 491,.int 297 0,.int 4 0,.ref 496,.int 303 0,.int 4 0,.ref 503,.int 307 0,.int 4 0,.ref 510,.int 311 0,.int 4 0,.ref 517,.int 315 0,.int 4 0,.ref 524,.int 319 0,.int 4 0,.ref 531,.int 323 0,.int 4 0,.ref 538,.int 328 0,.int 4 0,.ref 545,.int 335 0,.int 4 0,.ref 552,.int 341 0,.int 4 0,.ref 559,.int 345 0,.int 4 0,.ref 566,.int 348 0,.int 4 0,.ref 573,.int 351 0,.int 4 0,.ref 580,.int 354 0,.int 4 0,.ref 587,.int 357 0,.int 4 0,.ref 594,.int 360 0,.int 4 0,.ref 601,.int 363 0,.int 4 0,.ref 608,.int 368 0,.int 4 0,.ref 615,.int 372 0,.int 4 0,.ref 622,.int 375 0,.int 4 0,.ref 629,.int 379 0,.int 4 0,.ref 636,.int 382 0,.int 4 0,.ref 643,.int 385 0,.int 4 0,.ref 650,.int 388 0,.int 4 0,.ref 657,.int 391 0,.int 4 0,.ref 664,.int 394 0,.int 4 0,.ref 671,.int 397 0,.int 4 0,.ref 678,.int 403 0,.int 4 0,.ref 685,.int 408 0,.int 4 0,.ref 690,.int 411 0,.int 4 0,.ref 697,.int 417 0,.int 4 0,.ref 704]
def znN:=yK "House" "House" 900 287 0 0 482 false 483 .none .none .none .none 903 904
def znt:=yG 484 481 "guisery.house" 886
def zl5:=yT #[.str "self" 913,.str "letters" 914]
def zlx:=yP zal "__init__" "House.__init__"
def zja:=yL "__init__" "House.__init__" 910 289 2 486 487 488 489 490 915
def zhP:=yM zal "__init__" "House.__init__" "guisery.house" 886 491
def zli:=yP zeC "sew" "House.sew"
def ziI:=yK "sew" "House.sew" 918 297 3 3 493 true 494 .none .none .none (.ref 495) 921 922
def zh6:=yM zeC "sew" "House.sew" "guisery.house" 886 496
def zn5:=yT #[.str "self" 927,.str "name" 928,.str "one" 929,.str "other" 930]
def zlZ:=yP zeJ "join" "House.join"
def zgK:=yL "join" "House.join" 924 303 4 498 499 500 501 502 931
def zil:=yM zeJ "join" "House.join" "guisery.house" 886 503
def zlv:=yT #[.str "self" 937,.str "name" 938,.str "one" 939]
def znW:=yP zeV "turn" "House.turn"
def zhb:=yL "turn" "House.turn" 934 307 3 505 506 507 508 509 940
def zgB:=yM zeV "turn" "House.turn" "guisery.house" 886 510
def zkG:=yT #[.str "self" 946,.str "name" 947,.str "one" 948,.str "word" 949]
def znC:=yP zfo "look" "House.look"
def zi9:=yL "look" "House.look" 943 311 4 512 513 514 515 516 950
def zk4:=yM zfo "look" "House.look" "guisery.house" 886 517
def zky:=yT #[.str "self" 956,.str "name" 957,.str "one" 958,.str "many" 959]
def zlk:=yP zd4 "power" "House.power"
def zkt:=yL "power" "House.power" 953 315 4 519 520 521 522 523 960
def ziO:=yM zd4 "power" "House.power" "guisery.house" 886 524
def zkQ:=yT #[.str "self" 966,.str "name" 967]
def zmG:=yP zfA "drop" "House.drop"
def zj7:=yL "drop" "House.drop" 963 319 2 526 527 528 529 530 968
def ziQ:=yM zfA "drop" "House.drop" "guisery.house" 886 531
def znl:=yT #[.str "self" 974,.str "peg" 975,.str "beginning" 976,.str "ring" 977]
def zmZ:=yP zfj "hang" "House.hang"
def zhj:=yL "hang" "House.hang" 971 323 4 533 534 535 536 537 978
def zh8:=yM zfj "hang" "House.hang" "guisery.house" 886 538
def zlI:=yT #[.str "self" 984,.str "peg" 985,.str "name" 986,.str "words" 987,.str "layers" 988,.str "made" 989]
def zo7:=yP zg9 "wear" "House.wear"
def zhn:=yL "wear" "House.wear" 981 328 3 540 541 542 543 544 990
def ziK:=yM zg9 "wear" "House.wear" "guisery.house" 886 545
def zog:=yT #[.str "self" 996,.str "peg" 997,.str "words" 998,.str "layers" 999]
def zmt:=yP zfV "doff" "House.doff"
def zke:=yL "doff" "House.doff" 993 335 2 547 548 549 550 551 1000
def zhs:=yM zfV "doff" "House.doff" "guisery.house" 886 552
def zll:=yT #[.str "self" 1006,.str "peg" 1007]
def znr:=yP zas "unhang" "House.unhang"
def zif:=yL "unhang" "House.unhang" 1003 341 2 554 555 556 557 558 1008
def zkn:=yM zas "unhang" "House.unhang" "guisery.house" 886 559
def zlV:=yT #[.str "self" 1014]
def znq:=yP zfs "undo" "House.undo"
def zjc:=yL "undo" "House.undo" 1011 345 1 561 562 563 564 565 1015
def zgR:=yM zfs "undo" "House.undo" "guisery.house" 886 566
def zme:=yT #[.str "self" 1021]
def zmF:=yP zeW "redo" "House.redo"
def zin:=yL "redo" "House.redo" 1018 348 1 568 569 570 571 572 1022
def zib:=yM zeW "redo" "House.redo" "guisery.house" 886 573
def zmC:=yT #[.str "self" 1028]
def zmP:=yP zeH "twin" "House.twin"
def zhB:=yL "twin" "House.twin" 1025 351 1 575 576 577 578 579 1029
def zjX:=yM zeH "twin" "House.twin" "guisery.house" 886 580
def zml:=yT #[.str "self" 1035]
def zkE:=yP z83 "letters" "House.letters"
def zhI:=yL "letters" "House.letters" 1032 354 1 582 583 584 585 586 1036
def ziy:=yM z83 "letters" "House.letters" "guisery.house" 886 587
def zlb:=yT #[.str "self" 1042]
def zoj:=yP zcW "names" "House.names"
def zku:=yL "names" "House.names" 1039 357 1 589 590 591 592 593 1043
def zjO:=yM zcW "names" "House.names" "guisery.house" 886 594
def zlF:=yT #[.str "self" 1049]
def zmm:=yP zeX "pegs" "House.pegs"
def ziJ:=yL "pegs" "House.pegs" 1046 360 1 596 597 598 599 600 1050
def zhJ:=yM zeX "pegs" "House.pegs" "guisery.house" 886 601
def zmX:=yT #[.str "self" 1056,.str "name" 1057]
def zoc:=yP zd2 "guise" "House.guise"
def zio:=yL "guise" "House.guise" 1053 363 2 603 604 605 606 607 1058
def zgG:=yM zd2 "guise" "House.guise" "guisery.house" 886 608
def zmT:=yT #[.str "self" 1064,.str "peg" 1065,.str "words" 1066,.str "layers" 1067]
def zn9:=yP zfm "word" "House.word"
def zk8:=yL "word" "House.word" 1061 368 2 610 611 612 613 614 1068
def zhY:=yM zfm "word" "House.word" "guisery.house" 886 615
def zlh:=yT #[.str "self" 1074,.str "peg" 1075]
def znE:=yP z51 "first_word" "House.first_word"
def zj9:=yL "first_word" "House.first_word" 1071 372 2 617 618 619 620 621 1076
def zjR:=yM z51 "first_word" "House.first_word" "guisery.house" 886 622
def zkW:=yT #[.str "self" 1082,.str "peg" 1083,.str "words" 1084,.str "layers" 1085]
def zms:=yP z9V "layers" "House.layers"
def zhR:=yL "layers" "House.layers" 1079 375 2 624 625 626 627 628 1086
def zha:=yM z9V "layers" "House.layers" "guisery.house" 886 629
def zlU:=yT #[.str "self" 1092,.str "one" 1093,.str "other" 1094]
def zmx:=yP z9P "parted" "House.parted"
def zgv:=yL "parted" "House.parted" 1089 379 3 631 632 633 634 635 1095
def zig:=yM z9P "parted" "House.parted" "guisery.house" 886 636
def zlR:=yT #[.str "self" 1101,.str "name" 1102,.str "most" 1103]
def znM:=yP zd3 "order" "House.order"
def zgx:=yL "order" "House.order" 1098 382 3 638 639 640 641 642 1104
def ziu:=yM zd3 "order" "House.order" "guisery.house" 886 643
def zl4:=yT #[.str "self" 1110,.str "name" 1111,.str "many" 1112]
def zlO:=yP zd0 "floor" "House.floor"
def zgQ:=yL "floor" "House.floor" 1107 385 3 645 646 647 648 649 1113
def zih:=yM zd0 "floor" "House.floor" "guisery.house" 886 650
def zoo:=yT #[.str "self" 1119,.str "peg" 1120,.str "place" 1121]
def zm3:=yP zaj "letter" "House.letter"
def zjU:=yL "letter" "House.letter" 1116 388 3 652 653 654 655 656 1122
def zho:=yM zaj "letter" "House.letter" "guisery.house" 886 657
def zmv:=yT #[.str "self" 1128,.str "peg" 1129,.str "other" 1130]
def zlf:=yP zcX "alike" "House.alike"
def zhv:=yL "alike" "House.alike" 1125 391 3 659 660 661 662 663 1131
def zjg:=yM zcX "alike" "House.alike" "guisery.house" 886 664
def zlL:=yT #[.str "self" 1137]
def zm4:=yP zd6 "deeds" "House.deeds"
def zhc:=yL "deeds" "House.deeds" 1134 394 1 666 667 668 669 670 1138
def zjq:=yM zd6 "deeds" "House.deeds" "guisery.house" 886 671
def zma:=yT #[.str "self" 1144,.str "kind" 1145,.str "name" 1146]
def zoe:=yP z2C "check_new" "House.check_new"
def zjF:=yL "check_new" "House.check_new" 1141 397 3 673 674 675 676 677 1147
def zkl:=yM z2C "check_new" "House.check_new" "guisery.house" 886 678
def zmU:=yT #[.str "self" 1153,.str "peg" 1154]
def zm8:=yP zb8 "held_by" "House.held_by"
def ziU:=yL "held_by" "House.held_by" 1150 403 2 680 681 682 683 684 1155
def zgW:=yM zb8 "held_by" "House.held_by" "guisery.house" 886 685
def znI:=yP zax "called" "House.called"
def zkh:=yK "called" "House.called" 1158 408 2 3 687 true 688 .none .none .none (.ref 689) 1161 1162
def zgT:=yM zax "called" "House.called" "guisery.house" 886 690
def znJ:=yT #[.str "self" 1167,.str "kind" 1168,.str "thing" 1169,.str "deed" 1170,.str "key" 1171]
def zn3:=yP zbq "keep" "House.keep"
def zk1:=yL "keep" "House.keep" 1164 411 4 692 693 694 695 696 1172
def zhQ:=yM zbq "keep" "House.keep" "guisery.house" 886 697
def zn8:=yT #[.str "self" 1178,.str "key" 1179,.str "thing" 1180]
def znB:=yP zeG "put" "House.put"
def zhL:=yL "put" "House.put" 1175 417 3 699 700 701 702 703 1181
def zjB:=yM zeG "put" "House.put" "guisery.house" 886 704
def zlN:=yT #[.str "done" 1184,.str "many_letters" 1185,.str "taken_back" 1186,.str "things" 1187]
def zid:=yDi (#[yE P "__module__" 905 (.str "guisery.house" 886),yE P "__firstlineno__" 909 (.int 287 908),yR P "__init__" 917 492,yR P "sew" 923 497,yR P "join" 933 504,yR P "turn" 942 511,yR P "look" 952 518,yR P "power" 962 525,yR P "drop" 970 532,yR P "hang" 980 539,yR P "wear" 992 546,yR P "doff" 1002 553,yR P "unhang" 1010 560,yR P "undo" 1017 567,yR P "redo" 1024 574,yR P "twin" 1031 581,yR P "letters" 1038 588,yR P "names" 1045 595,yR P "pegs" 1052 602,yR P "guise" 1060 609,yR P "word" 1070 616,yR P "first_word" 1078 623,yR P "layers" 1088 630,yR P "parted" 1097 637,yR P "order" 1106 644,yR P "floor" 1115 651,yR P "letter" 1124 658,yR P "alike" 1133 665,yR P "deeds" 1140 672,yR P "check_new" 1149 679,yR P "held_by" 1157 686,yR P "called" 1163 691,yR P "keep" 1174 698,yR P "put" 1183 705,yR P "__static_attributes__" 1188 706,yR P "__dict__" 1190 709,yR P "__weakref__" 1192 710,yN P "__doc__" 1193]) 4
def zj5:Obj:={ cls:=.type "type",data:=Data.cls { name:="House",bases:=[.type "object"],mro:=[.ref 708,.type "object"],ns:=707,qualname:="House" },slots:=#[none,none,some (.str "House" 898),some (.str "House" 906),some (.builtin "object.__new__"),some (.bool true)] }
def zgM:=yB "getset_descriptor" #[.str "__dict__" 1189,.ref 708,.builtin "function.__dict__",.builtin "function.__dict__#set"]
def zkm:=yB "getset_descriptor" #[.str "__weakref__" 1191,.ref 708,.builtin "ExceptionGroup.__weakref__",.none]
def zmo:=yB "super" #[.ref 708,.ref 708,.ref 708]
def zmz:=yB "builtin_function_or_method" #[.builtin "object.__init_subclass__",.ref 708]
noncomputable def T8:BT:=zc3 (T7 P) [(3,yDi (#[yE P "__name__" 165 (.str "guisery.house" 886),yN P "__doc__" 166,yN P "__package__" 167,yE P "__loader__" 168 (.builtin "__main__.__loader__#opaque"),yN P "__spec__" 169,yR P "__annotations__" 170 6,yR P "__builtins__" 171 4,yE P "__file__" 173 (.str "/claim/cut.py" 172),yN P "__cached__" 174,yR P "_wall" 193 21,yR P "GuiseError" 213 31,yR P "BadBreadth" 229 44,yR P "BadMachine" 245 56,yR P "BadWord" 261 68,yR P "BadCount" 277 80,yR P "BadName" 293 92,yR P "Taken" 309 104,yR P "NoGuise" 325 116,yR P "NoPeg" 341 128,yR P "TooMany" 357 140,yR P "TooLong" 373 152,yR P "NothingWorn" 389 164,yR P "same_letters" 398 173,yR P "turned" 404 178,yR P "undone" 414 185,yR P "rearranges" 422 192,yE P "MOST_ROWS" 426 (.int 400 425),yE P "MOST_FORM_ROWS" 428 (.int 60 427),yR P "form" 437 199,yR P "still" 444 206,yR P "breadth" 453 213,yR P "section_at" 462 220,yR P "read_from" 476 227,yR P "check_machine" 482 232,yR P "least_form" 496 239,yR P "rows_come_to" 502 244,yR P "kinds_of_rows" 508 249,yR P "kinds_gone_to" 514 254,yR P "numbered" 520 259,yR P "check_word" 528 264,yR P "check_endless" 538 271,yR P "check_ring" 545 278,yR P "plain_word" 556 285,yR P "least_ring" 564 292,yR P "count_ringed" 573 299,yR P "letter_at" 583 306,yR P "alike_for" 593 313,yE P "MOST_TIMES" 597 (.int 64 596),yR P "joined" 607 320,yR P "joined_row" 613 325,yR P "back" 621 332,yR P "row_back" 627 337,yR P "behind" 637 344,yR P "times" 647 351,yR P "order" 660 358,yR P "order_crews" 661 358,yR P "worn" 673 365,yR P "worn_endless" 689 372,yR P "strung" 695 377,yE P "MOST_WORDS" 699 (.int 1024 698),yE P "MOST_LETTERS_TOLD" 701 (.int 1000 700),yR P "number_of" 711 384,yR P "word_of" 724 391,yR P "words_on_floor" 734 398,yR P "floor" 740 403,yR P "floor_floors" 741 403,yE P "SMALL_LETTERS" 745 (.str "abcdefghijklmnopqrstuvwxyz" 744),yE P "MOST_LETTERS_OF_NAME" 747 (.int 12 746),yE P "EMPTY" 749 (.str "-" 748),yR P "DEEDS" 791 404,yR P "is_name" 797 419,yR P "plainly_written" 804 426,yR P "word_written" 810 431,yR P "row_written" 816 436,yR P "rows_written" 822 441,yR P "WRITERS" 833 442,yR P "line_written" 845 449,yE P "MOST_SEWN_ROWS" 849 (.int 60 848),yR P "check_sewing" 855 454,yR P "names_gone_to" 861 459,yR P "sewn" 871 466,yR P "row_at" 877 471,yR P "place_gone_to" 885 478,yE P "LEAST_BREADTH" 889 (.int 2 888),yE P "MOST_BREADTH" 891 (.int 5 890),yE P "MOST_WORN" 893 (.int 1000 892),yE P "GUISE" 895 (.str "guise" 894),yE P "PEG" 897 (.str "peg" 896),yR P "House" 1195 708]) 89),(12,yQ #[.int 1 0,.int 0 0,.ref 20,.int 5 0,.int 0 0,.ref 27,.int 7 0,.int 0 0,.ref 40,.int 9 0,.int 0 0,.ref 52,.int 11 0,.int 0 0,.ref 64,.int 13 0,.int 0 0,.ref 76,.int 15 0,.int 0 0,.ref 88,.int 17 0,.int 0 0,.ref 100,.int 19 0,.int 0 0,.ref 112,.int 21 0,.int 0 0,.ref 124,.int 23 0,.int 0 0,.ref 136,.int 25 0,.int 0 0,.ref 148,.int 27 0,.int 0 0,.ref 160,.int 30 0,.int 0 0,.ref 172,.int 32 0,.int 0 0,.ref 177,.int 34 0,.int 0 0,.ref 184,.int 39 0,.int 0 0,.ref 191,.int 44 0,.int 0 0,.ref 198,.int 47 0,.int 0 0,.ref 205,.int 49 0,.int 0 0,.ref 212,.int 52 0,.int 0 0,.ref 219,.int 54 0,.int 0 0,.ref 226,.int 62 0,.int 0 0,.ref 231,.int 72 0,.int 0 0,.ref 238,.int 80 0,.int 0 0,.ref 243,.int 92 0,.int 0 0,.ref 248,.int 101 0,.int 0 0,.ref 253,.int 103 0,.int 0 0,.ref 258,.int 110 0,.int 0 0,.ref 263,.int 113 0,.int 0 0,.ref 270,.int 118 0,.int 0 0,.ref 277,.int 121 0,.int 0 0,.ref 284,.int 127 0,.int 0 0,.ref 291,.int 132 0,.int 0 0,.ref 298,.int 137 0,.int 0 0,.ref 305,.int 144 0,.int 0 0,.ref 312,.int 152 0,.int 0 0,.ref 319,.int 154 0,.int 0 0,.ref 324,.int 160 0,.int 0 0,.ref 331,.int 162 0,.int 0 0,.ref 336,.int 166 0,.int 0 0,.ref 343,.int 170 0,.int 0 0,.ref 350,.int 178 0,.int 0 0,.ref 357,.int 190 0,.int 0 0,.ref 364,.int 194 0,.int 0 0,.ref 371,.int 206 0,.int 0 0,.ref 376,.int 211 0,.int 0 0,.ref 383,.int 217 0,.int 0 0,.ref 390,.int 228 0,.int 0 0,.ref 397,.int 237 0,.int 0 0,.ref 402,.int 247 0,.int 0 0,.ref 418,.int 249 0,.int 0 0,.ref 425,.int 251 0,.int 0 0,.ref 430,.int 253 0,.int 0 0,.ref 435,.int 256 0,.int 0 0,.ref 440,.int 259 0,.int 0 0,.ref 448,.int 268 0,.int 0 0,.ref 453,.int 271 0,.int 0 0,.ref 458,.int 273 0,.int 0 0,.ref 465,.int 275 0,.int 0 0,.ref 470,.int 279 0,.int 0 0,.ref 477,.int 287 0,.int 0 0,.ref 484]),(479,eT),(480,zkJ),(481,znc P),(482,eT),(483,zni),(484,znN),(485,znt),(486,eT),(487,eQ),(488,zl5),(489,eT),(490,zlx),(491,zja),(492,zhP),(493,eT),(494,eQ),(495,zli),(496,ziI),(497,zh6),(498,eT),(499,eQ),(500,zn5),(501,eT),(502,zlZ),(503,zgK),(504,zil),(505,eT),(506,eQ),(507,zlv),(508,eT),(509,znW),(510,zhb),(511,zgB),(512,eT),(513,eQ),(514,zkG),(515,eT),(516,znC),(517,zi9),(518,zk4),(519,eT),(520,eQ),(521,zky),(522,eT),(523,zlk),(524,zkt),(525,ziO),(526,eT),(527,eQ),(528,zkQ),(529,eT),(530,zmG),(531,zj7),(532,ziQ),(533,eT),(534,eQ),(535,znl),(536,eT),(537,zmZ),(538,zhj),(539,zh8),(540,eT),(541,eQ),(542,zlI),(543,eT),(544,zo7),(545,zhn),(546,ziK),(547,eT),(548,eQ),(549,zog),(550,eT),(551,zmt),(552,zke),(553,zhs),(554,eT),(555,eQ),(556,zll),(557,eT),(558,znr),(559,zif),(560,zkn),(561,eT),(562,eQ),(563,zlV),(564,eT),(565,znq),(566,zjc),(567,zgR),(568,eT),(569,eQ),(570,zme),(571,eT),(572,zmF),(573,zin),(574,zib),(575,eT),(576,eQ),(577,zmC),(578,eT),(579,zmP),(580,zhB),(581,zjX),(582,eT),(583,eQ),(584,zml),(585,eT),(586,zkE),(587,zhI),(588,ziy),(589,eT),(590,eQ),(591,zlb),(592,eT),(593,zoj),(594,zku),(595,zjO),(596,eT),(597,eQ),(598,zlF),(599,eT),(600,zmm),(601,ziJ),(602,zhJ),(603,eT),(604,eQ),(605,zmX),(606,eT),(607,zoc),(608,zio),(609,zgG),(610,eT),(611,eQ),(612,zmT),(613,eT),(614,zn9),(615,zk8),(616,zhY),(617,eT),(618,eQ),(619,zlh),(620,eT),(621,znE),(622,zj9),(623,zjR),(624,eT),(625,eQ),(626,zkW),(627,eT),(628,zms),(629,zhR),(630,zha),(631,eT),(632,eQ),(633,zlU),(634,eT),(635,zmx),(636,zgv),(637,zig),(638,eT),(639,eQ),(640,zlR),(641,eT),(642,znM),(643,zgx),(644,ziu),(645,eT),(646,eQ),(647,zl4),(648,eT),(649,zlO),(650,zgQ),(651,zih),(652,eT),(653,eQ),(654,zoo),(655,eT),(656,zm3),(657,zjU),(658,zho),(659,eT),(660,eQ),(661,zmv),(662,eT),(663,zlf),(664,zhv),(665,zjg),(666,eT),(667,eQ),(668,zlL),(669,eT),(670,zm4),(671,zhc),(672,zjq),(673,eT),(674,eQ),(675,zma),(676,eT),(677,zoe),(678,zjF),(679,zkl),(680,eT),(681,eQ),(682,zmU),(683,eT),(684,zm8),(685,ziU),(686,zgW),(687,eT),(688,eQ),(689,znI),(690,zkh),(691,zgT),(692,eT),(693,eQ),(694,znJ),(695,eT),(696,zn3),(697,zk1),(698,zhQ),(699,eT),(700,eQ),(701,zn8),(702,eT),(703,znB),(704,zhL),(705,zjB),(706,zlN),(707,zid P),(708,zj5),(709,zgM),(710,zkm),(711,zmo),(712,zmz)]
def o3:=yDi (#[yE P "__name__" 165 (.str "law_guisery_k04_machines_refused" 1196),yN P "__doc__" 166,yN P "__package__" 167,yE P "__loader__" 168 (.builtin "__main__.__loader__#opaque"),yN P "__spec__" 169,yR P "__annotations__" 170 6,yR P "__builtins__" 171 4,yE P "__file__" 173 (.str "/claim/cut.py" 172),yN P "__cached__" 174,yR P "_wall" 193 21,yR P "GuiseError" 213 31,yR P "BadBreadth" 229 44,yR P "BadMachine" 245 56,yR P "BadWord" 261 68,yR P "BadCount" 277 80,yR P "BadName" 293 92,yR P "Taken" 309 104,yR P "NoGuise" 325 116,yR P "NoPeg" 341 128,yR P "TooMany" 357 140,yR P "TooLong" 373 152,yR P "NothingWorn" 389 164,yR P "same_letters" 398 173,yR P "turned" 404 178,yR P "undone" 414 185,yR P "rearranges" 422 192,yE P "MOST_ROWS" 426 (.int 400 425),yE P "MOST_FORM_ROWS" 428 (.int 60 427),yR P "form" 437 199,yR P "still" 444 206,yR P "breadth" 453 213,yR P "section_at" 462 220,yR P "read_from" 476 227,yR P "check_machine" 482 232,yR P "least_form" 496 239,yR P "rows_come_to" 502 244,yR P "kinds_of_rows" 508 249,yR P "kinds_gone_to" 514 254,yR P "numbered" 520 259,yR P "check_word" 528 264,yR P "check_endless" 538 271,yR P "check_ring" 545 278,yR P "plain_word" 556 285,yR P "least_ring" 564 292,yR P "count_ringed" 573 299,yR P "letter_at" 583 306,yR P "alike_for" 593 313,yE P "MOST_TIMES" 597 (.int 64 596),yR P "joined" 607 320,yR P "joined_row" 613 325,yR P "back" 621 332,yR P "row_back" 627 337,yR P "behind" 637 344,yR P "times" 647 351,yR P "order" 660 358,yR P "order_crews" 661 358,yR P "worn" 673 365,yR P "worn_endless" 689 372,yR P "strung" 695 377,yE P "MOST_WORDS" 699 (.int 1024 698),yE P "MOST_LETTERS_TOLD" 701 (.int 1000 700),yR P "number_of" 711 384,yR P "word_of" 724 391,yR P "words_on_floor" 734 398,yR P "floor" 740 403,yR P "floor_floors" 741 403,yE P "SMALL_LETTERS" 745 (.str "abcdefghijklmnopqrstuvwxyz" 744),yE P "MOST_LETTERS_OF_NAME" 747 (.int 12 746),yE P "EMPTY" 749 (.str "-" 748),yR P "DEEDS" 791 404,yR P "is_name" 797 419,yR P "plainly_written" 804 426,yR P "word_written" 810 431,yR P "row_written" 816 436,yR P "rows_written" 822 441,yR P "WRITERS" 833 442,yR P "line_written" 845 449,yE P "MOST_SEWN_ROWS" 849 (.int 60 848),yR P "check_sewing" 855 454,yR P "names_gone_to" 861 459,yR P "sewn" 871 466,yR P "row_at" 877 471,yR P "place_gone_to" 885 478,yE P "LEAST_BREADTH" 889 (.int 2 888),yE P "MOST_BREADTH" 891 (.int 5 890),yE P "MOST_WORN" 893 (.int 1000 892),yE P "GUISE" 895 (.str "guise" 894),yE P "PEG" 897 (.str "peg" 896),yR P "House" 1195 708,yR P "_law_cell" 1205 719,yR P "_law_letters" 1213 726,yR P "_law_numbers" 1224 733,yR P "_law_rearranged" 1236 740,yR P "_law_rows" 1242 745,yR P "_law_spoilt" 1248 750,yR P "_law_bad" 1259 757,yR P "_law_told" 1269 764,yR P "law" 1281 771]) 98
def o12:=yQ #[.int 1 0,.int 0 0,.ref 20,.int 5 0,.int 0 0,.ref 27,.int 7 0,.int 0 0,.ref 40,.int 9 0,.int 0 0,.ref 52,.int 11 0,.int 0 0,.ref 64,.int 13 0,.int 0 0,.ref 76,.int 15 0,.int 0 0,.ref 88,.int 17 0,.int 0 0,.ref 100,.int 19 0,.int 0 0,.ref 112,.int 21 0,.int 0 0,.ref 124,.int 23 0,.int 0 0,.ref 136,.int 25 0,.int 0 0,.ref 148,.int 27 0,.int 0 0,.ref 160,.int 30 0,.int 0 0,.ref 172,.int 32 0,.int 0 0,.ref 177,.int 34 0,.int 0 0,.ref 184,.int 39 0,.int 0 0,.ref 191,.int 44 0,.int 0 0,.ref 198,.int 47 0,.int 0 0,.ref 205,.int 49 0,.int 0 0,.ref 212,.int 52 0,.int 0 0,.ref 219,.int 54 0,.int 0 0,.ref 226,.int 62 0,.int 0 0,.ref 231,.int 72 0,.int 0 0,.ref 238,.int 80 0,.int 0 0,.ref 243,.int 92 0,.int 0 0,.ref 248,.int 101 0,.int 0 0,.ref 253,.int 103 0,.int 0 0,.ref 258,.int 110 0,.int 0 0,.ref 263,.int 113 0,.int 0 0,.ref 270,.int 118 0,.int 0 0,.ref 277,.int 121 0,.int 0 0,.ref 284,.int 127 0,.int 0 0,.ref 291,.int 132 0,.int 0 0,.ref 298,.int 137 0,.int 0 0,.ref 305,.int 144 0,.int 0 0,.ref 312,.int 152 0,.int 0 0,.ref 319,.int 154 0,.int 0 0,.ref 324,.int 160 0,.int 0 0,.ref 331,.int 162 0,.int 0 0,.ref 336,.int 166 0,.int 0 0,.ref 343,.int 170 0,.int 0 0,.ref 350,.int 178 0,.int 0 0,.ref 357,.int 190 0,.int 0 0,.ref 364,.int 194 0,.int 0 0,.ref 371,.int 206 0,.int 0 0,.ref 376,.int 211 0,.int 0 0,.ref 383,.int 217 0,.int 0 0,.ref 390,.int 228 0,.int 0 0,.ref 397,.int 237 0,.int 0 0,.ref 402,.int 247 0,.int 0 0,.ref 418,.int 249 0,.int 0 0,.ref 425,.int 251 0,.int 0 0,.ref 430,.int 253 0,.int 0 0,.ref 435,.int 256 0,.int 0 0,.ref 440,.int 259 0,.int 0 0,.ref 448,.int 268 0,.int 0 0,.ref 453,.int 271 0,.int 0 0,.ref 458,.int 273 0,.int 0 0,.ref 465,.int 275 0,.int 0 0,.ref 470,.int 279 0,.int 0 0,.ref 477,.int 287 0,.int 0 0,.ref 484,.int 423 0,.int 0 0,.ref 718,.int 429 0,.int 0 0,.ref 725,.int 431 0,.int 0 0,.ref 732,.int 442 0,.int 0 0,.ref 739,.int 450 0,.int 0 0,.ref 744,.int 469 0,.int 0 0,.ref 749,.int 500 0,.int 0 0,.ref 756,.int 509 0,.int 0 0,.ref 763,.int 521 0,.int 0 0,.ref 770]
def zof:=yT #[.str "_law_script" 1201,.str "_law_at" 1202]
def zmc:=yP z9X "_law_cell" "_law_cell"
def zj1:=yL "_law_cell" "_law_cell" 1198 423 2 713 714 715 716 717 1203
def zkj:=yM z9X "_law_cell" "_law_cell" "law_guisery_k04_machines_refused" 1196 718
def zl9:=yT #[.str "_law_script" 1209,.str "_law_at" 1210]
def zo4:=yP z3q "_law_letters" "_law_letters"
def zgs:=yL "_law_letters" "_law_letters" 1206 429 2 720 721 722 723 724 1211
def zi0:=yM z3q "_law_letters" "_law_letters" "law_guisery_k04_machines_refused" 1196 725
def zkD:=yT #[.str "_law_cell_here" 1217,.str "_law_many" 1218,.str "_law_row" 1219,.str "_law_rest" 1220,.str "_law_seed" 1221]
def znZ:=yP z3n "_law_numbers" "_law_numbers"
def zk3:=yL "_law_numbers" "_law_numbers" 1214 431 2 727 728 729 730 731 1222
def ziX:=yM z3n "_law_numbers" "_law_numbers" "law_guisery_k04_machines_refused" 1196 732
def zkz:=yT #[.str "_law_pick" 1228,.str "_law_letters_here" 1229,.str "_law_left" 1230,.str "_law_made" 1231,.str "_law_k" 1232,.str "_law_many" 1233]
def zod:=yP zbf "_law_rearranged" "_law_rearranged"
def ziD:=yL "_law_rearranged" "_law_rearranged" 1225 442 2 734 735 736 737 738 1234
def ziw:=yM zbf "_law_rearranged" "_law_rearranged" "law_guisery_k04_machines_refused" 1196 739
def zlC:=yP z6s "_law_rows" "_law_rows"
def zhA:=yK "_law_rows" "_law_rows" 1237 450 2 3 741 true 742 .none .none .none (.ref 743) 1240 1241
def zh3:=yM z6s "_law_rows" "_law_rows" "law_guisery_k04_machines_refused" 1196 744
def znf:=yP z3v "_law_spoilt" "_law_spoilt"
def zgu:=yK "_law_spoilt" "_law_spoilt" 1243 469 4 3 746 true 747 .none .none .none (.ref 748) 1246 1247
def zhf:=yM z3v "_law_spoilt" "_law_spoilt" "law_guisery_k04_machines_refused" 1196 749
def zkS:=yT #[.str "_law_letters_here" 1252,.str "_law_rows_here" 1253,.str "_law_most" 1254,.str "_law_first" 1255,.str "_law_goings" 1256]
def znS:=yP zaK "_law_bad" "_law_bad"
def zgY:=yL "_law_bad" "_law_bad" 1249 500 3 751 752 753 754 755 1257
def zhz:=yM zaK "_law_bad" "_law_bad" "law_guisery_k04_machines_refused" 1196 756
def zna:=yT #[.str "_law_letters_here" 1263,.str "_law_rows_here" 1264,.str "_law_door" 1265,.str "_law_told_here" 1266]
def zlB:=yP zaz "_law_told" "_law_told"
def zgJ:=yL "_law_told" "_law_told" 1260 509 3 758 759 760 761 762 1267
def zhy:=yM zaz "_law_told" "_law_told" "law_guisery_k04_machines_refused" 1196 763
def zm7:=yT #[.str "_law_script" 1273,.str "_law_letters_here" 1274,.str "_law_rows_here" 1275,.str "_law_door" 1276,.str "_law_due" 1277,.str "_law_handed" 1278]
def zkO:=yP za6 "law" "law"
def zh5:=yL "law" "law" 1270 521 1 765 766 767 768 769 1279
def zhZ:=yM za6 "law" "law" "law_guisery_k04_machines_refused" 1196 770
noncomputable def T9:BT:=zc3 (T8 P) [(3,o3 P),(12,o12),(713,eT),(714,eQ),(715,zof),(716,eT),(717,zmc),(718,zj1),(719,zkj),(720,eT),(721,eQ),(722,zl9),(723,eT),(724,zo4),(725,zgs),(726,zi0),(727,eT),(728,eQ),(729,zkD),(730,eT),(731,znZ),(732,zk3),(733,ziX),(734,eT),(735,eQ),(736,zkz),(737,eT),(738,zod),(739,ziD),(740,ziw),(741,eT),(742,eQ),(743,zlC),(744,zhA),(745,zh3),(746,eT),(747,eQ),(748,znf),(749,zgu),(750,zhf),(751,eT),(752,eQ),(753,zkS),(754,eT),(755,znS),(756,zgY),(757,zhz),(758,eT),(759,eQ),(760,zna),(761,eT),(762,zlB),(763,zgJ),(764,zhy),(765,eT),(766,eQ),(767,zm7),(768,eT),(769,zkO),(770,zh5),(771,zhZ)]
def KH(P:Params):PySem.W.Frag:=(nat_lit 3,o3 P)::(nat_lit 20,o20)::(nat_lit 21,o21)::(nat_lit 30,o30 P)::(nat_lit 31,o31)::(nat_lit 32,o32)::(nat_lit 43,o43 P)::(nat_lit 44,o44)::(nat_lit 55,o55 P)::(nat_lit 56,o56)::(nat_lit 67,o67 P)::(nat_lit 68,o68)::(nat_lit 79,o79 P)::(nat_lit 80,o80)::(nat_lit 91,o91 P)::(nat_lit 92,o92)::(nat_lit 103,zhp P)::(nat_lit 104,zhN)::(nat_lit 115,zjv P)::(nat_lit 116,zj2)::(nat_lit 127,zgC P)::(nat_lit 128,zhO)::(nat_lit 139,zij P)::(nat_lit 140,zjs)::(nat_lit 151,ziT P)::(nat_lit 152,zj0)::(nat_lit 163,zi7 P)::(nat_lit 164,zis)::(nat_lit 172,zhH)::(nat_lit 173,zgO)::(nat_lit 177,zgH)::(nat_lit 178,zhm)::(nat_lit 184,zk7)::(nat_lit 185,zjY)::(nat_lit 191,zjn)::(nat_lit 192,zje)::(nat_lit 198,zkg)::(nat_lit 199,zgZ)::(nat_lit 205,zjk)::(nat_lit 206,zhi)::(nat_lit 212,zhk)::(nat_lit 213,zjS)::(nat_lit 219,zgF)::(nat_lit 220,zjb)::(nat_lit 226,zjp)::(nat_lit 227,zjK)::(nat_lit 231,zju)::(nat_lit 232,ziE)::(nat_lit 238,zjG)::(nat_lit 239,ziW)::(nat_lit 243,zgE)::(nat_lit 244,zko)::(nat_lit 248,ziq)::(nat_lit 249,zk2)::(nat_lit 253,zjP)::(nat_lit 254,zk0)::(nat_lit 258,zh4)::(nat_lit 259,zgq)::(nat_lit 263,zgp)::(nat_lit 264,zjx)::(nat_lit 270,zh9)::(nat_lit 271,ziF)::(nat_lit 277,ziC)::(nat_lit 278,zhX)::(nat_lit 284,ziN)::(nat_lit 285,zki)::(nat_lit 291,zgw)::(nat_lit 292,zkf)::(nat_lit 298,zhe)::(nat_lit 299,zgU)::(nat_lit 305,zhE)::(nat_lit 306,zia)::(nat_lit 312,zjT)::(nat_lit 313,zhV)::(nat_lit 319,ziR)::(nat_lit 320,zgV)::(nat_lit 324,ziS)::(nat_lit 325,zjZ)::(nat_lit 331,zim)::(nat_lit 332,zkk)::(nat_lit 336,zh1)::(nat_lit 337,zik)::(nat_lit 343,ziB)::(nat_lit 344,zgo)::(nat_lit 350,ziZ)::(nat_lit 351,zh7)::(nat_lit 357,zic)::(nat_lit 358,zjz)::(nat_lit 364,zhS)::(nat_lit 365,zjM)::(nat_lit 371,zjE)::(nat_lit 372,zjf)::(nat_lit 376,zhq)::(nat_lit 377,zkv)::(nat_lit 383,zi4)::(nat_lit 384,ziY)::(nat_lit 390,ziv)::(nat_lit 391,zj3)::(nat_lit 397,zjt)::(nat_lit 398,zjH)::(nat_lit 402,zjJ)::(nat_lit 403,zji)::(nat_lit 404,zii P)::(nat_lit 405,ziH)::(nat_lit 406,zjo)::(nat_lit 407,zkd)::(nat_lit 408,zh0)::(nat_lit 409,zk6)::(nat_lit 410,zgy)::(nat_lit 411,zgX)::(nat_lit 412,zjL)::(nat_lit 413,zk9)::(nat_lit 414,zi2)::(nat_lit 418,zgL)::(nat_lit 419,zgt)::(nat_lit 425,zhK)::(nat_lit 426,zj6)::(nat_lit 430,zhu)::(nat_lit 431,zhr)::(nat_lit 435,zjw)::(nat_lit 436,zhD)::(nat_lit 440,zhh)::(nat_lit 441,zhT)::(nat_lit 442,ziV P)::(nat_lit 448,ziP)::(nat_lit 449,zjC)::(nat_lit 453,zkr)::(nat_lit 454,zhl)::(nat_lit 458,zgr)::(nat_lit 459,zgP)::(nat_lit 465,zjh)::(nat_lit 466,zj8)::(nat_lit 470,zhF)::(nat_lit 471,zir)::(nat_lit 477,zhU)::(nat_lit 478,zjl)::(nat_lit 491,zja)::(nat_lit 492,zhP)::(nat_lit 496,ziI)::(nat_lit 497,zh6)::(nat_lit 503,zgK)::(nat_lit 504,zil)::(nat_lit 510,zhb)::(nat_lit 511,zgB)::(nat_lit 517,zi9)::(nat_lit 518,zk4)::(nat_lit 524,zkt)::(nat_lit 525,ziO)::(nat_lit 531,zj7)::(nat_lit 532,ziQ)::(nat_lit 538,zhj)::(nat_lit 539,zh8)::(nat_lit 545,zhn)::(nat_lit 546,ziK)::(nat_lit 552,zke)::(nat_lit 553,zhs)::(nat_lit 559,zif)::(nat_lit 560,zkn)::(nat_lit 566,zjc)::(nat_lit 567,zgR)::(nat_lit 573,zin)::(nat_lit 574,zib)::(nat_lit 580,zhB)::(nat_lit 581,zjX)::(nat_lit 587,zhI)::(nat_lit 588,ziy)::(nat_lit 594,zku)::(nat_lit 595,zjO)::(nat_lit 601,ziJ)::(nat_lit 602,zhJ)::(nat_lit 608,zio)::(nat_lit 609,zgG)::(nat_lit 615,zk8)::(nat_lit 616,zhY)::(nat_lit 622,zj9)::(nat_lit 623,zjR)::(nat_lit 629,zhR)::(nat_lit 630,zha)::(nat_lit 636,zgv)::(nat_lit 637,zig)::(nat_lit 643,zgx)::(nat_lit 644,ziu)::(nat_lit 650,zgQ)::(nat_lit 651,zih)::(nat_lit 657,zjU)::(nat_lit 658,zho)::(nat_lit 664,zhv)::(nat_lit 665,zjg)::(nat_lit 671,zhc)::(nat_lit 672,zjq)::(nat_lit 678,zjF)::(nat_lit 679,zkl)::(nat_lit 685,ziU)::(nat_lit 686,zgW)::(nat_lit 690,zkh)::(nat_lit 691,zgT)::(nat_lit 697,zk1)::(nat_lit 698,zhQ)::(nat_lit 704,zhL)::(nat_lit 705,zjB)::(nat_lit 707,zid P)::(nat_lit 708,zj5)::(nat_lit 709,zgM)::(nat_lit 710,zkm)::(nat_lit 718,zj1)::(nat_lit 719,zkj)::(nat_lit 725,zgs)::(nat_lit 726,zi0)::(nat_lit 732,zk3)::(nat_lit 733,ziX)::(nat_lit 739,ziD)::(nat_lit 740,ziw)::(nat_lit 744,zhA)::(nat_lit 745,zh3)::(nat_lit 749,zgu)::(nat_lit 750,zhf)::(nat_lit 756,zgY)::(nat_lit 757,zhz)::(nat_lit 763,zgJ)::(nat_lit 764,zhy)::(nat_lit 770,zh5)::(nat_lit 771,zhZ)::[]
noncomputable def Hf:Heap:=⟨Array.mk [boot_o_0 P,boot_o_1 P,boot_o_2 P,o3 P,boot_o_4 P,boot_o_5 P,boot_o_6 P,boot_o_7 P,boot_o_8 P,boot_o_9 P,boot_o_10 P,eT,o12,o13,o14,eT,eQ,o17,eT,o19,o20,o21,o22,o23,o24 P,eT,eQ,o27,o28,eT,o30 P,o31,o32,o33,o34,o35,o36,o37 P,eT,eQ,o40,o41,eT,o43 P,o44,o45,o46,o47,o48,o49 P,eT,eQ,o52,o53,eT,o55 P,o56,o57,o58,o59,o60,o61 P,eT,eQ,o64,o65,eT,o67 P,o68,o69,o70,o71,o72,o73 P,eT,eQ,o76,o77,eT,o79 P,o80,o81,o82,o83,o84,o85 P,eT,eQ,o88,o89,eT,o91 P,o92,o93,o94,o95,o96,o97 P,eT,eQ,zoa,zng,eT,zhp P,zhN,zkB,zl3,zmh,znj,zkA P,eT,eQ,zkX,zns,eT,zjv P,zj2,znD,zmI,znb,znV,znn P,eT,eQ,zo8,znd,eT,zgC P,zhO,zl8,zn0,zlW,znh,znL P,eT,eQ,zo9,zlX,eT,zij P,zjs,znz,zmj,zkK,zlG,zl6 P,eT,eQ,znu,zn4,eT,ziT P,zj0,znX,zlz,zm5,zne,zmQ P,eT,eQ,zmO,zmp,eT,zi7 P,zis,znk,zok,eT,eQ,zmH,eT,znU,zhH,zgO,eT,eQ,zo2,zgH,zhm,eT,eQ,zl2,eT,zkx,zk7,zjY,eT,eQ,zmu,eT,zkY,zjn,zje,eT,eQ,zn6,zlQ,zls,zkg,zgZ,eT,eQ,zmY,eT,zm1,zjk,zhi,eT,eQ,znF,eT,zmi,zhk,zjS,eT,eQ,zm6,zlo,zlj,zgF,zjb,eT,eQ,zlD,eT,zm9,zjp,zjK,eT,eQ,znY,zju,ziE,eT,eQ,znv,eT,zle,zjG,ziW,eT,eQ,zmn,zgE,zko,eT,eQ,zkT,ziq,zk2,eT,eQ,zny,zjP,zk0,eT,eQ,zl0,zh4,zgq,eT,eQ,zl7,zgp,zjx,eT,eQ,zon,eT,zlg,zh9,ziF,eT,eQ,zom,eT,zla,ziC,zhX,eT,eQ,zkM,eT,zkP,ziN,zki,eT,eQ,znH,eT,zn2,zgw,zkf,eT,eQ,zkH,eT,zlp,zhe,zgU,eT,eQ,zlc,eT,znm,zhE,zia,eT,eQ,zmE,eT,zlu,zjT,zhV,eT,eQ,zmD,zo3,zlq,ziR,zgV,eT,eQ,zmr,ziS,zjZ,eT,eQ,zmg,zkC,zlH,zim,zkk,eT,eQ,zmV,zh1,zik,eT,eQ,zmN,eT,znp,ziB,zgo,eT,eQ,znA,eT,znQ,ziZ,zh7,eT,eQ,znw,eT,znR,zic,zjz,eT,eQ,znO,eT,zn7,zhS,zjM,eT,eQ,zln,eT,zkU,zjE,zjf,eT,eQ,zmS,zhq,zkv,eT,eQ,zkZ,eT,zlw,zi4,ziY,eT,eQ,zmJ,eT,zlE,ziv,zj3,eT,eQ,zo6,eT,zkR,zjt,zjH,eT,eQ,znP,zjJ,zji,zii P,ziH,zjo,zkd,zh0,zk6,zgy,zgX,zjL,zk9,zi2,eT,eQ,zkI,zgL,zgt,eT,eQ,znK,eT,zol,zhK,zj6,eT,eQ,zlP,zhu,zhr,eT,eQ,zmd,zjw,zhD,eT,eQ,znG,zhh,zhT,ziV P,eT,eQ,zmR,eT,zmb,ziP,zjC,eT,eQ,zlS,zkr,zhl,eT,eQ,zmf,zgr,zgP,eT,eQ,zmK,zmy,znx,zjh,zj8,eT,eQ,zlm,zhF,zir,eT,eQ,zlM,eT,zo0,zhU,zjl,eT,zkJ,znc P,eT,zni,znN,znt,eT,eQ,zl5,eT,zlx,zja,zhP,eT,eQ,zli,ziI,zh6,eT,eQ,zn5,eT,zlZ,zgK,zil,eT,eQ,zlv,eT,znW,zhb,zgB,eT,eQ,zkG,eT,znC,zi9,zk4,eT,eQ,zky,eT,zlk,zkt,ziO,eT,eQ,zkQ,eT,zmG,zj7,ziQ,eT,eQ,znl,eT,zmZ,zhj,zh8,eT,eQ,zlI,eT,zo7,zhn,ziK,eT,eQ,zog,eT,zmt,zke,zhs,eT,eQ,zll,eT,znr,zif,zkn,eT,eQ,zlV,eT,znq,zjc,zgR,eT,eQ,zme,eT,zmF,zin,zib,eT,eQ,zmC,eT,zmP,zhB,zjX,eT,eQ,zml,eT,zkE,zhI,ziy,eT,eQ,zlb,eT,zoj,zku,zjO,eT,eQ,zlF,eT,zmm,ziJ,zhJ,eT,eQ,zmX,eT,zoc,zio,zgG,eT,eQ,zmT,eT,zn9,zk8,zhY,eT,eQ,zlh,eT,znE,zj9,zjR,eT,eQ,zkW,eT,zms,zhR,zha,eT,eQ,zlU,eT,zmx,zgv,zig,eT,eQ,zlR,eT,znM,zgx,ziu,eT,eQ,zl4,eT,zlO,zgQ,zih,eT,eQ,zoo,eT,zm3,zjU,zho,eT,eQ,zmv,eT,zlf,zhv,zjg,eT,eQ,zlL,eT,zm4,zhc,zjq,eT,eQ,zma,eT,zoe,zjF,zkl,eT,eQ,zmU,eT,zm8,ziU,zgW,eT,eQ,znI,zkh,zgT,eT,eQ,znJ,eT,zn3,zk1,zhQ,eT,eQ,zn8,eT,znB,zhL,zjB,zlN,zid P,zj5,zgM,zkm,zmo,zmz,eT,eQ,zof,eT,zmc,zj1,zkj,eT,eQ,zl9,eT,zo4,zgs,zi0,eT,eQ,zkD,eT,znZ,zk3,ziX,eT,eQ,zkz,eT,zod,ziD,ziw,eT,eQ,zlC,zhA,zh3,eT,eQ,znf,zgu,zhf,eT,eQ,zkS,eT,znS,zgY,zhz,eT,eQ,zna,eT,zlB,zgJ,zhy,eT,eQ,zm7,eT,zkO,zh5,zhZ],(boot_heap P).life⟩
def KA:List Addr:=nat_lit 3::nat_lit 20::nat_lit 21::nat_lit 30::nat_lit 31::nat_lit 32::nat_lit 43::nat_lit 44::nat_lit 55::nat_lit 56::nat_lit 67::nat_lit 68::nat_lit 79::nat_lit 80::nat_lit 91::nat_lit 92::nat_lit 103::nat_lit 104::nat_lit 115::nat_lit 116::nat_lit 127::nat_lit 128::nat_lit 139::nat_lit 140::nat_lit 151::nat_lit 152::nat_lit 163::nat_lit 164::nat_lit 172::nat_lit 173::nat_lit 177::nat_lit 178::nat_lit 184::nat_lit 185::nat_lit 191::nat_lit 192::nat_lit 198::nat_lit 199::nat_lit 205::nat_lit 206::nat_lit 212::nat_lit 213::nat_lit 219::nat_lit 220::nat_lit 226::nat_lit 227::nat_lit 231::nat_lit 232::nat_lit 238::nat_lit 239::nat_lit 243::nat_lit 244::nat_lit 248::nat_lit 249::nat_lit 253::nat_lit 254::nat_lit 258::nat_lit 259::nat_lit 263::nat_lit 264::nat_lit 270::nat_lit 271::nat_lit 277::nat_lit 278::nat_lit 284::nat_lit 285::nat_lit 291::nat_lit 292::nat_lit 298::nat_lit 299::nat_lit 305::nat_lit 306::nat_lit 312::nat_lit 313::nat_lit 319::nat_lit 320::nat_lit 324::nat_lit 325::nat_lit 331::nat_lit 332::nat_lit 336::nat_lit 337::nat_lit 343::nat_lit 344::nat_lit 350::nat_lit 351::nat_lit 357::nat_lit 358::nat_lit 364::nat_lit 365::nat_lit 371::nat_lit 372::nat_lit 376::nat_lit 377::nat_lit 383::nat_lit 384::nat_lit 390::nat_lit 391::nat_lit 397::nat_lit 398::nat_lit 402::nat_lit 403::nat_lit 404::nat_lit 405::nat_lit 406::nat_lit 407::nat_lit 408::nat_lit 409::nat_lit 410::nat_lit 411::nat_lit 412::nat_lit 413::nat_lit 414::nat_lit 418::nat_lit 419::nat_lit 425::nat_lit 426::nat_lit 430::nat_lit 431::nat_lit 435::nat_lit 436::nat_lit 440::nat_lit 441::nat_lit 442::nat_lit 448::nat_lit 449::nat_lit 453::nat_lit 454::nat_lit 458::nat_lit 459::nat_lit 465::nat_lit 466::nat_lit 470::nat_lit 471::nat_lit 477::nat_lit 478::nat_lit 491::nat_lit 492::nat_lit 496::nat_lit 497::nat_lit 503::nat_lit 504::nat_lit 510::nat_lit 511::nat_lit 517::nat_lit 518::nat_lit 524::nat_lit 525::nat_lit 531::nat_lit 532::nat_lit 538::nat_lit 539::nat_lit 545::nat_lit 546::nat_lit 552::nat_lit 553::nat_lit 559::nat_lit 560::nat_lit 566::nat_lit 567::nat_lit 573::nat_lit 574::nat_lit 580::nat_lit 581::nat_lit 587::nat_lit 588::nat_lit 594::nat_lit 595::nat_lit 601::nat_lit 602::nat_lit 608::nat_lit 609::nat_lit 615::nat_lit 616::nat_lit 622::nat_lit 623::nat_lit 629::nat_lit 630::nat_lit 636::nat_lit 637::nat_lit 643::nat_lit 644::nat_lit 650::nat_lit 651::nat_lit 657::nat_lit 658::nat_lit 664::nat_lit 665::nat_lit 671::nat_lit 672::nat_lit 678::nat_lit 679::nat_lit 685::nat_lit 686::nat_lit 690::nat_lit 691::nat_lit 697::nat_lit 698::nat_lit 704::nat_lit 705::nat_lit 707::nat_lit 708::nat_lit 709::nat_lit 710::nat_lit 718::nat_lit 719::nat_lit 725::nat_lit 726::nat_lit 732::nat_lit 733::nat_lit 739::nat_lit 740::nat_lit 744::nat_lit 745::nat_lit 749::nat_lit 750::nat_lit 756::nat_lit 757::nat_lit 763::nat_lit 764::nat_lit 770::nat_lit 771::[]
end Gu
lay_quick PySem.Challenge.pw_guisery_k04_machines_refused
namespace Gu
open PySem PySem.W PyProof.Rows PySem.W.Fast
noncomputable abbrev pY:Program:=PySem.Challenge.pw_guisery_k04_machines_refused
noncomputable abbrev pQ:Program:=tw240326650526858424
noncomputable abbrev tQ:String->Option Builtin:=tw14364793385576792824
def pqe:pY=pQ:=te240326650526858424
def tqe:treeTable=tQ:=te14364793385576792824
set_option maxHeartbeats 0
def zou:∀w os,z8A tQ pQ w 11 (some (.ref 6)) 12 (zcw w os) (topStub pQ)=some ((z1K T1 15 187) w os,⟨denote tQ (cdP pQ (Value.ref 13) 14),cdP pQ (Value.ref 13) 14,⟨0,0,0,0⟩,[topFrame zP]⟩):=fun w os=>by kernel_rfl
def zoM:∀w os,segRunT tQ pQ w 11 (some (.ref 6)) 1 1 ((z1K T1 15 187) w os) (blockOf (behindTheImports pQ) (z8W pQ (Value.ref 13) 14) (cdP pQ (Value.ref 13) 14) ⟨0,0,0,0⟩ [topFrame zP])=some (.next,(z1K T1 15 187) w os,cdP pQ (Value.ref 13) 14,⟨0,0,0,0⟩):=fun w os=>by kernel_rfl
def pc1:z0R tQ pQ (Value.ref 13) 14 0 6 864 (z1K T1 15 187) (z1K T2 71 262) ⟨0,0,0,0⟩ ⟨11,0,12,8⟩:=fun w os=>by kernel_rfl
def pc2:z0R tQ pQ (Value.ref 13) 14 6 4 853 (z1K T2 71 262) (z1K T3 119 326) ⟨11,0,12,8⟩ ⟨19,0,20,8⟩:=fun w os=>by kernel_rfl
def pc3:z0R tQ pQ (Value.ref 13) 14 10 6 891 (z1K T3 119 326) (z1K T4 174 399) ⟨19,0,20,8⟩ ⟨30,0,31,32⟩:=fun w os=>by kernel_rfl
def pc4:z0R tQ pQ (Value.ref 13) 14 16 35 899 (z1K T4 174 399) (z1K T5 352 650) ⟨30,0,31,32⟩ ⟨177,0,177,8⟩:=fun w os=>by kernel_rfl
def pc5:z0R tQ pQ (Value.ref 13) 14 51 31 897 (z1K T5 352 650) (z1K T6 467 872) ⟨177,0,177,8⟩ ⟨273,0,274,73⟩:=zfB (fun w os=>by kernel_rfl) (fun w os=>by kernel_rfl)
def pc6:z0R tQ pQ (Value.ref 13) 14 82 8 111 (z1K T6 467 872) (z1K T7 479 898) ⟨273,0,274,73⟩ ⟨286,0,286,3⟩:=fun w os=>by kernel_rfl
def pc7:z0R tQ pQ (Value.ref 13) 14 90 1 1232 (z1K T7 479 898) (z1K T8 713 1196) ⟨286,0,286,3⟩ ⟨287,0,421,36⟩:=fun w os=>by kernel_rfl
def pc8:z0R tQ pQ (Value.ref 13) 14 91 10 288 (z1K T8 713 1196) (z1K T9 772 1282) ⟨287,0,421,36⟩ ⟨521,0,532,15⟩:=fun w os=>by kernel_rfl
def zp0:∀w os,zfh tQ pQ w 11 (some (.ref 6)) 2 ((z1K T9 772 1282) w os) ⟨doneF .next,cdP pQ (Value.ref 13) 14,⟨521,0,532,15⟩,[topFrame zP]⟩=some ((z1K T9 772 1282) w os):=fun w os=>by kernel_rfl
def zoN:∀w os,z8A treeTable pY w 11 (some (.ref 6)) 12 (zcw w os) (topStub pY)=some ((z1K T1 15 187) w os,⟨denote treeTable (cdP pY (Value.ref 13) 14),cdP pY (Value.ref 13) 14,⟨0,0,0,0⟩,[topFrame zP]⟩):=by rw[tqe,pqe];exact zou
def zoC:∀w os,segRunT treeTable pY w 11 (some (.ref 6)) 1 1 ((z1K T1 15 187) w os) (blockOf (behindTheImports pY) (z8W pY (Value.ref 13) 14) (cdP pY (Value.ref 13) 14) ⟨0,0,0,0⟩ [topFrame zP])=some (.next,(z1K T1 15 187) w os,cdP pY (Value.ref 13) 14,⟨0,0,0,0⟩):=by rw[tqe,pqe];exact zoM
def pY1:z0R treeTable pY (Value.ref 13) 14 0 6 864 (z1K T1 15 187) (z1K T2 71 262) ⟨0,0,0,0⟩ ⟨11,0,12,8⟩:=by rw[tqe,pqe];exact pc1
def pY2:z0R treeTable pY (Value.ref 13) 14 6 4 853 (z1K T2 71 262) (z1K T3 119 326) ⟨11,0,12,8⟩ ⟨19,0,20,8⟩:=by rw[tqe,pqe];exact pc2
def pY3:z0R treeTable pY (Value.ref 13) 14 10 6 891 (z1K T3 119 326) (z1K T4 174 399) ⟨19,0,20,8⟩ ⟨30,0,31,32⟩:=by rw[tqe,pqe];exact pc3
def pY4:z0R treeTable pY (Value.ref 13) 14 16 35 899 (z1K T4 174 399) (z1K T5 352 650) ⟨30,0,31,32⟩ ⟨177,0,177,8⟩:=by rw[tqe,pqe];exact pc4
def pY5:z0R treeTable pY (Value.ref 13) 14 51 31 897 (z1K T5 352 650) (z1K T6 467 872) ⟨177,0,177,8⟩ ⟨273,0,274,73⟩:=by rw[tqe,pqe];exact pc5
def pY6:z0R treeTable pY (Value.ref 13) 14 82 8 111 (z1K T6 467 872) (z1K T7 479 898) ⟨273,0,274,73⟩ ⟨286,0,286,3⟩:=by rw[tqe,pqe];exact pc6
def pY7:z0R treeTable pY (Value.ref 13) 14 90 1 1232 (z1K T7 479 898) (z1K T8 713 1196) ⟨286,0,286,3⟩ ⟨287,0,421,36⟩:=by rw[tqe,pqe];exact pc7
def pY8:z0R treeTable pY (Value.ref 13) 14 91 10 288 (z1K T8 713 1196) (z1K T9 772 1282) ⟨287,0,421,36⟩ ⟨521,0,532,15⟩:=by rw[tqe,pqe];exact pc8
def zpf:∀w os,zfh treeTable pY w 11 (some (.ref 6)) 2 ((z1K T9 772 1282) w os) ⟨doneF .next,cdP pY (Value.ref 13) 14,⟨521,0,532,15⟩,[topFrame zP]⟩=some ((z1K T9 772 1282) w os):=by rw[tqe,pqe];exact zp0
def zoW:(behindTheImports pY).drop 101=[]:=by kernel_rfl
def zpd:∀w os,topRun treeTable pY w 11 (some (.ref 6)) (864+(853+(891+(899+(897+(111+(1232+(288+2)))))))) ((z1K T1 15 187) w os).abs (restOf ((behindTheImports pY).drop 0) (z8W pY (Value.ref 13) 14) (cdP pY (Value.ref 13) 14) ⟨0,0,0,0⟩ [topFrame zP])=some ((z1K T9 772 1282) w os).abs:=fun w os=>by
 have z:=zag _ _ _ _ (zpf w os);have z0:topRun treeTable pY w 11 (some (.ref 6)) 2 ((z1K T9 772 1282) w os).abs (restOf ((behindTheImports pY).drop 101) (z8W pY (Value.ref 13) 14) (cdP pY (Value.ref 13) 14) ⟨521,0,532,15⟩ [topFrame zP])=some ((z1K T9 772 1282) w os).abs:=by rw[zoW];exact piece_nil z
 have z1:=z0R.app pY8 z0;have z2:=z0R.app pY7 z1;have z3:=z0R.app pY6 z2;have z4:=z0R.app pY5 z3;have z5:=z0R.app pY4 z4;have z6:=z0R.app pY3 z5;have z7:=z0R.app pY2 z6;have z8:=z0R.app pY1 z7;exact z8
noncomputable abbrev rY:OpenRow:=PySem.Challenge.rw_guisery_k04_machines_refused.row
noncomputable def viewOf(p:Program):Program:={ p with main:={ p.main with body:=[0,2,3,4,5,6,7,8,9,10,11,12,13,15,16,17,18,20,21,22,23,24,25,26,27,28,29,30,31,32,34,35,36,37,38,39,40,41,43,44,45,46,47,48,49,51,52,54,55,56,58,59,60,61,62,63,64,66,67,68,69,70,71,72,73,74,75,76,78,79,80,81,82,83,85,86,87,88,89,90,92,93,94,95,96,97,98,99,100].map fun i=>p.main.body.getD i (.Pass ⟨0,0,0,0⟩) } }
def looseY:List Str:=["order_crews","floor_floors","DEEDS","WRITERS"]
noncomputable abbrev HK:Hook:=PySem.W.kmHook Gu.KH Gu.KA (fun _=>by kernel_rfl) [194,461]
def hfY:∀P,absHeap (T9 P) 772 (boot_heap P).life=Hf P:=fun P=>by kernel_rfl
def lk0:∀(w:World)(os:OsState),(staticsOk (tw5923862056798008813 pQ.main.body) (boot_heap w.params) (Hf w.params)&&namesBound pQ (Hf w.params)&&gensDone (⟨Hf w.params,Array.mk [],boot_drawn,1282,os⟩:Shared)&&laidKept (boot_heap w.params) (Hf w.params))=true:=fun w os=>by kernel_rfl
def lk1:∀(w:World)(os:OsState),HK.obs (⟨Hf w.params,Array.mk [],boot_drawn,1282,os⟩:Shared)=HK.val w:=fun w os=>by kernel_rfl
noncomputable abbrev qV:Program:=viewOf pQ
noncomputable abbrev sV(w:World)(os:OsState):Shared:=(⟨Hf w.params,Array.mk [],boot_drawn,1282,os⟩:Shared)
def ls0:∀(w:World)(os:OsState),PyProof.Rows.seen ((recsOf qV).map (·.name)) (ownsOf qV) [] { sV w os with gens:=#[] }=expectedOf qV:=fun w os=>by kernel_rfl
def ls1:∀(w:World)(os:OsState),(sV w os).heap.bltView=bltViewBooted:=fun w os=>by kernel_rfl
def ls2:∀(w:World)(os:OsState),((sV w os).heap.keysOk (looseW qV looseY) ((recsOf qV).map (·.name)) ((litsOf qV).map (·.1)) ((clssOf qV (looseW qV looseY)).map (·.name))&&(sV w os).heap.accountedOkI (tw5923862056798008813 pQ.main.body)&&(sV w os).heap.isNs mainGlobals&&(sV w os).heap.isNs builtinsNs&&tablesOk qV (sV w os).heap&&(xlAt qV [] (sV w os)&&recOk [] (sV w os))&&(if true then(sV w os).gens.size==0 else !leftWithCleanup (sV w os).gens))=true:=fun w os=>by kernel_rfl
def ls3:∀(w:World)(os:OsState),tabsOk qV (sV w os)=true:=fun w os=>by kernel_rfl
def ls4:∀(w:World)(os:OsState),pinSeenD qV (drecsOf qV) (sV w os)=pinGoodD (drecsOf qV):=fun w os=>by kernel_rfl
def ls5:∀(w:World)(os:OsState),plainSeenE qV (looseW qV looseY) (sV w os)=plainGoodE qV (looseW qV looseY):=fun w os=>by kernel_rfl
def ls6:∀(w:World)(os:OsState),plainSeenD qV looseY (sV w os)=plainGoodD qV looseY:=fun w os=>by kernel_rfl
def ls7:∀(w:World)(os:OsState),wideSeen qV (sV w os)=wideGood qV:=fun w os=>by kernel_rfl
def ls8:∀(w:World)(os:OsState),clsSeenW qV looseY (sV w os)=clsGoodW qV looseY:=fun w os=>by kernel_rfl
def zf8:∀(w:World)(os:OsState),((staticsOk (tw5923862056798008813 pQ.main.body) (boot_heap w.params) (Hf w.params)&&namesBound pQ (Hf w.params)&&gensDone (⟨Hf w.params,Array.mk [],boot_drawn,1282,os⟩:Shared)&&laidKept (boot_heap w.params) (Hf w.params)),openSeen qV looseY (tw5923862056798008813 pQ.main.body) (fun s=>xlAt qV [] s&&recOk [] s) true (sV w os),HK.obs (⟨Hf w.params,Array.mk [],boot_drawn,1282,os⟩:Shared))=(true,openGood qV looseY,HK.val w):=fun w os=>by rw[lk0,lk1];unfold openSeen openGood;rw[ls0,ls1,ls2,ls3,ls4,ls5,ls6,ls7,ls8]
def left:LeftO rY.prog (viewOf pY) looseY (fun s=>xlAt (viewOf pY) [] s&&recOk (RowW.records rY.toRowW) s) HK.obs HK.val 12180:=by have h:=zf8;rw[<-te5923862056798008813,<-pqe]at h;exact z7v (by kernel_rfl) (by rfl) (fun _=>rfl) rfl hfY zoN zoC zpd (by decide +kernel) h
end Gu
namespace L2
open PySem PySem.Spec PyProof.Rows
def z0m(cells:List (Str × Addr)):List (Str × NameKind)->List (Str × Addr)->List (Str × Addr)
 |[],cs=>cs
 | (n,k)::r,cs=>z0m cells r (if k=.free then(n,(cells.lookup n).getD 0)::cs else cs)
theorem z1N{cells:List (Str × Addr)}:∀(l:List (Str × NameKind))(cs:List (Str × Addr))(x:Str),(∀y,(y,NameKind.free)∈l->∃c,cells.lookup y=some c)->((x,NameKind.free)∈l\/cs.lookup x=cells.lookup x)->(z0m cells l cs).lookup x=cells.lookup x
 |[],cs,x,_,h=>by
  rcases h with h|h
  .cases h
  .exact h
 | (n,k)::r,cs,x,hc,h=>by
  refine z1N r _ x (fun y hy=>hc y (y0f _ hy)) ?_;by_cases hk:k=.free
  .subst hk;rw[if_pos rfl];by_cases e:x=n
   .subst e;obtain⟨c,hcx⟩:=hc x y0z;right;rw[y0Q,hcx];simp
   .rcases h with h|h
    .rcases y0o.mp h with h|h
     .exact absurd (y1n Prod.fst h) e
     .exact .inl h
    .right;have:(x==n)=false:=by simpa using e
     rw[y0Q,this];exact h
  .rw[if_neg hk];rcases h with h|h
   .rcases y0o.mp h with h|h
    .exact absurd (y1n Prod.snd h).symm hk
    .exact .inl h
   .exact .inr h
theorem z3r{cells:List (Str × Addr)}:∀(l:List (Str × NameKind))(cs:List (Str × Addr))(x:Str),(x,NameKind.free)∉l->(z0m cells l cs).lookup x=cs.lookup x
 |[],cs,x,_=>rfl
 | (n,k)::r,cs,x,h=>by
  refine(z3r r _ x (fun hy=>h (y0f _ hy))).trans ?_;by_cases hk:k=.free
  .subst hk;rw[if_pos rfl];have e:x≠n:=fun e=>h (by subst e;exact y0z);have:(x==n)=false:=by simpa using e
   rw[y0Q,this]
  .rw[if_neg hk]
def z1f{scope:Scope}{env:Env}(h:∀y,(y,NameKind.free)∈scope.names->∃c,env.cells.lookup y=some c):closureFor scope env=pure (z0m env.cells scope.names []):=by
 have key:∀(l:List (Str × NameKind))(cs:List (Str × Addr)),(∀y,(y,NameKind.free)∈l->∃c,env.cells.lookup y=some c) ->
   (forIn l cs (fun(x:Str × NameKind)(r:List (Str × Addr))=>if(x.2==NameKind.free)=true then(do let c <-cellOf env x.1;pure (ForInStep.yield ((x.1,c)::r)):Sem _)else pure (ForInStep.yield r)):Sem (List (Str × Addr)))=pure (z0m env.cells l cs):=by
  intro l;induction l with
  |nil=>intro cs _;rfl
  |cons x r ih =>
   intro cs hc;obtain⟨n,k⟩:=x;rw[y2N];by_cases hk:k=.free
   .subst hk;obtain⟨c,e⟩:=hc n y0z;have e1:cellOf env n=pure c:=by unfold cellOf;rw[e]
    have e2:z0m env.cells ((n,NameKind.free)::r) cs=z0m env.cells r ((n,c)::cs):=by show z0m env.cells r (if NameKind.free=NameKind.free then(n,(env.cells.lookup n).getD 0)::cs else cs)=_;rw[if_pos rfl,e];all_goals rfl
    rw[e2,<-ih _ (fun y hy=>hc y (y0f _ hy))];simp only[beq_self_eq_true,if_true,e1];rfl
   .have hb:(k==NameKind.free)=false:=by simpa using hk
    have e2:z0m env.cells ((n,k)::r) cs=z0m env.cells r cs:=by show z0m env.cells r (if k=NameKind.free then _ else cs)=_;rw[if_neg hk]
    rw[e2,<-ih _ (fun y hy=>hc y (y0f _ hy))];simp only[hb,y0Y,if_false];rfl
 have:=key scope.names [] h;unfold closureFor;simp only[]at this⊢;exact(y1n (fun m=>m>>=pure) this).trans rfl
def noE:yyE:=fun _ _=>False
section
variable{prog:Program}{w:World}{A:Around}{R:Result->Shared->Prop}{s:Shared}
def z8T{elt tg iter:Expr}{scope:Scope}{pos:Pos}{it acc:Value}{env:Env}(I:Nat->Shared->Prop)
  (z4N:∀n s,I n s->wpAny (model prog w) A (pyNext it) (fun r s1=>match r with
   |none=>R (.ok .next) s1
   |some v=>wpAny (model prog w) A (letOwnedTupleGo tg it v) (fun _ s2=>wpAny (model prog w) A (assign tg env v) (fun _ s3=>wpAny (model prog w) A (eval elt env) (fun x s4 =>
     wpAny (model prog w) A (call (.builtin "list.append") [acc,x]) (fun _ s5=>∃m,m<n/\I m s5) noE s4) noE s3) noE s2) noE s1) noE s)
  (n:Nat) (h:I n s):codeAny (model prog w) A (.compLoop (.ListComp elt [⟨tg,iter,[],0⟩] scope pos) 0 it acc env) R s:=by
 have no:∀(P:yyE)(a:Value)(b:Shared),noE a b->P a b:=fun _ _ _ z=>False.elim z;refine codeAny_loop rfl I (fun n s hI=>?_) n h;show wpAny _ _ ((compTurn (.ListComp elt [⟨tg,iter,[],0⟩] scope pos) 0 it acc env).onRaise
  (fun x=>do noteFrame x env;theTreesLotGoes x)) _ _ s
 refine wpAny_noted ?_;rw[compTurn_list1];refine y02 (y1w (y02 (y0B (z4N n s hI) (fun r s1 h1=>?_) (no _))));cases r with
 |none=>exact y07 h1
 |some v =>
  refine y02 (y0B h1 (fun _ s2 h2=>?_) (no _));refine y02 (y0B h2 (fun _ s3 h3=>?_) (no _));refine y02 (y02 (y0B h3 (fun x s4 h4=>?_) (no _)));exact y02 (y0B h4 (fun _ s5 h5=>y07 (y07 ⟨rfl,h5⟩)) (no _))
end
def zeA(env:Env)(p:Str × NameKind):Str × NameKind:=if(p.2==NameKind.free&&env.scope.kind == .function&&env.kindOf p.1==some .cell)=true then(p.1,NameKind.cell)else p
def z8c{env:Env}{p:Str × NameKind}(h:(p.2==NameKind.free&&env.scope.kind == .function&&env.kindOf p.1==some .cell)=true):zeA env p=(p.1,NameKind.cell):=if_pos h
def z8i{env:Env}{p:Str × NameKind}(h:¬(p.2==NameKind.free&&env.scope.kind == .function&&env.kindOf p.1==some .cell)=true):zeA env p=p:=if_neg h
theorem z1S{env:Env}{x:Str}:∀{l:List (Str × NameKind)},l.lookup x=some .free->(l.map (zeA env)).lookup x=some .cell\/(l.map (zeA env)).lookup x=some .free
 |[],h=>by simp at h
 | (n,k)::r,h=>by
  rw[y0i];by_cases hc:(k==NameKind.free&&env.scope.kind == .function&&env.kindOf n==some .cell)=true
  .rw[z8c (p:=(n,k)) hc];cases hx:x==n with
   |true=>left;rw[y0Q,hx]
   |false =>
    rw[y0Q,hx]at h;rw[y0Q,hx];exact z1S h
  .rw[z8i (p:=(n,k)) hc];cases hx:x==n with
   |true=>right;rw[y0Q,hx]at h;rw[y0Q,hx];exact h
   |false =>
    rw[y0Q,hx]at h;rw[y0Q,hx];exact z1S h
theorem z2G{env:Env}{x:Str}{kd:NameKind}(hkd:kd=.cell\/kd=.free):∀{l:List (Str × NameKind)},(∀y∈l,y.2≠.cell)->(l.map (zeA env)).lookup x=some kd->(x,NameKind.free)∈l
 |[],_,h=>by simp at h
 | (n,k)::r,hn,h=>by
  rw[y0i]at h;have hk:k≠.cell:=hn (n,k) y0z;have up:(r.map (zeA env)).lookup x=some kd->(x,NameKind.free)∈(n,k)::r:=fun h2=>y0f _ (z2G hkd (fun y hy=>hn y (y0f _ hy)) h2);by_cases hc:(k==NameKind.free&&env.scope.kind == .function&&env.kindOf n==some .cell)=true
  .rw[z8c (p:=(n,k)) hc]at h;cases hx:x==n with
   |true =>
    have hxn:x=n:=by simpa using hx
    subst hxn;have z:=hc;simp only[y13,y1M]at z;rw[z.1.1];exact y0z
   |false=>rw[y0Q,hx]at h;exact up h
  .rw[z8i (p:=(n,k)) hc]at h;cases hx:x==n with
   |true =>
    have hxn:x=n:=by simpa using hx
    subst hxn;rw[y0Q,hx]at h;have e:k=kd:=y0d h;rcases hkd with z|z
    .exact absurd (e.trans z) hk
    .rw[e,z];exact y0z
   |false=>rw[y0Q,hx]at h;exact up h
def z0q(X:Cx)(N:List Str)(scope:Scope)(cl:List (Str × Addr))(C:Addr)(ex:List Addr)(s:Shared)(H:Hp):Cx where
 prog:=X.prog
 w:=X.w
 K:=X.K
 mg:=X.mg
 base:=X.base
 A:=X.A
 N:=N
 s₀:=s
 H₀:=H
 env:=compEnvC scope cl C X.env
 outer:=X.stack
 stack:=X.stack
 ex:=ex
 fn:=fun _=>false
 calm:=X.calm
 pn:=[]
 xe:=noE
structure z0X(XN:List Str)(xsc:Scope)(N:List Str)(ix:List (Option Nat))(scope:Scope):Prop where
 kind:scope.kind=.function:=by rfl
 nocell:∀y∈scope.names,y.2≠.cell:=by decide +kernel
 names:∀y∈scope.names,y.2=.local->scope.names.lookup y.1=some .local:=by decide +kernel
 frees:∀y∈scope.names,y.2=.free->xsc.names.lookup y.1=some .cell\/xsc.names.lookup y.1=some .free:=by decide +kernel
 len:ix.length=N.length:=by rfl
 has:((ix.zip N).all fun p=>match p.1 with|none=>true|some j=>XN[j]?==some p.2&&scope.names.lookup p.2==some .free)=true:=by decide +kernel
 nd:N.Nodup:=by decide +kernel
def z0L(ix:List (Option Nat))(σ:St):St:=ix.map fun o=>o.bind fun j=>(σ[j]?).join
def z0X.at_{XN:List Str}{xsc:Scope}{N:List Str}{ix:List (Option Nat)}{scope:Scope}(S:z0X XN xsc N ix scope){i:Nat}{x:Str}{v:V}{σ:St}(hi:N[i]?=some x)(hv:(z0L ix σ)[i]?=some (some v)) : ∃j:Nat,XN[j]?=some x/\scope.names.lookup x=some .free/\σ[j]?=some (some v):=by
 unfold z0L at hv;rw[y08]at hv;cases e:ix[i]? with
 |none=>rw[e]at hv;cases hv
 |some o =>
  rw[e]at hv;cases o with
  |none=>cases hv
  |some j =>
   have hv':(σ[j]?).join=some v:=y0d hv;have hm:((some j:Option Nat),x)∈ix.zip N:=by
    have:(ix.zip N)[i]?=some (some j,x):=by rw[y1b];exact⟨e,hi⟩
    exact y0O this
   have q:=y2b.mp S.has _ hm;simp only[y13,y1M]at q;refine⟨j,q.1,q.2,?_⟩;cases z:σ[j]? with
   |none=>rw[z]at hv';cases hv'
   |some u=>rw[z]at hv';exact y1n some hv'
section
variable{X:Cx}{pins:yyP}{σ:St}{H:Hp}{s s1:Shared}{N:List Str}{ix:List (Option Nat)}{scope:Scope}{fp:List Addr}{C:Addr}
def z0D(I:Inv X pins σ H s)(S:z0X X.N X.env.scope N ix scope):∀y,(y,NameKind.free)∈scope.names->∃c,X.env.cells.lookup y=some c:=fun y hy=>I.ok.has y (S.frees _ hy rfl)
def z1r(I:Inv X pins σ H s)(S:z0X X.N X.env.scope N ix scope){x:Str}{c:Addr}(h:(z0m X.env.cells scope.names []).lookup x=some c):X.env.cells.lookup x=some c:=by
 by_cases hm:(x,NameKind.free)∈scope.names
 .rw[<-z1N scope.names [] x (z0D I S) (.inl hm)];exact h
 .rw[z3r scope.names [] x hm]at h;cases h
def z5E(I:Inv X pins σ H s)(S:z0X X.N X.env.scope N ix scope)(hC:C=s.heap.objs.size)(hf:∀b∈fp,z43 X pins H b)(hfl:∀b∈fp,b<s.heap.objs.size){h1:Heap}{m:yyS}{tk:Nat}(hn:h1.Ns C m)(hk:∀b o,s.heap.get? b=some o->h1.get? b=some o) : Inv (z0q X N scope (z0m X.env.cells scope.names []) C fp s H) [] (z0L ix σ) H { s with heap:=h1,toks:=tk }:=by
 have hne:∀{b:Addr}{o:Obj},X.base.get? b=some o->b∉fp:=fun{b o} e hb=>by
  obtain⟨_,_,_,hx,_⟩:=hf b hb;rcases hx with hx|hx
  .exact I.ok.noex b o e hx
  .exact absurd (y0h (y0b (I.ok.bs b o e).1) hx) (y1c _)
 refine⟨⟨I.ok.mod,S.kind,I.ok.glob,I.ok.blt,Nat.le_of_eq hC.symm,?_,?_,?_,I.ok.hd,I.ok.frames,.inl rfl,?_,I.bs,y0w I.ok.bsz I.sz,fun b o e=>hne e,?_,I.stack,I.stkFree⟩,
  rfl,I.bare,Un.kept hk,⟨m,hn,?_⟩,?_,I.hok.fresh (Nat.le_of_eq hC.symm),?_,fun p hp=>absurd (show p∈([]:yyP)from hp) (by simp),I.hok.kept hk,?_⟩
 .intro x y c h1 h2;exact I.ok.inj x y c (z1r I S h1) (z1r I S h2)
 .intro x hx;have hm:(x,NameKind.free)∈scope.names:=by
   rcases hx with hx|hx
   .exact z2G (.inl rfl) S.nocell hx
   .exact z2G (.inr rfl) S.nocell hx
  obtain⟨c,e⟩:=z0D I S x hm;exact⟨c,(z1N scope.names [] x (z0D I S) (.inl hm)).trans e⟩
 .intro x c hx;cases hx
 .intro b hb;obtain⟨_,_,_,_,f4,_⟩:=hf b hb;refine⟨fun e=>?_,fun x c e=>f4 x c (z1r I S e)⟩;have z:=hfl b hb;have e':b=C:=e;rw[e',hC]at z;exact y1c _ z
 .intro b hb hb2;obtain⟨_,f1,f2,_⟩:=hf b hb;exact(y0o.mp (I.stkSub b hb2)).elim f1 f2
 .intro i x v e1 e2 e3;obtain⟨j,g1,g2,g3⟩:=S.at_ e1 e2;have hm:(x,NameKind.free)∈scope.names:=y0T g2;have hk2:=S.frees _ hm rfl;obtain⟨m0,hn0,hl0⟩:=id I.loc;obtain⟨u,r,l⟩:=hl0 j x v g1 g3 (hk2.elim (fun z=>.inr (.inl z)) (fun z=>.inr (.inr z)));refine⟨u,r,.inr ⟨z1S g2,?_⟩⟩;rcases l with⟨k,_⟩|⟨k,c,e,z⟩
  .have k':X.env.scope.names.lookup x=some .local:=k;rcases hk2 with z|z<;>(rw[k']at z;cases z)
  .refine⟨c,(z1N scope.names [] x (z0D I S) (.inl hm)).trans e,?_⟩;obtain⟨o,ho,hd⟩:=z;exact⟨o,hk _ _ ho,hd⟩
 .intro x c e;obtain⟨v,o,ho,hd⟩:=I.cell x c (z1r I S e);exact⟨v,o,hk _ _ ho,hd⟩
 .intro x c e;exact I.freeC x c (z1r I S e)
 .unfold z0L;rw[y00];exact S.len
end
def z6I(ix:List (Option Nat))(J:It)(g:TG)(te:TE)(σ:St)(l:Addr)(H0:Hp)(Qe:Hp->Prop):Prop :=
 ∃W:Nat->Nat->List V->Hp->Prop,(∃m,W 0 m [] H0)/\∀i m ys H,W i m ys H->H l=some (.lst ys) ->
  (J.stop i H/\Qe H)\/(J.go i H/\ys.length<sizeLine/\∃N:List V->Hp->Prop,(∀zs H',N zs H'->∃m',m'<m/\W (i+1) m' zs H')/\∀x H',J.yld i H x H'->g x (z0L ix σ) H' fun σ2 H2=>te σ2 H2 fun v H3 =>
   H3 l=some (.lst ys)/\N (ys++[v]) (upd H3 l (.lst (ys++[v]))))
def zeU(ix:List (Option Nat))(wi:TI)(g:TG)(te:TE):TE:=fun σ H Q=>wi σ H fun J H1=>∀l,H1 l=none->z6I ix J g te σ l (upd H1 l (.lst [])) fun H'=>Q (.ref l) H'
section
variable{X:Cx}{pins:yyP}{σ:St}{H:Hp}{s:Shared}{N:List Str}{ix:List (Option Nat)}{scope:Scope}{elt iter tg:Expr}{pos:Pos}{g:TG}{te:TE}{E:yyE}
def z3I{C:Addr}{fp:List Addr}{pins':yyP}{σ':St}{Hc:Hp}{s':Shared}(I:Inv X pins σ H s)(S:z0X X.N X.env.scope N ix scope)(J:Inv (z0q X N scope (z0m X.env.cells scope.names []) C fp s H) pins' σ' Hc s'):Inv (z0q X N scope (z0m X.env.cells scope.names []) C fp s H) [] (z0L ix σ) Hc s':=by
 obtain⟨m,hn,_⟩:=J.loc;refine⟨J.ok,J.os,J.bare,J.base,⟨m,hn,?_⟩,J.cell,J.free,J.freeC,fun p hp=>absurd (show p∈([]:yyP)from hp) (by simp),J.hok,?_⟩
 .intro i x v e1 e2 e3;obtain⟨j,g1,g2,g3⟩:=S.at_ e1 e2;have hm:(x,NameKind.free)∈scope.names:=y0T g2;have hk2:=S.frees _ hm rfl;obtain⟨m0,hn0,hl0⟩:=id I.loc;obtain⟨u,r,l⟩:=hl0 j x v g1 g3 (hk2.elim (fun z=>.inr (.inl z)) (fun z=>.inr (.inr z)));refine⟨u,r,.inr ⟨z1S g2,?_⟩⟩;rcases l with⟨k,_⟩|⟨k,c,e,z⟩
  .have k':X.env.scope.names.lookup x=some .local:=k;rcases hk2 with z|z<;>(rw[k']at z;cases z)
  .have ec:(z0m X.env.cells scope.names []).lookup x=some c:=(z1N scope.names [] x (z0D I S) (.inl hm)).trans e;refine⟨c,ec,?_⟩;obtain⟨o,ho,hd⟩:=z;obtain⟨sl,q⟩:=J.base.any ho (I.freeC x c e) (fun hx=>(J.ok.exf c hx).2 x c ec rfl);exact⟨_,q,hd⟩
 .unfold z0L;rw[y00];exact S.len
def z53{it:Addr}{fp:List Addr}{tn:Nat->Heap->Prop}{J:It}{Qe:Addr->Hp->Prop}{RR:Value->Addr->Result->Shared->Prop}(hc:X.calm=true)(S:z0X X.N X.env.scope N ix scope)(hg:∀cl C ex s H,PG (z0q X N scope cl C ex s H) tg g)(he:∀cl C ex s H,PE (z0q X N scope cl C ex s H) elt te)(I:Inv X pins σ H s)(T:z9b X.prog X.w X.K tg J fp it tn)(st:tn 0 s.heap)(hf:∀b∈fp,z43 X pins H b)(hw:∀l,H l=none->z6I ix J g te σ l (upd H l (.lst [])) (Qe l))(hRR:∀l C s' H' m,s'.heap.Ns C m->Inv X pins σ H' s'->z43 X pins H' C->Qe l H'->RR (.ref l) C (.ok .next) s') : wpAny (model X.prog X.w) X.A (newList []) (fun acc s3=>wpAny (model X.prog X.w) X.A (newFunctionEnv scope X.env.globals (z0m X.env.cells scope.names []) [] X.env.qual none .none (some X.env)) (fun cenv s4 => codeAny (model X.prog X.w) X.A (.compStart (.ListComp elt [⟨tg,iter,[],0⟩] scope pos) 0 (.ref it) acc { cenv with scope:=relabel scope X.env }) (RR acc cenv.locals) s4) E s3) E s:=by
 have hlt:∀b∈fp,b<s.heap.objs.size:=fun b hb=>by obtain⟨o,e,_⟩:=T.obj 0 s.heap st b hb;exact y0b e
 have hl0:H s.heap.objs.size=none:=I.fresh;obtain⟨W,⟨m0,w0⟩,z4N⟩:=hw s.heap.objs.size hl0;refine y0P ?_;generalize hs3:({ s with heap:=s.heap.push { cls:=.type "list",dict:=none,data:=.seq ([]:List Value).toArray } }:Shared)=s3;have I3:Inv X pins σ (upd H s.heap.objs.size (.lst [])) s3:=by rw[<-hs3];exact I.lnew (its:=[]) (t':=s.toks) .nil (y0t _)
 have k3:∀b o,s.heap.get? b=some o->s3.heap.get? b=some o:=fun b o e=>by rw[<-hs3];exact y03 _ e
 have sz3:s3.heap.objs.size=s.heap.objs.size+1:=by rw[<-hs3];exact y1g ..
 have lnfp:s.heap.objs.size∉fp:=fun hb=>y1c _ (hlt _ hb);have st3:tn 0 s3.heap:=T.keep 0 _ _ st fun b _ o e=>k3 b o e;have hf3:∀b∈fp,z43 X pins (upd H s.heap.objs.size (.lst [])) b:=fun b hb=>by obtain⟨f0,f⟩:=hf b hb;have nb:b≠s.heap.objs.size:=fun e=>lnfp (by rw[<-e];exact hb);exact⟨by rw[z04 nb];exact f0,f⟩
 have hlt3:∀b∈fp,b<s3.heap.objs.size:=fun b hb=>by rw[sz3];exact y2w (hlt b hb)
 clear hs3;refine y28 S.nocell (by intro y hy;simp at hy) (fun h1 hn1 hb1=>?_) S.kind;have hk1:∀b o,s3.heap.get? b=some o->h1.get? b=some o:=fun b o e =>
  (hb1.2 b (y0q (y0b e))).trans (y03 _ e)
 have J0:Inv (z0q X N scope (z0m X.env.cells scope.names []) s3.heap.objs.size fp s3 (upd H s.heap.objs.size (.lst []))) [] (z0L ix σ) (upd H s.heap.objs.size (.lst [])) { s3 with heap:=h1,toks:=s3.toks+([]:List (Str × Value)).length } :=
  z5E I3 S rfl hf3 hlt3 hn1 hk1
 have st1:tn 0 h1:=T.keep 0 _ _ st3 fun b _ o e=>hk1 b o e;have fpY:∀{Hc:Hp},(∀b∈fp,Hc b=none)->∀b∈fp,z43 (z0q X N scope (z0m X.env.cells scope.names []) s3.heap.objs.size fp s3 (upd H s.heap.objs.size (.lst []))) [] Hc b:=fun{Hc} hn b hb=>by obtain⟨_,f1,f2,_,f4,_⟩:=hf3 b hb;refine⟨hn b hb,y0q (hlt3 b hb),fun hb2=>(y0o.mp (I3.stkSub b hb2)).elim f1 f2,.inl hb,fun x c e=>f4 x c (z1r I3 S e),fun p hp=>absurd (show p∈([]:yyP)from hp) (by simp)⟩
 have loop:∀s4:Shared,s4=({ s3 with heap:=h1,toks:=s3.toks+([]:List (Str × Value)).length }:Shared)->codeAny (model X.prog X.w) X.A (.compLoop (.ListComp elt [⟨tg,iter,[],0⟩] scope pos) 0 (.ref it) (.ref s.heap.objs.size)
   (compEnvC scope (z0m X.env.cells scope.names []) s3.heap.objs.size X.env)) (RR (.ref s.heap.objs.size) s3.heap.objs.size) s4:=by
  intro s4 hs4;subst hs4;refine z8T (fun n s'=>∃i ys Hc,Inv (z0q X N scope (z0m X.env.cells scope.names []) s3.heap.objs.size fp s3 (upd H s.heap.objs.size (.lst []))) [] (z0L ix σ) Hc s'/\tn i s'.heap/\(∀b∈fp,Hc b=none)/\Hc s.heap.objs.size=some (.lst ys)/\W i n ys Hc) ?_ m0 ⟨0,[],_,J0,st1,fun b hb=>(hf3 b hb).1,z01,w0⟩;rintro n s5 ⟨i,ys,Hc,J5,st5,fr5,hl5,w5⟩;rcases z4N i n ys Hc w5 hl5 with⟨stop,qe⟩|⟨go,hz,NN,hNN,step⟩
  .refine thn (T.done (z0q X N scope (z0m X.env.cells scope.names []) s3.heap.objs.size fp s3 (upd H s.heap.objs.size (.lst []))) rfl rfl rfl hc i [] s5 _ Hc noE J5 (fpY fr5) st5 stop) fun r s6 hz8=>?_;obtain⟨hr,J6⟩:=hz8;subst hr;have I6:Inv X pins σ Hc s6:=I3.call' (ch:=fp) J6.os J6.base J6.hok J6.bare fun b hb=>by
    obtain⟨_,f1,f2,f3,f4,f5⟩:=hf3 b hb;exact⟨f3,f1,f4,f5⟩
   obtain⟨m6,hn6,_⟩:=J6.loc;exact hRR _ _ s6 Hc m6 hn6 I6 (I3.fpOk (y0a _) J6.free) qe
  .refine thn (T.item (z0q X N scope (z0m X.env.cells scope.names []) s3.heap.objs.size fp s3 (upd H s.heap.objs.size (.lst []))) rfl rfl rfl hc i [] s5 _ Hc noE J5 (fpY fr5) st5 go) fun r s6 hz8=>?_;obtain⟨u,hr,h6⟩:=hz8;subst hr;refine thn h6 fun _ s7 hz8=>?_;obtain⟨x,H7,J7,r7,y7,st7,fr7⟩:=hz8;have J7':=J7.pinned (fpY fr7) (T.obj _ _ st7);refine thn (hg _ _ _ _ _ _ s7 _ H7 x u _ J7' r7 (step x H7 y7)) fun _ s8 hz8=>?_;obtain⟨σ8,H8,J8,q8⟩:=hz8;refine z1w (he _ _ _ _ _ _ s8 σ8 H8 _ J8 q8) fun y s9 v H9 J9 r9 hz9=>?_;obtain⟨hl9,n9⟩:=hz9;obtain⟨m',hm',w9⟩:=hNN _ _ n9;refine thn (z0H (X:=z0q X N scope (z0m X.env.cells scope.names []) s3.heap.objs.size fp s3 (upd H s.heap.objs.size (.lst []))) _ s9 σ8 H9 (.ref s.heap.objs.size) [v] (.ref s.heap.objs.size) [y]
    (fun z Hz=>z=.non/\Hz=upd H9 s.heap.objs.size (.lst (ys++[v]))) J9 rfl (.cons r9 .nil) ⟨_,ys,v,rfl,rfl,hl9,hz,rfl,rfl⟩) fun _ s10 ⟨_,H10,J10,_,_,e10⟩=>?_
   subst e10;have len8:(z0L ix σ).length=σ8.length:=by rw[J10.len];unfold z0L;rw[y00];exact S.len
   refine⟨m',hm',i+1,ys++[v],_,?_,T.keep _ _ _ st7 fun b hb o e=>(J10.pin (b,o) (y0c _ (y0c _ (z0F hb e)))).1,fun b hb=>?_,z01,w9⟩
   .exact z3I I3 S J10
   .obtain⟨o,e,d⟩:=T.obj _ _ st7 b hb;exact(J10.pin (b,o) (y0c _ (y0c _ (z0F hb e)))).2.1
 exact codeAny_compStart_list (loop _ rfl) (T.self _ 0 _ _ _ st1 (loop _ rfl))
def z1a{wi:TI}(hc:X.calm=true)(S:z0X X.N X.env.scope N ix scope)(hi:PI X tg iter wi)(hg:∀cl C ex s H,PG (z0q X N scope cl C ex s H) tg g)(he:∀cl C ex s H,PE (z0q X N scope cl C ex s H) elt te)(hs:∀x,foldedSetIterable iter X.env x=pure x:=by intro _;rfl):PE X (.ListComp elt [⟨tg,iter,[],0⟩] scope pos) (zeU ix wi g te):=by intro pins s σ H Q I h;rw[eval_ListComp];refine y1O (use:=none) rfl hs (z1f (z0D I S)) S.kind S.names (thn (hi pins s σ H _ I h) fun v s1 h1=>thn h1 fun itv s2 h2=>?_);obtain⟨it,fp,tn,J,H2,e,I2,T,st2,f2,hw⟩:=h2;subst e;refine z53 (RR:=fun acc C=>compPost (model X.prog X.w) X.A X.xe none (EP X pins σ Q) acc C) hc S hg he I2 T st2 f2 hw fun l C s' H' m hn I' fC q=>⟨m,hn,fun h' hs'=>?_⟩;obtain⟨c0,c1,_,c3,c4,c5⟩:=fC;exact⟨.ref l,H',I'.turned (t':=s'.toks) (fun b o hb e=>(hs'.2 b hb).trans e) c0 c1 c3 c4 c5,rfl,q⟩
def zaa{wi:TI}{i:Nat}{x:Str}{spos pos':Pos}(hc:X.calm=true)(S:z0X X.N X.env.scope N ix scope)(hi:PI X tg iter wi)(hg:∀cl C ex s H,PG (z0q X N scope cl C ex s H) tg g)(he:∀cl C ex s H,PE (z0q X N scope cl C ex s H) elt te)(hN:X.N.Nodup)(hx:X.N[i]?=some x)(hl:X.env.scope.names.lookup x=some .local)(hsw:swapsWith (.ListComp elt [⟨tg,iter,[],0⟩] scope pos) (some (.Name x pos')) spos.line X.env=pure true:=by rfl)(hs:∀x,foldedSetIterable iter X.env x=pure x:=by intro _;rfl):PS X (.Assign [.Name x pos'] (.ListComp elt [⟨tg,iter,[],0⟩] scope pos) spos) (zfF (zeU ix wi g te) (z9G i)):=by
 intro pins s σ H D I h;rw[exec_Assign_Name_used _ _ _ _ hsw];refine y02 (y1w (y02 ?_));show wpAny _ _ (comprehension (.ListComp elt [⟨tg,iter,[],0⟩] scope pos) scope X.env _ (newList []) false (eval iter X.env) (some (assign (.Name x pos') X.env))>>=fun _=>pure ()) _ _ s;refine y02 (y0B (y1O (use:=some (assign (.Name x pos') X.env)) (Q:=fun _ s'=>SP X pins D .next s') rfl hs (z1f (z0D I S)) S.kind S.names
  (thn (hi pins s σ H _ I h) fun v s1 h1=>thn h1 fun itv s2 h2=>?_)) (fun _ s' q=>y07 (y07 q)) fun _ _ e=>e)
 obtain⟨it,fp,tn,J,H2,e,I2,T,st2,f2,hw⟩:=h2;subst e;refine z53 (RR:=fun acc C=>compPost (model X.prog X.w) X.A X.xe (some (assign (.Name x pos') X.env)) (fun _ s'=>SP X pins D .next s') acc C) hc S hg he I2 T st2 f2 hw fun l C s' H' m hn I' fC q=>?_;obtain⟨c0,c1,c2,c3,c4,c5⟩:=fC;show wpAny _ _ (assign (.Name x pos') X.env (.ref l)) _ _ _;refine wpAny_assign_Name (z4g I' hN hx (.inl hl) (v:=.ref l) rfl (fun s'' I'' hz8=>?_) (.inr hl));obtain⟨a,sb,ha⟩:=hz8;have haC:C≠a:=by
  rcases ha with ha|ha
  .rw[ha];exact c1
  .exact fun z=>c4 x a ha z.symm
 refine⟨m,hn.sameBut sb haC,fun h' hs'=>?_⟩;exact⟨_,H',I''.turned (t':=s''.toks) (fun b o hb e=>(hs'.2 b hb).trans e) c0 c1 c3 c4 c5,q⟩
end
def z4H{J:It}{n:Nat}{l:Addr}{ix:List (Option Nat)}{g:TG}{te:TE}{σ:St}{H0:Hp}{Qe:Hp->Prop}(Pv:Nat->List V->Hp->Prop)(h0:Pv 0 [] H0)(hs:∀i ys H,i<n->Pv i ys H->H l=some (.lst ys)->J.go i H/\ys.length<sizeLine/\∀x H',J.yld i H x H'->g x (z0L ix σ) H' fun σ2 H2=>te σ2 H2 fun v H3=>H3 l=some (.lst ys)/\Pv (i+1) (ys++[v]) (upd H3 l (.lst (ys++[v]))))(hd:∀ys H,Pv n ys H->H l=some (.lst ys)->J.stop n H/\Qe H):z6I ix J g te σ l H0 Qe:=by
 refine⟨fun i m ys H=>m=n-i/\i<=n/\Pv i ys H,⟨n,by simp,y0t _,h0⟩,?_⟩;rintro i m ys H ⟨rfl,hi,p⟩ hl;by_cases hlt:i<n
 .obtain⟨h1,h2,h3⟩:=hs i ys H hlt p hl;exact .inr ⟨h1,h2,Pv (i+1),fun zs H' q=>⟨n-(i+1),by lia,rfl,hlt,q⟩,h3⟩
 .have e:i=n:=by lia
  subst e;exact .inl (hd ys H p hl)
def z2v{K:yyF}{a l:Addr}{xs:List V}{ix:List (Option Nat)}{g:TG}{te:TE}{σ:St}{H0:Hp}{Qe:Hp->Prop}(Pv:Nat->List V->Hp->Prop)(h0:Pv 0 [] H0)(hl:∀i ys H,i<=xs.length->Pv i ys H->SqL K H a xs)(hz:xs.length<=sizeLine)(hn:∀i ys H,Pv i ys H->ys.length=i)(hs:∀i x ys H,xs[i]?=some x->Pv i ys H->H l=some (.lst ys)->g x (z0L ix σ) H fun σ2 H2=>te σ2 H2 fun v H3=>H3 l=some (.lst ys)/\Pv (i+1) (ys++[v]) (upd H3 l (.lst (ys++[v]))))(hd:∀ys H,Pv xs.length ys H->H l=some (.lst ys)->Qe H):z6I ix (Itl K a) g te σ l H0 Qe:=by refine z4H (n:=xs.length) Pv h0 (fun i ys H hi p hy=>?_) fun ys H p hy=>⟨⟨xs,hl _ ys H (y0a _) p,y0a _⟩,hd ys H p hy⟩;have q:=hl i ys H (y1y hi) p;refine⟨⟨xs,xs[i],q,by simp[hi]⟩,by rw[hn i ys H p];exact y0h hi hz,fun x H' y=>?_⟩;obtain⟨e,y⟩:=y;subst e;exact hs i x ys _ (y xs q) p hy
def z1U{K:yyF}{a l:Addr}{xs:List V}{ix:List (Option Nat)}{g:TG}{te:TE}{σ:St}{H0:Hp}{Qe:Hp->Prop}(Pv:Nat->List V->Hp->Prop)(h0:Pv 0 [] H0)(hl:∀i ys H,i<=xs.length->Pv i ys H->SqT K H a xs)(hz:xs.length<=sizeLine)(hn:∀i ys H,Pv i ys H->ys.length=i)(hs:∀i x ys H,xs[i]?=some x->Pv i ys H->H l=some (.lst ys)->g x (z0L ix σ) H fun σ2 H2=>te σ2 H2 fun v H3=>H3 l=some (.lst ys)/\Pv (i+1) (ys++[v]) (upd H3 l (.lst (ys++[v]))))(hd:∀ys H,Pv xs.length ys H->H l=some (.lst ys)->Qe H):z6I ix (Itt K a) g te σ l H0 Qe:=by refine z4H (n:=xs.length) Pv h0 (fun i ys H hi p hy=>?_) fun ys H p hy=>⟨⟨xs,hl _ ys H (y0a _) p,y0a _⟩,hd ys H p hy⟩;have q:=hl i ys H (y1y hi) p;refine⟨⟨xs,xs[i],q,by simp[hi]⟩,by rw[hn i ys H p];exact y0h hi hz,fun x H' y=>?_⟩;obtain⟨e,y⟩:=y;subst e;exact hs i x ys _ (y xs q) p hy
def z3C{lo:Int}{n:Nat}{l:Addr}{ix:List (Option Nat)}{g:TG}{te:TE}{σ:St}{H0:Hp}{Qe:Hp->Prop}(Pv:Nat->List V->Hp->Prop)(h0:Pv 0 [] H0)(hz:n<=sizeLine)(hn:∀i ys H,Pv i ys H->ys.length=i)(hs:∀i ys H,i<n->Pv i ys H->H l=some (.lst ys)->g (.int (lo+i)) (z0L ix σ) H fun σ2 H2=>te σ2 H2 fun v H3=>H3 l=some (.lst ys)/\Pv (i+1) (ys++[v]) (upd H3 l (.lst (ys++[v]))))(hd:∀ys H,Pv n ys H->H l=some (.lst ys)->Qe H):z6I ix (Itr lo n) g te σ l H0 Qe:=by refine z4H (n:=n) Pv h0 (fun i ys H hi p hy=>⟨hi,by rw[hn i ys H p];exact y0h hi hz,fun x H' y=>?_⟩) fun ys H p hy=>⟨y0a _,hd ys H p hy⟩;obtain⟨e,y⟩:=y;subst e y;exact hs i ys _ hi p hy
open PySem.AutoSeq1 (wpAny_loadPart')
def zbu(lo:Int)(n:Nat):List V:=(List.range n).map fun i=>V.int (lo+(i:Nat))
def z4u(lo:Int)(n:Nat):(zbu lo n).length=n:=by unfold zbu;simp
def z3i{lo c:Int}{acc:Array Value}{n:Nat}(hc:c=1)(h:ItemsOf (fun i v=>∃t,v=.int (lo+i*c) t) acc n):z0J (zbu lo n) acc.toList:=by
 subst hc;obtain⟨hs,hi⟩:=h;have key:∀(k:Nat)(i:Nat),i+k=n->z0J (((List.range n).drop i).map fun j=>V.int (lo+(j:Nat))) (acc.toList.drop i):=by
  intro k;induction k with
  |zero =>
   intro i hk;rw[List.drop_of_length_le (by simp;lia),List.drop_of_length_le (by simp;lia)];exact .nil
  |succ k ih =>
   intro i hk;have h1:i<acc.size:=by lia
   have e1:(List.range n).drop i=i::(List.range n).drop (i+1):=by rw[List.drop_eq_getElem_cons (by simp;lia)];simp
   have e2:acc.toList.drop i=acc[i]::acc.toList.drop (i+1):=by rw[List.drop_eq_getElem_cons (by simpa using h1)];simp
   rw[e1,e2,y0i];refine .cons ?_ (ih (i+1) (by lia));obtain⟨t,e⟩:=hi i acc[i] (by simp[h1]);exact⟨t,by rw[e,Int.mul_one]⟩
 have:=key n 0 (by lia);simpa[zbu]using this
section
variable{X:Cx}
def z3d:z1s X (.type "range") (fun xs H Q=>∃j:Int,xs=[.int j]/\-(2^62)<=j/\j<2^62/\∀p,H p=none->Q (.ref p) (upd H p (.rng 0 j))):=by intro pins s σ H xs us Q I r h;obtain⟨j,rfl,h1,h2,q⟩:=h;obtain⟨u,rfl,ru⟩:=z2E r;obtain⟨t,rfl⟩:=ru;refine call_range_1 ?_;exact⟨.ref s.heap.objs.size,upd H s.heap.objs.size (.rng 0 j),I.laid (o:=.rng 0 j) (fun b u e=>y03 _ e) (y0a _) ⟨_,_,_,y09 _ rfl⟩,rfl,q _ I.fresh⟩
theorem Inv.rng{pins:yyP}{σ:St}{H:Hp}{s:Shared}{p:Addr}{lo hi:Int}(I:Inv X pins σ H s)(h:H p=some (.rng lo hi)):∃t u v,IsRange s.heap p lo hi 1 t u v:=by obtain⟨t,u,v,e⟩:=I.hok p _ h;exact⟨t,u,v,e⟩
def z7W{lo hi:Int}:Builtin.Range.rangeSize lo hi 1=(((hi-lo).toNat:Nat):Int):=by rw[rangeSize_one];split<;>lia
def z2f(hc:X.calm=true):z1s X (.type "list") (fun xs H Q=>∃p lo hi,xs=[.ref p]/\H p=some (.rng lo hi)/\(-(2^62)<=lo/\lo<2^62/\-(2^62)<=hi/\hi<2^62)/\(hi-lo).toNat<=2^24 /\ ∀l,H l=none->Q (.ref l) (upd H l (.lst (zbu lo (hi-lo).toNat)))):=by intro pins s σ H xs us Q I r h;obtain⟨p,lo,hi,rfl,hp,⟨b1,b2,b3,b4⟩,hn,q⟩:=h;obtain⟨u,rfl,ru⟩:=z2E r;cases ru;obtain⟨t,u,v,hr⟩:=I.rng hp;refine call_list_range (I.ok.hd hc) hr (small_one b1 b2 b3 b4) z7W hn fun h' tk acc c' hk hl hacc=>?_;have hv:=z3i rfl hacc;exact⟨.ref _,_,I.laid (o:=.lst (zbu lo (hi-lo).toNat)) (fun b u e=>hk b u e) (y0a _) ⟨by rw[z4u,y2d];lia,acc.toList,c',hv,by simpa using hl⟩,rfl,q _ I.fresh⟩
end
section
variable{prog:Program}{w:World}{A:Around}{E:yyE}{s:Shared}
def z7s{Q:List Value->Shared->Prop}{r:Addr}{a b c:Int}{t u v:Tok}{n:Nat}(hh:A.handled=none)(hr:IsRange s.heap r a b c t u v)(hsmall:Builtin.Range.small a b c=true)(hn:Builtin.Range.rangeSize a b c=n)(hlen:n<=2^24)(hQ:∀h' tk acc,(∀b o,s.heap.get? b=some o->h'.get? b=some o)->s.heap.objs.size<=h'.objs.size->ItemsOf (fun i v=>∃t,v=.int (a+i*c) t) acc n->Q acc.toList { s with heap:=h',toks:=tk }) : wpAny (model prog w) A (collect (.ref r)) Q E s:=by
 unfold collect;refine y02 (wpAny_runValue (codeAny_builtin F.entry_proto_collect ?_));rw[Around.under_plainId F.plain_proto_collect _];show wpAny _ A.in1 (newList []>>=fun l =>
  again (.builtin "list.__iadd__" ⟨[l,.ref r],[]⟩)) _ _ s
 refine y02 (y0P ?_);refine y07 ⟨plainId_quiet F.plain_list_iadd _,codeAny_builtin F.entry_list_iadd ?_⟩;rw[Around.under_plainId F.plain_list_iadd _];show wpAny _ A.in1 (Builtin.List.listExtendWith (.ref s.heap.objs.size) (.ref r)
  (.ref s.heap.objs.size)) _ _ _
 have hS:(s.heap.push { cls:=.type "list",data:=.seq ([]:List Value).toArray }).get? s.heap.objs.size=some
  { cls:=.type "list",data:=.seq #[] 0 }:=y09 _ rfl
 have fin':∀(h':Heap) (tk:Nat) (acc:Array Value) (c':Nat),(∀b o,b≠s.heap.objs.size->(s.heap.push { cls:=.type "list",data:=.seq ([]:List Value).toArray }).get? b=some o->h'.get? b=some o) ->
   h'.get? s.heap.objs.size=some { cls:=.type "list",dict:=none,data:=.seq acc c',slots:=#[] }->ItemsOf (fun i v=>∃t,v=.int (a+i*c) t) acc n ->
   wpAny (model prog w) A (match Value.ref s.heap.objs.size with
    |Value.ref a=>do
     match (<-load a).data with
      |Data.seq xs _=>pure xs.toList
      |_=>unsupported "internal:collect"
    |_=>unsupported "internal:collect") Q E { s with heap:=h',toks:=tk }:=fun h' tk acc c' hk hS' hacc=>by
  show wpAny _ A (load s.heap.objs.size>>=_) _ _ _;refine y02 (wpAny_load hS' (y07 ?_));exact hQ h' tk acc (fun b o e=>hk b o (y0q (y0b e)) (y03 _ e)) (y1y (y0b hS')) hacc
 refine y0B (wpAny_extend_range (A:=A) (R:=fun r s'=>r=.ok (.ret (.ref s.heap.objs.size))/\wpAny (model prog w) A (match Value.ref s.heap.objs.size with
    |Value.ref a=>do
     match (<-load a).data with
      |Data.seq xs _=>pure xs.toList
      |_=>unsupported "internal:collect"
    |_=>unsupported "internal:collect") Q E s') (s:={ s with heap:=s.heap.push { cls:=.type "list",data:=.seq ([]:List Value).toArray } }) hh (y03 _ hr) hsmall hn hlen _ (.ref s.heap.objs.size) 0 hS
  fun h' tk acc c' hk hS' hacc=>⟨rfl,fin' h' tk acc c' hk hS' hacc⟩) (fun fin s' h=>?_) (fun e s' h=>?_)
 .cases fin with
  |done f =>
   obtain⟨e,h⟩:=h;cases e;exact h
  |again c'=>exact⟨h.1,y2f h.2 fun r s'' hr=>by obtain⟨rfl,h2⟩:=hr;exact h2⟩
 .exact absurd h.1 (by simp)
end
def z4E(r:Addr){a b c:Int}{t u v:Tok}{n:Nat}(hsmall:Builtin.Range.small a b c=true)(hn:Builtin.Range.rangeSize a b c=n)(hlen:n<=2^24) : Meets (Builtin.«tuple.__new__» ⟨[.type "tuple",.ref r],[]⟩) (fun A R s=>A.handled=none/\IsRange s.heap r a b c t u v/\∀(h':Heap) (tk:Nat) (acc:Array Value),(∀b o,s.heap.get? b=some o->h'.get? b=some o)->s.heap.objs.size<=h'.objs.size->ItemsOf (fun i v=>∃t,v=.int (a+i*c) t) acc n -> R (.ok (.ret (.ref h'.objs.size))) { s with heap:=h'.push { cls:=.type "tuple",data:=.seq acc },toks:=tk }) :=
 .of_wp fun prog w A R s h=>by
  obtain⟨hh,hr,h⟩:=h;have hsub:=sub_tuple_self;have hinit:=init_tuple_lookup;have hmh:=madeHere_tuple;have hT:s.TypeIs (.ref r) "range":=⟨_,hr,rfl⟩;have hh1:A.in1.handled=none:=hh
  wp_walk using wpAny_typeOf hT,z7s hh1 hr hsmall hn hlen
  intro h' tk acc hk hz hacc;show wpAny _ _ (Builtin.Tuple.tupleExact acc.toList.toArray >>=
   fun v=>ret v) _ _ _
  unfold Builtin.Tuple.tupleExact;refine y02 (y0P ?_ (show acc.toList.toArray.size<=sizeLine by simp only[Array.toArray_toList];rw[hacc.1,y2d];lia));refine y07 ⟨_,rfl,?_⟩;have e:acc.toList.toArray=acc:=by simp
  rw[e];exact h h' tk acc hk hz hacc
section
variable{X:Cx}
def z2N(hc:X.calm=true):z1s X (.type "tuple") (fun xs H Q=>∃p lo hi,xs=[.ref p]/\H p=some (.rng lo hi)/\(-(2^62)<=lo/\lo<2^62/\-(2^62)<=hi/\hi<2^62)/\(hi-lo).toNat<=2^24 /\ ∀l,H l=none->Q (.ref l) (upd H l (.tup (zbu lo (hi-lo).toNat)))):=by
 intro pins s σ H xs us Q I r h;obtain⟨p,lo,hi,rfl,hp,⟨b1,b2,b3,b4⟩,hn,q⟩:=h;obtain⟨u,rfl,ru⟩:=z2E r;cases ru;obtain⟨t,u,v,hr⟩:=I.rng hp;refine callType_new F.called_tuple (by decide) (F.typeCall_tuple_1 _) (F.newCall_tuple_1 _) (fun obj=>F.args_object_init_2 obj _) F.entry_tuple_new
  (z4E p (t:=t) (u:=u) (v:=v) (small_one b1 b2 b3 b4) z7W hn) ⟨I.ok.hd hc,hr,fun h' tk acc hk hz hacc=>⟨⟨_,y09 _ rfl,rfl⟩,?_⟩⟩
 have hv:=z3i rfl hacc;have hf:H h'.objs.size=none:=I.hok.fresh hz;refine⟨.ref _,_,I.laid (o:=.tup (zbu lo (hi-lo).toNat)) (fun b u e=>y03 _ (hk b u e)) hz ⟨by rw[z4u,y2d];lia,acc.toList,0,hv,by rw[show acc.toList.toArray=acc by simp];exact y09 _ rfl⟩,rfl,q _ hf⟩
end
section
variable{X:Cx}
def z4y{prog:Program}{w:World}{A:Around}{its:Array Value}{bs:List Bool}(r:z0J (bs.map V.bl) its.toList):TruthOf prog w A (fun i v=>its[i]?=some v) (fun i=>bs.getD i false):=by
 intro i v s Q E hi hq;have hl:=r.length;rw[y00]at hl;have hlt:i<bs.length:=by
  have:i<its.size:=by
   rcases Nat.lt_or_ge i its.size with z|z
   .exact z
   .rw[y2t z]at hi;cases hi
  simp at hl;lia
 have h1:(bs.map V.bl)[i]?=some (.bl bs[i]):=by simp[hlt]
 obtain⟨u,hu,ru⟩:=r.get h1;have:u=v:=by
  have e:its.toList[i]?=some v:=by simpa using hi
  rw[e]at hu;exact(y0d hu).symm
 subst this;cases ru;refine y17 ?_;have e:bs.getD i false=bs[i]:=by simp[hlt]
 have hq':Q (bs.getD i false) s:=hq;rw[e]at hq';exact hq'
def z9o{n:Nat}{bs:List Bool}(h:bs.length=n):(List.range n).all (fun i=>bs.getD i false)=bs.all id:=by
 subst h;rw[y1L,y2b,y2b];constructor
 .intro h b hb;obtain⟨i,hi,e⟩:=y1f hb;have:=h i (by simpa using hi);simp[hi,e]at this;exact this
 .intro h i hi;have hi:i<bs.length:=by simpa using hi
  have:=h bs[i] (y0n hi);simp[hi];exact this
def zay{n:Nat}{bs:List Bool}(h:bs.length=n):(List.range n).any (fun i=>bs.getD i false)=bs.any id:=by
 subst h;rw[y1L,y2G,y2G];constructor
 .rintro⟨i,hi,e⟩;have hi:i<bs.length:=by simpa using hi
  refine⟨bs[i],y0n hi,?_⟩;simp[hi]at e;exact e
 .rintro⟨b,hb,e⟩;obtain⟨i,hi,e'⟩:=y1f hb;refine⟨i,by simpa using hi,?_⟩;simp[hi,e'];exact e
def zcI(hc:X.calm=true):z1s X (.builtin "all") (fun xs H Q=>∃(p:Addr) (bs:List Bool),xs=[.ref p]/\SqL X.K H p (bs.map V.bl)/\Q (.bl (bs.all id)) H):=by
 intro pins s σ H xs us Q I r h;obtain⟨p,bs,rfl,hp,q⟩:=h;obtain⟨u,rfl,ru⟩:=z2E r;cases ru;obtain⟨its,rv,pl,hz⟩:=I.list hp;have hlt:p<s.heap.objs.size:=by obtain⟨o,n,e,_⟩:=pl;exact y0b e
 have hl:=rv.length;rw[y00]at hl;refine call_all_walk (wpAny_pyIter_list pl.isList ?_);refine⟨s.heap.objs.size,_,_,_,_,_,fun i=>bs.getD i false,rfl,Walks.list (A:=X.A.in1) (show X.A.in1.handled=none from I.ok.hd hc) s.heap.objs.size p (y0q hlt) its.toArray,⟨⟨_,y09 _ rfl,rfl,rfl⟩,Heap.IsList.push pl.isList _⟩,z4y (by simpa using rv),fun h' tk hk=>?_⟩;rw[z9o (by simpa using hl)];exact⟨.bl _,H,I.kept (t':=tk) (fun b o e=>hk b o (by simpa using(y0q (y0b e))) (y03 _ e)),rfl,q⟩
def zcN(hc:X.calm=true):z1s X (.builtin "any") (fun xs H Q=>∃(p:Addr) (bs:List Bool),xs=[.ref p]/\SqL X.K H p (bs.map V.bl)/\Q (.bl (bs.any id)) H):=by
 intro pins s σ H xs us Q I r h;obtain⟨p,bs,rfl,hp,q⟩:=h;obtain⟨u,rfl,ru⟩:=z2E r;cases ru;obtain⟨its,rv,pl,hz⟩:=I.list hp;have hlt:p<s.heap.objs.size:=by obtain⟨o,n,e,_⟩:=pl;exact y0b e
 have hl:=rv.length;rw[y00]at hl;refine call_any_walk (wpAny_pyIter_list pl.isList ?_);refine⟨s.heap.objs.size,_,_,_,_,_,fun i=>bs.getD i false,rfl,Walks.list (A:=X.A.in1) (show X.A.in1.handled=none from I.ok.hd hc) s.heap.objs.size p (y0q hlt) its.toArray,⟨⟨_,y09 _ rfl,rfl,rfl⟩,Heap.IsList.push pl.isList _⟩,z4y (by simpa using rv),fun h' tk hk=>?_⟩;rw[zay (by simpa using hl)];exact⟨.bl _,H,I.kept (t':=tk) (fun b o e=>hk b o (by simpa using(y0q (y0b e))) (y03 _ e)),rfl,q⟩
end
open PySem.AutoSeq1 (wpAny_loadPart')
section
variable{prog:Program}{w:World}{A:Around}{E:yyE}{s:Shared}
def z5y{it t:Addr}{i:Nat}{its:Array Value}{x:Value}{Q:yyE}(hit:s.heap.IsTupleIter it t i)(ht:s.heap.IsTuple t its)(hx:its[i]?=some x)(hQ:∀h',h'.IsTupleIter it t (i+1)->Heap.SameBut it s.heap h'->Q x { s with heap:=h' }):wpAny (model prog w) A (Builtin.SmallTypes.nextOf (.ref it)) Q E s:=by
 obtain⟨o,ho,hc,hd⟩:=id hit;obtain⟨ol,hol,_,nl,hdl⟩:=ht;unfold Builtin.SmallTypes.nextOf;refine y02 (y11 (name:=Str.ofString "__next__") hit.typeIs y1E
  (y1d y1E hit.typeIs F.entry_tuple_iterator_next ?_
   (F.args_tuple_iterator_next_1 _)))
 show wpAny _ _ (field (.ref it) 0>>=_) _ _ s;refine y02 (y1j ho hd (x:=.ref t) rfl ?_);show wpAny _ _ (if(Value.ref t==Value.none)=true
  then _ else _) _ _ s
 rw[if_neg (show ¬((Value.ref t==Value.none)=true)
  from y0u)]
 show wpAny _ _ (field (.ref it) 1>>=_) _ _ s;refine y02 (y1j ho hd (x:=.int i 0) rfl ?_);show wpAny _ _ (seqItems? (.ref t)>>=_) _ _ s;refine y02 (y1J hol hdl ?_);simp only[y2u,hx];refine y02 (wpAny_setField ho hd (by simp) (y07
  ⟨x,rfl,y07 (hQ _ ?_ (Heap.SameBut.update ..))⟩))
 exact⟨_,Heap.get?_update_self _ ho (Obj.isFreed_of_fields (Obj.data_mapFields hd _)),
  (Obj.cls_mapFields ..).trans hc,by rw[Obj.data_mapFields hd];simp[rawInt]⟩
def z6J{it t:Addr}{i:Nat}{its:Array Value}{Q:yyE}(hh:A.handled=none)(hit:s.heap.IsTupleIter it t i)(ht:s.heap.IsTuple t its)(hx:its[i]?=none)(hE:∀h' e,Heap.ExtBut it s.heap h'->(∃o,h'.get? e=some o/\o.cls=.type "StopIteration")->E (.ref e) { s with heap:=h' }):wpAny (model prog w) A (Builtin.SmallTypes.nextOf (.ref it)) Q E s:=by
 obtain⟨o,ho,hc,hd⟩:=id hit;obtain⟨ol,hol,_,nl,hdl⟩:=ht;unfold Builtin.SmallTypes.nextOf;refine y02 (y11 (name:=Str.ofString "__next__") hit.typeIs y1E
  (y1d y1E hit.typeIs F.entry_tuple_iterator_next ?_
   (F.args_tuple_iterator_next_1 _)))
 show wpAny _ _ (field (.ref it) 0>>=_) _ _ s;refine y02 (y1j ho hd (x:=.ref t) rfl ?_);show wpAny _ _ (if(Value.ref t==Value.none)=true
  then _ else _) _ _ s
 rw[if_neg (show ¬((Value.ref t==Value.none)=true)
  from y0u)]
 show wpAny _ _ (field (.ref it) 1>>=_) _ _ s;refine y02 (y1j ho hd (x:=.int i 0) rfl ?_);show wpAny _ _ (seqItems? (.ref t)>>=_) _ _ s;refine y02 (y1J hol hdl ?_);simp only[y2u,hx];refine y02 (wpAny_rule (y02 (wpAny_setField ho hd (by simp) ?_)));show wpAny _ _ (newExc (.type "StopIteration") []>>=_) _ _ _;refine y02 ?_;simp only[newExc,newTuple];refine y02 (y0P ?_ (by size_fits));refine y02 (m:=firstArgMember _ _) (wpAny_of_eq (a:=Value.none)
  (by first|rfl|(simp only[firstArgMember];rfl)) ?_)
 refine y0P ?_ (by size_fits);simp only[raiseNew];refine y02 (wpAny_handled ?_);first|rw[show A.in1.handled=none from hh]|rw[hh]
 refine y02 (y07 (wpAny_throw ?_));exact hE _ _ (((Heap.SameBut.update ..).extBut.push _).push _)
  ⟨_,y09 _ rfl,rfl⟩
def z4h(hh:A.handled=none)(it t:Addr)(hne:t≠it)(its:Array Value):Draws prog w A it [it,t] its.size (fun i v=>its[i]?=some v) (fun i h=>h.IsTupleIter it t i/\h.IsTuple t its) where
 live:=fun i h st=>by obtain⟨⟨o,e,_⟩,_⟩:=st;exact⟨o,e⟩
 frame:=fun i h h' st hk=>by obtain⟨⟨o,e,c⟩,⟨o2,e2,c2⟩⟩:=st;exact⟨⟨o,hk it (by simp) _ e,c⟩,⟨o2,hk t (by simp) _ e2,c2⟩⟩
 item:=fun i s Q E hi st hQ=>by refine z5y st.1 st.2 (x:=its[i]) (by simp[hi]) fun h' hit' hs'=>?_;obtain⟨o2,e2,c2⟩:=st.2;exact hQ _ h' s.toks (by simp[hi]) ⟨hit',⟨o2,(hs'.2 t hne).trans e2,c2⟩⟩ hs'
 done:=fun s Q E st hE=>z6J hh st.1 st.2 (by simp) hE
end
def Inv.turnedNew{X:Cx}{pins:yyP}{σ:St}{H:Hp}{s:Shared}{ch:List Addr}{p:Addr}{o:HO}{h':Heap}{t':Nat}(I:Inv X pins σ H s)(k:∀b u,b∉ch->s.heap.get? b=some u->h'.get? b=some u)(hp:s.heap.objs.size<=p)(new:z1d X.prog X.w (upd H p o) h' p o)(hf:∀b∈ch,z43 X pins H b):Inv X pins σ (upd H p o) { s with heap:=h',toks:=t' }:=by
 have hn:H p=none:=I.hok.fresh hp;have nc:∀b u,H b=some u->b∉ch:=fun b u e z=>by rw[(hf b z).1]at e;cases e
 refine I.step (g':=s.gens) (d':=s.drawn) (ch:=ch) (fun b hb=>?_) (fun b u _ _ hc e _=>k b u hc e) (fun b u _ _ hc e _=>⟨u.slots,k b u hc e⟩) (fun b u _ e n=>?_) (fun b u hc e=>⟨u,k b u hc e⟩)
  (fun b xs e=>?_) (fun b u xs e=>?_) (fun b ps e=>⟨#[],?_⟩) (fun m hm=>?_) (fun b u e=>?_) I.bare
 .obtain⟨_,f1,_,f3,f4,f5⟩:=hf b hb;exact⟨f3,f1,f4,f5⟩
 .rw[z04 (y0q (y0h (y0b e) hp))];exact n
 .rw[z04 (z09 e hn)];exact e
 .rw[z04 (z09 e hn)];exact e
 .rw[z04 (z09 e hn),e];simp
 .obtain⟨ob,es,ep,ho,r⟩:=hm;exact⟨ob,es,ep,k _ ob (fun z=>(hf _ z).2.1 rfl) ho,r⟩
 .by_cases hb:b=p
  .subst hb;rw[z01]at e;cases e;exact new
  .rw[z04 hb]at e;refine(I.hok b u e).stay (fun c v hc q=>k c v ?_ q) (fun c q=>by rw[z04 (z09 q hn)];exact q) fun c xs q=>by rw[z04 (z09 q hn)];exact q
   rcases hc with z|z
   .rw[z];exact nc b u e
   .exact nc c _ z
def Inv.turnedL{X:Cx}{pins:yyP}{σ:St}{H:Hp}{s:Shared}{ch:List Addr}{h':Heap}{t':Nat}(I:Inv X pins σ H s)(k:∀b u,b∉ch->s.heap.get? b=some u->h'.get? b=some u)(hf:∀b∈ch,z43 X pins H b):Inv X pins σ H { s with heap:=h',toks:=t' }:=by
 have nc:∀b u,H b=some u->b∉ch:=fun b u e z=>by rw[(hf b z).1]at e;cases e
 refine I.step (g':=s.gens) (d':=s.drawn) (ch:=ch) (fun b hb=>?_) (fun b u _ _ hc e _=>k b u hc e) (fun b u _ _ hc e _=>⟨u.slots,k b u hc e⟩) (fun b u _ e n=>n) (fun b u hc e=>⟨u,k b u hc e⟩)
  (fun b xs e=>e) (fun b u xs e=>e) (fun b ps e=>⟨#[],by rw[e];simp⟩) (fun m hm=>?_) (fun b u e=>?_) I.bare
 .obtain⟨_,f1,_,f3,f4,f5⟩:=hf b hb;exact⟨f3,f1,f4,f5⟩
 .obtain⟨ob,es,ep,ho,r⟩:=hm;exact⟨ob,es,ep,k _ ob (fun z=>(hf _ z).2.1 rfl) ho,r⟩
 .refine(I.hok b u e).stay (fun c v hc q=>k c v ?_ q) (fun c q=>q) fun c xs q=>q;rcases hc with z|z
  .rw[z];exact nc b u e
  .exact nc c _ z
section
variable{X:Cx}{elts:List Expr}{tk:Nat}{tp:Pos}
def Itz(K:yyF)(a b:Addr):It :=
 ⟨fun i H=>∃xs ys x y,SqL K H a xs/\SqL K H b ys/\xs[i]?=some x/\ys[i]?=some y,
  fun i H v H'=>∃p x y,v=.ref p/\H p=none/\(∀xs,SqL K H a xs->xs[i]?=some x)/\(∀ys,SqL K H b ys->ys[i]?=some y)/\H'=upd H p (.tup [x,y]),
  fun i H=>∃xs ys,SqL K H a xs/\SqL K H b ys/\(xs.length<=i\/ys.length<=i)⟩
def z1V{h:Heap}{a b:Addr}{o u:Obj}{x y:String}(ha:h.get? a=some o)(hb:h.get? b=some u)(hx:o.cls=.type x)(hy:u.cls=.type y)(hxy:x≠y):a≠b:=by intro e;subst e;rw[ha]at hb;cases hb;rw[hx]at hy;injection hy with hy;exact hxy hy
def zbW{P:Program}{w:World}{K:yyF}(a b z TI TO i1 i2:Addr)(D:TI≠z/\TO≠z/\i1≠z/\i2≠z/\TI≠TO/\TI≠i1/\TI≠i2/\TO≠i1/\TO≠i2/\i1≠i2) : z9b P w K (.Tuple elts tk tp) (Itz K a b) [z,TI,TO,i1,i2] z (fun i h=>IsZip h z TI TO .none/\IsPair h TI (.ref i1) (.ref i2)/\(∃u v,IsPair h TO u v)/\h.IsListIter i1 a i/\h.IsListIter i2 b i) where
 mem:=by simp
 obj:=fun i h st c hc=>by
  obtain⟨hz,hTI,⟨u,v,hTO⟩,⟨o1,e1,c1,d1⟩,⟨o2,e2,c2,d2⟩⟩:=st;simp at hc;rcases hc with q|q|q|q|q
  .rw[q];exact⟨_,hz,fun v z=>by cases z⟩
  .rw[q];exact⟨_,hTI,fun v z=>by cases z⟩
  .rw[q];exact⟨_,hTO,fun v z=>by cases z⟩
  .rw[q];exact⟨_,e1,fun v z=>by rw[d1]at z;cases z⟩
  .rw[q];exact⟨_,e2,fun v z=>by rw[d2]at z;cases z⟩
 keep:=fun i h h' st k=>by obtain⟨hz,hTI,⟨u,v,hTO⟩,⟨o1,e1,c1⟩,⟨o2,e2,c2⟩⟩:=st;exact⟨k z (by simp) _ hz,k TI (by simp) _ hTI,⟨u,v,k TO (by simp) _ hTO⟩,⟨o1,k i1 (by simp) _ e1,c1⟩,⟨o2,k i2 (by simp) _ e2,c2⟩⟩
 item:=by
  intro X hP hw hK hc i pins s σ H E I hf st hg;subst hP hw hK;obtain⟨hz,hTI,⟨u,v,hTO⟩,h1,h2⟩:=st;obtain⟨xs,ys,x,y,hxs,hys,hx,hy⟩:=hg;obtain⟨its,rv,p,_⟩:=I.list hxs;obtain⟨itt,rw',p',_⟩:=I.list hys;obtain⟨ux,hux,rux⟩:=rv.get hx;obtain⟨uy,huy,ruy⟩:=rw'.get hy;obtain⟨d1,d2,d3,d4,d5,d6,d7,d8,d9,d10⟩:=D;have Da:∀{l:Addr}{its:Array Value},s.heap.IsList l its->l≠z/\l≠TO/\l≠i1/\l≠i2:=fun{l its} hl=>by obtain⟨o,e,c,_⟩:=hl;obtain⟨o1,e1,c1,_⟩:=id h1;obtain⟨o2,e2,c2,_⟩:=id h2;exact⟨z1V e hz c rfl (by decide),z1V e hTO c rfl (by decide),z1V e e1 c c1 (by decide),z1V e e2 c c2 (by decide)⟩
  obtain⟨a1,a2,a3,a4⟩:=Da p.isList;obtain⟨b1,b2,b3,b4⟩:=Da p'.isList;refine wpAny_pyNext_zip_item ⟨d1,d2,d3,d4,d5,d6,d7,d8,d9,d10,a1,a2,a3,a4,b1,b2,b3,b4⟩ hz hTI hTO h1 h2 p.isList p'.isList (x:=ux) (y:=uy) (by simpa using hux) (by simpa using huy) fun h' q1 q2 q3 q4 q5 q6 hk=>?_;refine⟨_,rfl,wpAny_letOwnedTupleGo_zip q1 fun h2' hz2 hs2=>?_⟩;have zlt:z<s.heap.objs.size:=y0b hz;have kk:∀c o,c∉[z,TO,i1,i2]->s.heap.get? c=some o->h2'.get? c=some o:=fun c o hc q=>by simp at hc;exact(hs2.2 c hc.1).trans (hk c o hc.1 hc.2.1 hc.2.2.1 hc.2.2.2 q)
  have sub:∀c∈[z,TO,i1,i2],c∈[z,TI,TO,i1,i2]:=fun c hc=>by simp at hc⊢;rcases hc with q|q|q|q<;>simp[q]
  have I1:Inv X pins σ (upd H s.heap.objs.size (.tup [x,y])) { s with heap:=h2',toks:=s.toks }:=by refine I.turnedNew (ch:=[z,TO,i1,i2]) kk (y0a _) ?_ (fun c hc=>hf c (sub c hc));exact⟨by show 2<=sizeLine;decide,[ux,uy],0,.cons rux (.cons ruy .nil),(hs2.2 _ (y2S zlt)).trans q5⟩
  have up:∀{c:Addr}{o:Obj},c≠z->h'.get? c=some o->h2'.get? c=some o:=fun{c o} hc q=>(hs2.2 c hc).trans q;obtain⟨o3,e3,c3⟩:=q3;obtain⟨o4,e4,c4⟩:=q4;refine⟨.ref s.heap.objs.size,_,I1,rfl,⟨s.heap.objs.size,x,y,rfl,I.fresh,fun zs hz'=>by rw[I.list_inj hz' hxs];exact hx,fun zs hz'=>by rw[I.list_inj hz' hys];exact hy,rfl⟩,⟨hz2,?_,⟨_,_,up d2 q2⟩,⟨o3,up d3 e3,c3⟩,⟨o4,up d4 e4,c4⟩⟩,fun c hc=>?_⟩
  .exact up d1 (hk TI _ d1 d5 d6 d7 hTI)
  .have c0:=(hf c hc).1;have lt:c<s.heap.objs.size:=by
    obtain⟨o1,e1,_⟩:=id h1;obtain⟨o2,e2,_⟩:=id h2;simp at hc;rcases hc with q|q|q|q|q
    .rw[q];exact zlt
    .rw[q];exact y0b hTI
    .rw[q];exact y0b hTO
    .rw[q];exact y0b e1
    .rw[q];exact y0b e2
   rw[z04 (y0q lt)];exact c0
 done:=by
  intro X hP hw hK hc i pins s σ H E I hf st hg;subst hP hw hK;obtain⟨hz,hTI,⟨u,v,hTO⟩,h1,h2⟩:=st;obtain⟨xs,ys,hxs,hys,hx⟩:=hg;obtain⟨its,rv,p,_⟩:=I.list hxs;obtain⟨itt,rw',p',_⟩:=I.list hys;obtain⟨d1,d2,d3,d4,d5,d6,d7,d8,d9,d10⟩:=D;have Da:∀{l:Addr}{its:Array Value},s.heap.IsList l its->l≠z/\l≠TO/\l≠i1/\l≠i2:=fun{l its} hl=>by obtain⟨o,e,c,_⟩:=hl;obtain⟨o1,e1,c1,_⟩:=id h1;obtain⟨o2,e2,c2,_⟩:=id h2;exact⟨z1V e hz c rfl (by decide),z1V e hTO c rfl (by decide),z1V e e1 c c1 (by decide),z1V e e2 c c2 (by decide)⟩
  obtain⟨a1,a2,a3,a4⟩:=Da p.isList;obtain⟨b1,b2,b3,b4⟩:=Da p'.isList;have l1:=rv.length;have l2:=rw'.length;refine wpAny_pyNext_zip_end (I.ok.hd hc) ⟨d1,d2,d3,d4,d5,d6,d7,d8,d9,d10,a1,a2,a3,a4,b1,b2,b3,b4⟩ hz hTI hTO h1 h2 p.isList p'.isList ?_ fun h' hk=>⟨rfl,?_⟩
  .rcases hx with q|q
   .left;simp;lia
   .right;simp;lia
  .refine I.turnedL (ch:=[z,TO,i1,i2]) (t':=s.toks) (fun c o hcc q=>?_) (fun c hcc=>hf c ?_)
   .simp at hcc;exact hk c o hcc.1 hcc.2.1 hcc.2.2.1 hcc.2.2.2 q
   .simp at hcc⊢;rcases hcc with q|q|q|q<;>simp[q]
 self:=fun A i s Q E st h=>y2H st.1 h
def zkN(K:yyF)(ta:TA):TI:=fun σ H R=>ta σ H fun vs H1=>∃a b:Addr,vs=[.ref a,.ref b]/\(∃xs,SqL K H1 a xs)/\(∃ys,SqL K H1 b ys)/\R (Itz K a b) H1
def zdc{a b:Expr}{ta:TA}{p pos:Pos}(hg:Gl X "zip")(hm:X.mg "zip"=none)(ha:PA X [a,b] ta)(hs:starEach [a,b] X.env=[(false,eval a X.env),(false,eval b X.env)]:=by rfl)(hs2:starEach [b] X.env=[(false,eval b X.env)]:=by rfl) : PI X (.Tuple elts tk tp) (.Call (.Name "zip" p) [a,b] [] pos) (zkN X.K ta):=by
 intro pins s σ H R I h;refine Call_ (z55 I hg hm boot_zip (y1z (thn (ha pos pins s σ H _ I h) fun us s1 hz8=>?_) (by rw[hs,hs2]) (by rw[hs2];rfl)));obtain⟨vs,H1,I1,r1,q1⟩:=hz8;obtain⟨a,b,e,⟨xs,hq⟩,⟨ys,hq'⟩,q⟩:=q1;subst e;obtain⟨u,v,rfl,ru,rv'⟩:=zbY r1;cases ru;cases rv';obtain⟨its,rv,pl,hz⟩:=I1.list hq;obtain⟨its2,rv2,pl2,hz2⟩:=I1.list hq';refine call_zip_2 pl.isList pl2.isList fun h' z1 z2 z3 z4 z5 z6 hk=>y2H z1 ?_;have I2:Inv X pins σ H1 { s1 with heap:=h' }:=I1.kept (t':=s1.toks) hk;refine⟨s1.heap.objs.size+4,[s1.heap.objs.size+4,s1.heap.objs.size+2,s1.heap.objs.size+3,s1.heap.objs.size,s1.heap.objs.size+1],_,_,H1,rfl,I2,
  zbW a b (s1.heap.objs.size+4) (s1.heap.objs.size+2) (s1.heap.objs.size+3) s1.heap.objs.size (s1.heap.objs.size+1) (by refine⟨?_,?_,?_,?_,?_,?_,?_,?_,?_,?_⟩<;>(show @Ne Nat _ _;lia)),⟨z1,z2,⟨_,_,z3⟩,z4,z5⟩,fun c hb=>?_,q⟩
 have hb':s1.heap.objs.size<=c:=by simp only[y0o,List.not_mem_nil,or_false]at hb;rcases hb with q|q|q|q|q<;>(have q:@Eq Nat c _:=q;lia)
 exact I1.fpOk hb' (I1.hok.fresh hb')
end
def zdr{K:yyF}{a b:Addr}{xs ys:List V}{g:TG}{tb:TS}{D:z3Z}{σ:St}{H:Hp}(hlen:xs.length=ys.length)(Pv:Nat->St->Hp->Prop)(h0:Pv 0 σ H)(hl:∀i σ H,i<=xs.length->Pv i σ H->SqL K H a xs/\SqL K H b ys)(hs:∀i x y p σ H,xs[i]?=some x->ys[i]?=some y->Pv i σ H->H p=none->g (.ref p) σ (upd H p (.tup [x,y])) fun σ2 H2=>tb { D with nx:=Pv (i+1),ct:=Pv (i+1),bk:=D.nx } σ2 H2)(hd:∀σ H,Pv xs.length σ H->D.nx σ H) : ∃W:Nat->Nat->St->Hp->Prop,(∃m,W 0 m σ H)/\∀i m σ H,W i m σ H -> ((Itz K a b).stop i H/\D.nx σ H)\/((Itz K a b).go i H/\∃N:St->Hp->Prop,(∀σ' H',N σ' H'->∃m',m'<m/\W (i+1) m' σ' H')/\∀x H',(Itz K a b).yld i H x H'->g x σ H' fun σ2 H2=>tb { D with nx:=N,ct:=N,bk:=D.nx } σ2 H2):=by
 refine⟨fun i m σ H=>m=xs.length-i/\i<=xs.length/\Pv i σ H,⟨xs.length,by simp,y0t _,h0⟩,?_⟩;rintro i m σ H ⟨rfl,hi,p⟩;obtain⟨q,q'⟩:=hl i σ H hi p;by_cases hlt:i<xs.length
 .refine .inr ⟨⟨xs,ys,xs[i],ys[i]'(by lia),q,q',by simp[hlt],by simp[show i<ys.length by lia]⟩,Pv (i+1),fun σ' H' p'=>⟨xs.length-(i+1),by lia,rfl,hlt,p'⟩,fun x H' y=>?_⟩;obtain⟨c,z,z',rfl,hb,hz,hz',rfl⟩:=y;exact hs i z z' c σ H (hz xs q) (hz' ys q') p hb
 .have e:i=xs.length:=by lia
  subst e;exact .inl ⟨⟨xs,ys,q,q',.inl (y0a _)⟩,hd σ H p⟩
def zbF{K:yyF}{a b l:Addr}{xs zs:List V}{ix:List (Option Nat)}{g:TG}{te:TE}{σ:St}{H0:Hp}{Qe:Hp->Prop}(hlen:xs.length=zs.length)(Pv:Nat->List V->Hp->Prop)(h0:Pv 0 [] H0)(hl:∀i ys H,i<=xs.length->Pv i ys H->SqL K H a xs/\SqL K H b zs)(hz:xs.length<=sizeLine)(hn:∀i ys H,Pv i ys H->ys.length=i)(hs:∀i x y p ys H,xs[i]?=some x->zs[i]?=some y->Pv i ys H->H l=some (.lst ys)->H p=none->g (.ref p) (z0L ix σ) (upd H p (.tup [x,y])) fun σ2 H2=>te σ2 H2 fun v H3=>H3 l=some (.lst ys)/\Pv (i+1) (ys++[v]) (upd H3 l (.lst (ys++[v]))))(hd:∀ys H,Pv xs.length ys H->H l=some (.lst ys)->Qe H):z6I ix (Itz K a b) g te σ l H0 Qe:=by refine z4H (n:=xs.length) Pv h0 (fun i ys H hi p hy=>?_) fun ys H p hy=>⟨⟨xs,zs,(hl _ ys H (y0a _) p).1,(hl _ ys H (y0a _) p).2,.inl (y0a _)⟩,hd ys H p hy⟩;obtain⟨q,q'⟩:=hl i ys H (y1y hi) p;refine⟨⟨xs,zs,xs[i],zs[i]'(by lia),q,q',by simp[hi],by simp[show i<zs.length by lia]⟩,by rw[hn i ys H p];exact y0h hi hz,fun x H' y=>?_⟩;obtain⟨c,z,z',rfl,hb,hz,hz',rfl⟩:=y;exact hs i z z' c ys H (hz xs q) (hz' zs q') p hy hb
open PySem.AutoSeq1 (wpAny_loadPart')
inductive D where
 |non|bl (b:Bool)|int (i:Int)|str (x:Str)|tup (ds:List D)|lst (ds:List D)
mutual
def Dr(K:yyF)(H:Hp):D->V->Prop
 |.non,v=>v=.non
 |.bl b,v=>v=.bl b
 |.int i,v=>v=.int i
 |.str x,v=>v=.str x
 |.tup ds,v=>∃(a:Addr)(vs:List V),v=.ref a/\H a=some (.tup vs)/\DrL K H ds vs
 |.lst ds,v=>∃(a:Addr)(vs:List V),v=.ref a/\SqL K H a vs/\DrL K H ds vs
def DrL(K:yyF)(H:Hp):List D->List V->Prop
 |[],vs=>vs=[]
 |d::ds,vs=>∃v r,vs=v::r/\Dr K H d v/\DrL K H ds r
end
def z08.tupl{K:yyF}{H H':Hp}{a:Addr}{xs:List V}(s:z08 H H')(h:SqT K H a xs):SqT K H' a xs:=by
 rcases h with(h|⟨o,h⟩)|h
 .exact .inl (.inl (s _ _ h))
 .exact .inl (.inr ⟨o,s _ _ h⟩)
 .exact .inr h
mutual
theorem Dr.mono{K:yyF}{H H':Hp}(s:z08 H H'):∀{d:D}{v:V},Dr K H d v->Dr K H' d v
 |.non,_,h=>by simp only[Dr]at h⊢;exact h
 |.bl _,_,h=>by simp only[Dr]at h⊢;exact h
 |.int _,_,h=>by simp only[Dr]at h⊢;exact h
 |.str _,_,h=>by simp only[Dr]at h⊢;exact h
 |.tup ds,_,h=>by
  simp only[Dr]at h⊢;obtain⟨a,vs,e,q,r⟩:=h;exact⟨a,vs,e,s _ _ q,DrL.mono s r⟩
 |.lst ds,_,h=>by simp only[Dr]at h⊢;obtain⟨a,vs,e,q,r⟩:=h;exact⟨a,vs,e,s.seq q,DrL.mono s r⟩
theorem DrL.mono{K:yyF}{H H':Hp}(s:z08 H H'):∀{ds:List D}{vs:List V},DrL K H ds vs->DrL K H' ds vs
 |[],_,h=>by simp only[DrL]at h⊢;exact h
 |d::ds,_,h=>by simp only[DrL]at h⊢;obtain⟨v,r,e,q,q'⟩:=h;exact⟨v,r,e,Dr.mono s q,DrL.mono s q'⟩
end
theorem DrL.length{K:yyF}{H:Hp}:∀{ds:List D}{vs:List V},DrL K H ds vs->ds.length=vs.length
 |[],_,h=>by simp only[DrL]at h;subst h;rfl
 |d::ds,_,h=>by simp only[DrL]at h;obtain⟨v,r,rfl,_,q⟩:=h;rw[y0m,y0m,DrL.length q]
theorem DrL.get{K:yyF}{H:Hp}:∀{ds:List D}{vs:List V}{i:Nat}{d:D},DrL K H ds vs->ds[i]?=some d->∃v,vs[i]?=some v/\Dr K H d v
 |[],_,_,_,_,e=>by simp at e
 |d::ds,_,0,_,h,e=>by
  simp only[DrL]at h;obtain⟨v,r,rfl,q,_⟩:=h;simp at e;subst e;exact⟨v,rfl,q⟩
 |d::ds,_,i+1,d',h,e=>by simp only[DrL]at h;obtain⟨v,r,rfl,_,q⟩:=h;obtain⟨v',h1,h2⟩:=DrL.get (i:=i) q (by simpa using e);exact⟨v',by simpa using h1,h2⟩
theorem DrL.append{K:yyF}{H:Hp}:∀{ds es:List D}{vs us:List V},DrL K H ds vs->DrL K H es us->DrL K H (ds++es) (vs++us)
 |[],_,_,_,h,h'=>by simp only[DrL]at h;subst h;exact h'
 |d::ds,es,_,us,h,h'=>by simp only[DrL]at h;obtain⟨v,r,rfl,q,q'⟩:=h;show DrL K H (d::(ds++es)) (v::(r++us));simp only[DrL];exact⟨v,_,rfl,q,DrL.append q' h'⟩
def DrL.one{K:yyF}{H:Hp}{d:D}{v:V}(h:Dr K H d v):DrL K H [d] [v]:=by simp only[DrL];exact⟨v,[],rfl,h,rfl⟩
def DrL.nil{K:yyF}{H:Hp}:DrL K H [] []:=by simp only[DrL]
def DrL.cons{K:yyF}{H:Hp}{d:D}{v:V}{ds:List D}{vs:List V}(h:Dr K H d v)(h':DrL K H ds vs):DrL K H (d::ds) (v::vs):=by simp only[DrL];exact⟨v,vs,rfl,h,h'⟩
theorem DrL.ints{K:yyF}{H:Hp}:∀(ns:List Int),DrL K H (ns.map D.int) (ns.map V.int)
 |[]=>DrL.nil
 |n::r=>DrL.cons (by simp only[Dr]) (DrL.ints r)
theorem DrL.ints_inv{K:yyF}{H:Hp}:∀{ns:List Int}{vs:List V},DrL K H (ns.map D.int) vs->vs=ns.map V.int
 |[],_,h=>by simp only[y0Z,DrL]at h;rw[h];rfl
 |n::r,_,h=>by simp only[y0i,DrL]at h;obtain⟨v,w,rfl,q,q'⟩:=h;simp only[Dr]at q;subst q;rw[DrL.ints_inv q',y0i]
theorem Dr.tup{K:yyF}{H:Hp}{a:Addr}{ds:List D}{vs:List V}(h:H a=some (.tup vs))(r:DrL K H ds vs):Dr K H (.tup ds) (.ref a):=by simp only[Dr];exact⟨a,vs,rfl,h,r⟩
theorem Dr.lst{K:yyF}{H:Hp}{a:Addr}{ds:List D}{vs:List V}(h:H a=some (.lst vs))(r:DrL K H ds vs):Dr K H (.lst ds) (.ref a):=by simp only[Dr];exact⟨a,vs,rfl,SqL.of h,r⟩
theorem Dr.int{K:yyF}{H:Hp}(i:Int):Dr K H (.int i) (.int i):=by simp only[Dr]
abbrev D.its(ns:List Int):D:=.tup (ns.map D.int)
open PySem PySem.Spec PyProof.Rows
open PySem.SeqAt
mutual
def D.eq:D->D->Bool
 |.non,.non=>true
 |.bl a,.bl b=>a==b
 |.int i,.int j=>i==j
 |.str x,.str y=>decide (x=y)
 |.tup a,.tup b=>D.eqL a b
 |.lst a,.lst b=>D.eqL a b
 |_,_=>false
def D.eqL:List D->List D->Bool
 |[],[]=>true
 |d::ds,e::es=>D.eq d e&&D.eqL ds es
 |_,_=>false
end
mutual
def D.ok:D->D->Prop
 |.non,.non=>True
 |.bl _,.bl _=>True
 |.int _,.int _=>True
 |.str _,.str _=>True
 |.tup a,.tup b=>D.okL a b
 |.lst a,.lst b=>D.okL a b
 |_,_=>False
def D.okL:List D->List D->Prop
 |d::ds,e::es=>D.ok d e/\D.okL ds es
 |_,_=>True
end
mutual
def D.dep:D->Nat
 |.tup a=>D.depL a+1
 |.lst a=>D.depL a+1
 |_=>0
def D.depL:List D->Nat
 |[]=>0
 |d::ds=>max (D.dep d) (D.depL ds)
end
mutual
theorem D.eq_refl:∀d:D,D.eq d d=true
 |.non=>by simp only[D.eq]
 |.bl b=>by simp only[D.eq,beq_self_eq_true]
 |.int i=>by simp only[D.eq,beq_self_eq_true]
 |.str x=>by simp only[D.eq,decide_true]
 |.tup a=>by simp only[D.eq];exact D.eqL_refl a
 |.lst a=>by simp only[D.eq];exact D.eqL_refl a
theorem D.eqL_refl:∀ds:List D,D.eqL ds ds=true
 |[]=>by simp only[D.eqL]
 |d::ds=>by simp only[D.eqL,D.eq_refl d,D.eqL_refl ds,Bool.and_self]
end
mutual
theorem D.eq_of:∀{d e:D},D.eq d e=true->d=e
 |.non,e,h=>by cases e<;>simp only[D.eq,y0Y]at h<;>rfl
 |.bl b,e,h=>by cases e<;>simp only[D.eq,y0Y,y1M]at h;rw[h]
 |.int b,e,h=>by cases e<;>simp only[D.eq,y0Y,y1M]at h;rw[h]
 |.str b,e,h=>by cases e<;>simp only[D.eq,y0Y,decide_eq_true_eq]at h;rw[h]
 |.tup b,e,h=>by
  cases e<;>simp only[D.eq,y0Y]at h;rw[D.eqL_of h]
 |.lst b,e,h=>by cases e<;>simp only[D.eq,y0Y]at h;rw[D.eqL_of h]
theorem D.eqL_of:∀{d e:List D},D.eqL d e=true->d=e
 |[],e,h=>by cases e<;>simp only[D.eqL,y0Y]at h;rfl
 |d::ds,e,h=>by cases e<;>simp only[D.eqL,y0Y,y13]at h;rw[D.eq_of h.1,D.eqL_of h.2]
end
theorem D.okL_get:∀{ds es:List D}{j:Nat}{d e:D},D.okL ds es->ds[j]?=some d->es[j]?=some e->D.ok d e
 |[],_,_,_,_,_,h,_=>by simp at h
 |_::_,[],_,_,_,_,_,h=>by simp at h
 |_::_,_::_,0,_,_,h,h1,h2=>by
  simp only[D.okL]at h;simp at h1 h2;subst h1 h2;exact h.1
 |_::_,_::_,j+1,_,_,h,h1,h2=>by simp only[D.okL]at h;exact D.okL_get h.2 (by simpa using h1) (by simpa using h2)
theorem D.depL_get:∀{ds:List D}{j:Nat}{d:D},ds[j]?=some d->D.dep d<=D.depL ds
 |[],_,_,h=>by simp at h
 |_::_,0,_,h=>by
  simp at h;subst h;simp only[D.depL];exact Nat.le_max_left _ _
 |_::ds,j+1,_,h=>by simp only[D.depL];exact y0w (D.depL_get (ds:=ds) (j:=j) (by simpa using h)) (Nat.le_max_right _ _)
def D.at_(ds es:List D)(j:Nat):Bool:=match ds[j]?,es[j]? with|some d,some e=>D.eq d e|_,_=>true
theorem D.all_eqL:∀(ds es:List D),(((List.range (min ds.length es.length)).all (D.at_ ds es))&&ds.length==es.length)=D.eqL ds es
 |[],[]=>by simp[D.eqL]
 |[],e::es=>by simp[D.eqL]
 |d::ds,[]=>by simp[D.eqL]
 |d::ds,e::es=>by
  have ih:=D.all_eqL ds es;simp only[D.eqL];rw[<-ih];have e1:min (d::ds).length (e::es).length=min ds.length es.length+1:=by simp only[y0m];lia
  rw[e1,List.range_succ_eq_map,List.all_cons,List.all_map,Bool.and_assoc];have e2:D.at_ (d::ds) (e::es) 0=D.eq d e:=by simp[D.at_]
  have e3:(D.at_ (d::ds) (e::es)∘Nat.succ)=D.at_ ds es:=by funext j;simp[D.at_]
  have e4:((d::ds).length==(e::es).length)=(ds.length==es.length):=by simp
  rw[e2,e3,e4]
def D.all_eqL'{ds es:List D}(h:ds.length=es.length):(List.range ds.length).all (D.at_ ds es)=D.eqL ds es:=by
 rw[<-D.all_eqL ds es];have:min ds.length es.length=ds.length:=by lia
 rw[this];simp[h]
def D.eqL_len{ds es:List D}(h:ds.length≠es.length):D.eqL ds es=false:=by
 rw[<-D.all_eqL ds es];have:(ds.length==es.length)=false:=by simpa using h
 rw[this,Bool.and_false]
section
variable{X:Cx}{pins:yyP}{σ:St}{H:Hp}{s:Shared}
mutual
theorem Dr.inj(I:Inv X pins σ H s):∀{d e:D}{v:V},Dr X.K H d v->Dr X.K H e v->D.ok d e->d=e
 |.non,e,v,h,h',o=>by cases e<;>simp only[D.ok]at o<;>rfl
 |.bl b,e,v,h,h',o=>by
  cases e<;>simp only[D.ok]at o;simp only[Dr]at h h';rw[h]at h';cases h';rfl
 |.int b,e,v,h,h',o=>by
  cases e<;>simp only[D.ok]at o;simp only[Dr]at h h';rw[h]at h';cases h';rfl
 |.str b,e,v,h,h',o=>by
  cases e<;>simp only[D.ok]at o;simp only[Dr]at h h';rw[h]at h';cases h';rfl
 |.tup ds,e,v,h,h',o=>by
  cases e<;>simp only[D.ok]at o;simp only[Dr]at h h';obtain⟨a,vs,rfl,q,r⟩:=h;obtain⟨b,us,eq,q',r'⟩:=h';cases eq;have:=I.tuple_inj (SqT.of q) (SqT.of q');subst this;rw[DrL.inj I r r' o]
 |.lst ds,e,v,h,h',o=>by cases e<;>simp only[D.ok]at o;simp only[Dr]at h h';obtain⟨a,vs,rfl,q,r⟩:=h;obtain⟨b,us,eq,q',r'⟩:=h';cases eq;have:=I.list_inj q q';subst this;rw[DrL.inj I r r' o]
theorem DrL.inj(I:Inv X pins σ H s):∀{ds es:List D}{vs:List V},DrL X.K H ds vs->DrL X.K H es vs->D.okL ds es->ds=es
 |[],[],_,_,_,_=>rfl
 |[],_::_,_,h,h',_=>by
  simp only[DrL]at h h';obtain⟨_,_,e,_⟩:=h';rw[h]at e;cases e
 |_::_,[],_,h,h',_=>by
  simp only[DrL]at h h';obtain⟨_,_,e,_⟩:=h;rw[h']at e;cases e
 |d::ds,e::es,_,h,h',o=>by simp only[DrL]at h h';simp only[D.okL]at o;obtain⟨v,r,rfl,q,q'⟩:=h;obtain⟨u,w,eq,p,p'⟩:=h';cases eq;rw[Dr.inj I q p o.1,DrL.inj I q' p' o.2]
end
def zfW(I:Inv X pins σ H s):∀(n:Nat)(A:Around){d e:D}{x y:V}{v u:Value},D.dep d<=n->A.units+n<cLine->Dr X.K H d x->Dr X.K H e y->D.ok d e->z0U x v->z0U y u->EqAt A s v u (D.eq d e)/\(∀l b,x=.ref l->y=.ref b->RcAt A s v u (D.eq d e)):=by
 intro n;induction n with
 |zero =>
  intro A d e x y v u hd hu hx hy o rx ry;cases d<;>cases e<;>simp only[D.ok]at o<;>simp only[D.dep,Nat.le_zero,y2e,y2O,and_false]at hd
  .simp only[Dr]at hx hy;subst hx hy;cases rx;cases ry;exact⟨EqAt.same _,fun _ _ h=>nomatch h⟩
  .rename_i a b;simp only[Dr]at hx hy;subst hx hy;cases rx;cases ry;simp only[D.eq];exact⟨EqAt.bool_bool _ _,fun _ _ h=>nomatch h⟩
  .rename_i a b;simp only[Dr]at hx hy;subst hx hy;obtain⟨t,rfl⟩:=rx;obtain⟨t',rfl⟩:=ry;simp only[D.eq];exact⟨fun prog w E Q h=>wpAny_eqBool_int h,fun _ _ h=>nomatch h⟩
  .rename_i a b;simp only[Dr]at hx hy;subst hx hy;obtain⟨t,rfl⟩:=rx;obtain⟨t',rfl⟩:=ry;simp only[D.eq];exact⟨fun prog w E Q h=>wpAny_eqBool_str h,fun _ _ h=>nomatch h⟩
 |succ n ih =>
  intro A d e x y v u hd hu hx hy o rx ry;have flat:D.dep d<=0->EqAt A s v u (D.eq d e)/\(∀l b,x=.ref l->y=.ref b->RcAt A s v u (D.eq d e)):=fun z=>ih A (y0w z (y0t _)) (by lia) hx hy o rx ry;have hin:A.in1.units+n<cLine:=by show A.units+1+n<cLine;lia
  have both:∀{l b:Addr}{k:Bool},RcAt A s (.ref l) (.ref b) k->(l=b->k=true)->EqAt A s (.ref l) (.ref b) k:=fun{l b k} h hk=>by
   by_cases e:l=b
   .have z:=hk e;subst e;rw[z];exact EqAt.same _
   .exact EqAt.of_refs e h
  have items:∀{ds es:List D}{vs us:List V}{its itt:List Value},D.depL ds<=n->D.okL ds es->DrL X.K H ds vs->DrL X.K H es us->z0J vs its->z0J us itt->∀j (h1:j<its.toArray.size) (h2:j<itt.toArray.size),EqAt A.in1 s its.toArray[j] itt.toArray[j] (D.at_ ds es j):=by
   intro ds es vs us its itt hdp hok r r' rv rv' j h1 h2;have l1:=rv.length;have l2:=rv'.length;have l3:=r.length;have l4:=r'.length;have h1':j<its.length:=by simpa using h1
   have h2':j<itt.length:=by simpa using h2
   have e1:ds[j]?=some ds[j]:=y01 (by lia);have e2:es[j]?=some es[j]:=y01 (by lia);obtain⟨x1,g1,d1⟩:=r.get e1;obtain⟨x2,g2,d2⟩:=r'.get e2;obtain⟨u1,k1,q1⟩:=rv.get g1;obtain⟨u2,k2,q2⟩:=rv'.get g2;have z1:u1=its.toArray[j]:=by rw[y01 h1']at k1;have:=y0d k1;simpa using this.symm
   have z2:u2=itt.toArray[j]:=by rw[y01 h2']at k2;have:=y0d k2;simpa using this.symm
   have z3:D.at_ ds es j=D.eq ds[j] es[j]:=by unfold D.at_;rw[e1,e2]
   rw[z3,<-z1,<-z2];exact(ih A.in1 (y0w (D.depL_get e1) hdp) hin d1 d2 (D.okL_get hok e1 e2) q1 q2).1
  cases d with
  |non=>exact flat (y0a _)
  |bl _=>exact flat (y0a _)
  |int _=>exact flat (y0a _)
  |str _=>exact flat (y0a _)
  |tup ds =>
   cases e<;>simp only[D.ok]at o;rename_i es;have inj:=fun(q:x=y)=>Dr.inj I hx (q▸hy) (by simp only[D.ok];exact o);have hdp:D.depL ds<=n:=by simp only[D.dep]at hd;lia
   simp only[Dr]at hx hy;obtain⟨l,vs,rfl,q,r⟩:=hx;obtain⟨b,us,rfl,q',r'⟩:=hy;cases rx;cases ry;obtain⟨its,rv,pl,_⟩:=I.tuple (SqT.of q);obtain⟨itt,rv',pl',_⟩:=I.tuple (SqT.of q');have R:RcAt A s (.ref l) (.ref b) (D.eq (.tup ds) (.tup es)):=by
    have z:=RcAt.tuples (A:=A) (e:=D.at_ ds es) pl pl' (by lia) (items hdp o r r' rv rv');have e1:its.toArray.size=ds.length:=by rw[r.length,rv.length];simp
    have e2:itt.toArray.size=es.length:=by rw[r'.length,rv'.length];simp
    rw[e1,e2,D.all_eqL]at z;simp only[D.eq];exact z
   exact⟨both R fun h=>by subst h;have:=inj rfl;rw[this];exact D.eq_refl _,fun _ _ _ _=>R⟩
  |lst ds =>
   cases e<;>simp only[D.ok]at o;rename_i es;have inj:=fun(q:x=y)=>Dr.inj I hx (q▸hy) (by simp only[D.ok];exact o);have hdp:D.depL ds<=n:=by simp only[D.dep]at hd;lia
   simp only[Dr]at hx hy;obtain⟨l,vs,rfl,q,r⟩:=hx;obtain⟨b,us,rfl,q',r'⟩:=hy;cases rx;cases ry;obtain⟨its,rv,pl,_⟩:=I.list q;obtain⟨itt,rv',pl',_⟩:=I.list q';have e1:its.toArray.size=ds.length:=by rw[r.length,rv.length];simp
   have e2:itt.toArray.size=es.length:=by rw[r'.length,rv'.length];simp
   have R:RcAt A s (.ref l) (.ref b) (D.eq (.lst ds) (.lst es)):=by
    by_cases hl:ds.length=es.length
    .have z:=RcAt.lists (A:=A) (e:=D.at_ ds es) pl.isList pl'.isList (by lia) (by lia) (items hdp o r r' rv rv');rw[e1,D.all_eqL' hl]at z;simp only[D.eq];exact z
    .have z:=RcAt.lists_lengths (A:=A) pl.isList pl'.isList (by rw[e1,e2];simpa using hl) (by lia);simp only[D.eq];rw[D.eqL_len hl];exact z
   exact⟨both R fun h=>by subst h;have:=inj rfl;rw[this];exact D.eq_refl _,fun _ _ _ _=>R⟩
def zg0(hu:X.A.units+64<cLine):OpR X (compareOp .Eq) (fun x y H Q=>∃(a b:Addr)(d e:D),x=.ref a/\y=.ref b/\Dr X.K H d x/\Dr X.K H e y/\D.ok d e/\D.dep d<=50/\Q (.bl (D.eq d e)) H):=by intro pins s σ H x y v u Q I rx ry h;obtain⟨a,b,d,e,hx,hy,dx,dy,o,hd,q⟩:=h;have R:=(zfW I 50 X.A hd (by lia) dx dy o rx ry).2 a b hx hy;exact R _ _ _ _ ⟨.bl _,H,I,rfl,q⟩
end
open PySem PySem.Spec PyProof.Rows PySem.SeqAt
open PySem.AutoSeq1 (wpAny_loadPart')
section
variable{X:Cx}
end
open PySem PySem.Spec PyProof.Rows
section
variable{X:Cx}(K:yyF)
def ixL(h:X.K=K):IxR X (zmL K):=h▸z1F
def zp7(h:X.K=K):z1s X (.builtin "len") (fun xs H Q=>∃p ys,xs=[.ref p]/\(SqL K H p ys\/SqT K H p ys)/\Q (.int ys.length) H):=h▸z0a
def zp2(h:X.K=K):z1s X (.type "tuple") (fun xs H Q=>∃p ys,xs=[.ref p]/\((SqL K H p ys/\∀l,H l=none->Q (.ref l) (upd H l (.tup ys)))\/(SqT K H p ys/\Q (.ref p) H))):=h▸z0K
def piT{tg l:Expr}{tl:TE}(h:X.K=K)(hl:PE X l tl):PI X tg l (zmw K tl):=h▸z2P hl
variable{o e:Expr}{es:List Expr}{to:TE}{t:TA}{name:Str}{apos cpos:Pos}{T id:String}{r:V->List V->Hp->VK->Prop}
def zoD(h:X.K=K)(hu:X.A.units+64<cLine):OpR X (compareOp .Eq) (fun x y H Q=>∃(a b:Addr)(d e:D),x=.ref a/\y=.ref b/\Dr K H d x/\Dr K H e y/\D.ok d e/\D.dep d<=50/\Q (.bl (D.eq d e)) H):=h▸zg0 hu
def zow(h:X.K=K)(hc:X.calm=true):z1s X (.builtin "all") (fun xs H Q=>∃(p:Addr) (bs:List Bool),xs=[.ref p]/\SqL K H p (bs.map V.bl)/\Q (.bl (bs.all _root_.id)) H):=h▸zcI hc
def zos(h:X.K=K)(hc:X.calm=true):z1s X (.builtin "any") (fun xs H Q=>∃(p:Addr) (bs:List Bool),xs=[.ref p]/\SqL K H p (bs.map V.bl)/\Q (.bl (bs.any _root_.id)) H):=h▸zcN hc
def pgT{es:List Expr}{k:Nat}{t:TGs}{n:Nat}{pos:Pos}(h:X.K=K)(hc:X.calm=true)(hp:PGs X es t)(hn:(assignEach es X.env).length=n:=by rfl)(hst:(assignEach es X.env).findIdx? (·.1)=none:=by rfl):PG X (.Tuple es k pos) (zlK K n t):=h▸z2k hc hp hn hst
def ziG{elts:List Expr}{tk:Nat}{tp:Pos}{a b:Expr}{ta:TA}{p pos:Pos}(h:X.K=K)(hg:Gl X "zip")(hm:X.mg "zip"=none)(ha:PA X [a,b] ta)(hs:starEach [a,b] X.env=[(false,eval a X.env),(false,eval b X.env)]:=by rfl)(hs2:starEach [b] X.env=[(false,eval b X.env)]:=by rfl) : PI X (.Tuple elts tk tp) (.Call (.Name "zip" p) [a,b] [] pos) (zkN K ta):=h▸zdc hg hm ha hs hs2
inductive TyS(K:yyF)(H:Hp):V->Value->Prop where
 |of {x:V} {t:Value} (h:z8Q K H x t):TyS K H x t
 |tup {a:Addr} {xs:List V} (h:SqT K H a xs):TyS K H (.ref a) (.type "tuple")
 |lst {a:Addr} {xs:List V} (h:SqL K H a xs):TyS K H (.ref a) (.type "list")
def zpa(c:String)(hK:X.K=K):z1s X (.builtin "isinstance") (fun xs H Q=>∃x t b,xs=[x,.ty c]/\TyS K H x t/\PySem.W.kitOne K t (.type c)=some b/\Q (.bl b) H):=by
 subst hK;intro pins s σ H xs us Q I r h;obtain⟨x,t,b,rfl,ty,k,q⟩:=h;obtain⟨u,w',rfl,ru,rw'⟩:=zbY r;cases rw';cases ty with
 |of ty=>exact z9K I ru ty k fun tk=>⟨.bl b,H,I.tok tk,rfl,q⟩
 |tup ht =>
  cases ru;obtain⟨_,_,⟨o,h1,h2,_⟩,_⟩:=I.tuple ht;exact y12 PySem.W.kitx_tuple I.kIn ⟨o,h1,h2⟩ k (fun z=>nomatch z) fun tk=>⟨.bl b,H,I.tok tk,rfl,q⟩
 |lst ht =>
  cases ru;obtain⟨_,_,⟨o,n,h1,h2,_⟩,_⟩:=I.list ht;exact y12 PySem.W.kitx_list I.kIn ⟨o,h1,h2⟩ k (fun z=>nomatch z) fun tk=>⟨.bl b,H,I.tok tk,rfl,q⟩
def zpc(K:yyF)(c:String)(te:TE):TE:=tCB (fun xs H Q=>∃x t b,xs=[x,.ty c]/\TyS K H x t/\PySem.W.kitOne K t (.type c)=some b/\Q (.bl b) H) (z9q te (z9q (tC (.ty c)) zit))
def zht{x:Str}{c:String}{p q cpos:Pos}{te:TE}(hK:X.K=K)(he:PE X e te)(mi:X.mg "isinstance"=none)(mc:X.mg x=none)(hb:bootBuiltins x=some (.type c))(hg:Gl X "isinstance":=by rfl)(hgc:Gl X x:=by rfl)(hn:x≠"__name__":=by decide)(hd:(x==("__debug__":Str))=false:=by decide)(hs:starEach [e,.Name x q] X.env=(false,eval e X.env)::starEach [.Name x q] X.env:=by rfl)(hpl:(backTo cpos (starEach [.Name x q] X.env)).any (·.1)=false:=by rfl) : PE X (.Call (.Name "isinstance" p) [e,.Name x q] [] cpos) (zpc K c te) :=
 z0e (zpa K c hK) hg mi boot_isinstance (z00 he (z00 (zdC (v:=.ty c) hgc mc hb rfl hn hd) z03) hs) (by decide) (by decide) hs hpl
end
mutual
def D.few:D->Prop
 |.tup a=>a.length<=5000/\D.fewL a
 |.lst a=>a.length<=5000/\D.fewL a
 |_=>True
def D.fewL:List D->Prop
 |[]=>True
 |d::ds=>D.few d/\D.fewL ds
end
theorem D.depL_ints:∀ns:List Int,D.depL (ns.map D.int)=0
 |[]=>by simp only[y0Z,D.depL]
 |n::r=>by simp only[y0i,D.depL,D.dep,D.depL_ints r];rfl
end L2
namespace Gu
open PySem L2
def cell(ns:List Int)(i:Nat):Int:=if i<ns.length then ns.getD i 0 else if ns.length=0 then 29*i+5 else ns.getD (i%ns.length) 0%1000003+103*i
def z3y(ns:List Int)(i:Nat):Int:=2+cell ns i%4
def z5f(ns:List Int)(i:Nat):2<=z3y ns i:=by unfold z3y;have:=y1l (cell ns i) (show(4:Int)≠0 by decide);lia
def z8D(ns:List Int)(i:Nat):z3y ns i<=5:=by unfold z3y;have:=y19 (cell ns i) (show(0:Int)<4 by decide);lia
def zdk(ns:List Int)(i:Nat):Nat:=(z3y ns i).toNat
def zdQ(ns:List Int)(i:Nat):2<=zdk ns i:=by unfold zdk;have:=z5f ns i;lia
def zdv(ns:List Int)(i:Nat):zdk ns i<=5:=by unfold zdk;have:=z8D ns i;lia
def zcc(ns:List Int)(i:Nat):((zdk ns i:Nat):Int)=2+cell ns i%4:=by unfold zdk;have:=z5f ns i;unfold z3y at *;lia
def z0s(n:Nat):List Int:=(List.range n).map fun(i:Nat)=>(i:Int)
def z0N(n:Nat):(z0s n).length=n:=by simp[z0s]
def z2i{n i:Nat}(h:i<n):(z0s n)[i]?=some (i:Int):=by simp[z0s,h]
def z1p{n:Nat}{x:Int}:x∈z0s n↔0<=x/\x<n:=by
 constructor
 .intro h;obtain⟨i,hi,rfl⟩:=y0e.mp h;have:=List.mem_range.mp hi;lia
 .intro⟨h0,h1⟩;exact y0e.mpr ⟨x.toNat,List.mem_range.mpr (by lia),by lia⟩
def z8X(n:Nat):(z0s n).Nodup:=by unfold z0s;rw[y26,List.pairwise_map];exact List.Pairwise.imp (fun h=>by lia) List.nodup_range
def z2u(n:Nat):zbu 0 n=(z0s n).map V.int:=by unfold zbu z0s;rw[y0R];refine y0E fun i _=>?_;simp
theorem z2s:∀(l:List Int)(i:Nat)(h:i<l.length),(l[i]::l.eraseIdx i).Perm l
 |[],_,h=>by simp at h
 |a::r,0,_=>List.Perm.refl _
 |a::r,i+1,h=>by have ih:=z2s r i (by simpa using h);show(r[i]'(by simpa using h)::a::r.eraseIdx i).Perm (a::r);exact(List.Perm.swap _ _ _).trans (ih.cons a)
def zdi:Nat->Int->List Int->List Int
 |0,_,_=>[]
 |k+1,p,left=>left.getD (p%(left.length:Int)).toNat 0::zdi k (p/(left.length:Int)) (left.eraseIdx (p%(left.length:Int)).toNat)
def zce(pick:Int)(n:Nat):List Int:=zdi n pick (z0s n)
theorem z6L:∀(k:Nat)(p:Int)(left:List Int),left.length=k->(zdi k p left).Perm left
 |0,_,left,h=>by
  have:left=[]:=y18.mp h;subst this;exact List.Perm.refl _
 |k+1,p,left,h=>by
  have hpos:(0:Int)<left.length:=by lia
  have h0:=y1l p (show(left.length:Int)≠0 by lia);have h1:=y19 p hpos;have hi:(p%(left.length:Int)).toNat<left.length:=by lia
  unfold zdi;have e:left.getD (p%(left.length:Int)).toNat 0=left[(p%(left.length:Int)).toNat]:=by simp[hi]
  rw[e];have ih:=z6L k (p/(left.length:Int)) (left.eraseIdx (p%(left.length:Int)).toNat) (by rw[y27 hi];lia);exact(ih.cons _).trans (z2s _ _ hi)
def z8L(pick:Int)(n:Nat):(zce pick n).Perm (z0s n):=z6L n pick (z0s n) (z0N n)
def IsP(n:Nat)(p:List Int):Prop:=p.Perm (z0s n)
def IsP.len{n:Nat}{p:List Int}(h:IsP n p):p.length=n:=by rw[List.Perm.length_eq h,z0N]
def IsP.mem{n:Nat}{p:List Int}(h:IsP n p){x:Int}:x∈p↔0<=x/\x<n:=(List.Perm.mem_iff h).trans z1p
def z4N(one other:List Int):List Int:=one.map fun x=>other.getD x.toNat 0
def z7u(p:List Int):List Int:=(z0s p.length).map fun k=>((p.idxOf k:Nat):Int)
end Gu
namespace L2
open PySem PySem.Spec PyProof.Rows PySem.SeqAt
instance:DecidableEq D:=fun a b=>if h:D.eq a b=true then isTrue (D.eq_of h)else isFalse fun e=>h (by rw[e];exact D.eq_refl b)
def D.dec(a b:D):decide (a=b)=D.eq a b:=by
 by_cases h:D.eq a b=true
 .rw[y0U (D.eq_of h),h]
 .rw[y0J (fun e=>h (by rw[e];exact D.eq_refl b)),y0K.mpr h]
mutual
def Hd(h:Heap):D->Value->Prop
 |.int i,v=>∃t,v=.int i t
 |.tup ds,v=>∃(a:Addr) (o:Obj) (its:Array Value) (n:Nat),v=.ref a/\h.get? a=some o/\o.cls=.type "tuple"/\o.data=.seq its n/\HdL h ds its.toList
 |_,_=>False
def HdL(h:Heap):List D->List Value->Prop
 |[],vs=>vs=[]
 |d::ds,vs=>∃v r,vs=v::r/\Hd h d v/\HdL h ds r
end
mutual
def D.hash:D->Int
 |.int i=>hashInt i
 |.tup ds=>reduceHash (Builtin.Tuple.tupleHashOf (D.hashL ds))
 |_=>0
def D.hashL:List D->List Int
 |[]=>[]
 |d::ds=>D.hash d::D.hashL ds
end
mutual
def D.draws:D->Nat
 |.tup ds=>D.drawsL ds+1
 |_=>1
def D.drawsL:List D->Nat
 |[]=>0
 |d::ds=>D.draws d+D.drawsL ds
end
theorem D.hashL_app:∀a b:List D,D.hashL (a++b)=D.hashL a++D.hashL b
 |[],b=>by simp only[y20,D.hashL]
 |d::a,b=>by simp only[List.cons_append,D.hashL,D.hashL_app a b]
theorem D.drawsL_app:∀a b:List D,D.drawsL (a++b)=D.drawsL a+D.drawsL b
 |[],b=>by simp only[y20,D.drawsL,Nat.zero_add]
 |d::a,b=>by simp only[List.cons_append,D.drawsL,D.drawsL_app a b,Nat.add_assoc]
theorem HdL.length{h:Heap}:∀{ds:List D}{vs:List Value},HdL h ds vs->ds.length=vs.length
 |[],_,h=>by simp only[HdL]at h;subst h;rfl
 |d::ds,_,h=>by simp only[HdL]at h;obtain⟨v,r,rfl,_,q⟩:=h;rw[y0m,y0m,HdL.length q]
theorem HdL.get{h:Heap}:∀{ds:List D}{vs:List Value}{i:Nat}{d:D},HdL h ds vs->ds[i]?=some d->∃v,vs[i]?=some v/\Hd h d v
 |[],_,_,_,_,e=>by simp at e
 |d::ds,_,0,_,h,e=>by
  simp only[HdL]at h;obtain⟨v,r,rfl,q,_⟩:=h;simp at e;subst e;exact⟨v,rfl,q⟩
 |d::ds,_,i+1,d',h,e=>by simp only[HdL]at h;obtain⟨v,r,rfl,_,q⟩:=h;obtain⟨v',h1,h2⟩:=HdL.get (i:=i) q (by simpa using e);exact⟨v',by simpa using h1,h2⟩
mutual
theorem Hd.keep{h h':Heap}(k:∀a o its n,h.get? a=some o->o.cls=.type "tuple"->o.data=.seq its n->h'.get? a=some o):∀{d:D} {v:Value},Hd h d v->Hd h' d v
 |.int _,_,q=>by simp only[Hd]at q⊢;exact q
 |.tup ds,_,q=>by
  simp only[Hd]at q⊢;obtain⟨a,o,its,n,e,h1,h2,h3,h4⟩:=q;exact⟨a,o,its,n,e,k a o its n h1 h2 h3,h2,h3,HdL.keep k h4⟩
 |.non,_,q=>by simp only[Hd]at q
 |.bl _,_,q=>by simp only[Hd]at q
 |.str _,_,q=>by simp only[Hd]at q
 |.lst _,_,q=>by simp only[Hd]at q
theorem HdL.keep{h h':Heap}(k:∀a o its n,h.get? a=some o->o.cls=.type "tuple"->o.data=.seq its n->h'.get? a=some o):∀{ds:List D} {vs:List Value},HdL h ds vs->HdL h' ds vs
 |[],_,q=>by simp only[HdL]at q⊢;exact q
 |d::ds,_,q=>by simp only[HdL]at q⊢;obtain⟨v,r,e,q1,q2⟩:=q;exact⟨v,r,e,Hd.keep k q1,HdL.keep k q2⟩
end
mutual
theorem Hd.inj{h:Heap}:∀{d e:D}{v:Value},Hd h d v->Hd h e v->d=e
 |.int _,e,v,p,q=>by
  simp only[Hd]at p;obtain⟨t,rfl⟩:=p;cases e<;>simp only[Hd]at q
  .obtain⟨t',e⟩:=q;injection e with e;rw[e]
  .obtain⟨a,_,_,_,e,_⟩:=q;cases e
 |.tup ds,e,v,p,q=>by
  simp only[Hd]at p;obtain⟨a,o,its,n,rfl,h1,h2,h3,h4⟩:=p;cases e<;>simp only[Hd]at q
  .obtain⟨t',e⟩:=q;cases e
  .obtain⟨b,o',its',n',e,g1,g2,g3,g4⟩:=q;cases e;rw[h1]at g1;cases g1;rw[h3]at g3;injection g3 with e1 _;subst e1;rw[HdL.inj h4 g4]
 |.non,_,_,q,_=>by simp only[Hd]at q
 |.bl _,_,_,q,_=>by simp only[Hd]at q
 |.str _,_,_,q,_=>by simp only[Hd]at q
 |.lst _,_,_,q,_=>by simp only[Hd]at q
theorem HdL.inj{h:Heap}:∀{ds es:List D}{vs:List Value},HdL h ds vs->HdL h es vs->ds=es
 |[],[],_,_,_=>rfl
 |[],_::_,_,p,q=>by
  simp only[HdL]at p q;obtain⟨_,_,e,_⟩:=q;rw[p]at e;cases e
 |_::_,[],_,p,q=>by
  simp only[HdL]at p q;obtain⟨_,_,e,_⟩:=p;rw[q]at e;cases e
 |d::ds,e::es,_,p,q=>by simp only[HdL]at p q;obtain⟨v,r,rfl,p1,p2⟩:=p;obtain⟨u,w,eq,q1,q2⟩:=q;cases eq;rw[Hd.inj p1 q1,HdL.inj p2 q2]
end
section
variable{prog:Program}{w:World}
def zb3:∀(n:Nat){A:Around}{E:yyE}{s:Shared}{d:D}{v:Value}{Q:Int->Shared->Prop},D.dep d<=n->A.units+n<cLine->Hd s.heap d v->Q (D.hash d) { s with toks:=s.toks+D.draws d }->wpAny (model prog w) A (pyHash v) Q E s:=by
 intro n;induction n with
 |zero =>
  intro A E s d v Q hd hu hv h;cases d<;>simp only[Hd]at hv<;>simp only[D.dep,Nat.le_zero,y2e,y2O,and_false]at hd;obtain⟨t,rfl⟩:=hv;exact wpAny_pyHash_int h
 |succ n ih =>
  intro A E s d v Q hd hu hv h;cases d with
  |int i =>
   simp only[Hd]at hv;obtain⟨t,rfl⟩:=hv;exact wpAny_pyHash_int h
  |tup ds =>
   simp only[Hd]at hv;simp only[D.dep]at hd;obtain⟨a,o,its,m,rfl,ho,hc,hdd,hi⟩:=hv;have hT:s.TypeIs (.ref a) "tuple":=⟨o,ho,hc⟩;have hin:A.in1.units+n<cLine:=by show A.units+1+n<cLine;lia
   unfold pyHash;first|unfold pyHashByItsType|skip
   first|refine y02 (wpAny_cRoomFor_or (.inr (show A.units<cLine by lia)) ?_)|skip
   refine y02 (y2M hT y2x.lookup ?_);show wpAny _ _ (if(some (Value.builtin "tuple.__hash__")==some Value.none)=true
    then _ else _) Q E s
   rw[if_neg (by rw[beq_builtin_none];exact y0u)];refine y02 (y2M hT y2x.lookup ?_);show wpAny _ _ (callSpecialIfBoundUnlessNone? (.ref a) "__hash__" _
    >>= _) Q E s
   refine y02 (wpAny_callSpecialIfBoundUnlessNone?_slot hT y2x (y1d y2x
    hT F.entry_tuple_hash ?_ (F.args_tuple_hash_1 _)))
   show wpAny _ _ (Builtin.Tuple.tupleItemsOf (.ref a)>>=_) _ _ s;refine y02 (wpAny_tupleItemsOf ho hdd (y02 ?_));rw[<-Array.forIn_toList];refine wpAny_forIn_list _ (fun z6q (b:Array Int) s'=>∃done left,ds=done++left/\HdL s.heap left z6q/\b.toList=D.hashL done/\s'={ s with toks:=s.toks+D.drawsL done }) _ ?_ ?_ _ _ ⟨[],ds,rfl,hi,by simp only[D.hashL],by simp only[D.drawsL,Nat.add_zero]⟩
   .rintro x z6q b s' ⟨done,left,e,hl,hb,rfl⟩;cases left with
    |nil=>simp only[HdL]at hl;cases hl
    |cons k ks =>
     simp only[HdL]at hl;obtain⟨v',r,ev,q1,q2⟩:=hl;cases ev;have hk:D.dep k<=n:=by
      have z:ds[done.length]?=some k:=by rw[e];simp
      have:=D.depL_get z;lia
     refine y02 (ih hk hin q1 ?_);have fin:∃done' left',ds=done'++left'/\HdL s.heap left' z6q/\(b.push (D.hash k)).toList=D.hashL done'/\({ s with toks:=s.toks+D.drawsL done+D.draws k }:Shared)={ s with toks:=s.toks+D.drawsL done' } :=
      ⟨done++[k],ks,by rw[e];simp,q2,by rw[D.hashL_app,<-hb];simp[D.hashL],by rw[D.drawsL_app];simp only[D.drawsL,Nat.add_zero,Nat.add_assoc]⟩
     first
      |exact y07 fin
      |exact y02 (y07 (y07 fin))
   .rintro b s' ⟨done,left,e,hl,hb,rfl⟩;cases left with
    |cons k ks=>simp only[HdL]at hl;obtain⟨_,_,e,_⟩:=hl;cases e
    |nil =>
     rw[y1A]at e;subst e;show wpAny _ _ (retInt (Builtin.Tuple.tupleHashOf b.toList))
      _ _ _
     rw[hb];refine wpAny_ret_mkInt ?_;show wpAny _ _ (if(decide (-(2:Int)^63<=Builtin.Tuple.tupleHashOf (D.hashL ds))&&decide (Builtin.Tuple.tupleHashOf (D.hashL ds)<2^63))=true then _ else _) Q E _;simp only[D.hash]at h;unfold reduceHash at h;simp only[D.draws]at h;by_cases hr:(decide (-(2:Int)^63<=Builtin.Tuple.tupleHashOf (D.hashL ds))&&decide (Builtin.Tuple.tupleHashOf (D.hashL ds)<2^63))=true
     .rw[if_pos hr];rw[if_pos hr]at h;exact y07 (by simpa[Nat.add_assoc]using h)
     .rw[if_neg hr];rw[if_neg hr]at h;exact y02 (wpAny_rule (y07 (by simpa[Nat.add_assoc]using h)))
  |non=>simp only[Hd]at hv
  |bl _=>simp only[Hd]at hv
  |str _=>simp only[Hd]at hv
  |lst _=>simp only[Hd]at hv
end
open PySem PySem.Spec PyProof.Rows PySem.SeqAt
section
variable{prog:Program}{w:World}
def zdt{s:Shared}:∀(n:Nat)(A:Around){d e:D}{v u:Value},D.dep d<=n->A.units+n<cLine->Hd s.heap d v->Hd s.heap e u->EqAt A s v u (D.eq d e):=by
 intro n;induction n with
 |zero =>
  intro A d e v u hd hu hv hx;cases d<;>simp only[Hd]at hv<;>simp only[D.dep,Nat.le_zero,y2e,y2O,and_false]at hd;obtain⟨t,rfl⟩:=hv;cases e<;>simp only[Hd]at hx
  .obtain⟨t',rfl⟩:=hx;simp only[D.eq];exact EqAt.int_int _ _ _ _
  .obtain⟨a,o,its,m,rfl,ho,hc,hdd,hi⟩:=hx;simp only[D.eq];exact EqAt.int_tuple _ _ (items:=its) ⟨o,ho,hc,m,hdd⟩ (by lia)
 |succ n ih =>
  intro A d e v u hd hu hv hx;have hin:A.in1.units+n<cLine:=by show A.units+1+n<cLine;lia
  cases d with
  |int i=>exact ih A (y0t _) (by lia) hv hx
  |tup ds =>
   simp only[Hd]at hv;simp only[D.dep]at hd;obtain⟨a,o,its,m,rfl,ho,hc,hdd,hi⟩:=hv;have ta:s.heap.IsTuple a its:=⟨o,ho,hc,m,hdd⟩;cases e with
   |int j =>
    simp only[Hd]at hx;obtain⟨t',rfl⟩:=hx;simp only[D.eq];exact EqAt.tuple_int _ _ ta (by lia)
   |tup es =>
    have inj:Value.ref a=u->D.tup ds=D.tup es:=fun z=>Hd.inj (h:=s.heap) (v:=u) (by rw[<-z];simp only[Hd];exact⟨a,o,its,m,rfl,ho,hc,hdd,hi⟩) hx;simp only[Hd]at hx;obtain⟨b,o',its',m',rfl,ho',hc',hdd',hi'⟩:=hx;have tb:s.heap.IsTuple b its':=⟨o',ho',hc',m',hdd'⟩;have e1:its.size=ds.length:=by have:=hi.length;simp at this;lia
    have e2:its'.size=es.length:=by have:=hi'.length;simp at this;lia
    have z:=RcAt.tuples (A:=A) (e:=D.at_ ds es) ta tb (by lia) (fun j h1 h2=>by
     have g1:ds[j]?=some ds[j]:=y01 (by lia);have g2:es[j]?=some es[j]:=y01 (by lia);obtain⟨x1,k1,q1⟩:=hi.get g1;obtain⟨x2,k2,q2⟩:=hi'.get g2;have z1:x1=its[j]:=by simp[h1]at k1;exact k1.symm
     have z2:x2=its'[j]:=by simp[h2]at k2;exact k2.symm
     have z3:D.at_ ds es j=D.eq ds[j] es[j]:=by unfold D.at_;rw[g1,g2]
     rw[z3,<-z1,<-z2];exact ih A.in1 (y0w (D.depL_get g1) (by lia)) hin q1 q2)
    rw[e1,e2,D.all_eqL]at z;simp only[D.eq];by_cases hab:a=b
    .have:=inj (by rw[hab]);injection this with this;subst this hab;rw[D.eqL_refl];exact EqAt.same _
    .exact EqAt.of_refs hab z
   |non=>simp only[Hd]at hx
   |bl _=>simp only[Hd]at hx
   |str _=>simp only[Hd]at hx
   |lst _=>simp only[Hd]at hx
  |non=>simp only[Hd]at hv
  |bl _=>simp only[Hd]at hv
  |str _=>simp only[Hd]at hv
  |lst _=>simp only[Hd]at hv
def z8Y{A:Around}{E:yyE}{s:Shared}:∀(n:Nat){d:D}{v:Value}{Q:Bool->Shared->Prop},D.dep d<=n->Hd s.heap d v->Q true s->wpAny (model prog w) A (eqIsQuiet n v) Q E s:=by
 have flat:∀(n:Nat){i:Int}{t:Tok}{Q:Bool->Shared->Prop},Q true s->wpAny (model prog w) A (eqIsQuiet n (.int i t)) Q E s:=fun n i t Q h=>by rw[eqIsQuiet_byValue n (v:=.int i t) rfl];exact y07 h
 intro n;induction n with
 |zero =>
  intro d v Q hd hv h;cases d<;>simp only[Hd]at hv<;>simp only[D.dep,Nat.le_zero,y2e,y2O,and_false]at hd;obtain⟨t,rfl⟩:=hv;exact flat 0 h
 |succ n ih =>
  intro d v Q hd hv h;cases d with
  |int i =>
   simp only[Hd]at hv;obtain⟨t,rfl⟩:=hv;exact flat _ h
  |tup ds =>
   simp only[Hd]at hv;simp only[D.dep]at hd;obtain⟨a,o,its,m,rfl,ho,hc,hdd,hi⟩:=hv;have hT:s.TypeIs (.ref a) "tuple":=⟨o,ho,hc⟩;unfold eqIsQuiet;refine y02 (y2M hT F.slot_tuple_eq.lookup ?_);show wpAny _ _ (isInstance (.ref a) (.type "tuple")
    >>= _) _ _ s
   refine y02 (wpAny_isInstance hT isSubtype_tuple_tuple ?_);simp only[Bool.not_true,y0Y,if_false];refine y02 (y1J ho hdd (y02 ?_));show wpAny _ _ (forIn its _ _) _ _ s;rw[<-Array.forIn_toList];refine wpAny_forIn_list _ (fun z6q r s'=>r.1=none/\s'=s/\∃left,HdL s.heap left z6q/\D.depL left<=n) _ ?_ ?_ _ _ ⟨rfl,rfl,ds,hi,by lia⟩
   .rintro x z6q r s' ⟨hr,rfl,left,hl,hdl⟩;cases left with
    |nil=>simp only[HdL]at hl;cases hl
    |cons k ks =>
     simp only[HdL]at hl;simp only[D.depL]at hdl;obtain⟨v',q,ev,q1,q2⟩:=hl;cases ev;refine y02 (ih (by lia) q1 ?_);simp only[Bool.not_true,y0Y,if_false];exact y07 ⟨rfl,rfl,ks,q2,by lia⟩
   .rintro⟨r1,r2⟩ s' ⟨hr,rfl,_⟩;simp only at hr;subst hr;exact y07 h
  |non=>simp only[Hd]at hv
  |bl _=>simp only[Hd]at hv
  |str _=>simp only[Hd]at hv
  |lst _=>simp only[Hd]at hv
def z37(prog:Program)(w:World):HeapKind prog w D where
 is:=fun h d a=>Hd h d (.ref a)/\D.dep d<=8
 hash:=D.hash
 draws:=D.draws
 room:=fun A=>A.units+8<cLine
 inj:=fun hx hy=>Hd.inj hx.1 hy.1
 keeps:=fun{h h' k a d o es ep} hx ho hd hs=>⟨Hd.keep (fun b o' its n e c q=>(hs.2 b (by rintro rfl;rw[ho]at e;cases e;rw[hd]at q;cases q)).trans e) hx.1,hx.2⟩
 pyHash:=fun hu hk h=>zb3 8 hk.2 hu hk.1 h
 eqBool:=fun hu hx hy h=>by rw[D.dec]at h;exact zdt 8 _ hx.2 hu hx.1 hy.1 _ _ _ _ h
 quiet:=fun hk h=>z8Y 8 hk.2 hk.1 h
end
mutual
def D.key:D->Prop
 |.int _=>True
 |.tup ds=>D.keyL ds
 |_=>False
def D.keyL:List D->Prop
 |[]=>True
 |d::ds=>D.key d/\D.keyL ds
end
section
variable{P:Program}{w:World}{K:yyF}{H:Hp}{h:Heap}
mutual
theorem Dr.hd(ok:HOk P w H h):∀{d:D}{v:V}{u:Value},D.key d->Dr K H d v->z0U v u->Hd h d u
 |.int i,v,u,_,q,r=>by
  simp only[Dr]at q;subst q;simp only[Hd];exact r
 |.tup ds,v,u,k,q,r=>by
  simp only[Dr]at q;simp only[D.key]at k;obtain⟨a,vs,rfl,e,q⟩:=q;cases r;obtain⟨_,its,n,rv,h1⟩:=ok a _ e;simp only[Hd];exact⟨a,_,its.toArray,n,rfl,h1,rfl,rfl,by simpa using DrL.hd ok k q rv⟩
 |.non,_,_,k,_,_=>by simp only[D.key]at k
 |.bl _,_,_,k,_,_=>by simp only[D.key]at k
 |.str _,_,_,k,_,_=>by simp only[D.key]at k
 |.lst _,_,_,k,_,_=>by simp only[D.key]at k
theorem DrL.hd(ok:HOk P w H h):∀{ds:List D}{vs:List V}{us:List Value},D.keyL ds->DrL K H ds vs->z0J vs us->HdL h ds us
 |[],vs,us,_,q,r=>by
  simp only[DrL]at q;subst q;cases r;simp only[HdL]
 |d::ds,vs,us,k,q,r=>by
  simp only[DrL]at q;simp only[D.keyL]at k;obtain⟨v,z,rfl,q1,q2⟩:=q;cases r with
  |cons r1 r2 =>
   simp only[HdL];exact⟨_,_,rfl,Dr.hd ok k.1 q1 r1,DrL.hd ok k.2 q2 r2⟩
end
end
open PySem PySem.Spec PyProof.Rows PySem.SeqAt
def zf2(P:Program)(w:World)(a:Addr)(xs:List (D × Addr × Value)):HO :=
 .ext fun h=>(a==sysModules)=false/\∃o es ep,h.get? a=some o/\o.ExactDict/\o.data=.dict es ep/\es.toList=xs.map (entryOfKey (z37 P w))
abbrev KDr(K:yyF)(H:Hp):List (D × V)->List (D × Addr × Value)->Prop:=Paired fun p q=>p.1=q.1/\(D.key p.1/\D.dep p.1<=8/\Dr K H p.1 (.ref q.2.1))/\z0U p.2 q.2.2
def DD(P:Program)(w:World)(K:yyF)(H:Hp)(a:Addr)(kvs:List (D × V)):Prop :=
 ∃xs,H a=some (zf2 P w a xs)/\KDr K H kvs xs/\(kvs.map (·.1)).Nodup/\kvs.length<=sizeLine
def KDr.val{K:yyF}{H:Hp}{kvs:List (D × V)}{xs:List (D × Addr × Value)}(r:KDr K H kvs xs)(k:D):z4Q (z2S kvs k) ((atKey xs k).map (·.2)):=by
 induction r with
 |nil=>exact y1m
 |@cons p q ps qs h t ih =>
  obtain⟨h1,_,h2⟩:=h;by_cases e:p.1=k
  .have e':q.1=k:=h1.symm.trans e;have b:atKey (q::qs) k=some q.2:=by simp[atKey,y1C,e']
   rw[z3a e,b];exact h2
  .have e':¬q.1=k:=fun z=>e (h1.trans z);have b:atKey (q::qs) k=atKey qs k:=by simp[atKey,y1C,e']
   rw[z35 e,b];exact ih
def KDr.repl{K:yyF}{H:Hp}{kvs:List (D × V)}{xs:List (D × Addr × Value)}(r:KDr K H kvs xs)(k:D){y:V}{u:Value}(ry:z0U y u) : KDr K H (kvs.map fun kv=>if kv.1=k then(kv.1,y)else kv) (xs.map (putAt k u)):=by
 induction r with
 |nil=>exact .nil
 |@cons p q ps qs h t ih =>
  rw[y0i,y0i];refine .cons ?_ ih;obtain⟨h1,h2,h3⟩:=h;unfold putAt;by_cases e:p.1=k
  .rw[if_pos e,if_pos (h1.symm.trans e)];exact⟨h1,h2,ry⟩
  .rw[if_neg e,if_neg (fun z=>e (h1.trans z))];exact⟨h1,h2,h3⟩
def KDr.put{K:yyF}{H:Hp}{kvs:List (D × V)}{xs:List (D × Addr × Value)}(r:KDr K H kvs xs)(k:D){b:Addr}{y:V}{u:Value}(hb:D.key k/\D.dep k<=8/\Dr K H k (.ref b))(ry:z0U y u) : KDr K H (z1X kvs k y) (storedH xs k b u):=by
 have e:(kvs.any fun kv=>decide (kv.1=k))=(atKey xs k).isSome:=by rw[z41,(r.val k).isSome_eq,y24]
 unfold z1X storedH;rw[e];by_cases q:(atKey xs k).isSome=true
 .rw[if_pos q,if_pos q];exact r.repl k ry
 .rw[if_neg q,if_neg q];exact Paired.snoc r ⟨rfl,hb,ry⟩
def KDr.keys{K:yyF}{H:Hp}{kvs:List (D × V)}{xs:List (D × Addr × Value)}(r:KDr K H kvs xs):kvs.map (·.1)=xs.map (·.1):=by
 induction r with
 |nil=>rfl
 |@cons p q ps qs h t ih=>rw[y0i,y0i,ih,h.1]
def KDr.mono{K:yyF}{H H':Hp}{kvs:List (D × V)}{xs:List (D × Addr × Value)}(r:KDr K H kvs xs)(f:∀d v,D.key d->Dr K H d v->Dr K H' d v):KDr K H' kvs xs :=
 Paired.mapP r fun _ _ z=>⟨z.1,⟨z.2.1.1,z.2.1.2.1,f _ _ z.2.1.1 z.2.1.2.2⟩,z.2.2⟩
theorem DD.mono{P:Program}{w:World}{K:yyF}{H H':Hp}{a:Addr}{kvs:List (D × V)}(h:DD P w K H a kvs)(s:z08 H H'):DD P w K H' a kvs:=by obtain⟨xs,e,r,n,z⟩:=h;exact⟨xs,s _ _ e,r.mono fun _ _ _ q=>q.mono s,n,z⟩
mutual
theorem Dr.keyed{K:yyF}{H H':Hp}(k:∀b xs,H b=some (.tup xs)->H' b=some (.tup xs)):∀{d:D}{v:V},D.key d->Dr K H d v->Dr K H' d v
 |.int _,_,_,h=>by simp only[Dr]at h⊢;exact h
 |.tup ds,_,q,h=>by
  simp only[Dr]at h⊢;simp only[D.key]at q;obtain⟨a,vs,e,z,r⟩:=h;exact⟨a,vs,e,k _ _ z,DrL.keyed k q r⟩
 |.non,_,q,_=>by simp only[D.key]at q
 |.bl _,_,q,_=>by simp only[D.key]at q
 |.str _,_,q,_=>by simp only[D.key]at q
 |.lst _,_,q,_=>by simp only[D.key]at q
theorem DrL.keyed{K:yyF}{H H':Hp}(k:∀b xs,H b=some (.tup xs)->H' b=some (.tup xs)):∀{ds:List D}{vs:List V},D.keyL ds->DrL K H ds vs->DrL K H' ds vs
 |[],_,_,h=>by simp only[DrL]at h⊢;exact h
 |d::ds,_,q,h=>by simp only[DrL]at h⊢;simp only[D.keyL]at q;obtain⟨v,r,e,q1,q2⟩:=h;exact⟨v,r,e,Dr.keyed k q.1 q1,DrL.keyed k q.2 q2⟩
end
section
variable{X:Cx}{pins:yyP}{σ:St}{H:Hp}{s:Shared}{a:Addr}{kvs:List (D × V)}{K:yyF}
def DD.at(I:Inv X pins σ H s)(h:DD X.prog X.w K H a kvs):(a==sysModules)=false/\∃xs,H a=some (zf2 X.prog X.w a xs)/\KDr K H kvs xs/\s.heap.DictOfH (z37 X.prog X.w) a xs:=by
 obtain⟨xs,e,r,n,z⟩:=h;obtain⟨⟨hs,o,es,ep,h1,h2,h3,h4⟩,_,_⟩:=I.hok a _ e;refine⟨hs,xs,e,r,o,es,ep,h1,h2,h3,h4,?_,by rw[<-r.keys];exact n⟩;have all:∀{l:List (D × V)}{m:List (D × Addr × Value)},KDr K H l m->∀x∈m,(z37 X.prog X.w).is s.heap x.1 x.2.1:=by
  intro l m q;induction q with
  |nil=>intro x hx;exact nomatch hx
  |@cons p q ps qs hq t ih =>
   intro x hx;rcases y0o.mp hx with e|hx
   .subst e;rw[<-hq.1];exact⟨Dr.hd I.hok hq.2.1.1 hq.2.1.2.2 rfl,hq.2.1.2.1⟩
   .exact ih x hx
 exact all r
def za8(I:Inv X pins σ H s){d:D}{b:Addr}(k:D.key d)(hd:D.dep d<=8)(h:Dr K H d (.ref b)):(z37 X.prog X.w).is s.heap d b:=⟨Dr.hd I.hok k h rfl,hd⟩
def zgj(K:yyF)(H:Hp)(d:D)(y:V):Prop:=(∃b,y=.ref b)/\D.key d/\D.dep d<=8/\Dr K H d y
variable{o i e f value:Expr}{pos pos' apos cpos:Pos}{td ty tv tx:TE}
def zeD(P:Program)(w:World)(K:yyF)(td ty:TE):TE:=fun σ H Q=>td σ H fun x H1=>ty σ H1 fun y H2=>∃a kvs d v,x=.ref a/\DD P w K H2 a kvs/\zgj K H2 d y/\z2S kvs d=some v/\Q v H2
def zdo(hu:X.A.units+9<cLine)(ho:PE X o td)(hi:PE X i ty)(hs:zfq i):PE X (.Subscript o i pos) (zeD X.prog X.w K td ty):=by intro pins s σ H Q I h;refine z7h y2a.lookup hs (z1w (ho pins s σ H _ I h) fun u s1 x H1 I1 rx q1=>z1w (hi pins s1 σ H1 _ I1 q1) fun iv s2 y H2 I2 ry hz9=>?_);obtain⟨a,kvs,d,v,ex,g,⟨⟨b,eb⟩,k1,k2,k3⟩,hv,q2⟩:=hz9;subst ex eb;obtain rfl:u=Value.ref a:=rx;obtain rfl:iv=Value.ref b:=ry;obtain⟨hsm,xs,e,r,dd⟩:=g.at I2;obtain⟨w',hw,rw'⟩:=z4Q.some_of (v:=v) (o:=(atKey xs d).map (·.2)) (by rw[<-hv];exact r.val d);obtain⟨p,hp,hp2⟩:=y15.mp hw;refine⟨dd.typeIs,wpAny_getItem_heap (show X.A.units+1+8<cLine by lia) (za8 I2 k1 k2 k3) dd hp ?_⟩;rw[hp2];exact⟨v,H2,I2.tok _,rw',q2⟩
def ze4(P:Program)(w:World)(K:yyF)(ty td:TE):TE:=fun σ H Q=>ty σ H fun y H1=>td σ H1 fun x H2=>∃a kvs d,x=.ref a/\DD P w K H2 a kvs/\zgj K H2 d y/\Q (.bl (!(z2S kvs d).isSome)) H2
def zbl(hu:X.A.units+9<cLine)(hi:PE X i ty)(ho:PE X o td):PC X .NotIn i o (ze4 X.prog X.w K ty td):=by intro pins s σ H Q I h;refine z1w (hi pins s σ H _ I h) fun iv s1 y H1 I1 ry q1=>z1w (ho pins s1 σ H1 _ I1 q1) fun u s2 x H2 I2 rx hz9=>?_;obtain⟨a,kvs,d,ex,g,⟨⟨b,eb⟩,k1,k2,k3⟩,q2⟩:=hz9;subst ex eb;obtain rfl:u=Value.ref a:=rx;obtain rfl:iv=Value.ref b:=ry;obtain⟨hsm,xs,e,r,dd⟩:=g.at I2;refine wpAny_notIn_heap (show X.A.units+1+8<cLine by lia) (za8 I2 k1 k2 k3) hsm dd ?_;have q:=(r.val d).isSome_eq;rw[y24]at q;rw[<-q];exact⟨.bl _,H2,I2.tok _,rfl,q2⟩
def zhW(P:Program)(w:World)(K:yyF)(td ty tv:TE):TS:=fun Dd σ H=>tv σ H fun v H1=>td σ H1 fun x H2=>ty σ H2 fun y H3=>∃a kvs d,x=.ref a/\DD P w K H3 a kvs/\zgj K H3 d y/\kvs.length<sizeLine /\
 ∀ob,DD P w K (upd H3 a ob) a (z1X kvs d v)->Dd.nx σ (upd H3 a ob)
def zbU{P:Program}{w:World}(h:DD P w K H a kvs):∀b xs,H b=some (.tup xs)->b≠a:=fun b xs e z=>by obtain⟨ys,q,_⟩:=h;rw[z,q]at e;cases e
def zeo(hu:X.A.units+9<cLine)(ho:PE X o td)(hi:PE X i ty)(hv:PE X value tv)(hs:swapsWith value (some (.Subscript o i pos')) pos.line X.env=pure false:=by rfl) : PS X (.Assign [.Subscript o i pos'] value pos) (zhW X.prog X.w K td ty tv):=by
 intro pins s σ H D I h;refine wpAny_Assign_Subscript (z1w (hv pins s σ H _ I h) fun r s1 v H1 I1 rv q1=>z1w (ho pins s1 σ H1 _ I1 q1) fun u s2 x H2 I2 rx q2=>z1w (hi pins s2 σ H2 _ I2 q2) fun iv s3 y H3 I3 ry hz9=>?_) hs;obtain⟨a,kvs,d,ex,g,⟨⟨b,eb⟩,k1,k2,k3⟩,hz,q3⟩:=hz9;subst ex eb;obtain rfl:u=Value.ref a:=rx;obtain rfl:iv=Value.ref b:=ry;obtain⟨hsm,xs,e,rr,dd⟩:=g.at I3;have hlen:xs.length<=sizeLine:=by rw[<-y23 rr];exact y1y hz
 have hl:(z1X kvs d v).length<=sizeLine:=by have:=z1v kvs d v;lia
 refine wpAny_setItem_heap (hsz:=hlen) (show X.A.units+1+8<cLine by lia) (za8 I3 k1 k2 k3) dd fun h' dd' hsb=>?_;obtain⟨q,es,ep,hq,h2,h3,h4,_,h5⟩:=dd';have Iw:Inv X pins σ (upd H3 a (zf2 X.prog X.w a (storedH xs d b r))) { s3 with heap:=h',toks:=s3.toks+(z37 X.prog X.w).draws d }:=by refine z3A I3 (by rw[e];exact y1m) hsb ⟨q,hq⟩ ⟨⟨hsm,q,es,ep,hq,h2,h3,h4⟩,⟨q,hq⟩,fun h1 h2' p k=>?_⟩;obtain⟨p0,o1,es1,ep1,p1,p2,p3,p4⟩:=p;exact⟨p0,o1,es1,ep1,k _ p1,p2,p3,p4⟩
 have kt:∀c ys,H3 c=some (.tup ys)->upd H3 a (zf2 X.prog X.w a (storedH xs d b r)) c=some (.tup ys):=fun c ys ec=>by rw[z04 (zbU g c ys ec)];exact ec
 refine⟨σ,_,Iw,q3 _ ⟨_,z01,(rr.put d ⟨k1,k2,k3⟩ rv).mono fun d' v' kd q=>q.keyed kt kd,?_,hl⟩⟩;have nd:=h5;have ek:=(rr.put d ⟨k1,k2,k3⟩ rv).keys;rw[ek];exact nd
def zgz(P:Program)(w:World)(K:yyF):TE:=fun _ H Q=>∀p,H p=none->∀ob,DD P w K (upd H p ob) p []->Q (.ref p) (upd H p ob)
def zeg:PE X (.Dict [] [] pos) (zgz X.prog X.w K):=fun pins s σ H Q I h=>by have hb:(s.heap.objs.size==sysModules)=false:=y1o.mpr (y1h (y0q I.big));refine wpAny_Dict_empty ⟨.ref s.heap.objs.size,_,I.laid (a:=s.heap.objs.size) (o:=zf2 X.prog X.w s.heap.objs.size []) (t':=s.toks) (fun _ _ q=>y03 _ q) (y0a _) ⟨⟨hb,_,#[],0,y09 _ rfl,⟨rfl,rfl,rfl⟩,rfl,rfl⟩,⟨_,y09 _ rfl⟩,fun h1 h2 p k=>?_⟩,rfl,h _ I.fresh _ ⟨[],z01,.nil,List.nodup_nil,y0t _⟩⟩;obtain⟨p0,o1,es1,ep1,p1,p2,p3,p4⟩:=p;exact⟨p0,o1,es1,ep1,k _ p1,p2,p3,p4⟩
end
open PySem PySem.Spec PyProof.Rows PySem.SeqAt
open PySem.AutoSeq1 (wpAny_loadPart')
section
variable{X:Cx}(K:yyF)
def zkp:z1s X (.builtin "len") (fun xs H Q=>∃a kvs,xs=[V.ref a]/\DD X.prog X.w K H a kvs/\Q (.int kvs.length) H):=by
 intro pins s σ H xs us Q I r h;obtain⟨a,kvs,rfl,g,q⟩:=h;obtain⟨u,rfl,ru⟩:=z2E r;cases ru;obtain⟨hsm,xs,_,rr,dd⟩:=g.at I;obtain⟨o,es,ep,ho,hc,hdat,hes,_⟩:=id dd;have hlen:es.size=kvs.length:=by
  have:es.toList.length=xs.length:=by rw[hes,y00]
  rw[y23 rr,<-this];simp
 have hz:kvs.length<=sizeLine:=by obtain⟨_,_,_,_,z⟩:=g;exact z
 have hz2:(kvs.length:Int)<2^63:=by have:=z3P;lia
 refine Calls.call_function_entry kind_len plain_len entry_len (args_len1 _) ?_;unfold Builtin.«len»;refine y02 (m:=oneArg "len" _) (y07 ?_);refine y02 (m:=callSpecial? (.ref a) (Str.ofString "__len__")) (y11 (name:=Str.ofString "__len__") dd.typeIs F.slot_dict_len
  (y1d F.slot_dict_len dd.typeIs F.entry_dict_len ?_ (F.args_dict_len_1 _)))
 show wpAny _ _ (dictSize a>>=_) _ _ s;unfold dictSize;refine y02 (y02 (wpAny_dictEntries ho hdat (y07 ?_)));show wpAny _ _ (Builtin.Dict.pendingCount a>>=_) _ _ s;refine y02 (wpAny_pendingCount_other hsm ?_);refine wpAny_ret_mkInt ?_;rw[Nat.add_zero,hlen];refine y02 (y1i (y07 ?_));refine y02 (wpAny_letGo ?_);show wpAny _ _ (if((kvs.length:Nat):Int)<0
  then _ else _) _ _ _
 rw[if_neg (by lia)];show wpAny _ _ (if((kvs.length:Nat):Int) ≥ 2^63
  then _ else _) _ _ _
 rw[if_neg (by lia)];exact y02 (wpAny_mkInt (y07 ⟨_,rfl,.int kvs.length,H,I.tok _,⟨_,rfl⟩,q⟩))
end
open PySem PySem.Spec PyProof.Rows PySem.SeqAt
open PySem.AutoSeq1 (wpAny_loadPart')
theorem z3o:∀{ns:List Int}{its:List Value},z0J (ns.map V.int) its->∃xs:List (Int × Tok),its=xs.map (fun p=>Value.int p.1 p.2)/\xs.map (·.1)=ns
 |[],_,r=>by rw[y0Z]at r;cases r;exact⟨[],rfl,rfl⟩
 |n::ns,_,r=>by
  rw[y0i]at r;cases r with
  |cons r rr =>
   obtain⟨t,rfl⟩:=r;obtain⟨xs,rfl,e⟩:=z3o rr;exact⟨(n,t)::xs,rfl,by rw[y0i,e]⟩
theorem z7E:∀{ns:List Int}{its:List Value},z0J (ns.map V.int) its->IntsAre its ns
 |[],_,r=>by rw[y0Z]at r;cases r;exact .nil
 |n::ns,_,r=>by
  rw[y0i]at r;cases r with
  |cons r rr =>
   obtain⟨t,rfl⟩:=r;exact .cons n t (z7E rr)
theorem zaN:∀{ns:List Int}{its:List Value},IntsAre its ns->z0J (ns.map V.int) its
 |_,_,.nil=>.nil
 |_,_,.cons n t r=>.cons ⟨t,rfl⟩ (zaN r)
section
variable{X:Cx}(K:yyF)
def zmB(hK:X.K=K)(hc:X.calm=true):z1s X (.builtin "max") (fun xs H Q=>∃(p:Addr) (ns:List Int) (M:Int),xs=[.ref p]/\SqL K H p (ns.map V.int)/\M∈ns/\(∀a∈ns,a<=M)/\Q (.int M) H):=by
 subst hK;intro pins s σ H xs us Q I r h;obtain⟨p,ns,M,rfl,hp,hM,hle,q⟩:=h;obtain⟨u,rfl,ru⟩:=z2E r;cases ru;obtain⟨its,rv,pl,hz⟩:=I.list hp;obtain⟨ys,rfl,ey⟩:=z3o rv;have hne:0<ys.length:=by have:0<ns.length:=y1T hM;rw[<-ey,y00]at this;exact this
 have e1:(ys.map fun p=>Value.int p.1 p.2).toArray=intItems ys.toArray:=by unfold intItems;simp
 have pl':=pl.isList;rw[e1]at pl';refine max_intList (xs:=ys.toArray) (I.ok.hd hc) pl' (by simpa using hne) fun v h' tk hv hk=>?_;obtain⟨t,rfl⟩:=intItems_at hv;obtain⟨h1,h2⟩:=argBest_gt (numAt ys.toArray) (ys.toArray.size-1);have emem:∀j,j<ys.length->numAt ys.toArray j∈ns:=fun j hj=>by
  rw[numAt_eq];have:(ys.toArray.toList.map (·.1))=ns:=by simpa using ey
  rw[this];have hjn:j<ns.length:=by rw[<-ey,y00];exact hj
  simp[hjn]
 have hb:argBest (fun i j=>decide (numAt ys.toArray i>numAt ys.toArray j)) (ys.toArray.size-1)<ys.length:=by
  have:ys.toArray.size=ys.length:=by simp
  lia
 have eM:numAt ys.toArray (argBest (fun i j=>decide (numAt ys.toArray i>numAt ys.toArray j)) (ys.toArray.size-1))=M:=by
  refine Int.le_antisymm (hle _ (emem _ hb)) ?_;obtain⟨j,hj,e⟩:=y1f hM;have hjy:j<ys.length:=by rw[<-ey,y00]at hj;exact hj
  have z:=h2 j (by simp;lia);have e2:numAt ys.toArray j=M:=by
   rw[numAt_eq];have:(ys.toArray.toList.map (·.1))=ns:=by simpa using ey
   rw[this];simp[hj,e]
  rw[e2]at z;exact z
 rw[eM];exact⟨.int M,H,I.kept (t':=tk) hk,⟨_,rfl⟩,q⟩
def zfQ(hK:X.K=K):z1s X (.builtin "sorted") (fun xs H Q=>∃(p:Addr) (ns:List Int),xs=[.ref p]/\SqT K H p (ns.map V.int)/\ns.length<64/\∀ns':List Int,ns'.Perm ns->ns'.Pairwise (·<=·)->∀l,H l=none->Q (.ref l) (upd H l (.lst (ns'.map V.int)))):=by
 subst hK;intro pins s σ H xs us Q I r h;obtain⟨p,ns,rfl,hp,h64,q⟩:=h;obtain⟨u,rfl,ru⟩:=z2E r;cases ru;obtain⟨its,rv,⟨o,ho,hc,n,hd⟩,hz⟩:=I.tuple hp;have hI:=z7E rv;have hlen:its.length=ns.length:=by have:=rv.length;rw[y00]at this;exact this.symm
 refine Calls.call_function_entry kind_sorted plain_sorted entry_sorted (args_sorted1 _) ?_;unfold Builtin.«sorted»;refine y02 (m:=checkCount "sorted" 1 1 _) (y07 ?_);refine y02 (wpAny_collect_seq (T:="tuple") p (.inr rfl) ho hc hd (fun h1 hk1=>?_) (by simp only[y0g];rw[<-rv.length];exact hz));refine y02 (wpAny_newList ?_);have I1:Inv X pins σ H { s with heap:=h1 }:=I.kept (t':=s.toks) hk1;have e0:its.toArray.toList=its:=by simp
 rw[e0];have hoL:(h1.push (seqObj "list" its.toArray 0)).get? h1.objs.size=some (seqObj "list" its.toArray 0):=y09 _ rfl;show wpAny _ _ _ _ _ { s with heap:=h1.push (seqObj "list" its.toArray 0) };refine y02 (y1i (y1d slot_list_sort ⟨_,hoL,rfl⟩ entry_list_sort
  (list_sort_tree hoL hI (by lia) fun out ns' a1 a2 a3=>⟨_,rfl,?_⟩) (args_list_sort _)))
 obtain⟨e,he⟩:=sortedHeap_at (out:=out) hoL;refine y07 ⟨_,rfl,.ref h1.objs.size,_,I1.laid (a:=h1.objs.size) (o:=.lst (ns'.map V.int)) (t':=s.toks) (fun b u q=>?_) (y0a _) ⟨?_,out.toList,e,zaN a1,by simpa[seqObj]using he⟩,rfl,q ns' a2 a3 _ I1.fresh⟩
 .have hlt:b<h1.objs.size:=y0b q;rw[sortedHeap_old (y0q hlt) (by rw[y1g];exact y2w hlt)];exact y03 _ q
 .rw[y00,List.Perm.length_eq a2];have:=z3P;exact y1y (z2o (by lia))
def z2z:fillsNumberSlot (.type "tuple") "mul"=pure false :=
 PySem.fillsNumberSlot_seq (id:="tuple.__mul__") (r:=some (.builtin "tuple.__rmul__")) y2c.lookup (by decide +kernel) F.slot_tuple_rmul.lookup (by decide +kernel)
def z3J:seqRepeat? (.type "tuple")=pure (some (.builtin "tuple.__mul__")):=by unfold seqRepeat?;rw[PySem.seqSlot_of (T:="tuple") (name:="__mul__") (id:="tuple.__mul__") y2c.lookup (by decide +kernel),PySem.seqSlot_of (T:="tuple") (name:="__rmul__") (id:="tuple.__rmul__") F.slot_tuple_rmul.lookup (by decide +kernel)];rfl
def z2q(a:Int)(t:Tok)(l:Addr)(its:Array Value)(n:Nat) : Meets (Builtin.«int.__rmul__» ⟨[.int a t,.ref l],[]⟩) (fun _ R s=>s.heap.get? l=some { cls:=.type "tuple",dict:=none,data:=.seq its n,slots:=#[] }/\R (.ok (.ret Value.notImplemented)) s) :=
 .of_wp fun prog w A R s h=>by
  obtain⟨hp,g,d,tk,os⟩:=s;obtain⟨hl,h⟩:=h
  wp_walk
  exact⟨_,rfl,h⟩
def zem(l:Addr)(its:List Value)(n:Nat)(k:Int)(t:Tok)(h2:2<=k)(hk:k<=1000)(hne:its≠[])(hz:its.length*k.toNat<=sizeLine) : Meets (Builtin.«tuple.__mul__» ⟨[.ref l,.int k t],[]⟩) (fun _ R s=>s.heap.get? l=some { cls:=.type "tuple",dict:=none,data:=.seq its.toArray n,slots:=#[] } /\ R (.ok (.ret (.ref s.heap.objs.size))) { s with heap:=s.heap.push { cls:=.type "tuple",data:=.seq (List.replicate k.toNat its).flatten.toArray } }) :=
 .of_wp fun prog w A R s h=>by
  obtain⟨hp,g,d,tk,os⟩:=s;obtain⟨hl,h⟩:=h;have hie:its.toArray.isEmpty=false:=by cases its with|nil=>exact absurd rfl hne|cons a r=>simp
  have hcap:¬((its.toArray.size:Int)*k>(2^63-1)/8):=by
   have h1:((its.length*k.toNat:Nat):Int)<=sizeLine:=by lia
   have h3:((its.length*k.toNat:Nat):Int)=(its.length:Int)*k:=by rw[Int.natCast_mul];congr 1;lia
   have h4:(sizeLine:Int)<=(2^63-1)/8:=by rw[y2d];decide
   simp only[y0g];lia
  wp_walk using wpAny_loadPart' hl
  refine y1r (fun hab=>absurd hab (by simp;lia)) (fun _=>?_)
  wp_walk using wpAny_loadPart' hl
  have hk1:(k==1)=false:=by simpa using(show k≠1 by lia)
  have hk0:decide (k<=0)=false:=by simpa using(show ¬k<=0 by lia)
  refine y1r (fun hab=>absurd hab (by rw[hie,hk1];decide)) (fun _=>?_);refine y1r (fun hab=>absurd hab (by rw[hie,hk0];decide)) (fun _=>?_);refine y1r (fun hab=>absurd hab hcap) (fun _=>?_);have htm:Builtin.Tuple.tupleTooMany ((its.toArray.size:Int)*k)=false:=by
   have h1:((its.length*k.toNat:Nat):Int)<=sizeLine:=by lia
   have h3:((its.length*k.toNat:Nat):Int)=(its.length:Int)*k:=by rw[Int.natCast_mul];congr 1;lia
   unfold Builtin.Tuple.tupleTooMany;simp only[y0g];exact y0J (by lia)
  refine y1r (fun hab=>absurd hab (by rw[htm];decide)) (fun _=>?_);have hnew:List.foldl (fun x1 x2=>x1++x2) #[] (List.replicate k.toNat its.toArray)=(List.replicate k.toNat its).flatten.toArray:=by have q:=z4k its k.toNat [];rw[y20]at q;exact q
  rw[hnew];unfold Builtin.Tuple.tupleExact;refine y02 (y0P ?_ (by show(List.replicate k.toNat its).flatten.toArray.size<=sizeLine;rw[y0g,z5u,Nat.mul_comm];exact hz));exact y07 ⟨_,rfl,h⟩
def zel:OpR X (binaryOp .Mult) (fun x y H Q=>∃(l:Addr)(k:Int)(xs:List V),x=.ref l/\y=.int k/\H l=some (.tup xs)/\xs≠[]/\2<=k/\k<=1000/\xs.length*k.toNat<=sizeLine /\ ∀p,H p=none->Q (.ref p) (upd H p (.tup (List.replicate k.toNat xs).flatten))):=by
 intro pins s σ H x y v u Q I rx ry h;obtain⟨l,k,xs,rfl,rfl,hH,hne,h2,hk,hz,q⟩:=h;cases rx;obtain⟨t,rfl⟩:=ry;obtain⟨z,its,n,r,e⟩:=I.hok l _ hH;have hl:=r.length;have hne':its≠[]:=fun w=>by subst w;exact hne (y18.mp (by simpa using hl))
 refine y1I (T:="tuple") (U:="int") (by decide) ⟨_,e,rfl⟩ (fun s'=>y2i s' k t) z2z y2L y1B z3J y2E.lookup
  (y1S y1B (y2i s k t) y2F (y2v _ _) (z2q k t l its.toArray n)
   ⟨e,rfl,⟨_,e,rfl⟩,y1S y2c ⟨_,e,rfl⟩ F.entry_tuple_mul (F.args_tuple_mul_2 _ _) (zem l its n k t h2 hk hne' (by rw[<-hl];exact hz)) ⟨e,?_⟩⟩)
 exact⟨.ref _,_,I.laid (o:=.tup (List.replicate k.toNat xs).flatten) (t':=s.toks) (fun b u q=>y03 _ q) (y0a _) ⟨by rw[z5u,Nat.mul_comm];exact hz,_,0,r.rep k.toNat,y09 _ rfl⟩,rfl,q _ I.fresh⟩
end
section
variable{X:Cx}(P:Program)(w:World)(K:yyF){o i e f value:Expr}{pos pos' apos cpos:Pos}{td ty tv tx:TE}
def zfx(hP:X.prog=P)(hw:X.w=w)(hu:X.A.units+9<cLine)(ho:PE X o td)(hi:PE X i ty)(hs:zfq i):PE X (.Subscript o i pos) (zeD P w K td ty):=by subst hP hw;exact zdo hu ho hi hs
end
open PySem PySem.Spec PyProof.Rows
class NoE (CX:CXT):Prop where
 no:∀{outer:List Env}{H:Hp}{s:Shared}{e:Value}{s':Shared},¬CX outer H s E0 e s'
def z1t{CX:CXT}[N:NoE CX]{X:Cx}:z2t CX X E0:=fun _ _ _ _ _ _ _ h=>absurd h N.no
def Fun.okc{CX:CXT}{P:Program}{w:World}{K:yyF}{mg:yyS}{base:Heap}{x qual:Str}{st:Stmt}{f:Addr}{fd:FuncData}{N ps:List Str}{k:Nat}{sp:Sp}(F:Fun K x qual st f fd)(S:z0j N ps (z05 st))(len:∀vs H Q E,sp vs H Q E->vs.length=ps.length)(hbody:∀(cdv:Value)(A:Around)(outer:List Env)(s:Shared)(H:Hp)(vs:List V)(Q:VK)(E:XK),z2F k (A.deeper (envOfC qual (z05 st) s.heap.objs.size f cdv))->sp vs H Q E -> ∃t,PSs (z60 CX P w K mg base N qual (z05 st) f cdv A outer s H E).nox (z0E st) t/\t { nx:=fun _ H'=>Q .non H',rt:=Q } (start N vs) H):z0u P w K mg base CX (k+1) f fd ps sp:=by obtain⟨oc,od,kV,doc,pm,an,cdv,ct,osl,rfl,lk,hcd⟩:=F.ex;refine zdD lk hcd S len fun A outer s H vs Q E hr hsp=>?_;obtain⟨t,h,q⟩:=hbody cdv A outer s H vs Q E hr hsp;exact⟨t,h.nox,q⟩
def PS.weak{X:Cx}{st:Stmt}{t:TS}(t':TS)(h:PS X st t)(k:∀D σ H,t' D σ H->t D σ H):PS X st t':=fun pins s σ H D I hw=>h pins s σ H D I (k D σ H hw)
def PT.weak{X:Cx}{e:Expr}{t:TT}(t':TT)(h:PT X e t)(k:∀σ H Q,t' σ H Q->t σ H Q):PT X e t':=fun pins s σ H Q I hw=>h pins s σ H Q I (k σ H Q hw)
def zlJ(Pre:St->Hp->Prop):TT:=fun σ H Q=>Pre σ H/\∀c:Bool,Q c H
end L2
namespace Gu
open PySem L2
section
variable{α:Type}[DecidableEq α]
def z2J(o:List α)(g:α):List α:=if g∈o then o else o++[g]
def z0b(o:List α)(gs:List α):List α:=gs.foldl z2J o
def z0B(ks:List α):List α:=z0b [] ks
def z2j(ks:List α):List Int:=ks.map fun k=>(((z0B ks).idxOf k:Nat):Int)
def z0v{o:List α}{g:α}(h:g∈o):z2J o g=o:=if_pos h
def z0w{o:List α}{g:α}(h:g∉o):z2J o g=o++[g]:=if_neg h
def zcp(o:List α)(g:α):∃m,z2J o g=o++m:=by
 by_cases h:g∈o
 .exact⟨[],by rw[z0v h];simp⟩
 .exact⟨[g],z0w h⟩
theorem z0P:∀(gs o:List α),∃m,z0b o gs=o++m
 |[],o=>⟨[],by simp[z0b]⟩
 |g::gs,o=>by obtain⟨m1,e1⟩:=zcp o g;obtain⟨m2,e2⟩:=z0P gs (z2J o g);refine⟨m1++m2,?_⟩;show z0b (z2J o g) gs=_;rw[e2,e1,y14]
def z2e(o gs:List α)(g:α):z0b o (gs++[g])=z2J (z0b o gs) g:=by unfold z0b;rw[y2y];rfl
def z8I{o:List α}{g:α}(h:o.Nodup):(z2J o g).Nodup:=by
 by_cases hg:g∈o
 .rw[z0v hg];exact h
 .rw[z0w hg];exact zam h hg
theorem z2D:∀(gs o:List α),o.Nodup->(z0b o gs).Nodup
 |[],o,h=>h
 |g::gs,o,h=>z2D gs (z2J o g) (z8I h)
def z2B{o:List α}{g x:α}:x∈z2J o g↔x∈o\/x=g:=by
 by_cases hg:g∈o
 .rw[z0v hg];constructor
  .exact .inl
  .rintro(h|rfl)
   .exact h
   .exact hg
 .rw[z0w hg];simp
theorem z0G:∀{gs o:List α}{x:α},x∈z0b o gs↔x∈o\/x∈gs
 |[],o,x=>by simp[z0b]
 |g::gs,o,x=>by
  have ih:=z0G (gs:=gs) (o:=z2J o g) (x:=x);show x∈z0b (z2J o g) gs↔_;rw[ih,z2B,y0o];constructor
  .rintro((h|h)|h)
   .exact .inl h
   .exact .inr (.inl h)
   .exact .inr (.inr h)
  .rintro(h|h|h)
   .exact .inl (.inl h)
   .exact .inl (.inr h)
   .exact .inr h
theorem z23:∀(gs o:List α),(z0b o gs).length<=o.length+gs.length
 |[],o=>by simp[z0b]
 |g::gs,o=>by
  have ih:=z23 gs (z2J o g);have h1:(z2J o g).length<=o.length+1:=by
   by_cases hg:g∈o
   .rw[z0v hg];lia
   .rw[z0w hg];simp
  show(z0b (z2J o g) gs).length<=_;rw[y0m];lia
def z6T{o m:List α}{g:α}(h:g∈o):(o++m).idxOf g=o.idxOf g:=by rw[List.idxOf_append,if_pos h]
theorem z4w:∀(n:Nat)(o:List Nat),o.Nodup->(∀x∈o,x<n)->o.length<=n
 |0,o,_,h=>by
  cases o with
  |nil=>simp
  |cons a r=>exact absurd (h a (by simp)) (y2P _)
 |n+1,o,hn,h=>by
  by_cases hm:n∈o
  .have ih:=z4w n (o.erase n) (hn.erase n) fun x hx=>by
    have h1:=(hn.mem_erase_iff).mp hx;have:=h x h1.2;have:=h1.1;lia
   rw[List.length_erase_of_mem hm]at ih;lia
  .have ih:=z4w n o hn fun x hx=>by
    have:=h x hx;have:x≠n:=fun e=>hm (e▸hx);lia
   lia
def z9Y{n:Nat}{o:List Int}(h:o.Nodup)(hr:∀x∈o,0<=x/\x<(n:Int)):o.length<=n:=by
 have h1:(o.map Int.toNat).Nodup:=by rw[y26,List.pairwise_map];refine List.Pairwise.imp_of_mem (fun{a b} ha hb hab e=>?_) (y26.mp h);have:=hr a ha;have:=hr b hb;exact hab (by lia)
 have h3:=z4w n _ h1 fun x hx=>by obtain⟨y,hy,rfl⟩:=y0e.mp hx;have:=hr y hy;lia
 simpa using h3
end
abbrev Row:=List Int × List Int
def row(rows:List Row)(r:Int):Row:=rows.getD r.toNat ([],[])
structure z1b(n:Nat)(rows:List Row):Prop where
 few:rows.length<=4000
 some:1<=rows.length
 perm:∀r∈rows,IsP n r.1
 len:∀r∈rows,r.2.length=n
 go:∀r∈rows,∀g∈r.2,0<=g/\g<(rows.length:Int)
def z97(r:Row):D:=.tup [D.its r.1,D.its r.2]
def bfs(rows:List Row):Nat->Nat->List Int->List Int
 |0,_,o=>o
 |f+1,i,o=>match o[i]? with
  |none=>o
  |some r=>bfs rows f (i+1) (z0b o (row rows r).2)
def z0g(rows:List Row):List Int:=bfs rows (rows.length+1) 0 [0]
def z3l{rows:List Row}{f i:Nat}{o:List Int}{r:Int}(e:o[i]?=some r):bfs rows (f+1) i o=bfs rows f (i+1) (z0b o (row rows r).2):=by
 show(match o[i]? with|none=>o|some r=>bfs rows f (i+1) (z0b o (row rows r).2))=_
 rw[e]
def z3c{rows:List Row}{f i:Nat}{o:List Int}(e:o.length<=i):bfs rows f i o=o:=by
 cases f with
 |zero=>rfl
 |succ f =>
  show(match o[i]? with|none=>o|some r=>bfs rows f (i+1) (z0b o (row rows r).2))=_
  rw[y0S e]
theorem z4q(rows:List Row):∀(f i:Nat)(o:List Int),∃m,bfs rows f i o=o++m
 |0,i,o=>⟨[],by simp[bfs]⟩
 |f+1,i,o=>by
  unfold bfs;cases e:o[i]? with
  |none=>exact⟨[],by simp⟩
  |some r =>
   obtain⟨m1,e1⟩:=z0P (row rows r).2 o;obtain⟨m2,e2⟩:=z4q rows f (i+1) (z0b o (row rows r).2);exact⟨m1++m2,by show bfs rows f (i+1) (z0b o (row rows r).2)=_;rw[e2,e1,y14]⟩
structure z7g(rows:List Row)(o:List Int):Prop where
 nd:o.Nodup
 rg:∀x∈o,0<=x/\x<(rows.length:Int)
 hd:∃t,o=0::t
def z1Y{rows:List Row}{r:Int}(h0:0<=r)(h1:r<(rows.length:Int)):row rows r∈rows:=by
 unfold row;have:r.toNat<rows.length:=by lia
 have e:rows.getD r.toNat ([],[])=rows[r.toNat]:=by simp[this]
 rw[e];exact y0n this
def zdB{rows:List Row}{r:Int}(h0:0<=r)(h1:r<(rows.length:Int)):rows[r.toNat]?=some (row rows r):=by
 unfold row;have:r.toNat<rows.length:=by lia
 simp[this]
def z7g.add{n:Nat}{rows:List Row}{o:List Int}(G:z1b n rows)(L:z7g rows o){r:Int}(h:r∈o):z7g rows (z0b o (row rows r).2):=by
 refine⟨z2D _ _ L.nd,fun x hx=>?_,?_⟩
 .rcases z0G.mp hx with hx|hx
  .exact L.rg x hx
  .exact G.go _ (z1Y (L.rg r h).1 (L.rg r h).2) x hx
 .obtain⟨t,e⟩:=L.hd;obtain⟨m,e2⟩:=z0P (row rows r).2 o;exact⟨t++m,by rw[e2,e];rfl⟩
def z7g.len{rows:List Row}{o:List Int}(L:z7g rows o):o.length<=rows.length:=z9Y L.nd L.rg
def zcA{n:Nat}{rows:List Row}(G:z1b n rows):z7g rows [0]:=by
 refine⟨by simp,fun x hx=>?_,⟨[],rfl⟩⟩;have:x=0:=by simpa using hx
 have:=G.some;lia
theorem zb9{n:Nat}{rows:List Row}(G:z1b n rows):∀(f i:Nat)(o:List Int),z7g rows o->i<=o.length->rows.length+1<=f+i->(∀j r,j<i->o[j]?=some r->∀g∈(row rows r).2,g∈o) ->
  z7g rows (bfs rows f i o)/\∀r∈bfs rows f i o,∀g∈(row rows r).2,g∈bfs rows f i o
 |0,i,o,L,hi,hf,hc=>by
  have:=L.len;lia
 |f+1,i,o,L,hi,hf,hc=>by
  cases e:o[i]? with
  |none =>
   rw[z3c (y1q.mp e)];refine⟨L,fun r hr g hg=>?_⟩;obtain⟨j,hj,e2⟩:=y1f hr;have:o.length<=i:=y1q.mp e;exact hc j r (by lia) (by rw[y01 hj,e2]) g hg
  |some r =>
   rw[z3l e];have hr:r∈o:=y0O e;have hil:i<o.length:=(y05.mp e).1;obtain⟨m,em⟩:=z0P (row rows r).2 o;refine zb9 G f (i+1) _ (L.add G hr) (by rw[em,y06];lia) (by lia) fun j r' hj er g hg=>?_;have hjo:j<o.length:=by lia
   have er':o[j]?=some r':=by rw[em,y1a hjo]at er;exact er
   by_cases hji:j=i
   .subst hji;rw[e]at er';cases er';exact z0G.mpr (.inr hg)
   .exact z0G.mpr (.inl (hc j r' (by lia) er' g hg))
def z0Q{n:Nat}{rows:List Row}(G:z1b n rows):z7g rows (z0g rows)/\∀r∈z0g rows,∀g∈(row rows r).2,g∈z0g rows :=
 zb9 G (rows.length+1) 0 [0] (zcA G) (by simp) (by lia) fun j r hj=>absurd hj (y2P _)
def z1E(rows:List Row)(o:List Int):List Row:=o.map fun r=>((row rows r).1,(row rows r).2.map fun g=>((o.idxOf g:Nat):Int))
def z0z(rows:List Row):List Row:=z1E rows (z0g rows)
def z3W(ks:List Int)(rows:List Row):List (Int × List Int):=(ks.zip rows).map fun p=>(p.1,p.2.2.map fun g=>ks.getD g.toNat 0)
def cnt(ks:List Int):Int:=ks.foldl max 0+1
def z4M(rows:List Row):Nat->Int->List Int->List Int
 |0,_,ks=>ks
 |f+1,c,ks=>if c<cnt ks then z4M rows f (cnt ks) (z2j (z3W ks rows))else ks
def z0Y(rows:List Row):List Int:=z4M rows (rows.length+1) 0 (z2j (rows.map (·.1)))
def z5R(rows:List Row)(ks:List Int):List Row:=(rows.zip ks).foldl (fun l p=>if p.2=(l.length:Int)then l++[(p.1.1,p.1.2.map fun g=>ks.getD g.toNat 0)]else l) []
def zbT(rows:List Row):List Row:=z5R (z0z rows) (z0Y (z0z rows))
def csc(ns:List (Str × NameKind)):Scope:={ kind:=.function,names:=ns,isGenerator:=false,isCoroutine:=false,more:=[] }
def z5L(K:yyF)(H:Hp)(Q:VK)(d:D):Prop:=∀v H',z08 H H'->Dr K H' d v->Q v H'
def same_up{H H1:Hp}{p:Addr}{o:HO}(s:z08 H H1)(h:H1 p=none):z08 H (upd H1 p o):=fun b u e=>by have q:=s b u e;rw[z04 (z09 q h)];exact q
def z0d{H H1:Hp}{p:Addr}{o:HO}(s:z08 H H1)(h:H p=none):z08 H (upd H1 p o):=fun b u e=>by rw[z04 (z09 e h)];exact s b u e
def z26{α β:Type}{l:List α}{i:Nat}{x:α}(f:α->β)(h:l[i]?=some x):(l.take (i+1)).map f=(l.take i).map f++[f x]:=by rw[y0v,h,y04];rfl
def z47{n:Nat}(h:n<=4900):n<sizeLine:=y1k h (by decide)
def z0l{n:Nat}(h:n<=5000):n<=sizeLine:=y0w h (by decide)
def z8b{α:Type}{xs:List α}{k:Int}{v:α}(h0:0<=k)(h:xs[k.toNat]?=some v):atI xs k=some v:=by
 have q:=z0S h
 rwa [show((k.toNat:Nat):Int)=k by lia]at q
theorem z67{α β:Type}(f:α->β):∀(l:List α)(i:Nat),(l.map f).eraseIdx i=(l.eraseIdx i).map f
 |[],_=>rfl
 |_::_,0=>rfl
 |a::r,i+1=>by show f a::(r.map f).eraseIdx i=f a::(r.eraseIdx i).map f;rw[z67 f r i]
structure Blt(mg:yyS):Prop where
 len:mg "len"=none
 tup:mg "tuple"=none
 lst:mg "list"=none
 rng:mg "range"=none
 isi:mg "isinstance"=none
 int:mg "int"=none
 bl:mg "bool"=none
 str:mg "str"=none
 all:mg "all"=none
def zej(ns:List Int):D.dep (D.its ns)=1:=by simp only[D.dep,D.depL_ints]
theorem z5t:∀(ns ms:List Int),D.okL (ns.map D.int) (ms.map D.int)
 |[],ms=>by cases ms<;>simp only[y0Z,y0i,D.okL]
 |n::r,[]=>by simp only[y0Z,y0i,D.okL]
 |n::r,m::q=>by simp only[y0i,D.okL,D.ok];exact⟨trivial,z5t r q⟩
def Dr.its_inv{K:yyF}{H:Hp}{ns:List Int}{v:V}(h:Dr K H (D.its ns) v):∃a,v=.ref a/\H a=some (.tup (ns.map V.int)):=by simp only[Dr]at h;obtain⟨a,vs,rfl,s,r⟩:=h;exact⟨a,rfl,DrL.ints_inv r▸s⟩
def z8g(K:yyF):Sp:=fun vs H Q _=>∃(a:Addr)(ns:List Int)(i:Nat),vs=[.ref a,.int i]/\SqL K H a (ns.map V.int)/\ns.length<=63/\i<=1000/\Q (.int (cell ns i)) H
def z4s(K:yyF):Sp:=fun vs H Q _=>∃(a:Addr)(ns:List Int)(i:Nat),vs=[.ref a,.int i]/\SqL K H a (ns.map V.int)/\ns.length<=63/\i<=1000/\Q (.int (zdk ns i)) H
def zaA(K:yyF):Sp:=fun vs H Q _=>∃(pick:Int)(n:Nat),vs=[.int pick,.int n]/\n<=1000/\z5L K H Q (D.its (zce pick n))
section
variable{α κ:Type}[DecidableEq α][DecidableEq κ]
def z98(f:α->κ):Nat->List α->List (κ × V)
 |_,[]=>[]
 |n,a::r=>(f a,V.int (n:Int))::z98 f (n+1) r
abbrev prs(f:α->κ)(u:List α):List (κ × V):=z98 f 0 u
theorem z3f(f:α->κ):∀(n:Nat)(u:List α),(z98 f n u).length=u.length
 |_,[]=>rfl
 |n,a::r=>by simp[z98,z3f f (n+1) r]
theorem z7Y(f:α->κ):∀(n:Nat)(u:List α)(a:α),z98 f n (u++[a])=z98 f n u++[(f a,V.int ((n+u.length:Nat):Int))]
 |n,[],a=>by simp[z98]
 |n,b::r,a=>by
  have ih:=z7Y f (n+1) r a;show(f b,V.int (n:Int))::z98 f (n+1) (r++[a])=(f b,V.int (n:Int))::(z98 f (n+1) r++_);have e:n+1+r.length=n+(b::r).length:=by rw[y0m];lia
  rw[ih,e]
theorem z7V(f:α->κ)(hf:∀x y,f x=f y->x=y):∀(n:Nat)(u:List α)(a:α),z2S (z98 f n u) (f a)=if a∈u then some (V.int ((n+u.idxOf a:Nat):Int))else none
 |n,[],a=>by simp[z98,z2S]
 |n,b::r,a=>by
  have ih:=z7V f hf (n+1) r a;show z2S ((f b,V.int (n:Int))::z98 f (n+1) r) (f a)=_;by_cases e:b=a
  .subst e;rw[z3a rfl,if_pos (by simp)];simp
  .rw[z35 (p:=(f b,V.int (n:Int))) (fun z=>e (hf _ _ z)),ih];have e1:(b::r).idxOf a=r.idxOf a+1:=by
    rw[y2n];have hb:(b==a)=false:=by simpa using e
    rw[hb];rfl
   by_cases hm:a∈r
   .have e2:n+1+r.idxOf a=n+(r.idxOf a+1):=by lia
    rw[if_pos hm,if_pos (by simp[hm]),e1,e2]
   .rw[if_neg hm,if_neg (by simp[hm,y1h e])]
def z31(f:α->κ)(hf:∀x y,f x=f y->x=y)(u:List α)(a:α):z2S (prs f u) (f a)=if a∈u then some (V.int ((u.idxOf a:Nat):Int))else none:=by have:=z7V f hf 0 u a;simpa using this
def z77(f:α->κ)(hf:∀x y,f x=f y->x=y){u:List α}{a:α}(h:a∉u):z1X (prs f u) (f a) (V.int (u.length:Nat))=prs f (u++[a]):=by have e:=z7Y f 0 u a;rw[Nat.zero_add]at e;rw[zbL _ (by rw[z31 f hf,if_neg h])];exact e.symm
end
def z0x(rows:List Row):List D:=rows.map z97
def z3H(ns:List Int):D.key (D.its ns):=by
 have:∀l:List Int,D.keyL (l.map D.int):=by
  intro l;induction l with
  |nil=>simp only[y0Z,D.keyL]
  |cons a r ih=>simp only[y0i,D.keyL,D.key];exact⟨trivial,ih⟩
 simp only[D.key];exact this ns
def zfT(ds:List D):Prop:=∀d∈ds,D.key d/\D.dep d<=8/\∃es,d=.tup es
def z3w(K:yyF):Sp:=fun vs H Q _=>∃(a:Addr)(us:List V)(ds:List D),vs=[.ref a]/\H a=some (.lst us)/\DrL K H ds us/\zfT ds/\ds.length<=4900 /\
 ∀(r:Addr)(H':Hp),z08 H H'->H' r=some (.lst ((z2j ds).map V.int))->Q (.ref r) H'
def zi1{K:yyF}{H:Hp}{d:D}{v:V}(h:D.key d/\D.dep d<=8/\∃es,d=.tup es)(q:Dr K H d v):zgj K H d v:=by obtain⟨h1,h2,es,rfl⟩:=h;refine⟨?_,h1,h2,q⟩;simp only[Dr]at q;obtain⟨a,vs,e,_⟩:=q;exact⟨a,e⟩
def z1m(H H':Hp):Prop:=∀b xs,H b=some (.tup xs)->H' b=some (.tup xs)
def z1m.of{H H':Hp}(s:z08 H H'):z1m H H':=fun b xs e=>s _ _ e
def z1m.refl(H:Hp):z1m H H:=fun _ _ e=>e
def z1m.trans{H H1 H2:Hp}(a:z1m H H1)(b:z1m H1 H2):z1m H H2:=fun c xs e=>b c xs (a c xs e)
def z1m.up{H H1:Hp}{a:Addr}{o u:HO}(t:z1m H H1)(h:H1 a=some o)(n:∀xs,o≠.tup xs):z1m H (upd H1 a u):=fun b xs e=>by
 have q:=t b xs e;have:b≠a:=fun z=>by rw[z,h]at q;exact n xs (y0d q)
 rw[z04 this];exact q
def zen(r:Row):D.key (z97 r):=by unfold z97;simp only[D.key,D.keyL];have h1:=z3H r.1;have h2:=z3H r.2;simp only[D.key]at h1 h2;exact⟨h1,h2,trivial⟩
theorem z1T:∀rs:List Row,D.keyL (z0x rs)
 |[]=>by unfold z0x;simp only[y0Z,D.keyL]
 |r::rs=>by have:=z1T rs;unfold z0x at this⊢;simp only[y0i,D.keyL];exact⟨zen r,this⟩
def z1H{K:yyF}{H:Hp}{r:Row}{v:V}(h:Dr K H (z97 r) v):∃a b c,v=.ref a/\H a=some (.tup [.ref b,.ref c])/\H b=some (.tup (r.1.map V.int))/\H c=some (.tup (r.2.map V.int)):=by unfold z97 at h;simp only[Dr,DrL]at h;obtain⟨a,vs,rfl,e,x,l,rfl,hx,y,l',rfl,hy,rfl⟩:=h;obtain⟨b,us,rfl,eb,rb⟩:=hx;obtain⟨c,ws,rfl,ec,rc⟩:=hy;have e1:=DrL.ints_inv rb;have e2:=DrL.ints_inv rc;subst e1 e2;exact⟨a,b,c,rfl,e,eb,ec⟩
def z2W{K:yyF}{H:Hp}{r:Row}{a b c:Addr}(h:H a=some (.tup [.ref b,.ref c]))(hb:H b=some (.tup (r.1.map V.int)))(hc:H c=some (.tup (r.2.map V.int))):Dr K H (z97 r) (.ref a):=by unfold z97;exact Dr.tup h (DrL.cons (Dr.tup hb (DrL.ints _)) (DrL.cons (Dr.tup hc (DrL.ints _)) DrL.nil))
def z2r{K:yyF}{H:Hp}{rows:List Row}{us:List V}(h:DrL K H (z0x rows) us){i:Nat}{r:Row}(e:rows[i]?=some r):∃v,us[i]?=some v/\Dr K H (z97 r) v :=
 h.get (by unfold z0x;rw[y08,e];rfl)
def z4a{n:Nat}{p q:List Int}(h:IsP n p)(hp:q.Perm p)(hs:q.Pairwise (·<=·)):q=z0s n:=by
 have h1:q.Perm (z0s n):=hp.trans h;have h2:(z0s n).Pairwise (·<=·):=by unfold z0s;rw[List.pairwise_map];exact List.Pairwise.imp (fun h=>by lia) List.pairwise_lt_range
 exact h1.eq_of_pairwise (fun a b _ _ h1 h2=>Int.le_antisymm h1 h2) hs h2
def z7S(K:yyF):Sp:=fun vs H Q _=>∃(a:Addr)(b:V)(ks gs:List Int),vs=[.ref a,b]/\H a=some (.lst (ks.map V.int))/\Dr K H (D.its gs) b/\(∀g∈gs,0<=g/\g<(ks.length:Int))/\gs.length<=1000/\z5L K H Q (D.its (gs.map fun g=>ks.getD g.toNat 0))
def z1D(K:yyF)(H:Hp)(a:Addr)(rows:List Row):Prop:=∃us,H a=some (.lst us)/\DrL K H (z0x rows) us
theorem z1D.mono{K:yyF}{H H':Hp}{a:Addr}{rows:List Row}(h:z1D K H a rows)(s:z08 H H'):z1D K H' a rows:=by obtain⟨us,e,d⟩:=h;exact⟨us,s _ _ e,d.mono s⟩
section
variable{α β:Type}[DecidableEq α][DecidableEq β]
theorem z57(f:α->β)(hf:∀x y,f x=f y->x=y):∀(gs o:List α),z0b (o.map f) (gs.map f)=(z0b o gs).map f
 |[],o=>rfl
 |g::gs,o=>by
  have h1:z2J (o.map f) (f g)=(z2J o g).map f:=by
   by_cases h:g∈o
   .rw[z0v h,z0v (y0e.mpr ⟨g,h,rfl⟩)]
   .have:f g∉o.map f:=fun z=>by
     obtain⟨x,hx,e⟩:=y0e.mp z;exact h (hf _ _ e▸hx)
    rw[z0w h,z0w this,y04];rfl
  show z0b (z2J (o.map f) (f g)) (gs.map f)=(z0b (z2J o g) gs).map f;rw[h1];exact z57 f hf gs (z2J o g)
theorem z6W(f:α->β)(hf:∀x y,f x=f y->x=y):∀(l:List α)(a:α),(l.map f).idxOf (f a)=l.idxOf a
 |[],a=>rfl
 |b::r,a=>by
  rw[y0i,y2n,y2n,z6W f hf r a];have:(f b==f a)=(b==a):=by
   by_cases e:b=a
   .subst e;simp
   .have h1:(b==a)=false:=by simpa using e
    have h2:(f b==f a)=false:=by simpa using fun z=>e (hf _ _ z)
    rw[h1,h2]
  rw[this]
def z7X(f:α->β)(hf:∀x y,f x=f y->x=y)(xs:List α):z2j (xs.map f)=z2j xs:=by unfold z2j z0B;have:=z57 f hf xs [];rw[y0Z]at this;rw[this,y0R];refine y0E fun x _=>?_;show(((((z0b [] xs).map f).idxOf (f x):Nat)):Int)=_;rw[z6W f hf]
def z36(xs:List α):(z2j xs).length=xs.length:=by unfold z2j;rw[y00]
def z5M(xs:List α):(z0B xs).length<=xs.length:=by have:=z23 xs [];unfold z0B;simpa using this
def z5s{xs:List α}{k:Int}(h:k∈z2j xs):0<=k/\k<((z0B xs).length:Int):=by unfold z2j at h;obtain⟨x,hx,rfl⟩:=y0e.mp h;have:x∈z0B xs:=z0G.mpr (.inr hx);have:=y0X this;lia
end
theorem zbo:∀(ks:List Int)(m:Int),m<=ks.foldl max m/\∀k∈ks,k<=ks.foldl max m
 |[],m=>⟨Int.le_refl _,fun k h=>by simp at h⟩
 |a::r,m=>by
  obtain⟨h1,h2⟩:=zbo r (max m a);refine⟨Int.le_trans (Int.le_max_left m a) h1,fun k hk=>?_⟩;rcases y0o.mp hk with rfl|hk
  .exact Int.le_trans (Int.le_max_right m k) h1
  .exact h2 k hk
theorem z9E:∀(ks:List Int)(m:Int),ks.foldl max m=m\/ks.foldl max m∈ks
 |[],m=>.inl rfl
 |a::r,m=>by
  rcases z9E r (max m a)with h|h
  .rcases Int.le_total m a with z|z
   .right;show r.foldl max (max m a)∈a::r;rw[h,Int.max_eq_right z];simp
   .left;show r.foldl max (max m a)=m;rw[h,Int.max_eq_left z]
  .right;exact y0f _ h
def z76{ks:List Int}(hne:ks≠[])(h0:∀k∈ks,0<=k):cnt ks-1∈ks/\∀k∈ks,k<=cnt ks-1:=by
 unfold cnt;have e:ks.foldl max 0+1-1=ks.foldl max 0:=by lia
 rw[e];refine⟨?_,(zbo ks 0).2⟩;rcases z9E ks 0 with h|h
 .rw[h];cases ks with
  |nil=>exact absurd rfl hne
  |cons a r =>
   have h1:=(zbo (a::r) 0).2 a (by simp);rw[h]at h1;have h2:=h0 a (by simp);have:a=0:=by lia
   simp[this]
 .exact h
def zf4{ks:List Int}{n:Nat}(hne:ks≠[])(h0:∀k∈ks,0<=k/\k<(n:Int)):cnt ks<=n/\1<=cnt ks:=by obtain⟨h1,h2⟩:=z76 hne fun k hk=>(h0 k hk).1;have:=h0 _ h1;lia
structure z3X(n:Nat)(rows:List Row):Prop where
 some:1<=rows.length
 few:rows.length<=4000
 perm:∀r∈rows,IsP n r.1
 len:∀r∈rows,r.2.length=n
 go:∀r∈rows,∀g∈r.2,0<=g/\g<(rows.length:Int)
def z2I{n:Nat}{rows:List Row}(G:z1b n rows):z3X n (z0z rows):=by
 obtain⟨L,cl⟩:=z0Q G;have hl:=L.len;have hm:∀r∈z0z rows,∃x∈z0g rows,r=((row rows x).1,(row rows x).2.map fun g=>(((z0g rows).idxOf g:Nat):Int)):=fun r hr=>by unfold z0z z1E at hr;obtain⟨x,hx,e⟩:=y0e.mp hr;exact⟨x,hx,e.symm⟩
 have fl:(z0z rows).length=(z0g rows).length:=by unfold z0z z1E;rw[y00]
 refine⟨?_,by have:=G.few;lia,fun r hr=>?_,fun r hr=>?_,fun r hr g hg=>?_⟩
 .obtain⟨t,e⟩:=L.hd;rw[fl,e];simp
 .obtain⟨x,hx,rfl⟩:=hm r hr;exact G.perm (row rows x) (z1Y (L.rg x hx).1 (L.rg x hx).2)
 .obtain⟨x,hx,rfl⟩:=hm r hr;show(List.map _ _).length=n;rw[y00];exact G.len _ (z1Y (L.rg x hx).1 (L.rg x hx).2)
 .obtain⟨x,hx,rfl⟩:=hm r hr;obtain⟨y,hy,rfl⟩:=y0e.mp hg;have:=y0X (cl x hx y hy);lia
structure z4J(rows:List Row)(ks:List Int):Prop where
 len:ks.length=rows.length
 rg:∀k∈ks,0<=k/\k<(rows.length:Int)
def zcQ{n:Nat}{rows:List Row}(G:z3X n rows):z4J rows (z2j (rows.map (·.1))):=by refine⟨by rw[z36,y00],fun k hk=>?_⟩;have:=z5s hk;have:=z5M (rows.map (·.1));rw[y00]at this;lia
def z61{rows:List Row}{ks:List Int}(h:z4J rows ks):(z3W ks rows).length=rows.length:=by unfold z3W;rw[y00,List.length_zip,h.len];lia
def z9B{rows:List Row}{ks:List Int}(h:z4J rows ks):z4J rows (z2j (z3W ks rows)):=by have hl:=z61 h;refine⟨by rw[z36,hl],fun k hk=>?_⟩;have:=z5s hk;have:=z5M (z3W ks rows);lia
def zfp{n:Nat}{rows:List Row}{ks:List Int}(G:z3X n rows)(h:z4J rows ks):ks≠[]:=fun e=>by have:=h.len;have:=G.some;subst e;simp at *;lia
def z4O(p:Int × List Int):D:=.tup [.int p.1,D.its p.2]
def z7w{a b:List Int}(e:D.its a=D.its b):a=b:=by
 injection e with e;induction a generalizing b with
 |nil=>cases b with
  |nil=>rfl
  |cons _ _=>cases e
 |cons x r ih=>cases b with
  |nil=>cases e
  |cons y q =>
   rw[y0i,y0i]at e;injection e with e1 e2;injection e1 with e1;rw[e1,ih e2]
def zbk(p q:Int × List Int)(e:z4O p=z4O q):p=q:=by unfold z4O at e;injection e with e;injection e with e1 e2;injection e2 with e2 _;injection e1 with e1;have:=z7w e2;exact Prod.ext e1 this
def z8q(p:Int × List Int):D.key (z4O p):=by unfold z4O;simp only[D.key,D.keyL];have h:=z3H p.2;simp only[D.key]at h;exact⟨trivial,h,trivial⟩
def zcl(p:Int × List Int):D.dep (z4O p)<=8:=by unfold z4O;simp only[D.dep,D.depL,D.depL_ints];decide
theorem z65:∀ps:List (Int × List Int),D.keyL (ps.map z4O)
 |[]=>by simp only[y0Z,D.keyL]
 |p::ps=>by simp only[y0i,D.keyL];exact⟨z8q p,z65 ps⟩
theorem z88:∀ps:List (List Int),D.keyL (ps.map D.its)
 |[]=>by simp only[y0Z,D.keyL]
 |p::ps=>by have:=z3H p;simp only[y0i,D.keyL];exact⟨this,z88 ps⟩
theorem z5c{rows:List Row}:∀(m:Nat)(c:Int)(ks:List Int),z4J rows ks->z4J rows (z4M rows m c ks)
 |0,_,ks,h=>h
 |m+1,c,ks,h=>by
  unfold z4M;by_cases hc:c<cnt ks
  .rw[if_pos hc];exact z5c m _ _ (z9B h)
  .rw[if_neg hc];exact h
def z3E{n:Nat}{rows:List Row}(G:z3X n rows):z4J rows (z0Y rows):=z5c _ _ _ (zcQ G)
def z5I(ks:List Int)(l:List Row)(p:Row × Int):List Row:=if p.2=(l.length:Int)then l++[(p.1.1,p.1.2.map fun g=>ks.getD g.toNat 0)]else l
def z24(rows:List Row)(ks:List Int)(i:Nat):List Row:=((rows.zip ks).take i).foldl (z5I ks) []
def z59{rows:List Row}{ks:List Int}(h:ks.length=rows.length):z24 rows ks rows.length=z5R rows ks:=by unfold z24 z5R;rw[y0s (by rw[List.length_zip];lia)];rfl
def z4p{rows:List Row}{ks:List Int}{i:Nat}{r:Row}{k:Int}(e:rows[i]?=some r)(e':ks[i]?=some k):z24 rows ks (i+1)=z5I ks (z24 rows ks i) (r,k):=by unfold z24;rw[y0v,y1b (z:=(r,k)) |>.mpr ⟨e,e'⟩,y2y];rfl
def zb2(ks:List Int)(l:List Row)(p:Row × Int):(z5I ks l p).length<=l.length+1:=by
 unfold z5I;split
 .rw[y06];simp
 .lia
def z8M(rows:List Row)(ks:List Int)(i:Nat):(z24 rows ks i).length<=i:=by
 unfold z24;have:∀(l:List (Row × Int))(a:List Row),(l.foldl (z5I ks) a).length<=a.length+l.length:=by
  intro l;induction l with
  |nil=>intro a;simp
  |cons p l ih =>
   intro a;have h1:=ih (z5I ks a p);have h2:=zb2 ks a p;rw[List.foldl_cons,y0m];lia
 have h:=this ((rows.zip ks).take i) [];rw[y0k]at h;simp only[y2m]at h;lia
def zcf{n:Nat}{rows:List Row}(G:z1b n rows):(z0z rows).length<=rows.length:=by have:=(z0Q G).1.len;unfold z0z z1E;rw[y00];exact this
def zo5(m:Nat)(ns:List Int):Prop:=ns.length=m/\∀x∈ns,0<=x/\x<1009
def z4t(K:yyF):Sp:=fun vs H Q _=>∃(c:Int)(m:Nat),vs=[.int c,.int m]/\m<=900/\∀(r:Addr)(H':Hp)(ns:List Int),z08 H H'->H' r=some (.lst (ns.map V.int))->zo5 m ns->Q (.ref r) H'
def z6j{ns:List Int}{x:Int}(h:∀x∈ns,0<=x/\x<1009)(hx:0<=x/\x<1009):∀y∈ns++[x],0<=y/\y<1009:=by
 intro y hy;rcases y0G.mp hy with hy|hy
 .exact h y hy
 .rw[y0r.mp hy];exact hx
def zbx{j:Int}(h:(0:Int)<j:=by decide):0<j:=h
def z9z(x:Int):0<=x%1009/\x%1009<1009:=by lia
def zaY(K:yyF):Sp:=fun vs H Q _=>∃(n:Nat)(c:Int),vs=[.int n,.int c]/\2<=n/\n<=5/\∀(r:Addr)(H':Hp)(rows:List Row),z08 H H'->z1D K H' r rows->z1b n rows->rows.length<=8->Q (.ref r) H'
def GI(m:Nat)(H:Hp)(i:Nat)(ys:List V)(H2:Hp):Prop:=∃gs:List Int,ys=gs.map V.int/\gs.length=i/\(∀g∈gs,0<=g/\g<(m:Int))/\z08 H H2
def GI.nil{m:Nat}{H:Hp}{l:Addr}(h:H l=none):GI m H 0 [] (upd H l (.lst [])):=⟨[],rfl,rfl,fun g hg=>by simp at hg,same_up (z08.refl H) h⟩
def GI.len{m:Nat}{H H2:Hp}{i:Nat}{ys:List V}(h:GI m H i ys H2):ys.length=i:=by obtain⟨gs,rfl,e,_⟩:=h;rw[y00];exact e
def GI.snoc{m:Nat}{H H2:Hp}{i:Nat}{ys:List V}{l:Addr}{o:HO}(h:GI m H i ys H2)(hl:H l=none){g:Int}(hg:0<=g/\g<(m:Int)):GI m H (i+1) (ys++[.int g]) (upd H2 l o):=by
 obtain⟨gs,rfl,e,r,s⟩:=h;refine⟨gs++[g],by rw[y04];rfl,by rw[y06,e];rfl,fun x hx=>?_,z0d s hl⟩;rcases y0G.mp hx with hx|hx
 .exact r x hx
 .rw[y0r.mp hx];exact hg
structure RIx(K:yyF)(n m:Nat)(c kd:Int)(j:Nat)(ln lr lp:Addr)(H0:Hp)(σ:St)(H:Hp):Prop where
 ex:∃(b:V)(lg:Addr)(p gs:List Int),σ=[some (.int n),some (.int c),some (.ref ln),some (.int m),some (.int kd),some (.ref lr),some (.int j),some (.ref lp),some b,some (.ref lg)]/\z08 H0 H/\Dr K H (D.its p) b/\IsP n p /\
  H lg=some (.lst (gs.map V.int))/\gs.length=n/\∀g∈gs,0<=g/\g<(m:Int)
structure RF(n m j:Nat)(ps:List Int)(lp:Addr)(H0:Hp):Prop where
 n2:2<=n
 n5:n<=5
 jm:j<m
 m8:m<=8
 lp:H0 lp=some (.lst (ps.map V.int))
 len:ps.length=6
 nn:∀p∈ps,0<=p/\p<1009
def tRI(K:yyF):TS:=fun D σ H=>∃(n m:Nat)(c kd:Int)(j:Nat)(ln lr lp:Addr)(ps:List Int)(H0:Hp),RF n m j ps lp H0/\RIx K n m c kd j ln lr lp H0 σ H/\∀σ' H',RIx K n m c kd j ln lr lp H0 σ' H'->D.nx σ' H'
def zfg(K:yyF)(σ:St)(H:Hp):Prop:=∃(n m:Nat)(c kd:Int)(j:Nat)(ln lr lp:Addr)(ps:List Int)(H0:Hp),RF n m j ps lp H0/\RIx K n m c kd j ln lr lp H0 σ H
def GR(n m:Nat)(rs:List Row):Prop:=∀r∈rs,IsP n r.1/\r.2.length=n/\∀g∈r.2,0<=g/\g<(m:Int)
def GR.snoc{n m:Nat}{rs:List Row}{r:Row}(h:GR n m rs)(hr:IsP n r.1/\r.2.length=n/\∀g∈r.2,0<=g/\g<(m:Int)):GR n m (rs++[r]):=fun x hx=>by
 rcases y0G.mp hx with hx|hx
 .exact h x hx
 .rw[y0r.mp hx];exact hr
def GR.good{n m:Nat}{rs:List Row}(h:GR n m rs)(hl:rs.length=m)(h1:1<=m)(h4:m<=4000):z1b n rs:=by subst hl;exact⟨h4,h1,fun r hr=>(h r hr).1,fun r hr=>(h r hr).2.1,fun r hr=>(h r hr).2.2⟩
def zoI{ns:List Int}{i:Nat}(h:zo5 64 ns)(hi:i<8):∃ps:List Int,z4Z (ns.map V.int) (some (2+6*(i:Int))) (some (8+6*(i:Int)))=ps.map V.int/\ps.length=6/\∀p∈ps,0<=p/\p<1009:=by
 have hl:=h.1;refine⟨(ns.drop (2+6*i)).take 6,?_,by rw[y0k,y1R];lia,fun p hp=>h.2 p (List.mem_of_mem_drop (y29 hp))⟩;have e1:(2+6*(i:Int))=((2+6*i:Nat):Int):=by lia
 have e2:(8+6*(i:Int))=((8+6*i:Nat):Int):=by lia
 unfold z4Z;rw[e1,e2,HT.sIx_nat,HT.sIx_nat,y00,hl,y2Q (by lia),y2Q (by lia),show 8+6*i-(2+6*i)=6 by lia,List.map_take,List.map_drop]
def z6H{x:Int}(h:0<=x):∃m:Nat,x=(m:Int):=⟨x.toNat,by lia⟩
def zei(n:Nat)(j:Int):(List.replicate n [V.int j]).flatten=(List.replicate n j).map V.int:=by
 induction n with
 |zero=>rfl
 |succ n ih=>rw[y1e,y1p,ih,y1e];rfl
def zca(n:Nat):IsP n (z0s n):=List.Perm.refl _
def mk(o:List Int)(vs:List V):List (Key × V):=(o.zip vs).map fun p=>(Sum.inl p.1,p.2)
def Mk(K:yyF)(H:Hp)(o:List Int)(f:Int->D)(kvs:List (Key × V)):Prop:=∃vs,kvs=mk o vs/\DrL K H (o.map f) vs
def z4P(rows:List Row)(f:Int->D)(r:Int):D:=.tup [f r,.tup ((row rows r).2.map f)]
def zan(rows:List Row)(o:List Int)(f:Int->D):List D:=o.map (z4P rows f)
def z5P(rows:List Row)(o:List Int)(f:Int->D)(r:Int):Int:=(((z0B (zan rows o f)).idxOf (z4P rows f r):Nat):Int)
def z3K(rows:List Row)(o:List Int)(f:Int->D):Int->D:=fun r=>.int (z5P rows o f r)
def z3U(rows:List Row)(o:List Int)(f:Int->D):Nat:=(z0B (zan rows o f)).length
def zaS(rows:List Row)(o:List Int)(f:Int->D):z3U rows o f<=o.length:=by have:=z5M (zan rows o f);unfold z3U zan at *;rw[y00]at this;exact this
def z5Z(rows:List Row)(o:List Int):Nat->Nat->(Int->D)->(Int->D)
 |0,_,f=>f
 |m+1,many,f=>if many<z3U rows o f then z5Z rows o m (z3U rows o f) (z3K rows o f)else z3K rows o f
def zaZ(rows:List Row):Int->D:=z5Z rows (z0g rows) (rows.length+2) 0 fun r=>D.its (row rows r).1
def z1o(k:Int->Int)(hs:List Int)(r:Int):List Int:=if k r∈hs.map k then hs else hs++[r]
def z0V(k:Int->Int)(o:List Int):List Int:=o.foldl (z1o k) []
def z3m(rows:List Row)(k:Int->Int)(o:List Int):List Row:=(z0V k o).map fun r=>((row rows r).1,(row rows r).2.map fun g=>((((z0V k o).map k).idxOf (k g):Nat):Int))
def z1J(k:Int->Int)(o:List Int)(r:Int):z0V k (o++[r])=z1o k (z0V k o) r:=by unfold z0V;rw[y2y];rfl
def z2b(k:Int->Int)(o:List Int):(∀r∈o,k r∈(z0V k o).map k)/\(∀r∈z0V k o,r∈o)/\(z0V k o).length<=o.length:=by
 have:∀(o hs:List Int),(∀x∈hs.map k,x∈(o.foldl (z1o k) hs).map k)/\(∀r∈o,k r∈(o.foldl (z1o k) hs).map k)/\(∀r∈o.foldl (z1o k) hs,r∈hs\/r∈o)/\(o.foldl (z1o k) hs).length<=hs.length+o.length:=by
  intro o;induction o with
  |nil=>intro hs;exact⟨fun x h=>h,fun r h=>by simp at h,fun r h=>.inl h,by simp⟩
  |cons a o ih =>
   intro hs;obtain⟨i1,i2,i3,i4⟩:=ih (z1o k hs a);rw[List.foldl_cons];have hsub:∀x∈hs.map k,x∈(z1o k hs a).map k:=fun x hx=>by
    unfold z1o;split
    .exact hx
    .rw[y04];exact y0x _ hx
   have ha:k a∈(z1o k hs a).map k:=by
    unfold z1o;split
    .assumption
    .simp
   have hlen:(z1o k hs a).length<=hs.length+1:=by
    unfold z1o;split
    .lia
    .simp
   refine⟨fun x hx=>i1 x (hsub x hx),fun r hr=>?_,fun r hr=>?_,by rw[y0m];lia⟩
   .rcases y0o.mp hr with rfl|hr
    .exact i1 _ ha
    .exact i2 r hr
   .rcases i3 r hr with h|h
    .unfold z1o at h;split at h
     .exact .inl h
     .rcases y0G.mp h with h|h
      .exact .inl h
      .exact .inr (by rw[y0r.mp h];simp)
    .exact .inr (y0f _ h)
 obtain⟨_,h2,h3,h4⟩:=this o [];refine⟨h2,fun r hr=>?_,by unfold z0V;simpa using h4⟩;rcases h3 r hr with h|h
 .simp at h
 .exact h
def zp5:D->Int
 |.int i=>i
 |_=>0
def kOf(rows:List Row)(r:Int):Int:=zp5 (zaZ rows r)
theorem z6f(rows:List Row)(o:List Int):∀(m many:Nat)(f:Int->D),∃k:Int->Int,z5Z rows o (m+1) many f=fun r=>D.int (k r)
 |0,many,f=>by
  unfold z5Z;split
  .unfold z5Z;exact⟨z5P rows o f,rfl⟩
  .exact⟨z5P rows o f,rfl⟩
 |m+1,many,f=>by
  unfold z5Z;split
  .exact z6f rows o m _ _
  .exact⟨z5P rows o f,rfl⟩
def z90(rows:List Row):zaZ rows=fun r=>D.int (kOf rows r):=by obtain⟨k,e⟩:=z6f rows (z0g rows) (rows.length+1) 0 fun r=>D.its (row rows r).1;have e':zaZ rows=fun r=>D.int (k r):=e;funext r;unfold kOf;rw[e'];rfl
def shr(rows:List Row):List Row:=z3m rows (kOf rows) (z0g rows)
section
variable{α β:Type}[DecidableEq α][DecidableEq β]
def z1A(xs:List α)(x:α):z0B (xs++[x])=z2J (z0B xs) x:=z2e [] xs x
def z0O{xs:List α}{x:α}:x∈z0B xs↔x∈xs:=by unfold z0B;rw[z0G];simp
def zaL(xs:List α):(z0B xs).Nodup:=z2D xs [] List.nodup_nil
def z7T(xs ys:List α):z0B (xs++ys)=z0b (z0B xs) ys:=by unfold z0B z0b;rw[y2y]
theorem z4X:∀{gs o:List α},(∀g∈gs,g∈o)->z0b o gs=o
 |[],o,_=>rfl
 |g::gs,o,h=>by show z0b (z2J o g) gs=o;rw[z0v (h g (by simp))];exact z4X fun x hx=>h x (y0f _ hx)
theorem z3Q:∀{gs o:List α},(o++gs).Nodup->z0b o gs=o++gs
 |[],o,_=>by simp[z0b]
 |g::gs,o,h=>by show z0b (z2J o g) gs=_;have hg:g∉o:=fun z=>(List.nodup_append.mp h).2.2 g z g (by simp) rfl;rw[z0w hg,z3Q (by rw[y14];exact h),y14];rfl
def zaq{l:List α}(h:l.Nodup):z0B l=l:=by have:=z3Q (o:=[]) (gs:=l) (by simpa using h);rw[y20]at this;exact this
theorem z66(f:Int->α)(f':Int->β):∀l:List Int,(∀x∈l.reverse,∀y∈l.reverse,f' x=f' y->f x=f y) ->
  (z0B (l.reverse.map f)).length<=(z0B (l.reverse.map f')).length/\((z0B (l.reverse.map f')).length<=(z0B (l.reverse.map f)).length->∀x∈l.reverse,∀y∈l.reverse,f x=f y->f' x=f' y)
 |[],_=>⟨y0a _,fun _ x hx=>by simp at hx⟩
 |z::l,h=>by
  rw[y2z]at h⊢;obtain⟨ih1,ih2⟩:=z66 f f' l fun x hx y hy=>h x (y0x _ hx) y (y0x _ hy);have hz:z∈l.reverse++[z]:=by simp
  have hL:∀x,x∈l.reverse->x∈l.reverse++[z]:=fun x hx=>y0x _ hx;rw[y04,y04,show List.map f [z]=[f z]from rfl,show List.map f' [z]=[f' z]from rfl,z1A,z1A];generalize l.reverse=o at *;by_cases h1:f' z∈z0B (o.map f')
  .obtain⟨z',hz',ez⟩:=y0e.mp (z0O.mp h1);have ez2:f z'=f z:=h z' (hL _ hz') z hz ez;have h2:f z∈z0B (o.map f):=z0O.mpr (y0e.mpr ⟨z',hz',ez2⟩);rw[z0v h1,z0v h2];refine⟨ih1,fun hc x hx y hy e=>?_⟩;have red:∀x∈o++[z],∃x'∈o,f x'=f x/\f' x'=f' x:=fun x hx=>by
    rcases y0G.mp hx with hx|hx
    .exact⟨x,hx,rfl,rfl⟩
    .rw[y0r.mp hx];exact⟨z',hz',ez2,ez⟩
   obtain⟨x',hx',e1,e2⟩:=red x hx;obtain⟨y',hy',e3,e4⟩:=red y hy;rw[<-e2,<-e4];exact ih2 hc x' hx' y' hy' (by rw[e1,e3,e])
  .rw[z0w h1];by_cases h2:f z∈z0B (o.map f)
   .rw[z0v h2,y06];refine⟨by simp;lia,fun hc=>?_⟩;simp at hc;lia
   .rw[z0w h2,y06,y06];refine⟨by simp;lia,fun hc x hx y hy e=>?_⟩;have hc':(z0B (o.map f')).length<=(z0B (o.map f)).length:=by simp at hc;lia
    have no:∀x∈o,f x≠f z:=fun x hx e=>h2 (z0O.mpr (y0e.mpr ⟨x,hx,e⟩));rcases y0G.mp hx with hx|hx
    .rcases y0G.mp hy with hy|hy
     .exact ih2 hc' x hx y hy e
     .rw[y0r.mp hy]at e;exact absurd e (no x hx)
    .rcases y0G.mp hy with hy|hy
     .rw[y0r.mp hx]at e;exact absurd e.symm (no y hy)
     .rw[y0r.mp hx,y0r.mp hy]
def z2d(f:Int->α)(f':Int->β)(o:List Int)(h:∀x∈o,∀y∈o,f' x=f' y->f x=f y) : (z0B (o.map f)).length<=(z0B (o.map f')).length/\((z0B (o.map f')).length<=(z0B (o.map f)).length->∀x∈o,∀y∈o,f x=f y->f' x=f' y):=by
 have:=z66 f f' o.reverse (by rw[y1u];exact h)
 rwa [y1u]at this
def nk(o:List Int)(key:Int->α)(x:Int):Int:=(((z0B (o.map key)).idxOf (key x):Nat):Int)
def zaw{l:List α}{a b:α}(ha:a∈l)(hb:b∈l)(e:l.idxOf a=l.idxOf b):a=b:=by have h1:=y1G (y0X ha);have h2:=y1G (y0X hb);rw[<-h1,<-h2];congr 1
def z5l{o:List Int}{key:Int->α}{x y:Int}(hx:x∈o)(hy:y∈o):nk o key x=nk o key y↔key x=key y:=by
 unfold nk;constructor
 .intro e;exact zaw (z0O.mpr (y0e.mpr ⟨x,hx,rfl⟩)) (z0O.mpr (y0e.mpr ⟨y,hy,rfl⟩)) (by lia)
 .intro e;rw[e]
def zcx(o:List Int)(key:Int->α):(z0B (o.map (nk o key))).length=(z0B (o.map key)).length:=by have h1:=(z2d (nk o key) key o fun x hx y hy e=>(z5l hx hy).mpr e).1;have h2:=(z2d key (nk o key) o fun x hx y hy e=>(z5l hx hy).mp e).1;lia
theorem z3M(f:α->β):∀(gs o:List α),(∀x∈o++gs,∀y∈o++gs,f x=f y->x=y)->z0b (o.map f) (gs.map f)=(z0b o gs).map f
 |[],o,_=>rfl
 |g::gs,o,hf=>by
  have h1:z2J (o.map f) (f g)=(z2J o g).map f:=by
   by_cases h:g∈o
   .rw[z0v h,z0v (y0e.mpr ⟨g,h,rfl⟩)]
   .have:f g∉o.map f:=fun z=>by
     obtain⟨x,hx,e⟩:=y0e.mp z;exact h (hf x (y0x _ hx) g (by simp) e▸hx)
    rw[z0w h,z0w this,y04];rfl
  show z0b (z2J (o.map f) (f g)) (gs.map f)=(z0b (z2J o g) gs).map f;rw[h1];refine z3M f gs (z2J o g) fun x hx y hy=>hf x ?_ y ?_
  .rcases y0G.mp hx with hx|hx
   .rcases z2B.mp hx with hx|hx
    .exact y0x _ hx
    .rw[hx];simp
   .exact y0c _ (y0f _ hx)
  .rcases y0G.mp hy with hy|hy
   .rcases z2B.mp hy with hy|hy
    .exact y0x _ hy
    .rw[hy];simp
   .exact y0c _ (y0f _ hy)
def z7Z{l:List α}(h:l.Nodup):l.map (fun x=>((l.idxOf x:Nat):Int))=z0s l.length:=by refine List.ext_getElem (by rw[y00,z0N]) fun i h1 h2=>?_;rw[y00]at h1;rw[List.getElem_map,h.idxOf_getElem i h1];have:=z2i h1;rw[y01 h2]at this;exact(y0d this).symm
def ze7(o:List Int)(key:Int->α):z0B (o.map (nk o key))=z0s (z0B (o.map key)).length:=by
 have e:o.map (nk o key)=(o.map key).map (fun v=>(((z0B (o.map key)).idxOf v:Nat):Int)):=by rw[y0R];rfl
 rw[e];have:=z3M (fun v=>(((z0B (o.map key)).idxOf v:Nat):Int)) (o.map key) [] fun x hx y hy q=>by rw[y20]at hx hy;exact zaw (z0O.mpr hx) (z0O.mpr hy) (Int.ofNat.inj q)
 rw[y0Z]at this;show z0b [] _=_;rw[this];exact z7Z (zaL (o.map key))
end
def run(M:List Row):Int->List Nat->Int
 |x,[]=>x
 |x,i::w=>run M ((row M x).2.getD i 0) w
def beh(M:List Row)(x:Int)(w:List Nat):List Int:=(row M (run M x w)).1
structure Cl(n:Nat)(M:List Row)(o:List Int):Prop where
 zero:0∈o
 cl:∀r∈o,∀g∈(row M r).2,g∈o
 len:∀r∈o,(row M r).2.length=n
def Cl.go{n:Nat}{M:List Row}{o:List Int}(C:Cl n M o){x:Int}(hx:x∈o)(i:Nat):(row M x).2.getD i 0∈o:=by
 by_cases h:i<(row M x).2.length
 .rw[y0j,y01 h];exact C.cl x hx _ (y0n h)
 .rw[y0j,y0S (by lia)];exact C.zero
def z86{n:Nat}{rows:List Row}(G:z1b n rows):Cl n rows (z0g rows):=by obtain⟨L,cl⟩:=z0Q G;obtain⟨t,e⟩:=L.hd;exact⟨by rw[e];simp,cl,fun r hr=>G.len _ (z1Y (L.rg r hr).1 (L.rg r hr).2)⟩
def z6N{α:Type}(M:List Row)(o:List Int)(f:Int->α):Prop:=∀x∈o,∀y∈o,f x=f y↔beh M x=beh M y
structure zbJ{α:Type}(M:List Row)(o:List Int)(f:Int->α):Prop where
 all:∀x∈o,∀y∈o,beh M x=beh M y->f x=f y
 fst:∀x∈o,∀y∈o,f x=f y->(row M x).1=(row M y).1
def z9u{α β:Type}(M:List Row)(o:List Int)(f:Int->α)(f':Int->β):Prop:=∀x∈o,∀y∈o,f' x=f' y↔(f x=f y/\(row M x).2.map f=(row M y).2.map f)
def zbJ.next{α β:Type}{n:Nat}{M:List Row}{o:List Int}{f:Int->α}{f':Int->β}(C:Cl n M o)(F:zbJ M o f)(S:z9u M o f f'):zbJ M o f':=by
 refine⟨fun x hx y hy e=>(S x hx y hy).mpr ⟨F.all x hx y hy e,?_⟩,fun x hx y hy e=>F.fst x hx y hy ((S x hx y hy).mp e).1⟩;refine List.ext_getElem (by rw[y00,y00,C.len x hx,C.len y hy]) fun i h1 h2=>?_;rw[y00]at h1 h2;rw[List.getElem_map,List.getElem_map];have a1:=C.go hx i;have a2:=C.go hy i;have b1:(row M x).2.getD i 0=(row M x).2[i]:=by rw[y0j,y01 h1];rfl
 have b2:(row M y).2.getD i 0=(row M y).2[i]:=by rw[y0j,y01 h2];rfl
 rw[<-b1,<-b2];exact F.all _ a1 _ a2 (funext fun w=>congrFun e (i::w))
def zbJ.right{α β:Type}{n:Nat}{M:List Row}{o:List Int}{f:Int->α}{f':Int->β}(C:Cl n M o)(F:zbJ M o f)(S:z9u M o f f')(hk:∀x∈o,∀y∈o,f x=f y->f' x=f' y):z6N M o f':=by
 have key:∀(w:List Nat)(x y:Int),x∈o->y∈o->f x=f y->beh M x w=beh M y w:=by
  intro w;induction w with
  |nil=>intro x y hx hy e;exact F.fst x hx y hy e
  |cons i w ih =>
   intro x y hx hy e;refine ih _ _ (C.go hx i) (C.go hy i) ?_;have h:=((S x hx y hy).mp (hk x hx y hy e)).2;have h':=y1n (fun l=>l[i]?) h;simp only[y08]at h';rw[y0j,y0j];cases e1:(row M x).2[i]? with
   |none =>
    rw[e1]at h';cases e2:(row M y).2[i]? with
    |none=>rfl
    |some b=>rw[e2]at h';cases h'
   |some a =>
    rw[e1]at h';cases e2:(row M y).2[i]? with
    |none=>rw[e2]at h';cases h'
    |some b=>rw[e2]at h';exact y0d h'
 intro x hx y hy;refine⟨fun e=>funext fun w=>key w x y hx hy ((S x hx y hy).mp e).1,fun e=>(F.next C S).all x hx y hy e⟩
def z25(rows:List Row)(o:List Int)(f:Int->D)(r:Int):z3K rows o f r=D.int (nk o (z4P rows f) r):=rfl
def z7J{rows:List Row}{f:Int->D}{x y:Int}:z4P rows f x=z4P rows f y↔(f x=f y/\(row rows x).2.map f=(row rows y).2.map f):=by
 unfold z4P;constructor
 .intro e;injection e with e;injection e with e1 e2;injection e2 with e2 _;injection e2 with e2;exact⟨e1,e2⟩
 .rintro⟨e1,e2⟩;rw[e1,e2]
def z6G(rows:List Row)(o:List Int)(f:Int->D):z9u rows o f (z3K rows o f):=fun x hx y hy=>by
 rw[z25,z25];constructor
 .intro e;injection e with e;exact z7J.mp ((z5l hx hy).mp e)
 .intro e;rw[(z5l hx hy).mpr (z7J.mpr e)]
def z69(rows:List Row)(o:List Int)(f:Int->D):z3U rows o f=(z0B (o.map (z3K rows o f))).length:=by
 have h1:z3U rows o f=(z0B (o.map (z4P rows f))).length:=rfl;have h2:=(z2d (z3K rows o f) (z4P rows f) o fun x hx y hy e=>by rw[z25,z25,(z5l hx hy).mpr e]).1;have h3:=(z2d (z4P rows f) (z3K rows o f) o fun x hx y hy e=>by rw[z25,z25]at e;injection e with e;exact(z5l hx hy).mp e).1
 lia
theorem z48{n:Nat}{rows:List Row}{o:List Int}(C:Cl n rows o):∀(m many:Nat)(f:Int->D),zbJ rows o f->(many=0\/many=(z0B (o.map f)).length)->many<=o.length->o.length+1<=m+many->z6N rows o (z5Z rows o m many f)
 |0,many,f,F,hm,hl,hf=>by lia
 |m+1,many,f,F,hm,hl,hf=>by
  unfold z5Z;have S:=z6G rows o f;by_cases hc:many<z3U rows o f
  .rw[if_pos hc];refine z48 C m _ _ (F.next C S) (.inr (z69 rows o f)) (zaS rows o f) (by lia)
  .rw[if_neg hc];have h1:1<=z3U rows o f:=by
    have:z4P rows f 0∈z0B (zan rows o f):=z0O.mpr (y0e.mpr ⟨0,C.zero,rfl⟩);exact y1T this
   have h2:many=(z0B (o.map f)).length:=by rcases hm with h|h;lia;exact h
   have h3:=z69 rows o f;refine F.right C S ((z2d f (z3K rows o f) o fun x hx y hy e=>((S x hx y hy).mp e).1).2 (by lia))
def zjy(rows:List Row)(o:List Int):zbJ rows o fun r=>D.its (row rows r).1 :=
 ⟨fun x hx y hy e=>by have:=congrFun e [];show D.its _=D.its _;rw[show(row rows x).1=(row rows y).1 from this],fun x hx y hy e=>z7w e⟩
def z9m{n:Nat}{rows:List Row}(G:z1b n rows):z6N rows (z0g rows) (kOf rows):=by have hl:=(z0Q G).1.len;have h:=z48 (z86 G) (rows.length+2) 0 _ (zjy rows (z0g rows)) (.inl rfl) (by lia) (by lia);intro x hx y hy;have:=h x hx y hy;have e:z5Z rows (z0g rows) (rows.length+2) 0 (fun r=>D.its (row rows r).1)=fun r=>D.int (kOf rows r):=z90 rows;rw[e]at this;rw[<-this];exact⟨fun q=>by show D.int _=D.int _;rw[q],fun q=>D.int.inj q⟩
def kf(ks:List Int)(x:Int):Int:=ks.getD x.toNat 0
def z2w{α:Type}[DecidableEq α]{L:Nat}{key:Int->α}{x:Int}(hx:x∈z0s L):kf (z2j ((z0s L).map key)) x=nk (z0s L) key x:=by
 have hx':=z1p.mp hx;unfold kf z2j nk;have hl:x.toNat<L:=by lia
 rw[y0j,y08,y08,z2i hl];have:((x.toNat:Nat):Int)=x:=by lia
 simp only[Option.map_some,Option.getD_some,this]
def z4r(fs:List Row)(g:Row->α):fs.map g=(z0s fs.length).map fun x=>g (row fs x):=by
 refine List.ext_getElem? fun i=>?_;rw[y08,y08];by_cases h:i<fs.length
 .rw[z2i h,y01 h];show some (g fs[i])=some (g (row fs (i:Int)));congr 2;unfold row;have:((i:Nat):Int).toNat=i:=by lia
  rw[this,y0j,y01 h];rfl
 .rw[y0S (by lia),y0S (by rw[z0N];lia)];rfl
def zdZ(fs:List Row)(ks:List Int)(x:Int):Int × List Int:=(kf ks x,(row fs x).2.map (kf ks))
def z3B{fs:List Row}{ks:List Int}(h:ks.length=fs.length):z3W ks fs=(z0s fs.length).map (zdZ fs ks):=by
 unfold z3W;refine List.ext_getElem? fun i=>?_;rw[y08,y08];by_cases hi:i<fs.length
 .have e1:(ks.zip fs)[i]?=some (ks[i]'(by lia),fs[i]):=y1b.mpr ⟨y01 (by lia),y01 hi⟩;rw[z2i hi,e1];simp only[Option.map_some];congr 1;unfold zdZ kf row;have:((i:Nat):Int).toNat=i:=by lia
  rw[this,y0j,y01 (by lia:i<ks.length),y0j,y01 hi];rfl
 .rw[y0S (by rw[List.length_zip];lia),y0S (by rw[z0N];lia)];rfl
def z45{α:Type}[DecidableEq α]{xs:List α}(h:xs≠[]):cnt (z2j xs)=((z0B xs).length:Int):=by
 have hne:z2j xs≠[]:=fun z=>h (by have:=z36 xs;rw[z]at this;exact List.eq_nil_of_length_eq_zero this.symm)
 obtain⟨h1,h2⟩:=z76 hne fun k hk=>(z5s hk).1;have h3:=(z5s h1).2;have hpos:0<(z0B xs).length:=by
  cases xs with
  |nil=>exact absurd rfl h
  |cons a r=>exact y1T (z0O.mpr (show a∈a::r by simp))
 have hm:(z0B xs)[(z0B xs).length-1]'(by lia)∈xs:=z0O.mp (y0n _);have h4:(((z0B xs).length-1:Nat):Int)∈z2j xs:=by unfold z2j;refine y0e.mpr ⟨_,hm,?_⟩;rw[(zaL xs).idxOf_getElem]
 have:=h2 _ h4;lia
def z5T{L:Nat}{α:Type}{g:Int->α}(h:1<=L):(z0s L).map g≠[]:=fun z=>by have:=y1n List.length z;rw[y00,z0N]at this;simp at this;lia
def z5V{α:Type}[DecidableEq α]{L:Nat}{key:Int->α}:(z0B ((z0s L).map (kf (z2j ((z0s L).map key))))).length=(z0B ((z0s L).map key)).length:=by rw[<-zcx (z0s L) key];congr 2;exact y0E fun x hx=>z2w hx
def z56{fs:List Row}(hgo:∀x∈z0s fs.length,∀g∈(row fs x).2,g∈z0s fs.length){ks:List Int}:z9u fs (z0s fs.length) (kf ks) (kf (z2j ((z0s fs.length).map (zdZ fs ks)))):=fun x hx y hy=>by rw[z2w hx,z2w hy,z5l hx hy];unfold zdZ;rw[Prod.mk.injEq]
def zfD{n:Nat}{fs:List Row}(G:z3X n fs):Cl n fs (z0s fs.length):=by
 refine⟨z1p.mpr ⟨by lia,by have:=G.some;lia⟩,fun r hr g hg=>?_,fun r hr=>?_⟩
 .have h:=z1p.mp hr;exact z1p.mpr (G.go _ (z1Y h.1 h.2) g hg)
 .have h:=z1p.mp hr;exact G.len _ (z1Y h.1 h.2)
theorem z4n{n:Nat}{fs:List Row}(G:z3X n fs):∀(m:Nat)(c:Int)(ks:List Int),(∃(α:Type)(_:DecidableEq α)(key:Int->α),ks=z2j ((z0s fs.length).map key))->zbJ fs (z0s fs.length) (kf ks) ->
  (c=0\/∃ks0:List Int,zbJ fs (z0s fs.length) (kf ks0)/\z9u fs (z0s fs.length) (kf ks0) (kf ks)/\c=((z0B ((z0s fs.length).map (kf ks0))).length:Int))->0<=c->c<=(fs.length:Int)->(fs.length:Int)+1<=m+c ->
  z6N fs (z0s fs.length) (kf (z4M fs m c ks))/\∃(α:Type)(_:DecidableEq α)(key:Int->α),z4M fs m c ks=z2j ((z0s fs.length).map key)
 |0,c,ks,hk,F,hp,h0,h1,h2=>by lia
 |m+1,c,ks,hk,F,hp,h0,h1,h2=>by
  unfold z4M;have C:=zfD G;obtain⟨α,ia,key,rfl⟩:=hk;have hcn:=z45 (z5T (g:=key) G.some);have hU:(z0B ((z0s fs.length).map key)).length<=fs.length:=by have:=z5M ((z0s fs.length).map key);rw[y00,z0N]at this;exact this
  have hUp:1<=(z0B ((z0s fs.length).map key)).length:=y1T (z0O.mpr (y0e.mpr ⟨0,C.zero,rfl⟩));by_cases hc:c<cnt (z2j ((z0s fs.length).map key))
  .rw[if_pos hc,hcn,z3B (by rw[z36,y00,z0N])];refine z4n G m _ _ ⟨_,_,_,rfl⟩ (F.next C (z56 C.cl)) (.inr ⟨_,F,z56 C.cl,?_⟩) (by lia) (by lia) (by rw[hcn]at hc;lia);rw[z5V]
  .rw[if_neg hc];refine⟨?_,_,_,_,rfl⟩;rcases hp with hp|⟨ks0,F0,S0,hc0⟩
   .rw[hcn]at hc;lia
   .refine F0.right C S0 ((z2d _ _ _ fun x hx y hy e=>((S0 x hx y hy).mp e).1).2 ?_);rw[z5V];rw[hcn]at hc;lia
def z4i{n:Nat}{fs:List Row}(G:z3X n fs):z6N fs (z0s fs.length) (kf (z0Y fs))/\∃(α:Type)(_:DecidableEq α)(key:Int->α),z0Y fs=z2j ((z0s fs.length).map key):=by
 have C:=zfD G;unfold z0Y;refine z4n G (fs.length+1) 0 _ ⟨List Int,inferInstance,fun x=>(row fs x).1,by rw[z4r fs (·.1)]⟩ ?_ (.inl rfl) (by lia) (by lia) (by lia);rw[z4r fs (·.1)];refine⟨fun x hx y hy e=>?_,fun x hx y hy e=>?_⟩
 .rw[z2w hx,z2w hy,z5l hx hy];exact congrFun e []
 .rw[z2w hx,z2w hy,z5l hx hy]at e;exact e
inductive BF(M:List Row):Nat->List Int->List Int->Prop
 |stop {i:Nat} {o:List Int}:o.length<=i->BF M i o o
 |step {i:Nat} {o res:List Int} {r:Int}:o[i]?=some r->BF M (i+1) (z0b o (row M r).2) res->BF M i o res
def BF.det{M:List Row}{i:Nat}{o a b:List Int}(h:BF M i o a)(h':BF M i o b):a=b:=by
 induction h generalizing b with
 |stop hl =>
  cases h' with
  |stop _=>rfl
  |step e _=>rw[y0S hl]at e;cases e
 |step e _ ih =>
  cases h' with
  |stop hl=>rw[y0S hl]at e;cases e
  |step e' q =>
   rw[e]at e';cases e';exact ih q
def BF.sub{M:List Row}{i:Nat}{o a:List Int}(h:BF M i o a):∃m,a=o++m:=by
 induction h with
 |stop _=>exact⟨[],by simp⟩
 |@step i o res r e _ ih =>
  obtain⟨m,em⟩:=ih;obtain⟨m',em'⟩:=z0P (row M r).2 o;exact⟨m'++m,by rw[em,em',y14]⟩
theorem zfO{n:Nat}{rows:List Row}(G:z1b n rows):∀(f i:Nat)(o:List Int),z7g rows o->i<=o.length->rows.length+1<=f+i->BF rows i o (bfs rows f i o)
 |0,i,o,L,hi,hf=>by
  have:=L.len;lia
 |f+1,i,o,L,hi,hf=>by
  cases e:o[i]? with
  |none =>
   rw[z3c (y1q.mp e)];exact .stop (y1q.mp e)
  |some r =>
   rw[z3l e];have hr:r∈o:=y0O e;have hil:i<o.length:=(y05.mp e).1;obtain⟨m,em⟩:=z0P (row rows r).2 o;exact .step e (zfO G f (i+1) _ (L.add G hr) (by rw[em,y06];lia) (by lia))
def z7F{n:Nat}{rows:List Row}(G:z1b n rows):BF rows 0 [0] (z0g rows):=zfO G (rows.length+1) 0 [0] (zcA G) (by simp) (by lia)
theorem z4B{α β:Type}[DecidableEq α][DecidableEq β](h:α->β):∀(gs o:List α),z0B ((z0b o gs).map h)=z0b (z0B (o.map h)) (gs.map h)
 |[],o=>rfl
 |g::gs,o=>by
  show z0B ((z0b (z2J o g) gs).map h)=z0b (z2J (z0B (o.map h)) (h g)) (gs.map h);rw[z4B h gs (z2J o g)];congr 1;by_cases hg:g∈o
  .rw[z0v hg,z0v (z0O.mpr (y0e.mpr ⟨g,hg,rfl⟩))]
  .rw[z0w hg,y04];exact z1A _ _
def Mor(M' M:List Row)(o':List Int)(h:Int->Int):Prop:=∀x∈o',row M (h x)=((row M' x).1,(row M' x).2.map h)
theorem BF.map{M' M:List Row}{h:Int->Int}{i:Nat}{o res:List Int}(b:BF M' i o res):Mor M' M res h->(∀j r,j<i->o[j]?=some r->∀g∈(row M' r).2,g∈o)->i<=o.length -> BF M (z0B ((o.take i).map h)).length (z0B (o.map h)) (z0B (res.map h)):=by
 induction b with
 |@stop i o hl =>
  intro _ _ _;rw[y0s hl];exact .stop (y0a _)
 |@step i o res r e b ih =>
  intro mo pc hi;obtain⟨m0,em0⟩:=b.sub;obtain⟨m,em⟩:=z0P (row M' r).2 o;have hil:i<o.length:=(y05.mp e).1;have hro:r∈o:=y0O e;have hr:=mo r (by rw[em0,em];exact y0x _ (y0x _ hro));have ih':=ih mo (fun j r' hj er g hg=>?_) (by rw[em,y06];lia)
  .have et:(z0b o (row M' r).2).take (i+1)=o.take i++[r]:=by
    rw[em,List.take_append_of_le_length (by lia),y0v,e];rfl
   rw[et,y04,show List.map h [r]=[h r]from rfl,z1A,z4B]at ih';by_cases hm:h r∈z0B ((o.take i).map h)
   .rw[z0v hm,z4X]at ih'
    .exact ih'
    .intro g hg;obtain⟨r',hr',er'⟩:=y0e.mp (z0O.mp hm);obtain⟨j,hj,ej⟩:=y1f hr';rw[y0k]at hj;rw[List.getElem_take]at ej;have hmo:=mo r' (by rw[em0,em];exact y0x _ (y0x _ (y29 hr')));rw[er',hr]at hmo;have e2:(row M' r).2.map h=(row M' r').2.map h:=y1n Prod.snd hmo;rw[e2]at hg;obtain⟨g',hg',eg⟩:=y0e.mp hg;have:=pc j r' (by lia) (by rw[y01 (by lia),ej]) g' hg';exact z0O.mpr (y0e.mpr ⟨g',this,eg⟩)
   .rw[z0w hm,y06]at ih';refine .step (r:=h r) ?_ ?_
    .have eo:o=(o.take i++[r])++o.drop (i+1):=by
      have:o.take (i+1)=o.take i++[r]:=by rw[y0v,e];rfl
      rw[<-this,y2B]
     have e3:z0B (o.map h)=z0b (z0B ((o.take i).map h)++[h r]) ((o.drop (i+1)).map h):=by
      conv=>lhs;rw[eo]
      rw[y04,z7T,y04,show List.map h [r]=[h r]from rfl,z1A,z0w hm]
     obtain⟨m2,em2⟩:=z0P ((o.drop (i+1)).map h) (z0B ((o.take i).map h)++[h r]);rw[e3,em2,y14,y25 (y0a _),Nat.sub_self];rfl
    .rw[hr];exact ih'
  .have hjo:j<o.length:=by lia
   have er':o[j]?=some r':=by rw[em,y1a hjo]at er;exact er
   by_cases hji:j=i
   .subst hji;rw[e]at er';cases er';exact z0G.mpr (.inr hg)
   .exact z0G.mpr (.inl (pc j r' (by lia) er' g hg))
def z6S{n n':Nat}{M' M:List Row}{h:Int->Int}(G':z1b n' M')(G:z1b n M)(h0:h 0=0)(mo:Mor M' M (z0g M') h):z0B ((z0g M').map h)=z0g M:=by
 have b:=(z7F G').map mo (fun j r hj=>absurd hj (y2P _)) (by simp);have e:z0B ([(0:Int)].map h)=[0]:=by rw[show[(0:Int)].map h=[h 0]from rfl,h0];rfl
 rw[e]at b;exact b.det (z7F G)
theorem z5h(k:Int->Int):∀l:List Int,(z0V k l.reverse).map k=z0B (l.reverse.map k)
 |[]=>rfl
 |a::l=>by
  rw[y2z,z1J,y04,show List.map k [a]=[k a]from rfl,z1A,<-z5h k l];unfold z1o;by_cases h:k a∈(z0V k l.reverse).map k
  .rw[if_pos h,z0v h]
  .rw[if_neg h,z0w h,y04];rfl
def z20(k:Int->Int)(o:List Int):(z0V k o).map k=z0B (o.map k):=by
 have:=z5h k o.reverse
 rwa [y1u]at this
theorem z6A{k k':Int->Int}:∀l:List Int,(∀x∈l.reverse,∀y∈l.reverse,k x=k y↔k' x=k' y)->z0V k l.reverse=z0V k' l.reverse
 |[],_=>rfl
 |a::l,h=>by
  rw[y2z]at h⊢;rw[z1J,z1J,z6A l fun x hx y hy=>h x (y0x _ hx) y (y0x _ hy)];unfold z1o;have hin:=(z2b k' l.reverse).2.1;have:k a∈(z0V k' l.reverse).map k↔k' a∈(z0V k' l.reverse).map k':=by
   constructor
   .intro hm;obtain⟨x,hx,e⟩:=y0e.mp hm;exact y0e.mpr ⟨x,hx,(h x (y0x _ (hin x hx)) a (by simp)).mp e⟩
   .intro hm;obtain⟨x,hx,e⟩:=y0e.mp hm;exact y0e.mpr ⟨x,hx,(h x (y0x _ (hin x hx)) a (by simp)).mpr e⟩
  by_cases hm:k a∈(z0V k' l.reverse).map k
  .rw[if_pos hm,if_pos (this.mp hm)]
  .rw[if_neg hm,if_neg (fun z=>hm (this.mpr z))]
def z96{k k':Int->Int}{o:List Int}(h:∀x∈o,∀y∈o,k x=k y↔k' x=k' y):z0V k o=z0V k' o:=by
 have:=z6A (k:=k) (k':=k') o.reverse (by rw[y1u];exact h)
 rwa [y1u]at this
theorem z4Y(k h:Int->Int):∀l:List Int,(z0V (fun x=>k (h x)) l.reverse).map h=z0V k (z0B (l.reverse.map h))
 |[]=>rfl
 |a::l=>by
  rw[y2z,z1J,y04,show List.map h [a]=[h a]from rfl,z1A];have ih:=z4Y k h l;have e:(z0V (fun x=>k (h x)) l.reverse).map (fun x=>k (h x))=(z0V k (z0B (l.reverse.map h))).map k:=by rw[<-ih,y0R];rfl
  unfold z1o;by_cases hm:h a∈z0B (l.reverse.map h)
  .have hk:k (h a)∈(z0V (fun x=>k (h x)) l.reverse).map (fun x=>k (h x)):=by
    rw[e];exact(z2b k _).1 _ hm
   rw[if_pos hk,z0v hm];exact ih
  .rw[z0w hm,z1J];unfold z1o;by_cases hk:k (h a)∈(z0V (fun x=>k (h x)) l.reverse).map (fun x=>k (h x))
   .rw[if_pos hk,if_pos (by rw[<-e];exact hk)];exact ih
   .rw[if_neg hk,if_neg (by rw[<-e];exact hk),y04,ih];rfl
def z6Z(k h:Int->Int)(o:List Int):(z0V (fun x=>k (h x)) o).map h=z0V k (z0B (o.map h)):=by
 have:=z4Y k h o.reverse
 rwa [y1u]at this
theorem zb6{k k':Int->Int}{x:Int}:∀{l:List Int},(∀y∈l,k y=k x↔k' y=k' x)->(l.map k).idxOf (k x)=(l.map k').idxOf (k' x)
 |[],_=>rfl
 |b::l,h=>by
  rw[y0i,y0i,y2n,y2n,zb6 fun y hy=>h y (y0f _ hy)];have:=h b (by simp);have e:(k b==k x)=(k' b==k' x):=by rw[y1L,y1M,y1M];exact this
  rw[e]
theorem zbd{n:Nat}{M' M:List Row}{o':List Int}{h:Int->Int}(C:Cl n M' o')(h0:h 0=0)(mo:Mor M' M o' h):∀(w:List Nat)(x:Int),x∈o'->h (run M' x w)=run M (h x) w/\run M' x w∈o'
 |[],x,hx=>⟨rfl,hx⟩
 |i::w,x,hx=>by
  have e:(row M (h x)).2.getD i 0=h ((row M' x).2.getD i 0):=by
   rw[mo x hx,y0j,y0j,y08];cases(row M' x).2[i]? with
   |none=>exact h0.symm
   |some a=>rfl
  obtain⟨h1,h2⟩:=zbd C h0 mo w _ (C.go hx i);refine⟨?_,h2⟩;show h (run M' ((row M' x).2.getD i 0) w)=run M ((row M (h x)).2.getD i 0) w;rw[e];exact h1
def z8r{n n':Nat}{M' M:List Row}{h k k':Int->Int}(G':z1b n' M')(G:z1b n M)(h0:h 0=0)(mo:Mor M' M (z0g M') h)(R:z6N M (z0g M) k)(R':z6N M' (z0g M') k') : z3m M' k' (z0g M')=z3m M k (z0g M):=by
 have C':=z86 G';have eo:=z6S G' G h0 mo;have hin:∀x∈z0g M',h x∈z0g M:=fun x hx=>by rw[<-eo];exact z0O.mpr (y0e.mpr ⟨x,hx,rfl⟩)
 have hb:∀x∈z0g M',beh M' x=beh M (h x):=fun x hx=>funext fun w=>by obtain⟨h1,h2⟩:=zbd C' h0 mo w x hx;show(row M' (run M' x w)).1=(row M (run M (h x) w)).1;rw[<-h1,mo _ h2]
 have ker:∀x∈z0g M',∀y∈z0g M',k' x=k' y↔k (h x)=k (h y):=fun x hx y hy=>by rw[R' x hx y hy,R _ (hin x hx) _ (hin y hy),hb x hx,hb y hy]
 have hh:z0V k' (z0g M')=z0V (fun x=>k (h x)) (z0g M'):=z96 ker;have hm:(z0V (fun x=>k (h x)) (z0g M')).map h=z0V k (z0g M):=by rw[z6Z,eo]
 have hsub:∀r∈z0V (fun x=>k (h x)) (z0g M'),r∈z0g M':=(z2b _ _).2.1;unfold z3m;rw[hh,<-hm,y0R];refine y0E fun r hr=>?_;have hro:=hsub r hr;show _=((row M (h r)).1,(row M (h r)).2.map _);rw[mo r hro];refine Prod.ext rfl ?_;show List.map _ _=List.map _ (List.map h (row M' r).2);rw[y0R];refine y0E fun g hg=>?_;have hgo:=C'.cl r hro g hg;show(((List.map k' (z0V (fun x=>k (h x)) (z0g M'))).idxOf (k' g):Nat):Int)=((((z0V (fun x=>k (h x)) (z0g M')).map h).map k).idxOf (k (h g)):Nat);rw[y0R];have:=zb6 (k:=k') (k':=fun x=>k (h x)) (x:=g) (l:=z0V (fun x=>k (h x)) (z0g M')) fun y hy=>ker y (hsub y hy) g hgo;rw[this];rfl
def z3X.m{n:Nat}{fs:List Row}(G:z3X n fs):z1b n fs:=⟨G.few,G.some,G.perm,G.len,G.go⟩
def z6g{n:Nat}{rows:List Row}(G:z1b n rows){x:Int}(hx:x∈z0g rows):row (z0z rows) ((((z0g rows).idxOf x:Nat):Int))=((row rows x).1,(row rows x).2.map fun g=>(((z0g rows).idxOf g:Nat):Int)):=by
 have hl:=y0X hx;unfold row z0z z1E;have:((((z0g rows).idxOf x:Nat):Int)).toNat=(z0g rows).idxOf x:=by lia
 rw[this,y0j,y08,y01 hl,y1G hl];rfl
def z6c(rows:List Row):(z0z rows).length=(z0g rows).length:=by unfold z0z z1E;rw[y00]
def z2V{n:Nat}{rows:List Row}(G:z1b n rows):z0g (z0z rows)=z0s (z0z rows).length:=by
 obtain⟨L,cl⟩:=z0Q G;obtain⟨t,e⟩:=L.hd;have h0:(((z0g rows).idxOf 0:Nat):Int)=0:=by rw[e];simp
 have h:=z6S (h:=fun x=>(((z0g rows).idxOf x:Nat):Int)) G (z2I G).m h0 fun x hx=>z6g G hx;rw[<-h,z7Z L.nd,z6c];exact zaq (z8X _)
def z9H{n:Nat}{rows:List Row}(G:z1b n rows):Mor (z0z rows) rows (z0g (z0z rows)) fun i=>(z0g rows).getD i.toNat 0:=by
 obtain⟨L,cl⟩:=z0Q G;intro i hi;rw[z2V G,z6c]at hi;obtain⟨i0,i1⟩:=z1p.mp hi;have hl:i.toNat<(z0g rows).length:=by lia
 have e1:(z0g rows).getD i.toNat 0=(z0g rows)[i.toNat]:=by rw[y0j,y01 hl];rfl
 have hx:(z0g rows)[i.toNat]∈z0g rows:=y0n hl;have e2:(((z0g rows).idxOf (z0g rows)[i.toNat]:Nat):Int)=i:=by rw[L.nd.idxOf_getElem];lia
 have e3:=z6g G hx;rw[e2]at e3;show row rows ((z0g rows).getD i.toNat 0)=_;rw[e1,e3];refine Prod.ext rfl ?_;show(row rows (z0g rows)[i.toNat]).2=List.map _ (List.map _ _);rw[y0R];conv=>lhs;rw[<-List.map_id (row rows (z0g rows)[i.toNat]).2]
 refine y0E fun g hg=>?_;have hg':=cl _ hx g hg;have hl':=y0X hg';show g=(z0g rows).getD ((((z0g rows).idxOf g:Nat):Int)).toNat 0;have:((((z0g rows).idxOf g:Nat):Int)).toNat=(z0g rows).idxOf g:=by lia
 rw[this,y0j,y01 hl',y1G hl'];rfl
def z6D{L i:Nat}(h:i<=L):(z0s L).take i=z0s i:=by
 refine List.ext_getElem? fun j=>?_;by_cases hj:j<i
 .rw[y2g hj,z2i (by lia),z2i hj]
 .rw[y0S (by rw[y0k,z0N];lia),y0S (by rw[z0N];lia)]
def zbX{c:Nat}{u m:List Int}(e:u++m=z0s c):u=z0s u.length:=by
 have hl:u.length<=c:=by have:=y1n List.length e;rw[y06,z0N]at this;lia
 have:=y1n (List.take u.length) e;rw[List.take_append_of_le_length (y0a _),y0V,z6D hl]at this;exact this
def z4l(j:Nat):z0s (j+1)=z0s j++[(j:Int)]:=by unfold z0s;rw[List.range_succ,y04];rfl
def z3R{fs:List Row}{ks:List Int}(hl:ks.length=fs.length)(hn:∃(α:Type)(_:DecidableEq α)(key:Int->α),ks=z2j ((z0s fs.length).map key))(hgo:∀r∈fs,∀g∈r.2,0<=g/\g<(fs.length:Int)) : z5R fs ks=z3m fs (kf ks) (z0s fs.length):=by
 obtain⟨α,ia,key,ek⟩:=hn;have hU:z0B ((z0s fs.length).map (kf ks))=z0s (z0B ((z0s fs.length).map key)).length:=by
  have e:(z0s fs.length).map (kf ks)=(z0s fs.length).map (nk (z0s fs.length) key):=y0E fun x hx=>by rw[ek];exact z2w hx
  rw[e];exact ze7 (z0s fs.length) key
 generalize hc:(z0B ((z0s fs.length).map key)).length=c at hU;have hpre:∀i,i<=fs.length->z0B ((z0s i).map (kf ks))=z0s (z0B ((z0s i).map (kf ks))).length:=fun i hi=>by
  have e1:z0s fs.length=z0s i++(z0s fs.length).drop i:=by
   conv=>lhs;rw[<-y2B i (z0s fs.length)]
   rw[z6D hi]
  rw[e1,y04,z7T]at hU;obtain⟨m,em⟩:=z0P (((z0s fs.length).drop i).map (kf ks)) (z0B ((z0s i).map (kf ks)));rw[em]at hU;exact zbX hU
 have main:∀i,i<=fs.length->z24 fs ks i=(z0V (kf ks) (z0s i)).map fun r=>((row fs r).1,(row fs r).2.map (kf ks)):=by
  intro i;induction i with
  |zero=>intro _;rfl
  |succ i ih =>
   intro hi;have ih:=ih (by lia);have hif:i<fs.length:=by lia
   have hik:i<ks.length:=by lia
   rw[z4p (r:=fs[i]) (k:=ks[i]) (y01 hif) (y01 hik),ih,z4l,z1J];have p1:=hpre i (by lia);have p2:=hpre (i+1) hi;rw[z4l,y04,show List.map (kf ks) [(i:Int)]=[kf ks i]from rfl,z1A]at p2;have hm:=z20 (kf ks) (z0s i);have hlen:(z0V (kf ks) (z0s i)).length=(z0B ((z0s i).map (kf ks))).length:=by rw[<-hm,y00]
   have ek:ks[i]=kf ks (i:Int):=by
    unfold kf;have:((i:Nat):Int).toNat=i:=by lia
    rw[this,y0j,y01 hik];rfl
   have er:fs[i]=row fs (i:Int):=by
    unfold row;have:((i:Nat):Int).toNat=i:=by lia
    rw[this,y0j,y01 hif];rfl
   unfold z5I z1o;rw[hm,y00,hlen];by_cases hin:kf ks i∈z0B ((z0s i).map (kf ks))
   .rw[if_pos hin,if_neg];show ¬ks[i]=_;rw[ek];rw[p1]at hin;have:=z1p.mp hin;lia
   .rw[if_neg hin,if_pos]
    .rw[y04,er];rfl
    .show ks[i]=_;rw[ek];rw[z0w hin,y06]at p2;have e3:z0s ((z0B ((z0s i).map (kf ks))).length+[kf ks (i:Int)].length)=z0s (z0B ((z0s i).map (kf ks))).length++[((z0B ((z0s i).map (kf ks))).length:Int)]:=z4l _;rw[e3,<-p1]at p2;have:=List.append_cancel_left p2;simpa using this
 rw[<-z59 hl,main fs.length (y0a _)];unfold z3m;refine y0E fun r hr=>?_;refine Prod.ext rfl ?_;refine y0E fun g hg=>?_;have hr':=z1p.mp ((z2b (kf ks) (z0s fs.length)).2.1 r hr);have hg':=hgo _ (z1Y hr'.1 hr'.2) g hg;have hin:kf ks g∈z0B ((z0s fs.length).map (kf ks)):=z0O.mpr (y0e.mpr ⟨g,z1p.mpr hg',rfl⟩);rw[z20];have hl':=y0X hin;have e:=y1G hl';rw[hU]at hin hl'⊢;have h1:=z1p.mp hin;have e2:(z0s c)[(z0s c).idxOf (kf ks g)]'hl'=kf ks g:=y1G hl';have e3:=z2i (n:=c) (i:=(z0s c).idxOf (kf ks g)) (by rw[z0N]at hl';exact hl');rw[y01 hl',e2]at e3;exact y0d e3
def z6d{n:Nat}{rows:List Row}(G:z1b n rows):zbT rows=shr rows:=by
 have GF:=z2I G;obtain⟨R,N⟩:=z4i GF;obtain⟨L,cl⟩:=z0Q G;obtain⟨t,e⟩:=L.hd;unfold zbT;rw[z3R (z3E GF).len N GF.go];have h0:(fun i:Int=>(z0g rows).getD i.toNat 0) 0=0:=by show(z0g rows).getD (0:Int).toNat 0=0;rw[e];rfl
 have R':z6N (z0z rows) (z0g (z0z rows)) (kf (z0Y (z0z rows))):=by rw[z2V G];exact R
 have:=z8r (h:=fun i=>(z0g rows).getD i.toNat 0) GF.m G h0 (z9H G) (z9m G) R';rw[z2V G]at this;exact this
end Gu
namespace L2
open PySem PySem.Spec PyProof.Rows
section
variable{X:Cx}{pins:yyP}{σ:St}{H:Hp}{s:Shared}{a:Addr}{kvs:List (Key × V)}{k:Key}{u:Value}{A:Around}{E:yyE}
end
section
variable{X:Cx}{o e f:Expr}{apos cpos:Pos}{td ty tx:TE}
end
end L2
namespace HT
open PySem PySem.Spec PyProof.Rows
section
variable{prog:Program}{w:World}{A:Around}{E:yyE}{s:Shared}
end
end HT
namespace L2
open PySem PySem.Spec PyProof.Rows
section
variable{X:Cx}{e st:Expr}{te ts:TE}{pos p2:Pos}
end
section
variable{X:Cx}{elts:List Expr}{tk:Nat}{tp:Pos}
end
section
variable{X:Cx}
end
end L2
namespace Gu
open PySem L2
theorem DrL.set{K:yyF}{H:Hp}{d:D}{v:V}(h:Dr K H d v):∀{ds:List D}{us:List V}(j:Nat),DrL K H ds us->DrL K H (ds.set j d) (us.set j v)
 |[],us,j,hd=>by
  simp only[DrL]at hd;subst hd;exact DrL.nil
 |d0::ds,us,j,hd=>by
  simp only[DrL]at hd;obtain⟨u,r,rfl,h1,h2⟩:=hd;cases j with
  |zero=>exact DrL.cons h h2
  |succ j=>exact DrL.cons h1 (DrL.set h j h2)
end Gu
namespace L2
open PySem PySem.Spec PyProof.Rows
def Fly(h0:Heap)(H:Hp)(h:Heap)(ea C:Addr):Prop:=h0.get? ea=none/\H ea=none/\∃a0 oe vs T oT ts,h.get? ea=some oe/\(oe.cls=.ref C/\vs[0]?=some a0)/\oe.data=.fields vs/\vs[1]?=some (.ref T)/\T≠ea/\h0.get? T=none/\H T=none/\h.get? T=some oT/\oT.data=.fields ts/\ts[3]?=some .none
def zg8(h0:Heap)(H:Hp)(h:Heap)(ea C:Addr):Prop:=h0.get? ea=none/\H ea=none/\∃a0 oe vs,h.get? ea=some oe/\(oe.cls=.ref C/\vs[0]?=some a0)/\oe.data=.fields vs/\vs[1]?=some .none
theorem z2y{h base:Heap}:∀{l:List Env},h.FunFrames base l->∀b∈frs l,∃o,h.get? b=some o/\∀vs,o.data≠.fields vs
 |[],_,b,hb=>by simp[frs]at hb
 |env::r,hl,b,hb=>by
  obtain⟨hk,⟨L,o,hf,hn,ho,hd⟩,hr⟩:=hl;unfold frs at hb;rw[y1P,hf]at hb;rcases y0o.mp hb with z|z
  .rw[z];exact⟨o,ho,hd⟩
  .exact z2y hr b z
theorem z1e{h base base':Heap}:∀{l:List Env},h.FunFrames base l->(∀b∈frs l,base'.get? b=none)->h.FunFrames base' l
 |[],_,_=>trivial
 |env::r,hl,hb=>by
  obtain⟨hk,⟨L,o,hf,hn,ho,hd⟩,hr⟩:=hl;have e:frs (env::r)=L::frs r:=by unfold frs;rw[y1P,hf]
  exact⟨hk,⟨L,o,hf,hb L (by rw[e];simp),ho,hd⟩,z1e hr fun b hb'=>hb b (by rw[e];exact y0f _ hb')⟩
section
variable{P:Program}{w:World}
def z7H{H:Hp}{h:Heap}{a:Addr}{o:HO}(x:z1d P w H h a o):∃ob,h.get? a=some ob:=by
 cases o with
 |lst xs=>obtain⟨_,_,_,_,e⟩:=x;exact⟨_,e⟩
 |tup xs=>obtain⟨_,_,_,_,e⟩:=x;exact⟨_,e⟩
 |dK kvs=>obtain⟨_,_,_,_,o,_,_,e,_⟩:=x;exact⟨_,e⟩
 |dT kvs=>obtain⟨_,_,_,_,o,_,_,e,_⟩:=x;exact⟨_,e⟩
 |set S n=>obtain⟨o,_,_,_,e,_⟩:=x;exact⟨_,e⟩
 |ins C dx fs=>obtain⟨_,_,_,e,_⟩:=x;exact⟨_,e⟩
 |own y=>obtain⟨_,e⟩:=x;exact⟨_,e⟩
 |xd fs=>obtain⟨_,⟨_,_,_,e,_⟩,_⟩:=x;exact⟨_,e⟩
 |rng lo hi=>obtain⟨_,_,_,e⟩:=x;exact⟨_,e⟩
 |frz ob u=>obtain⟨e,_⟩:=x;exact⟨_,e⟩
 |tbl ps=>exact⟨_,show h.get? a=some _ from x⟩
 |met f y=>exact⟨_,show h.get? a=some _ from x⟩
 |ext φ=>obtain⟨_,⟨_,e⟩,_⟩:=x;exact⟨_,e⟩
def z5Y{fr:List Addr}{H1 H':Hp}{h1 h h':Heap}{env:Env}{outer:List Env}{ea C:Addr}{a0:Value}{base:Heap}{hid:List Addr}(FF:h.FunFrames base (env::outer))(u:Un fr [] H1 H' h1 h)(hok:HOk P w H' h)(hfr:∀b∈frs (env::outer),H' b=none/\(b∈fr\/h1.get? b=none))(hfr2:∀b∈fr,b∈frs (env::outer))(he1:h1.get? ea=none)(heH:H' ea=none)(hid1:∀b∈hid,h1.get? b=none/\H' b=none)(lf:(PySem.W.hideAll h (ea::(hid++frs (env::outer)))).LeftW (env::outer) ea (.ref C) a0 h h') : Un fr [] H1 H' h1 h'/\HOk P w H' h'/\Fly h1 H' h' ea C:=by
 obtain⟨st,ff,tr,sl⟩:=lf;have keep:∀b o,h.get? b=some o->b≠ea->b∉hid->b∉frs (env::outer)->h'.get? b=some o:=fun b o e n1 n2 n3 =>
  st b o (PySem.W.hideAll_get _ e fun z=>by
   rcases y0o.mp z with z|z
   .exact n1 z
   .rcases y0G.mp z with z|z
    .exact n2 z
    .exact n3 z)
 have slot:∀b o,h.get? b=some o->b∈frs (env::outer)->∃s,h'.get? b=some { o with slots:=s }:=fun b o e hb=>by obtain⟨o',e',hd⟩:=z2y FF b hb;rw[e]at e';cases e';exact sl b o e hd
 have nh:∀b o,h1.get? b=some o->b≠ea/\b∉hid:=fun b o e=>⟨fun z=>(by rw[z,he1]at e;cases e),fun z=>(by rw[(hid1 b z).1]at e;cases e)⟩;refine⟨⟨fun b o e n hb hx=>?_,fun b o e n hb hx=>?_,u.free,fun b o e hx=>?_,u.tups,u.frzs,u.tbls⟩,fun a o e=>?_,he1,heH,?_⟩
 .have e2:=u.keep b o e n hb hx;refine keep b o e2 (nh b o e).1 (nh b o e).2 fun z=>?_;rcases(hfr b z).2 with z|z
  .exact hb z
  .rw[z]at e;cases e
 .obtain⟨s1,e2⟩:=u.slot b o e n hb hx;obtain⟨s2,e3⟩:=slot b _ e2 (hfr2 b hb);exact⟨s2,e3⟩
 .obtain⟨o',e2⟩:=u.there b o e hx;by_cases hb:b∈frs (env::outer)
  .obtain⟨s2,e3⟩:=slot b _ e2 hb;exact⟨_,e3⟩
  .exact⟨o',keep b o' e2 (nh b o e).1 (nh b o e).2 hb⟩
 .refine(hok a o e).stay (fun b v hb q=>?_) (fun _ q=>q) fun _ _ q=>q;have hbs:∃ob,H' b=some ob:=by
   rcases hb with z|z
   .rw[z];exact⟨_,e⟩
   .exact⟨_,z⟩
  obtain⟨ob,hob⟩:=hbs;refine keep b v q (fun z=>?_) (fun z=>?_) fun z=>?_
  .rw[z,heH]at hob;cases hob
  .rw[(hid1 b z).2]at hob;cases hob
  .rw[(hfr b z).1]at hob;cases hob
 .obtain⟨oe,vs,T,oT,ts,g1,g2,g3,g4,g5,g6,g7,g8,g9⟩:=tr;have hT:h1.get? T=none/\H' T=none:=by
   cases eT:h.get? T with
   |none =>
    refine⟨?_,?_⟩
    .cases q:h1.get? T with
     |none=>rfl
     |some o =>
      obtain⟨o',e2⟩:=u.there T o q (by simp);rw[eT]at e2;cases e2
    .cases q:H' T with
     |none=>rfl
     |some o =>
      obtain⟨ob,hob⟩:=z7H (hok T o q);rw[eT]at hob;cases hob
   |some oT' =>
    have hm:T∈ea::(hid++frs (env::outer)):=Classical.byContradiction fun nm=>by rw[PySem.W.hideAll_get _ eT nm]at g5;cases g5
    rcases y0o.mp hm with z|z
    .exact absurd z g6
    .rcases y0G.mp z with z|z
     .exact hid1 T z
     .obtain⟨o',e',hd⟩:=z2y ff T z;rw[g7]at e';cases e';exact absurd g8 (hd ts)
  exact⟨a0,oe,vs,T,oT,ts,g1,g2,g3,g4,g6,hT.1,hT.2,g7,g8,g9⟩
def zc1{M:Model}{A:Around}{E:yyE}{Q:Unit->Shared->Prop}{s:Shared}{fr:List Addr}{H1 H':Hp}{h1:Heap}{env:Env}{outer:List Env}{L ea C:Addr}{base:Heap}(hA:A.frames=some (env::outer))(hL:env.frame=some L)(FF:s.heap.FunFrames base (env::outer))(u:Un fr [] H1 H' h1 s.heap)(hok:HOk P w H' s.heap)(hfr:∀b∈frs (env::outer),H' b=none/\(b∈fr\/h1.get? b=none))(hfr2:∀b∈fr,b∈frs (env::outer))(hf:zg8 h1 H' s.heap ea C\/Fly h1 H' s.heap ea C)(k:∀h',Un fr [] H1 H' h1 h'->HOk P w H' h'->Fly h1 H' h' ea C->Q () { s with heap:=h' }):wpAny M A (leaving env (.ref ea)) Q E s:=by
 rcases hf with⟨he1,heH,a0,oe,vs,g1,⟨g2,g20⟩,g3,g4⟩|⟨he1,heH,a0,oe,vs,T,oT,ts,g1,g2,g3,g4,g5,g6,g7,g8,g9,g10⟩
 .have FF':s.heap.FunFrames (PySem.W.hideAll s.heap (ea::([]++frs (env::outer)))) (env::outer):=z1e FF fun b hb=>y0I _ (by simp[hb]);refine wpAny_leaving_firstW hA FF' hL g1 (fun b o e=>y1V _ e) (y0I _ (by simp)) g3 g4 g20 fun h' lf=>?_;rw[g2]at lf;obtain⟨a,b,c⟩:=z5Y (hid:=[]) FF u hok hfr hfr2 he1 heH (fun b hb=>by simp at hb) lf;exact k h' a b c
 .have FF':s.heap.FunFrames (PySem.W.hideAll s.heap (ea::([T]++frs (env::outer)))) (env::outer):=z1e FF fun b hb=>y0I _ (by simp[hb]);refine wpAny_leaving_nextW hA FF' hL ⟨oe,vs,T,oT,ts,g1,g2,g3,g4,y0I _ (by simp),g5,g8,g9,g10⟩ (fun b o e=>y1V _ e) (y0I _ (by simp)) fun h' lf=>?_;obtain⟨a,b,c⟩:=z5Y (hid:=[T]) FF u hok hfr hfr2 he1 heH (fun b hb=>by rw[y0r.mp hb];exact⟨g6,g7⟩) lf;exact k h' a b c
def CXx(P:Program)(w:World):CXT:=fun outer H s E e s'=>∃(ea C:Addr)(H':Hp),e=.ref ea/\s'.os=s.os/\AllBare s'.gens/\Un (frs outer) [] H H' s.heap s'.heap/\HOk P w H' s'.heap/\Fly s.heap H' s'.heap ea C/\E (.ref ea) (some C) H'
instance:NoE (CXx P w):=⟨fun⟨_,_,_,_,_,_,_,_,_,h⟩=>h⟩
def zfS{K:yyF}{mg:yyS}{base:Heap}{N:List Str}{qual:Str}{scope:Scope}{f:Addr}{cd:Value}{A:Around}{outer:List Env}{s:Shared}{H:Hp}{E:XK}{pins:yyP}{σ:St}{H':Hp}{s':Shared}{ea C:Addr}(J:Inv (z60 (CXx P w) P w K mg base N qual scope f cd A outer s H E) pins σ H' s')(hf:zg8 s.heap H' s'.heap ea C\/Fly s.heap H' s'.heap ea C)(hE:E (.ref ea) (some C) H'):(z60 (CXx P w) P w K mg base N qual scope f cd A outer s H E).xe (.ref ea) s':=by
 have hsub:=J.stkSub;have hfree:=J.stkFree;have hst:=J.stack;have hfrm:=J.ok.frames;show wpAny (model P w) (A.deeper (envOfC qual scope s.heap.objs.size f cd)) (leaving (envOfC qual scope s.heap.objs.size f cd) (.ref ea)) (fun _ s''=>CXx P w outer H s E (.ref ea) s'') (fun e' s''=>CXx P w outer H s E e' s'') s';refine zc1 (P:=P) (w:=w) (fr:=frs outer) (H1:=H) (H':=H') (h1:=s.heap) (base:=base) hfrm rfl hst J.base J.hok (fun b hb=>⟨hfree b hb,?_⟩) (fun b hb=>y0f _ hb) hf fun h' a b c=>?_
 .rcases y0o.mp (hsub b hb)with z|z
  .right;rw[z];exact y2I (y0a _)
  .exact .inl z
 .exact⟨ea,C,H',rfl,J.os,J.bare,a,b,c,hE⟩
def z6p{K:yyF}{mg:yyS}{base:Heap}{N:List Str}{qual:Str}{scope:Scope}{f:Addr}{cd:Value}{A:Around}{outer:List Env}{s:Shared}{H:Hp}{E E':XK}(hE:∀e C H',E' e C H'->E e C H') : z2t (CXx P w) (z60 (CXx P w) P w K mg base N qual scope f cd A outer s H E) E':=by
 intro pins σ H1 s1 e s' I hx;obtain⟨ea,C,H',rfl,os,bare,un,hok,fly,q⟩:=hx;have J:=I.call' (ch:=[]) os un hok bare (fun b z=>absurd z (by simp));refine zfS J (.inr ?_) (hE _ _ _ q);have up:∀b,s1.heap.get? b=none->s.heap.get? b=none:=fun b z=>by
  cases q:s.heap.get? b with
  |none=>rfl
  |some o =>
   obtain⟨o',e⟩:=I.base.there b o q (by simp[z60]);rw[z]at e;cases e
 obtain⟨a1,a2,a0,oe,vs,T,oT,ts,g1,g2,g3,g4,g5,g6,r⟩:=fly;exact⟨up _ a1,a2,a0,oe,vs,T,oT,ts,g1,g2,g3,g4,g5,up _ g6,r⟩
end
def z5S{K:yyF}{h:Heap}{C:Addr}{bmB:List Value}{newId:String}(X:K.In h)(e:PySem.W.excIn K C bmB newId=true):∃bm N nm q bs hdct sn sub ab col dd k0 k1 k2 k3 k5 mN, h.get? C=some (excClassObj nm q C N bs bm hdct sn sub ab col dd k0 k1 k2 k3 k5 newId)/\h.Ns N mN/\mN "__init__"=none/\OwnTail h bmB bm:=by
 unfold PySem.W.excIn at e;split at e
 .rename_i dict cd sl hl;split at e
  .rename_i C' bm a0 a1 a2 a3 n a5 hm hs;simp only[y13,y1M,Bool.not_eq_true']at e;obtain⟨⟨⟨⟨⟨e1,e2⟩,e3⟩,e4⟩,e5⟩,e6⟩:=e;have hC:=X C _ hl;subst e1 e2;have hsl:sl=#[a0,a1,a2,a3,some (Value.builtin n),a5]:=by rw[<-Array.toArray_toList (xs:=sl),hs]
   obtain⟨nm,bs,mro,ns,q,hd,sn,sub,ab,col,hdel⟩:=cd;simp only at hm e3 e5 e6;subst hm e3 hsl;exact⟨bm,ns,nm,q,bs,hd,sn,sub,ab,col,dict,a0,a1,a2,a3,a5,h.nsMap ns,hC,Heap.Ns.of_isNs (PySem.W.isNs_of_in X e5),PySem.W.nsMap_none_of_in X e5 e6,PySem.W.tail_of_in X e4⟩
  .cases e
 .cases e
def z44{h:Heap}{bmB bm:List Value}{v:Value}(t:OwnTail h bmB bm)(hb:bmB.contains v=true):bm.contains v=true:=by
 induction t with
 |base=>exact hb
 |own _ _ _ _ ih=>rw[List.contains_cons,ih];simp
section
variable{P:Program}{w:World}{K:yyF}{mg:yyS}{base:Heap}{N:List Str}{qual:Str}{scope:Scope}{f:Addr}{cd:Value}{A:Around}{outer:List Env}{s0:Shared}{H0:Hp}{E:XK}
def z1R{x:Str}{C:Addr}{B newId initId:String}{bmB:List Value}{arg:Expr}{ta:TE}{np cpos pos:Pos}(hx:mg x=some (.ref C))(hg:Gl (z60 (CXx P w) P w K mg base N qual scope f cd A outer s0 H0 E) x)(he:PySem.W.excIn K C bmB newId=true)(hB:ExcBaseFacts B newId initId bmB)(ha:PE (z60 (CXx P w) P w K mg base N qual scope f cd A outer s0 H0 E) arg ta)(htr:backTo cpos (starEach [arg] (z60 (CXx P w) P w K mg base N qual scope f cd A outer s0 H0 E).env)=[(false,eval arg (z60 (CXx P w) P w K mg base N qual scope f cd A outer s0 H0 E).env)]:=by rfl)(hdb:(x==("__debug__":Str))=false:=by decide) : PS (z60 (CXx P w) P w K mg base N qual scope f cd A outer s0 H0 E) (.Raise (some (.Call (.Name x np) [arg] [] cpos)) none pos) (fun D σ H=>ta σ H fun v H1=>∀ea,E (.ref ea) (some C) H1):=by
 intro pins s σ H D I h;obtain⟨bm,NN,nm,q,bs,hd,sn,sub,ab,col,dict,a0,a1,a2,a3,a5,mN,hC,hN,hi,ht⟩:=z5S I.ok.mod.kin he;refine wpAny_Raise_call_subT (nm:=nm) (q:=q) (N:=NN) (bs:=bs) (hdct:=hd) (sn:=sn) (sub:=sub) (ab:=ab) (col:=col) (dd:=dict) (k0:=a0) (k1:=a1) (k2:=a2) (k3:=a3) (k5:=a5) hB (z44 ht hB.hasBase) (I.ok.hd rfl) (by rw[htr];rfl) hi (z2x I hg hx ⟨rfl,?_⟩ hdb);rw[htr];refine y2J (Calls.spliced_cons (z1w (ha pins s σ H _ I h) fun u s2 v H2 I2 r2 q2=>Calls.spliced_nil ?_));have bk:=I2.bk;refine⟨rfl,by show 1<=sizeLine;decide,bk _ _ hC,hN.keeps bk,ht.keeps bk,fun h' e me=>?_⟩;obtain⟨kp,nw,t,g1,g2,g3⟩:=me;have J:=I2.kept (h':=h') (t':=s2.toks) kp;refine zfS J (.inl ⟨?_,?_,_,_,_,g1,⟨rfl,rfl⟩,rfl,rfl⟩) (q2 e)
 .cases z:s0.heap.get? e with
  |none=>rfl
  |some o =>
   obtain⟨o',e'⟩:=I2.base.there e o z (by simp[z60]);rw[nw]at e';cases e'
 .cases z:H2 e with
  |none=>rfl
  |some o =>
   obtain⟨ob,hob⟩:=z7H (I2.hok e o z);rw[nw]at hob;cases hob
end
section
variable{P:Program}{w:World}
def z8l{M:Model}{A:Around}{E:yyE}{Q:Unit->Shared->Prop}{s:Shared}{fr:List Addr}{H1 H':Hp}{h1:Heap}{env:Env}{outer:List Env}{ea C:Addr}{base:Heap}(FF:s.heap.FunFrames base (env::outer))(u:Un fr [] H1 H' h1 s.heap)(hok:HOk P w H' s.heap)(hfr:∀b∈frs (env::outer),H' b=none/\(b∈fr\/h1.get? b=none))(hfr2:∀b∈fr,b∈frs (env::outer))(hf:Fly h1 H' s.heap ea C)(k:∀h',Un fr [] H1 H' h1 h'->HOk P w H' h'->Fly h1 H' h' ea C->Q () { s with heap:=h' }):wpAny M A (setFlight (.ref ea) none) Q E s:=by obtain⟨he1,heH,a0,oe,vs,T,oT,ts,g1,g2,g3,g4,g5,g6,g7,g8,g9,g10⟩:=hf;have FF':s.heap.FunFrames (PySem.W.hideAll s.heap (ea::([T]++frs (env::outer)))) (env::outer):=z1e FF fun b hb=>y0I _ (by simp[hb]);refine lands_againW (base:=PySem.W.hideAll s.heap (ea::([T]++frs (env::outer)))) (l:=env::outer) (cls:=.ref C) (a0:=a0) ⟨fun b o e=>y1V _ e,y0I _ (by simp),FF',oe,vs,T,oT,ts,g1,g2,g3,g4,y0I _ (by simp),g5,g8,g9,g10⟩ fun h' fl up=>?_;obtain⟨f1,f2,f3,f4⟩:=fl;obtain⟨a,b,c⟩:=z5Y (hid:=[T]) FF u hok hfr hfr2 he1 heH (fun b hb=>by rw[y0r.mp hb];exact⟨g6,g7⟩) ⟨f1,f3,f4,up⟩;exact k h' a b c
def ze2{M:Model}{A:Around}{E:yyE}{Q:Unit->Shared->Prop}{s:Shared}{fr:List Addr}{H1 H':Hp}{h1:Heap}{env:Env}{outer:List Env}{L ea C:Addr}{base:Heap}(hA:A.frames=some (env::outer))(hL:env.frame=some L)(FF:s.heap.FunFrames base (env::outer))(u:Un fr [] H1 H' h1 s.heap)(hok:HOk P w H' s.heap)(hfr:∀b∈frs (env::outer),H' b=none/\(b∈fr\/h1.get? b=none))(hfr2:∀b∈fr,b∈frs (env::outer))(hf:Fly h1 H' s.heap ea C)(k:∀h',Un fr [] H1 H' h1 h'->HOk P w H' h'->Fly h1 H' h' ea C->Q () { s with heap:=h' }):wpAny M A (noteFrame (.ref ea) env) (fun _ s2=>wpAny M A (setFlight (.ref ea) none) Q E s2) E s:=by
 obtain⟨he1,heH,a0,oe,vs,T,oT,ts,g1,g2,g3,g4,g5,g6,g7,g8,g9,g10⟩:=hf;have FF':s.heap.FunFrames (PySem.W.hideAll s.heap (ea::([T]++frs (env::outer)))) (env::outer):=z1e FF fun b hb=>y0I _ (by simp[hb]);refine wpAny_noteFrame_onW hA FF' hL ⟨oe,vs,T,oT,ts,g1,g2,g3,g4,y0I _ (by simp),g5,g8,g9,g10⟩ (fun b o e=>y1V _ e) (y0I _ (by simp)) fun h2 nt=>?_;obtain⟨n1,n2,n3,n4⟩:=nt;refine wpAny_landsW (L:=L) ⟨n1,y0I _ (by simp),n2,n3⟩ fun h' fl up=>?_;obtain⟨f1,f2,f3,f4⟩:=fl;have lw:(PySem.W.hideAll s.heap (ea::([T]++frs (env::outer)))).LeftW (env::outer) ea (.ref C) a0 s.heap h':=⟨f1,f3,f4,fun b o e hd=>by obtain⟨s1,e1⟩:=n4 b o e hd;obtain⟨s2,e2⟩:=up b _ e1 hd;exact⟨s2,e2⟩⟩
 obtain⟨a,b,c⟩:=z5Y (hid:=[T]) FF u hok hfr hfr2 he1 heH (fun b hb=>by rw[y0r.mp hb];exact⟨g6,g7⟩) lw;exact k h' a b c
end
abbrev Cx.sup(X:Cx)(e:Addr):Cx:={ X with A:=X.A.mark (some (.ref e)),calm:=false,xe:=fun _ _=>False }
abbrev Cx.tried(X:Cx)(pn:yyP)(E:yyE):Cx:={ X with pn:=pn,xe:=E }
theorem Cx.Ok.sup{X:Cx}(ok:X.Ok)(e:Addr):(X.sup e).Ok :=
 ⟨ok.mod,ok.kind,ok.glob,ok.blt,ok.above,ok.inj,ok.has,ok.cab,fun z=>(by cases z),ok.frames,ok.stk,ok.exf,ok.bs,ok.bsz,ok.noex,ok.exfs,ok.funs,ok.frf⟩
theorem Cx.Ok.tried{X:Cx}(ok:X.Ok)(pn:yyP)(E:yyE):(X.tried pn E).Ok :=
 ⟨ok.mod,ok.kind,ok.glob,ok.blt,ok.above,ok.inj,ok.has,ok.cab,ok.hd,ok.frames,ok.stk,ok.exf,ok.bs,ok.bsz,ok.noex,ok.exfs,ok.funs,ok.frf⟩
open PySem.SeqAt
theorem z6r:∀{us:List V}{its itt:List Value},(∀v∈us,∃c,v=V.ref c)->z0J us its->z0J us itt->its=itt
 |[],_,_,_,.nil,.nil=>rfl
 |v::us,_,_,h,.cons r rr,.cons q qq=>by obtain⟨c,rfl⟩:=h v (by simp);cases r;cases q;rw[z6r (fun v hv=>h v (y0f _ hv)) rr qq]
section
variable{X:Cx}
def zeE(hu:X.A.units<cLine):OpR X (compareOp .NotEq) (fun x y H Q=>∃(a b:Addr)(us:List V),x=.ref a/\y=.ref b/\SqL X.K H a us/\SqL X.K H b us/\(∀v∈us,∃c,v=V.ref c)/\Q (.bl false) H):=by
 intro pins s σ H x y v u Q I rx ry h;obtain⟨a,b,us,rfl,rfl,ha,hb,hr,q⟩:=h;cases rx;cases ry;obtain⟨its,rv,pl,_⟩:=I.list ha;obtain⟨itt,rv',pl',_⟩:=I.list hb;have e:=z6r hr rv rv';subst e;have R:=RcNeAt.lists (A:=X.A) (e:=fun _=>true) pl.isList pl'.isList rfl hu (fun j h1 h2=>EqAt.same _);have e2:(!(List.range its.toArray.size).all fun _=>true)=false:=by simp
 rw[e2]at R;exact R _ _ _ _ ⟨.bl false,H,I,rfl,q⟩
end
end L2
namespace Gu
open PySem L2
def zad(rows:List Row)(ks:List Int):Prop:=∃(α:Type)(_:DecidableEq α)(key:Int->α),ks=z2j ((z0s rows.length).map key)
def zfY(rows:List Row):zad rows (z2j (rows.map (·.1))):=⟨List Int,inferInstance,fun x=>(row rows x).1,by rw[z4r rows (·.1)]⟩
def zcS{rows:List Row}{ks:List Int}(h:ks.length=rows.length):zad rows (z2j (z3W ks rows)):=⟨Int × List Int,inferInstance,zdZ rows ks,by rw[z3B h]⟩
def zbP{n:Nat}{rows:List Row}(G:z3X n rows){ks:List Int}(h:zad rows ks):cnt ks<=cnt (z2j (z3W ks rows)):=by
 obtain⟨α,ia,key,rfl⟩:=h;rw[z3B (by rw[z36,y00,z0N]),z45 (z5T G.some),z45 (z5T G.some)];have h1:=z5V (L:=rows.length) (key:=key);have h2:=(z2d (kf (z2j ((z0s rows.length).map key))) (zdZ rows (z2j ((z0s rows.length).map key))) (z0s rows.length) fun x hx y hy e=>by unfold zdZ at e;exact(Prod.mk.inj e).1).1
 lia
theorem z5a{n:Nat}{rows:List Row}(G:z3X n rows):∀(m:Nat)(c:Int)(ks:List Int),zad rows ks->z4J rows ks->cnt ks<=cnt (z4M rows m c ks)
 |0,c,ks,h,_=>Int.le_refl _
 |m+1,c,ks,h,hg=>by
  unfold z4M;by_cases hc:c<cnt ks
  .rw[if_pos hc];exact Int.le_trans (zbP G h) (z5a G m _ _ (zcS hg.len) (z9B hg))
  .rw[if_neg hc];exact Int.le_refl _
def zdA{n:Nat}{rows:List Row}(G:z1b n rows):((shr rows).length:Int)=cnt (z0Y (z0z rows)):=by
 have GF:=z2I G;obtain⟨R,N⟩:=z4i GF;rw[<-z6d G];unfold zbT;rw[z3R (z3E GF).len N GF.go];unfold z3m;have hm:=z20 (kf (z0Y (z0z rows))) (z0s (z0z rows).length);have:(z0V (kf (z0Y (z0z rows))) (z0s (z0z rows).length)).length=(z0B ((z0s (z0z rows).length).map (kf (z0Y (z0z rows))))).length:=by rw[<-hm,y00]
 rw[y00,this];obtain⟨α,ia,key,e⟩:=N;rw[e,z5V,z45 (z5T GF.some)]
def zgf{n:Nat}{rows:List Row}(G:z1b n rows):(shr rows).length<=rows.length:=by obtain⟨L,cl⟩:=z0Q G;have hl:=L.len;have hh:=(z2b (kOf rows) (z0g rows)).2.2;unfold shr z3m;rw[y00];lia
def TMx(Ct:Addr)(E:XK)(H:Hp):Prop:=∀(ea:Addr)(H':Hp),z08 H H'->E (.ref ea) (some Ct) H'
def z5H(K:yyF)(Ct:Addr):Sp:=fun vs H Q E=>∃(a:Addr)(n:Nat)(rows:List Row),vs=[.ref a]/\z1D K H a rows/\z3X n rows/\n<=60/\(cnt (z0Y rows)<=60->∀(r:Addr)(H':Hp),z08 H H'->H' r=some (.lst ((z0Y rows).map V.int))->Q (.ref r) H')/\(60<cnt (z0Y rows)->TMx Ct E H)
end Gu
namespace L2
open PySem PySem.Spec PyProof.Rows
def Fun.okx{CX:CXT}{P:Program}{w:World}{K:yyF}{mg:yyS}{base:Heap}{x qual:Str}{st:Stmt}{f:Addr}{fd:FuncData}{N ps:List Str}{k:Nat}{sp:Sp}(F:Fun K x qual st f fd)(S:z0j N ps (z05 st))(len:∀vs H Q E,sp vs H Q E->vs.length=ps.length)(hbody:∀(cdv:Value)(A:Around)(outer:List Env)(s:Shared)(H:Hp)(vs:List V)(Q:VK)(E:XK),z2F k (A.deeper (envOfC qual (z05 st) s.heap.objs.size f cdv))->sp vs H Q E -> ∃t,PSs (z60 CX P w K mg base N qual (z05 st) f cdv A outer s H E) (z0E st) t/\t { nx:=fun _ H'=>Q .non H',rt:=Q } (start N vs) H):z0u P w K mg base CX (k+1) f fd ps sp:=by obtain⟨oc,od,kV,doc,pm,an,cdv,ct,osl,rfl,lk,hcd⟩:=F.ex;exact zdD lk hcd S len fun A outer s H vs Q E hr hsp=>hbody cdv A outer s H vs Q E hr hsp
open PySem.SeqAt
section
variable{X:Cx}
def z21:OpR X (binaryOp .Add) (fun x y H Q=>∃(a b:Addr)(xs ys:List V),x=.ref a/\y=.ref b/\H a=some (.tup xs)/\H b=some (.tup ys)/\xs.length+ys.length<=sizeLine /\ ∀(p:Addr)(H':Hp),z08 H H'->H' p=some (.tup (xs++ys))->Q (.ref p) H'):=by
 intro pins s σ H x y v u Q I rx ry h;obtain⟨a,b,xs,ys,rfl,rfl,ha,hb,hz,q⟩:=h;by_cases hx:xs=[]
 .subst hx;cases rx;cases ry;obtain⟨its,r1,p1,_⟩:=I.tuple (SqT.of ha);obtain⟨its2,r2,p2,_⟩:=I.tuple (SqT.of hb);cases r1;obtain⟨⟨cls,dd,data,sl⟩,ho,hc,n,hd⟩:=id p1;obtain⟨⟨cls2,dd2,data2,sl2⟩,ho2,hc2,n2,hd2⟩:=id p2;simp only at hc hd hc2 hd2;subst hc hd hc2 hd2;exact concat_meets ⟨_,ho,rfl⟩ ⟨_,ho2,rfl⟩ noFill_tuple_add seq_tuple_add y2r y2l (y2h _ _)
   (tuple_addW0 a b _ _ n n2 dd dd2 sl sl2 (by simp)) ⟨ho,ho2,⟨.ref b,H,I,rfl,q b H (z08.refl H) hb⟩⟩
 .exact ze3 pins s σ H _ _ v u Q I rx ry ⟨a,b,xs,ys,rfl,rfl,SqT.of ha,SqT.of hb,hx,hz,fun e=>by subst e;exact q a H (z08.refl H) (by rw[y1A];exact ha),fun _ p hp=>q p _ (Gu.same_up (z08.refl H) hp) z01⟩
def zcJ(xs:List V)(lo hi:Option Int)(h:HT.sIx xs.length 0 lo=0/\HT.sIx xs.length xs.length hi=xs.length):z4Z xs lo hi=xs:=by unfold z4Z;rw[h.1,h.2];simp
def z32{prog:Program}{w:World}{A:Around}{E:yyE}{s:Shared}{t sl:Addr}{items:Array Value}{vl vu:Value}{lo hi:Option Int}{Q:yyE}(ht:IsTup s.heap t items)(hs:s.heap.IsSliceOf sl vl vu .none)(pl:IsPart vl lo)(pu:IsPart vu hi)(hw:HT.sIx items.size 0 lo=0/\HT.sIx items.size items.size hi=items.size)(h:Q (.ref t) s):wpAny (model prog w) A (getItem (.ref t) (.ref sl)) Q E s:=by
 obtain⟨os,hos,hcs,hds⟩:=id hs;have hTs:s.TypeIs (.ref sl) "slice":=⟨os,hos,hcs⟩;unfold getItem;try with_reducible refine y1i ?_
 first|refine y02 (y07 ?_)|skip
 refine y02 (wpAny_sequenceKey ht.typeIs (by decide) ?_);refine y02 (y11 (name:=Str.ofString "__getitem__") ht.typeIs y0W
  (y1d y0W ht.typeIs entry_tuple_getitem ?_ (args_tuple_getitem _ _)))
 show wpAny _ _ (Builtin.Tuple.tupleItemsOf (.ref t)>>=_) _ _ s;refine y02 (tupleItemsOf_ ht ?_);refine y02 (wpAny_typeOf hTs ?_);rw[if_pos (by decide)];refine y02 (HT.sliceApplied_gen hs pl pu ?_);have hyes:(((HT.sIx items.size 0 lo:Nat):Int)==0&&(1:Int)==1&&(HT.sIx items.size items.size hi-HT.sIx items.size 0 lo)==items.size)=true:=by rw[hw.1,hw.2];simp
 show wpAny _ _ (if(((HT.sIx items.size 0 lo:Nat):Int)==0&&(1:Int)==1&&(HT.sIx items.size items.size hi-HT.sIx items.size 0 lo)==items.size)=true then _ else _) _ _ s;rw[if_pos hyes];unfold Builtin.Tuple.tupleIsExact;refine y02 (y02 (wpAny_typeOf ht.typeIs (y07 ?_)));rw[if_pos (by decide)];first
  |exact y02 (y02 (y07 ⟨_,rfl,y07 h⟩))
  | (wp_walk;exact⟨_,rfl,h⟩)
  | (wp_walk;exact⟨_,rfl,y07 h⟩)
def z1M:SlR X (fun x lo hi H Q=>∃(a:Addr)(xs:List V),x=.ref a/\H a=some (.tup xs)/\∀(p:Addr)(H':Hp),z08 H H'->H' p=some (.tup (z4Z xs lo hi))->Q (.ref p) H'):=by
 intro pins s σ H x v vl vu lo hi sl Q I rx hs pl pu h;obtain⟨a,xs,rfl,hx,q⟩:=h;by_cases hw:HT.sIx xs.length 0 lo=0/\HT.sIx xs.length xs.length hi=xs.length
 .cases rx;obtain⟨its,r,ht,hz⟩:=I.tuple (SqT.of hx);have hlen:its.toArray.size=xs.length:=by rw[y0g];exact r.length.symm
  refine⟨"tuple",_,y0W.lookup,ht.typeIs,?_⟩;exact z32 ht hs pl pu (by rw[hlen];exact hw) ⟨.ref a,H,I,rfl,q a H (z08.refl H) (by rw[zcJ xs lo hi hw];exact hx)⟩
 .exact zgb pins s σ H _ v vl vu lo hi sl Q I rx hs pl pu ⟨a,xs,rfl,SqT.of hx,hw,fun p hp=>q p _ (Gu.same_up (z08.refl H) hp) z01⟩
def zcC(l:Addr)(its:List Value)(n:Nat)(k:Int)(t:Tok)(h0:-1000<=k)(hk:k<=1000)(hne:its=[]\/k=1) : Meets (Builtin.«tuple.__mul__» ⟨[.ref l,.int k t],[]⟩) (fun _ R s=>s.heap.get? l=some { cls:=.type "tuple",dict:=none,data:=.seq its.toArray n,slots:=#[] }/\R (.ok (.ret (.ref l))) s) :=
 .of_wp fun prog w A R s h=>by
  obtain⟨hp,g,d,tk,os⟩:=s;obtain⟨hl,h⟩:=h;have hyes:(its.toArray.isEmpty||k==1)=true:=by
   rcases hne with e|e
   .subst e;simp
   .subst e;simp
  wp_walk using wpAny_loadPart' hl
  refine y1r (fun hab=>absurd hab (by simp;lia)) (fun _=>?_)
  wp_walk using wpAny_loadPart' hl
  exact⟨_,rfl,h⟩
def zbM(l:Addr)(its:List Value)(n:Nat)(k:Int)(t:Tok)(h0:-1000<=k)(hk:k<=0)(hne:its≠[]) : Meets (Builtin.«tuple.__mul__» ⟨[.ref l,.int k t],[]⟩) (fun _ R s=>s.heap.get? l=some { cls:=.type "tuple",dict:=none,data:=.seq its.toArray n,slots:=#[] } /\ R (.ok (.ret (.ref s.heap.objs.size))) { s with heap:=s.heap.push { cls:=.type "tuple",data:=.seq #[] } }) :=
 .of_wp fun prog w A R s h=>by
  obtain⟨hp,g,d,tk,os⟩:=s;obtain⟨hl,h⟩:=h;have hie:its.toArray.isEmpty=false:=by cases its with|nil=>exact absurd rfl hne|cons a r=>simp
  wp_walk using wpAny_loadPart' hl
  refine y1r (fun hab=>absurd hab (by simp;lia)) (fun _=>?_)
  wp_walk using wpAny_loadPart' hl
  have hk1:(k==1)=false:=by simpa using(show k≠1 by lia)
  have hk0:decide (k<=0)=true:=by simpa using hk
  refine y1r (fun hab=>absurd hab (by rw[hie,hk1];decide)) (fun _=>?_);refine y1r (fun _=>?_) (fun hab=>absurd (by rw[hk0];rfl) hab);unfold Builtin.Tuple.tupleExact;refine y02 (y0P ?_ (by show(#[]:Array Value).size<=sizeLine;decide));exact y07 ⟨_,rfl,h⟩
def zbh:OpR X (binaryOp .Mult) (fun x y H Q=>∃(l:Addr)(k:Int)(xs:List V),x=.ref l/\y=.int k/\H l=some (.tup xs)/\-1000<=k/\k<=1000/\xs.length*k.toNat<=sizeLine /\ ∀(p:Addr)(H':Hp),z08 H H'->H' p=some (.tup (List.replicate k.toNat xs).flatten)->Q (.ref p) H'):=by
 intro pins s σ H x y v u Q I rx ry h;obtain⟨l,k,xs,rfl,rfl,hH,h0,hk,hz,q⟩:=h;by_cases hs:xs≠[]/\2<=k
 .exact zel pins s σ H _ _ v u Q I rx ry ⟨l,k,xs,rfl,rfl,hH,hs.1,hs.2,hk,hz,fun p hp=>q p _ (Gu.same_up (z08.refl H) hp) z01⟩
 .cases rx;obtain⟨t,rfl⟩:=ry;obtain⟨z,its,n,r,e⟩:=I.hok l _ hH;have hl:=r.length;by_cases h1:its=[]\/k=1
  .refine y1I (T:="tuple") (U:="int") (by decide) ⟨_,e,rfl⟩ (fun s'=>y2i s' k t) z2z y2L y1B z3J y2E.lookup
    (y1S y1B (y2i s k t) y2F (y2v _ _) (z2q k t l its.toArray n)
     ⟨e,rfl,⟨_,e,rfl⟩,y1S y2c ⟨_,e,rfl⟩ F.entry_tuple_mul (F.args_tuple_mul_2 _ _) (zcC l its n k t h0 hk h1) ⟨e,?_⟩⟩)
   refine⟨.ref l,H,I,rfl,q l H (z08.refl H) ?_⟩;have:(List.replicate k.toNat xs).flatten=xs:=by
    rcases h1 with w|w
    .subst w;have:xs=[]:=y18.mp (by simpa using hl);subst this;simp
    .subst w;simp
   rw[this];exact hH
  .have hne:its≠[]:=fun w=>h1 (.inl w);have hxs:xs≠[]:=fun w=>hne (y18.mp (by rw[<-hl,w];rfl));have hk0:k<=0:=by
    have a1:k≠1:=fun w=>h1 (.inr w);have a2:¬2<=k:=fun w=>hs ⟨hxs,w⟩;lia
   refine y1I (T:="tuple") (U:="int") (by decide) ⟨_,e,rfl⟩ (fun s'=>y2i s' k t) z2z y2L y1B z3J y2E.lookup
    (y1S y1B (y2i s k t) y2F (y2v _ _) (z2q k t l its.toArray n)
     ⟨e,rfl,⟨_,e,rfl⟩,y1S y2c ⟨_,e,rfl⟩ F.entry_tuple_mul (F.args_tuple_mul_2 _ _) (zbM l its n k t h0 hk0 hne) ⟨e,?_⟩⟩)
   have e0:k.toNat=0:=by lia
   rw[e0]at q;exact⟨.ref _,_,I.laid (o:=.tup []) (t':=s.toks) (fun b u q=>y03 _ q) (y0a _) ⟨y0t _,[],0,.nil,y09 _ rfl⟩,rfl,q _ _ (Gu.same_up (z08.refl H) I.fresh) z01⟩
end
end L2
namespace Gu
open PySem L2
end Gu
namespace L2
open PySem PySem.Spec PyProof.Rows
abbrev frO(o:Obj):HO:=.frz o (.ext fun _=>True)
section
variable{P:Program}{w:World}{H H1:Hp}{h:Heap}{a:Addr}{o:Obj}
def z6m(e:h.get? a=some o):z1d P w H h a (frO o):=⟨e,trivial,⟨o,e⟩,fun _ _ _ _=>trivial⟩
def z3N(x:HOk P w H h)(e:H a=some (frO o)):h.get? a=some o:=(x a _ e).1
end
def utk(H:Hp)(cs:List Addr):Hp:=fun b=>if b∈cs then none else H b
def rtk(H H1:Hp)(cs:List Addr):Hp:=fun b=>if b∈cs then H b else H1 b
def z4U{H:Hp}{cs:List Addr}{b:Addr}(h:b∈cs):utk H cs b=none:=if_pos h
def z19{H:Hp}{cs:List Addr}{b:Addr}(h:b∉cs):utk H cs b=H b:=if_neg h
def zbp{H H1:Hp}{cs:List Addr}{b:Addr}(h:b∈cs):rtk H H1 cs b=H b:=if_pos h
def z2Z{H H1:Hp}{cs:List Addr}{b:Addr}(h:b∉cs):rtk H H1 cs b=H1 b:=if_neg h
theorem z08.rtk{H H1:Hp}{cs:List Addr}(s:z08 (utk H cs) H1):z08 H (L2.rtk H H1 cs):=fun b o e=>by
 by_cases hb:b∈cs
 .rw[zbp hb];exact e
 .rw[z2Z hb];exact s b o (by rw[z19 hb];exact e)
def z08.rtk'{H H1:Hp}{cs:List Addr}(hn:∀c∈cs,H1 c=none):z08 H1 (L2.rtk H H1 cs):=fun b o e=>by
 have hb:b∉cs:=fun z=>by rw[hn b z]at e;cases e
 rw[z2Z hb];exact e
def z70{H:Hp}{cs:List Addr}(hc:∀c∈cs,∃ob,H c=some (frO ob)){b:Addr}{o:HO}(e:H b=some o)(ne:∀ob,o≠frO ob):utk H cs b=some o:=by
 have hb:b∉cs:=fun z=>by obtain⟨ob,q⟩:=hc b z;rw[e]at q;exact ne ob (y0d q)
 rw[z19 hb];exact e
def z7r(H:Hp)(f:Addr)(params:Arguments)(body:Expr)(scope:Scope)(qual:Str)(N:List Str)(fv:St):Prop :=
 ∃(clos:List (Str × Addr)) (cs:List Addr) (pm:Value) (c':Addr) (ctv:Value) (oc:Obj) (vs:Array Value) (t:Tok),H f=some (frO (PySem.W.kla_obj "<lambda>" qual params body scope clos pm c' ctv))/\H c'=some (frO oc)/\oc.data=.fields vs/\vs[1]?=some (.str qual t) /\
  (∀x y c,clos.lookup x=some c->clos.lookup y=some c->x=y)/\(∀x c,clos.lookup x=some c->c∈cs)/\(∀c∈cs,(∃x,clos.lookup x=some c)/\∃o u,H c=some (frO o)/\o.data=.cell u)/\(∀x,scope.names.lookup x=some .free->∃c,clos.lookup x=some c) /\
  ∀(i:Nat) x v,N[i]?=some x->fv[i]?=some (some v)->∃c o u,clos.lookup x=some c/\H c=some (frO o)/\o.data=.cell (some u)/\z0U v u
def z7r.mono{H H':Hp}{f:Addr}{params:Arguments}{body:Expr}{scope:Scope}{qual:Str}{N:List Str}{fv:St}(h:z7r H f params body scope qual N fv)(s:z08 H H'):z7r H' f params body scope qual N fv:=by
 obtain⟨clos,cs,pm,c',ctv,oc,vs,t,e1,e2,e3,e4,e5,e5',e6,e7,e8⟩:=h;refine⟨clos,cs,pm,c',ctv,oc,vs,t,s _ _ e1,s _ _ e2,e3,e4,e5,e5',fun c hc=>?_,e7,fun i x v h1 h2=>?_⟩
 .obtain⟨hx,o,u,q,d⟩:=e6 c hc;exact⟨hx,o,u,s _ _ q,d⟩
 .obtain⟨c,o,u,q1,q2,q3⟩:=e8 i x v h1 h2;exact⟨c,o,u,q1,s _ _ q2,q3⟩
structure zgk(N ps:List Str)(sc:Scope):Prop where
 kind:sc.kind=.function:=by rfl
 co:sc.isCoroutine=false:=by rfl
 gen:sc.isGenerator=false:=by rfl
 nd:N.Nodup:=by decide +kernel
 pre:N.take ps.length=ps:=by rfl
 par:∀x∈ps,sc.names.lookup x=some .local:=by decide +kernel
 nocell:∀y∈sc.names,y.2≠.cell:=by decide +kernel
 fr:∀x∈N.drop ps.length,sc.names.lookup x=some .free:=by decide +kernel
def z7c(vs:List V)(fv:St):St:=vs.map some++fv.drop vs.length
def zbD(P:Program)(w:World)(K:yyF)(mg:yyS)(base:Heap)(N:List Str)(qual:Str)(scope:Scope)(f:Addr)(cd:Value)(clos:List (Str × Addr))(A:Around)(outer:List Env)(s:Shared)(H:Hp):Cx where
 prog:=P
 w:=w
 K:=K
 mg:=mg
 base:=base
 A:=A.deeper (PySem.W.envX qual scope s.heap.objs.size f cd clos)
 N:=N
 s₀:=s
 H₀:=H
 env:=PySem.W.envX qual scope s.heap.objs.size f cd clos
 outer:=outer
 stack:=PySem.W.envX qual scope s.heap.objs.size f cd clos::outer
 ex:=[]
 calm:=true
 fn:=fun _=>false
 pn:=[]
 xe:=noE
def z6t{ps:List Str}{us:List Value}{i:Nat}{x:Str}{u:Value}(nd:ps.Nodup)(hp:ps[i]?=some x)(hu:us[i]?=some u):(ps.zip us).reverse.lookup x=some u:=by
 have hm:(x,u)∈(ps.zip us).reverse:=List.mem_reverse.mpr (y0O (i:=i) (by rw[y1b];exact⟨hp,hu⟩));have key:∀l:List (Str × Value),(∀v,(x,v)∈l->v=u)->(x,u)∈l->l.lookup x=some u:=by
  intro l;induction l with
  |nil=>intro _ h;cases h
  |cons q r ih =>
   intro h1 h2;obtain⟨y,v⟩:=q;rw[y0Q];by_cases e:x=y
   .subst e;rw[show(x==x)=true by simp];exact y1n some (h1 v y0z)
   .rw[show(x==y)=false by simpa using e];refine ih (fun v hv=>h1 v (y0f _ hv)) ?_;rcases y0o.mp h2 with z|z
    .injection z with z1 _;exact absurd z1 e
    .exact z
 refine key _ (fun v hv=>?_) hm;obtain⟨j,hj,ej⟩:=y1f (List.mem_reverse.mp hv);have e1:(ps.zip us)[j]?=some (x,v):=by rw[y01 hj,ej]
 rw[y1b]at e1;have:j=i:=z5O nd e1.1 hp;subst this;rw[hu]at e1;exact(y0d e1.2).symm
def zeu{CX:CXT}{P:Program}{w:World}{K:yyF}{mg:yyS}{base:Heap}{k:Nat}{H:Hp}{f:Addr}{params:Arguments}{body:Expr}{scope:Scope}{qual:Str}{N ps:List Str}{fv:St}(C:z7r H f params body scope qual N fv)(S:zgk N ps scope)(hbind:∀(cl:List (Str × Addr)) (pm cdv ct:Value) (us:List Value),us.length=ps.length->bindArgs (PySem.W.kla_fn "<lambda>" qual params body scope cl pm cdv ct) ⟨us,[]⟩=pure (ps.zip us))(hfv:fv.length=N.length){A:Around}{outer:List Env}{s:Shared}{us:List Value}{vs:List V}{Q:VK}{E:XK}(hr:z2F (k+1) A)(e0:zbw P w K mg base A outer s H)(r:z0J vs us)(hl:vs.length=ps.length)(hbody:∀(cd:Value) (clos:List (Str × Addr)) (cs:List Addr),z2F k (A.deeper (PySem.W.envX qual scope s.heap.objs.size f cd clos))->(∀c∈cs,∃o,H c=some (frO o)) -> ∃t,PE (zbD P w K mg base N qual scope f cd clos A outer s (utk H cs)) body t/\t (z7c vs fv) (utk H cs) fun v H1=>(∀c∈cs,H1 c=none)->Q v (rtk H H1 cs)) : codeAny (model P w) A (.call (.ref f) ⟨us,[]⟩) (CR CX outer P w H s Q E) s:=by
 obtain⟨clos,cs,pm,c',ctv,oc,vs',t,e1,e2,e3,e4,e5,hcl,e6',e7,e8⟩:=C;have e6:∀c∈cs,∃o u,H c=some (frO o)/\o.data=.cell u:=fun c hc=>(e6' c hc).2;obtain⟨tb,hPE,hq⟩:=hbody (.ref c') clos cs (hr.deeper _) (fun c hc=>let⟨o,_,q,_⟩:=e6 c hc;⟨o,q⟩);have KX:K.In s.heap:=e0.mod.kin.keeps fun b o e=>(e0.bs b o e).1;have lim:s.heap.NoLimit:=e0.mod.nolimit.keeps fun b o e=>(e0.bs b o e).1;have hul:us.length=ps.length:=by rw[<-r.length];exact hl
 refine PySem.W.kla_callFunE hr.depth (z3N e0.hok e1) rfl S.co S.gen rfl ⟨c',oc,vs',t,rfl,z3N e0.hok e2,e3,e4⟩ ?_;rw[hbind clos pm (.ref c') ctv us hul];refine y07 (y28 S.nocell (fun y hy=>S.par y.1 (y2K hy).1) (fun h₁ hns hsb=>?_) S.kind);have hk₁:∀b o,s.heap.get? b=some o->h₁.get? b=some o:=fun b o e=>hsb.extBut b o (y0q (y0b e)) (y03 _ e);refine⟨lim.keeps hk₁,?_⟩;show codeAny _ _ (.expr body (PySem.W.envX qual scope s.heap.objs.size f (.ref c') clos)) _ _;have hcu:∀c∈cs,utk H cs c=none:=fun c hc=>z4U hc;have hclt:∀c∈cs,c<s.heap.objs.size:=fun c hc=>by obtain⟨o,_,q,_⟩:=e6 c hc;exact y0b (z3N e0.hok q)
 have hokU:HOk P w (utk H cs) s.heap:=fun b u e=>by
  have hb:b∉cs:=fun z=>by rw[z4U z]at e;cases e
  rw[z19 hb]at e;refine(e0.hok b u e).stay (fun _ _ _ q=>q) (fun c q=>?_) fun c xs q=>?_
  .exact z70 (fun c hc=>let⟨o,_,q,_⟩:=e6 c hc;⟨o,q⟩) q (fun ob z=>by cases z)
  .exact z70 (fun c hc=>let⟨o,_,q,_⟩:=e6 c hc;⟨o,q⟩) q (fun ob z=>by cases z)
 have noA:∀b:Addr,b∉(zbD P w K mg base N qual scope f (.ref c') clos A outer s (utk H cs)).ex:=fun b z=>absurd (show b∈([]:List Addr)from z) (by simp);have nonU:∀{b:Addr},H b=none->utk H cs b=none:=fun{b} e=>by
  by_cases hb:b∈cs
  .exact z4U hb
  .rw[z19 hb];exact e
 have I:Inv (zbD P w K mg base N qual scope f (.ref c') clos A outer s (utk H cs)) [] (z7c vs fv) (utk H cs) { s with heap:=h₁,toks:=s.toks+(ps.zip us).length }:=by
  refine⟨⟨e0.mod,S.kind,rfl,rfl,y0a _,e5,fun y hy=>?_,fun y c hf _=>?_,fun _=>hr.hd,Around.frames_deeper e0.frames,.inr ⟨rfl,rfl⟩,fun b z=>absurd z (noA b),fun b o e=>⟨(e0.bs b o e).1,nonU (e0.bs b o e).2⟩,e0.bsz,fun b _ _=>noA b,fun b z=>absurd z (noA b),e0.funs,fun b hb=>nonU (e0.frf b hb)⟩,
   rfl,e0.bare,Un.kept hk₁,⟨_,hns,fun i y v h1 h2 h3=>?_⟩,fun y c h=>?_,?_,fun y c h=>hcu c (hcl y c h),fun p hp=>absurd (show p∈([]:yyP)from hp) (by simp),hokU.kept hk₁,?_⟩
  .rcases hy with hy|hy
   .exact absurd rfl (S.nocell _ (y0T hy))
   .exact e7 y hy
  .exact absurd (show false=true from hf) y0u
  .by_cases hi:i<vs.length
   .have ha:vs[i]?=some v:=by
     unfold z7c at h2;rw[y1a (by simpa using hi),y08]at h2;cases e:vs[i]? with
     |none=>rw[e]at h2;cases h2
     |some a=>rw[e]at h2;cases h2;rfl
    obtain⟨u,hu,rv⟩:=r.get ha;have hp:ps[i]?=some y:=by rw[<-S.pre,y2g (by lia)];exact h1
    have ndP:ps.Nodup:=by rw[<-S.pre];exact S.nd.sublist (List.take_sublist _ _)
    exact⟨u,rv,.inl ⟨S.par y (y0O hp),z6t ndP hp hu⟩⟩
   .have h2':fv[i]?=some (some v):=by
     unfold z7c at h2;rw[y25 (by simpa using hi),y00,List.getElem?_drop]at h2;rw[show vs.length+(i-vs.length)=i by lia]at h2;exact h2
    obtain⟨c,o,u,q1,q2,q3,q4⟩:=e8 i y v h1 h2';have hkk:scope.names.lookup y=some .local\/scope.names.lookup y=some .cell\/scope.names.lookup y=some .free:=h3;refine⟨u,q4,?_⟩;rcases hkk with z|z|z
    .have hm:y∈N.drop ps.length:=y0O (i:=i-ps.length) (by rw[List.getElem?_drop,show ps.length+(i-ps.length)=i by lia];exact h1);rw[S.fr y hm]at z;cases z
    .exact absurd rfl (S.nocell _ (y0T z))
    .exact .inr ⟨.inr z,c,q1,⟨o,hk₁ _ _ (z3N e0.hok q2),q3⟩⟩
  .obtain⟨o,u,q,d⟩:=e6 c (hcl y c h);exact⟨u,o,hk₁ _ _ (z3N e0.hok q),d⟩
  .exact nonU (e0.hok.fresh (y0a _))
  .unfold z7c;show _=N.length;have hpl:ps.length<=N.length:=by have:=y1n List.length S.pre;rw[y0k]at this;lia
   rw[y06,y00,y1R,hfv];lia
 refine PySem.W.kla_codeExpr (y0B (hPE [] _ (z7c vs fv) (utk H cs) _ I hq) (fun v' s' hs=>?_) fun e' s' hs=>False.elim hs);obtain⟨v,H1,J,rv,q1⟩:=hs;have hn1:∀c∈cs,H1 c=none:=fun c hc=>by obtain⟨⟨x,hx⟩,_⟩:=e6' c hc;exact J.freeC x c hx
 have U:Un (frs outer) [] (utk H cs) H1 s.heap s'.heap:=J.base;have hcs':∀c∈cs,∃ob,H c=some (frO ob):=fun c hc=>let⟨o,_,q,_⟩:=e6 c hc;⟨o,q⟩;have out:∀{b:Addr},H b=none->b∉cs:=fun{b} e z=>by obtain⟨o,q⟩:=hcs' b z;rw[e]at q;cases q
 have got:∀{b:Addr}{o:HO},(∀ob,o≠frO ob)->H b=some o->b∉cs:=fun{b o} ne e z=>by obtain⟨ob,q⟩:=hcs' b z;rw[e]at q;exact ne ob (y0d q)
 refine⟨v,rtk H H1 cs,J.os,J.bare,⟨fun b o e n hb hx=>?_,fun b o e n hb hx=>?_,fun b o e n hx=>?_,fun b o e hx=>U.there b o e hx,fun b xs e=>?_,fun b o u e=>?_,fun b ps e=>?_⟩,fun b u e=>?_,rv,q1 hn1⟩
 .exact U.keep b o e (nonU n) hb hx
 .exact U.slot b o e (nonU n) hb hx
 .rw[z2Z (out n)];exact U.free b o e (nonU n) hx
 .have hb:=got (fun ob z=>by cases z) e;rw[z2Z hb];exact U.tups b xs (by rw[z19 hb];exact e)
 .by_cases hb:b∈cs
  .rw[zbp hb];exact e
  .rw[z2Z hb];exact U.frzs b o u (by rw[z19 hb];exact e)
 .have hb:=got (fun ob z=>by cases z) e;obtain⟨more,q⟩:=U.tbls b ps (by rw[z19 hb];exact e);exact⟨more,by rw[z2Z hb];exact q⟩
 .by_cases hb:b∈cs
  .rw[zbp hb]at e;obtain⟨ob,q⟩:=hcs' b hb;rw[q]at e;have:=y0d e;subst this;refine z6m (U.keep b ob (z3N e0.hok q) (hcu b hb) (fun z=>?_) (by simp));have:=e0.frf b z;rw[q]at this;cases this
  .rw[z2Z hb]at e;refine(J.hok b u e).stay (fun _ _ _ q=>q) (fun c q=>?_) fun c xs q=>?_
   .exact z08.rtk' hn1 c _ q
   .exact z08.rtk' hn1 c _ q
def z3b(P:Program)(w:World)(K:yyF)(mg:yyS)(base:Heap)(CX:CXT)(k:Nat)(H:Hp)(f:Addr)(sp:List V->Hp->VK->Prop):Prop :=
 (∃(o:Obj)(fd:FuncData),H f=some (frO o)/\o.data=.func fd) /\
 ∀(H':Hp),z08 H H'->∀(A:Around)(outer:List Env)(s:Shared)(us:List Value)(vs:List V)(Q:VK),z2F k A->zbw P w K mg base A outer s H'->z0J vs us->sp vs H' Q ->
  codeAny (model P w) A (.call (.ref f) ⟨us,[]⟩) (CR CX outer P w H' s Q E0) s
def z3b.mono{P:Program}{w:World}{K:yyF}{mg:yyS}{base:Heap}{CX:CXT}{k:Nat}{H H1:Hp}{f:Addr}{sp:List V->Hp->VK->Prop}(h:z3b P w K mg base CX k H f sp)(s:z08 H H1):z3b P w K mg base CX k H1 f sp:=by obtain⟨⟨o,fd,e,d⟩,r⟩:=h;exact⟨⟨o,fd,s _ _ e,d⟩,fun H' s'=>r H' (s.trans s')⟩
def zfv(P:Program)(w:World)(K:yyF)(mg:yyS)(base:Heap)(CX:CXT)(k:Nat)(i:Nat)(t:TA):TE:=fun σ H Q=>∃(f:Addr)(sp:List V->Hp->VK->Prop),σ[i]?=some (some (.ref f))/\(∃(o:Obj)(fd:FuncData),H f=some (frO o)/\o.data=.func fd) /\
 t σ H fun vs H1=>z3b P w K mg base CX k H1 f sp/\sp vs H1 Q
section
variable{X:Cx}{CX:CXT}{k:Nat}{x:Str}{p pos:Pos}{e:Expr}{es:List Expr}{t:TA}
def z8m[N:NoE CX](i:Nat)(hr:z2F k X.A)(ha:PA X (e::es) t)(hN:X.N[i]?=some x:=by rfl)(hv:Vis X.env.scope x:=by first|exact Or.inl rfl|exact Or.inr (Or.inl rfl)|exact Or.inr (Or.inr rfl))(hd:(x==("__debug__":Str))=false:=by decide)(hcd:(x==("__classdict__":Str))=false:=by decide)(he:starEach (e::es) X.env=(false,eval e X.env)::starEach es X.env:=by rfl)(hpl:(backTo pos (starEach es X.env)).any (·.1)=false:=by rfl) : PE X (.Call (.Name x p) (e::es) [] pos) (zfv X.prog X.w X.K X.mg X.base CX k i t):=by
 intro pins s σ H Q I h;obtain⟨f,sp,ef,⟨o,fd,eo,od⟩,h⟩:=h;refine y1s (z1w (z9t hN hv hd hcd pins s σ H (fun v H1=>v=.ref f/\H1=H) I ⟨_,ef,rfl,rfl⟩) fun u s1 v H1 I1 r1 hz9=>?_);obtain⟨hv1,hH1⟩:=hz9;subst hv1 hH1;cases r1;have h':=ha pos pins s1 σ H1 _ I1 h;rw[he]at h'⊢;refine PySem.W.callWith_of (P:=fun hp=>hp.get? f=some o\/∃o' fd',hp.get? f=some o'/\o'.data=.func fd') (by show((false||(backTo pos (starEach es X.env)).any (·.1))||false)=false;rw[hpl];rfl)
  (fun hp hX=>?_) (PySem.Calls.evalArgs_plain (thn h' fun us s2 ⟨vs,H2,I2,r,cv,q⟩=>?_))
 .have hX':∃o' fd',hp.get? f=some o'/\o'.data=.func fd':=hX.elim (fun z=>⟨o,fd,z,od⟩) id;obtain⟨o',fd',z,d'⟩:=hX';refine⟨.frame,.inl rfl,?_⟩;obtain⟨cls,dd,data,sl⟩:=o';simp only at d';subst d';exact(PySem.W.Looks.ld (part:=none) z).andThen .now
 .obtain⟨⟨o',fd',z,d'⟩,run⟩:=cv;refine⟨.inr ⟨o',fd',z3N I2.hok z,d'⟩,?_⟩;refine wpAny_call (y2f (run H2 (z08.refl _) X.A X.stack s2 us vs Q hr I2.env0 r q) fun r s' hq=>?_);cases r with
  |error e=>exact absurd hq N.no
  |ok fl =>
   cases fl with
   |ret u=>exact I2.after hq
   |next=>exact False.elim hq
   |brk=>exact False.elim hq
   |cont=>exact False.elim hq
end
structure Tb where
 at_:Addr
 pos:Pos
 qual:Str
def zbV(T:Tb)(H:Hp):Prop:=H T.at_=some (.tbl #[])\/∃(c':Addr)(oc:Obj)(vs:Array Value)(t:Tok),H T.at_=some (.tbl #[rawInt T.pos.line,rawInt T.pos.col,.ref c'])/\H c'=some (frO oc)/\oc.data=.fields vs/\vs[1]?=some (.str T.qual t)
def z2n(Ts:List Tb)(H:Hp):Prop:=∀T∈Ts,zbV T H
structure z1I(Ts:List Tb)(H H':Hp):Prop where
 at_:∀b o,(∀ps,o≠.tbl ps)->H b=some o->H' b=some o
 tabs:z2n Ts H->z2n Ts H'
def zbV.mono{T:Tb}{H H':Hp}(h:zbV T H)(s:z08 H H'):zbV T H':=by
 rcases h with e|⟨c',oc,vs,t,e1,e2,e3⟩
 .exact .inl (s _ _ e)
 .exact .inr ⟨c',oc,vs,t,s _ _ e1,s _ _ e2,e3⟩
def z08.l{Ts:List Tb}{H H':Hp}(s:z08 H H'):z1I Ts H H':=⟨fun b o _ e=>s b o e,fun h T hT=>(h T hT).mono s⟩
def z1I.trans{Ts:List Tb}{H H1 H2:Hp}(a:z1I Ts H H1)(b:z1I Ts H1 H2):z1I Ts H H2:=⟨fun c o n e=>b.at_ c o n (a.at_ c o n e),fun h=>b.tabs (a.tabs h)⟩
class NT (o:HO):Prop where
 no:∀ps,o≠.tbl ps
instance NT.lst{xs:List V}:NT (.lst xs):=⟨fun _ z=>by cases z⟩
instance NT.tup{xs:List V}:NT (.tup xs):=⟨fun _ z=>by cases z⟩
instance NT.dK{xs:List (Key × V)}:NT (.dK xs):=⟨fun _ z=>by cases z⟩
instance NT.ext{f:Heap->Prop}:NT (.ext f):=⟨fun _ z=>by cases z⟩
instance NT.frz{o:Obj}{u:HO}:NT (.frz o u):=⟨fun _ z=>by cases z⟩
def z1I.g{Ts:List Tb}{H H':Hp}(s:z1I Ts H H'){b:Addr}{o:HO}[n:NT o](e:H b=some o):H' b=some o:=s.at_ b o n.no e
def z1I.seq{Ts:List Tb}{K:yyF}{H H':Hp}{a:Addr}{xs:List V}(s:z1I Ts H H')(h:SqL K H a xs):SqL K H' a xs:=by
 rcases h with(h|⟨o,h⟩)|h
 .exact .inl (.inl (s.g h))
 .exact .inl (.inr ⟨o,s.g h⟩)
 .exact .inr h
mutual
theorem Dr.monoL{Ts:List Tb}{K:yyF}{H H':Hp}(s:z1I Ts H H'):∀{d:D}{v:V},Dr K H d v->Dr K H' d v
 |.non,_,h=>by simp only[Dr]at h⊢;exact h
 |.bl _,_,h=>by simp only[Dr]at h⊢;exact h
 |.int _,_,h=>by simp only[Dr]at h⊢;exact h
 |.str _,_,h=>by simp only[Dr]at h⊢;exact h
 |.tup ds,_,h=>by
  simp only[Dr]at h⊢;obtain⟨a,vs,e,q,r⟩:=h;exact⟨a,vs,e,s.g q,DrL.monoL s r⟩
 |.lst ds,_,h=>by simp only[Dr]at h⊢;obtain⟨a,vs,e,q,r⟩:=h;exact⟨a,vs,e,s.seq q,DrL.monoL s r⟩
theorem DrL.monoL{Ts:List Tb}{K:yyF}{H H':Hp}(s:z1I Ts H H'):∀{ds:List D}{vs:List V},DrL K H ds vs->DrL K H' ds vs
 |[],_,h=>by simp only[DrL]at h⊢;exact h
 |d::ds,_,h=>by simp only[DrL]at h⊢;obtain⟨v,r,e,q,q'⟩:=h;exact⟨v,r,e,Dr.monoL s q,DrL.monoL s q'⟩
end
def zbz(H:Hp)(cs:List Addr)(ob:Addr->Obj):Hp:=fun b=>if b∈cs then some (frO (ob b))else H b
def z4z{H:Hp}{cs:List Addr}{ob:Addr->Obj}{b:Addr}(h:b∈cs):zbz H cs ob b=some (frO (ob b)):=if_pos h
def z1i{H:Hp}{cs:List Addr}{ob:Addr->Obj}{b:Addr}(h:b∉cs):zbz H cs ob b=H b:=if_neg h
section
variable{X:Cx}{pins:yyP}{σ:St}{H:Hp}{s s':Shared}{cs:List Addr}{ob:Addr->Obj}
def Inv.cellFree(I:Inv X pins σ H s){x:Str}{c:Addr}(hc:X.env.cells.lookup x=some c)(hge:X.s₀.heap.objs.size<=c):c∉frs X.stack/\X.base.get? c=none:=by
 refine⟨fun z=>?_,y2I (y0w I.ok.bsz hge)⟩;rcases y0o.mp (I.stkSub c z)with q|q
 .exact I.cne x c hc q
 .obtain⟨_,o,ho,_⟩:=I.ok.funs.mem q;exact absurd (y0h (y0b ho) hge) (y1c _)
def Inv.env0T(I:Inv X pins σ H s)(h1:∀c∈cs,s.heap.get? c=some (ob c))(h2:∀c∈cs,H c=none)(h3:∀c∈cs,c∉frs X.stack/\X.base.get? c=none):zbw X.prog X.w X.K X.mg X.base X.A X.stack s (zbz H cs ob):=by
 have E:=I.env0;have out:∀{b:Addr}{o:HO},H b=some o->b∉cs:=fun{b o} e z=>by rw[h2 b z]at e;cases e
 refine⟨E.frames,E.mod,fun b o e=>⟨(E.bs b o e).1,?_⟩,E.bsz,E.funs,fun b hb=>?_,fun b u e=>?_,E.bare⟩
 .have hb:b∉cs:=fun z=>by rw[(h3 b z).2]at e;cases e
  rw[z1i hb];exact(E.bs b o e).2
 .have hb':b∉cs:=fun z=>(h3 b z).1 hb;rw[z1i hb'];exact E.frf b hb
 .by_cases hb:b∈cs
  .rw[z4z hb]at e;have:=y0d e;subst this;exact z6m (h1 b hb)
  .rw[z1i hb]at e;exact(I.hok b u e).stay (fun _ _ _ q=>q) (fun c q=>by rw[z1i (out q)];exact q) fun c xs q=>by rw[z1i (out q)];exact q
def unT{fr:List Addr}{H':Hp}{h h':Heap}{P:Program}{w:World}(h1:∀c∈cs,h.get? c=some (ob c))(h2:∀c∈cs,H c=none)(h3:∀c∈cs,c∉fr)(U:Un fr [] (zbz H cs ob) H' h h')(hok:HOk P w H' h') : Un fr [] H (utk H' cs) h h'/\HOk P w (utk H' cs) h':=by
 have out:∀{b:Addr}{o:HO},H b=some o->b∉cs:=fun{b o} e z=>by rw[h2 b z]at e;cases e
 have at':∀c∈cs,H' c=some (frO (ob c)):=fun c hc=>U.frzs c _ _ (z4z hc);have got:∀{b:Addr}{o:HO},(∀x,o≠frO x)->H' b=some o->b∉cs:=fun{b o} ne e z=>by rw[at' b z]at e;exact ne _ (y0d e).symm
 refine⟨⟨fun b o e n hb hx=>?_,fun b o e n hb hx=>?_,fun b o e n hx=>?_,fun b o e hx=>U.there b o e hx,fun b xs e=>?_,fun b o u e=>?_,fun b ps e=>?_⟩,fun b u e=>?_⟩
 .by_cases hc:b∈cs
  .have q:=z3N hok (at' b hc);have q':=h1 b hc;rw[e]at q';rw[q,y0d q']
  .exact U.keep b o e (by rw[z1i hc];exact n) hb hx
 .have hc:b∉cs:=fun z=>h3 b z hb;exact U.slot b o e (by rw[z1i hc];exact n) hb hx
 .by_cases hc:b∈cs
  .exact z4U hc
  .rw[z19 hc];exact U.free b o e (by rw[z1i hc];exact n) hx
 .rw[z19 (out e)];exact U.tups b xs (by rw[z1i (out e)];exact e)
 .rw[z19 (out e)];exact U.frzs b o u (by rw[z1i (out e)];exact e)
 .obtain⟨more,q⟩:=U.tbls b ps (by rw[z1i (out e)];exact e);exact⟨more,by rw[z19 (out e)];exact q⟩
 .have hc:b∉cs:=fun z=>by rw[z4U z]at e;cases e
  rw[z19 hc]at e;refine(hok b u e).stay (fun _ _ _ q=>q) (fun c q=>?_) fun c xs q=>?_
  .rw[z19 (got (fun x z=>by cases z) q)];exact q
  .rw[z19 (got (fun x z=>by cases z) q)];exact q
def Inv.afterT{Q:VK}{u:Value}(I:Inv X pins σ H s)(h1:∀c∈cs,s.heap.get? c=some (ob c))(h2:∀c∈cs,H c=none)(h3:∀c∈cs,c∉frs X.stack/\X.base.get? c=none)(h:CE X.stack X.prog X.w (zbz H cs ob) s (fun v H'=>Q v (utk H' cs)) u s'):EP X pins σ Q u s':=by obtain⟨v,H',os,bare,un,hok,r,q⟩:=h;obtain⟨un2,hok2⟩:=unT h1 h2 (fun c hc=>(h3 c hc).1) un hok;exact I.after ⟨v,utk H' cs,os,bare,un2,hok2,r,q⟩
def zpk{P:Program}{w:World}{outer:List Env}{E:XK}{e:Value}(h1:∀c∈cs,s.heap.get? c=some (ob c))(h2:∀c∈cs,H c=none)(h3:∀c∈cs,c∉frs outer)(h:CXx P w outer (zbz H cs ob) s (fun e C H'=>E e C (utk H' cs)) e s'):CXx P w outer H s E e s':=by
 obtain⟨ea,C,H',e1,os,bare,un,hok,fly,q⟩:=h;obtain⟨un2,hok2⟩:=unT h1 h2 h3 un hok;have no:∀{b:Addr},H' b=none->utk H' cs b=none:=fun{b} z=>by
  by_cases hc:b∈cs
  .exact z4U hc
  .rw[z19 hc];exact z
 obtain⟨f1,f2,a0,oe,vs,T,oT,ts,g1,g2,g3,g4,g5,g6,g7,g8⟩:=fly;exact⟨ea,C,utk H' cs,e1,os,bare,un2,hok2,⟨f1,no f2,a0,oe,vs,T,oT,ts,g1,g2,g3,g4,g5,g6,no g7,g8⟩,q⟩
end
end L2
namespace L2
open PySem PySem.Spec PyProof.Rows
def z4L(base:Heap)(mg:yyS):Prop:=∃bm o,mg "__builtins__"=some (.ref bm)/\bm≠builtinsNs/\bm≠mainGlobals/\base.get? bm=some o/\o.cls=.type "module"/\o.dict=some builtinsNs/\o.data=.plain
def zae(Ts:List Tb)(H H':Hp)(fa:Addr)(clos:List (Str × Addr))(params:Arguments)(body:Expr)(scope:Scope)(qual:Str):Prop :=
 (∀b o,(∀ps,o≠.tbl ps)->H b=some o->H' b=some o)/\z2n Ts H'/\∃(pm:Value) (c':Addr) (ctv:Value) (oc:Obj) (vs:Array Value) (t:Tok),H' fa=some (frO (PySem.W.kla_obj "<lambda>" qual params body scope clos pm c' ctv))/\H' c'=some (frO oc)/\oc.data=.fields vs/\vs[1]?=some (.str qual t)
def zoi(Ts:List Tb)(clos:List (Str × Addr))(params:Arguments)(body:Expr)(scope:Scope)(qual:Str):TE:=fun _ H Q=>z2n Ts H/\∀(fa:Addr)(H':Hp),zae Ts H H' fa clos params body scope qual->Q (.ref fa) H'
section
variable{X:Cx}{N:List Str}{ix:List (Option Nat)}{params:Arguments}{body:Expr}{lsc:Scope}{lpos:Pos}{c:Addr}{T:Tb}{Ts:List Tb}
def zeN(S:z0X X.N X.env.scope N ix lsc)(hcode:X.env.code=.ref c)(hC:PySem.W.CodeHd X.base c T.at_)(hB:z4L X.base X.mg)(hT:T∈Ts)(hTn:∀T'∈Ts,T'.at_=T.at_->T'=T)(hTp:T.pos=lpos)(hTq:T.qual=X.env.qual++"<lambda>")(hdef:defaultsOf params X.env=([],[])):PE X (.Lambda params body lsc lpos) (zoi Ts (z0m X.env.cells lsc.names []) params body lsc T.qual):=by
 intro pins s σ H Q I h;obtain⟨ht,h⟩:=h;subst hTp;refine PySem.W.kla_eval hdef ?_;rw[<-hTq];have hcl:=z1f (scope:=lsc) (env:=X.env) (z0D I S);have hns:s.heap.Ns mainGlobals X.mg:=I.mod.glob.keeps I.bk;have C:PySem.W.CodeHd s.heap c T.at_:=hC.keeps I.bk;obtain⟨bm,ob,b1,b2,b3,b4,b5,b6,b7⟩:=hB;have tP:∀{ps:Array Value},H T.at_=some (.tbl ps)->s.heap.get? T.at_=some (PySem.W.tabObj ps):=fun e=>I.hok _ _ e;have neP:∀{ps:Array Value}{b:Addr},H T.at_=some (.tbl ps)->H b=none->b≠T.at_:=fun e n z=>by rw[z,e]at n;cases n
 rcases ht T hT with e|⟨c',oc,vs,t,e,ec,d1,d2⟩
 .have hbP:bm≠T.at_:=neP e (I.bs _ _ b4).2;have hgP:mainGlobals≠T.at_:=fun z=>by
   obtain⟨o,es,ep,q,qd,_⟩:=hns;rw[z,tP e]at q;cases q;cases qd
  refine PySem.W.kla_makeFunction (mg:=X.mg) hcl I.ok.glob hns hcode C (tP e) trivial rfl hgP ⟨bm,ob,b1,b2,b3,hbP,I.bk _ _ b4,b5,b6,b7⟩ fun c' ctv h' tk hx hge hlt hrec htb=>?_;obtain⟨c2,oc,vs,t,ee,hoc,d1,d2⟩:=hrec;cases ee;have hPlt:T.at_<s.heap.objs.size:=y0b (tP e);have nPc:T.at_≠c':=y0q (y0h hPlt hge);have nPf:T.at_≠h'.objs.size:=y0q (y2T (y0h hPlt hge) hlt);have ncf:c'≠h'.objs.size:=y0q hlt;have Hc:H c'=none:=I.hok.fresh hge;have Hf:H h'.objs.size=none:=I.hok.fresh (y0w hge (y1y hlt));generalize hfo:PySem.W.kla_obj "<lambda>" T.qual params body lsc (z0m X.env.cells lsc.names []) ((X.mg "__name__").getD .none) c' ctv=fo;have hfg:(h'.push fo).get? h'.objs.size=some fo:=y09 _ (by rw[<-hfo];rfl);let H':Hp:=upd (upd (upd H T.at_ (.tbl #[rawInt T.pos.line,rawInt T.pos.col,.ref c'])) c' (frO oc)) h'.objs.size (frO fo);have gP:H' T.at_=some (.tbl #[rawInt T.pos.line,rawInt T.pos.col,.ref c']):=by show upd _ _ _ _=_;rw[z04 nPf,z04 nPc,z01]
  have gc:H' c'=some (frO oc):=by show upd _ _ _ _=_;rw[z04 ncf,z01]
  have gf:H' h'.objs.size=some (frO fo):=z01;have go:∀{b:Addr},b≠T.at_->b≠c'->b≠h'.objs.size->H' b=H b:=fun{b} n1 n2 n3=>by show upd _ _ _ _=_;rw[z04 n3,z04 n2,z04 n1]
  have gt:∀{b:Addr}{o:HO},b≠T.at_->H b=some o->H' b=some o:=fun{b o} n1 q=>by rw[go n1 (z09 q Hc) (z09 q Hf)];exact q
  have hk:∀b o,b≠T.at_->s.heap.get? b=some o->(h'.push fo).get? b=some o:=fun b o n q=>y03 _ (hx b o n q);have I':Inv X pins σ H' { s with heap:=h'.push fo,toks:=tk }:=by
   refine I.un ⟨fun b o q n _ _=>hk b o (neP e n) q,fun b o q n _ _=>⟨o.slots,hk b o (neP e n) q⟩,fun b o q n _=>?_,fun b o q _=>?_,fun b xs q=>?_,fun b o u q=>?_,fun b ps q=>?_⟩ (fun b u q=>?_)
   .have hb:=y0b q;rw[go (neP e n) (y0q (y0h hb hge)) (y0q (y2T (y0h hb hge) hlt))];exact n
   .by_cases hb:b=T.at_
    .exact⟨_,by rw[hb];exact y03 _ htb⟩
    .exact⟨_,hk b o hb q⟩
   .exact gt (fun z=>by rw[z,e]at q;cases q) q
   .exact gt (fun z=>by rw[z,e]at q;cases q) q
   .by_cases hb:b=T.at_
    .subst hb;rw[e]at q;cases q;exact⟨#[rawInt T.pos.line,rawInt T.pos.col,.ref c'],by rw[gP];simp⟩
    .exact⟨#[],by rw[gt hb q];simp⟩
   .by_cases hf:b=h'.objs.size
    .subst hf;rw[gf]at q;cases q;exact z6m hfg
    .by_cases hc:b=c'
     .subst hc;rw[gc]at q;cases q;exact z6m (y03 _ hoc)
     .by_cases hb:b=T.at_
      .subst hb;rw[gP]at q;cases q;show(h'.push fo).get? T.at_=some (PySem.W.tabObj _);have:=y03 fo htb;simpa using this
      .rw[go hb hc hf]at q;refine(I.hok b u q).stay (fun d o hd q'=>hk d o ?_ q') (fun d q'=>gt (fun z=>by rw[z,e]at q';cases q') q') fun d xs q'=>gt (fun z=>by rw[z,e]at q';cases q') q';rcases hd with z|z
       .rw[z];exact hb
       .exact fun z'=>by rw[z',e]at z;cases z
  refine⟨.ref h'.objs.size,H',I',rfl,h _ _ ⟨fun b o no q=>gt (fun z=>by rw[z,e]at q;exact no _ (y0d q).symm) q,fun T' hT'=>?_,_,c',ctv,oc,vs,t,by rw[hfo];exact gf,gc,d1,d2⟩⟩;by_cases hb:T'.at_=T.at_
  .have:=hTn T' hT' hb;subst this;exact .inr ⟨c',oc,vs,t,gP,gc,d1,d2⟩
  .rcases ht T' hT' with q|⟨c3,oc3,vs3,t3,q1,q2,q3⟩
   .exact .inl (gt hb q)
   .exact .inr ⟨c3,oc3,vs3,t3,gt hb q1,gt (fun z=>by rw[z,e]at q2;cases q2) q2,q3⟩
 .have hbP:bm≠T.at_:=neP e (I.bs _ _ b4).2;refine PySem.W.kla_makeFunctionHit (mg:=X.mg) (cv:=.ref c') hcl I.ok.glob hns hcode C (tP e) (by simp[TriplesOk,rawInt]) (by simp[codeAmong,rawInt]) ⟨bm,ob,b1,b2,b3,hbP,I.bk _ _ b4,b5,b6,b7⟩ fun ctv h' tk hk hsz=>?_;have Hf:H h'.objs.size=none:=I.hok.fresh hsz;have gt:∀{b:Addr}{o:HO}{u:HO},H b=some o->upd H h'.objs.size u b=some o:=fun q=>by rw[z04 (z09 q Hf)];exact q
  refine⟨.ref h'.objs.size,_,I.laid (a:=h'.objs.size) (o:=frO (PySem.W.kla_obj "<lambda>" T.qual params body lsc (z0m X.env.cells lsc.names []) ((X.mg "__name__").getD .none) c' ctv)) (t':=tk) (fun b o q=>y03 _ (hk b o q)) hsz (z6m (y09 _ rfl)),rfl,h _ _ ⟨fun b o _ q=>gt q,fun T' hT'=>?_,_,c',ctv,oc,vs,t,z01,gt ec,d1,d2⟩⟩;rcases ht T' hT' with q|⟨c3,oc3,vs3,t3,q1,q2,q3⟩
  .exact .inl (gt q)
  .exact .inr ⟨c3,oc3,vs3,t3,gt q1,gt q2,q3⟩
def zg7(Ts:List Tb)(params:Arguments)(body:Expr)(lsc:Scope)(qual:Str)(N:List Str)(ix:List (Option Nat))(sp:Sp)(E:XK)(t0:TE):TE:=fun σ H Q=>t0 σ H fun v0 H1=>z2n Ts H1/\∀(fa:Addr)(H2:Hp)(cs:List Addr),(∀b o,(∀ps,o≠.tbl ps)->H1 b=some o->H2 b=some o) ->
 (∀H3,z08 H2 H3->z1I Ts H1 (utk H3 cs))->(∀c∈cs,∃ob,H2 c=some (frO ob))->z7r H2 fa params body lsc qual N (z0L ix σ)->sp [v0,.ref fa] H2 (fun v H3=>Q v (utk H3 cs)) (fun e C H3=>E e C (utk H3 cs))
variable{k:Nat}{g:Addr}{gd:FuncData}{ps:List Str}{sp:Sp}{E:XK}{x:Str}{p pos:Pos}{e0:Expr}{t0:TE}
def z81(G:z0u X.prog X.w X.K X.mg X.base (CXx X.prog X.w) k g gd ps sp)(hr:z2F k X.A)(hg:Gl X x)(hm:X.mg x=some (.ref g))(hk:PySem.W.keepIn X.K (.ref g)=true)(hb:z0i X.K gd ps [])(hx:z2t (CXx X.prog X.w) X E)(h0:PE X e0 t0)(m0:∀σ H (Q Q':VK),(∀v H1,Q v H1->Q' v H1)->t0 σ H Q->t0 σ H Q')(S:z0X X.N X.env.scope N ix lsc)(hcode:X.env.code=.ref c)(hC:PySem.W.CodeHd X.base c T.at_)(hB:z4L X.base X.mg)(hfn:∀y,X.fn y=true)(hT:T∈Ts)(hTn:∀T'∈Ts,T'.at_=T.at_->T'=T)(hTp:T.pos=lpos)(hTq:T.qual=X.env.qual++"<lambda>")(hdef:defaultsOf params X.env=([],[]):=by rfl)(hdb:(x==("__debug__":Str))=false:=by decide)(he:starEach [e0,.Lambda params body lsc lpos] X.env=(false,eval e0 X.env)::starEach [.Lambda params body lsc lpos] X.env:=by rfl)(he2:starEach [.Lambda params body lsc lpos] X.env=(false,eval (.Lambda params body lsc lpos) X.env)::starEach [] X.env:=by rfl)(hpl:(backTo pos (starEach [.Lambda params body lsc lpos] X.env)).any (·.1)=false:=by rfl) : PE X (.Call (.Name x p) [e0,.Lambda params body lsc lpos] [] pos) (zg7 Ts params body lsc T.qual N ix sp E t0):=by
 intro pins s σ H Q I h;refine y1s (z2x I hg hm ?_ hdb);have hPA:PA X [e0,.Lambda params body lsc lpos] (z9q t0 (z9q (zoi Ts (z0m X.env.cells lsc.names []) params body lsc T.qual) zit)):=z00 h0 (z00 (zeN S hcode hC hB hT hTn hTp hTq hdef) z03 he2) he;refine y1X (h₀:=X.base) I.ok.mod.kin hk (thn (hPA pos pins s σ H (fun us H2=>∃(v0:V)(fa:Addr)(H1:Hp),us=[v0,.ref fa]/\(z2n Ts H1/\∀(fa:Addr)(H2:Hp)(cs:List Addr),(∀b o,(∀ps,o≠.tbl ps)->H1 b=some o->H2 b=some o) ->
 (∀H3,z08 H2 H3->z1I Ts H1 (utk H3 cs))->(∀c∈cs,∃ob,H2 c=some (frO ob))->z7r H2 fa params body lsc T.qual N (z0L ix σ)->sp [v0,.ref fa] H2 (fun v H3=>Q v (utk H3 cs)) (fun e C H3=>E e C (utk H3 cs)))/\zae Ts H1 H2 fa (z0m X.env.cells lsc.names []) params body lsc T.qual) I ?_) fun us s2 ⟨vs,H2,I2,r,q⟩=>⟨I2.kIn,?_⟩) he hpl
 .exact m0 σ H _ _ (fun v0 H1 ⟨ht,hq⟩=>⟨ht,fun fa H' made=>⟨v0,fa,H1,rfl,⟨ht,hq⟩,made⟩⟩) h
 .obtain⟨v0,fa,H1,rfl,⟨ht,hq⟩,mfr,mtb,pm,c',ctv,oc,vsc,t,m1,m2,m3,m4⟩:=q;let clos:=z0m X.env.cells lsc.names [];let cs:List Addr:=(lsc.names.map (·.1)).filterMap (fun y=>List.lookup y clos);let ob:Addr->Obj:=fun c=>(s2.heap.get? c).getD { cls:=.none,data:=.plain };have lk:∀{y:Str}{c:Addr},clos.lookup y=some c->X.env.cells.lookup y=some c:=fun e=>z1r I2 S e;have mem:∀{c:Addr},c∈cs->∃y,clos.lookup y=some c:=fun{c} hc=>by
   obtain⟨y,_,e⟩:=y2k.mp hc;exact⟨y,e⟩
  have inn:∀y c,clos.lookup y=some c->c∈cs:=fun y c e=>by
   refine y2k.mpr ⟨y,?_,e⟩;by_cases hm':(y,NameKind.free)∈lsc.names
   .exact y0e.mpr ⟨_,hm',rfl⟩
   .have:=z3r (cells:=X.env.cells) lsc.names [] y hm';rw[show(z0m X.env.cells lsc.names []).lookup y=some c from e]at this;cases this
  have h1:∀c∈cs,s2.heap.get? c=some (ob c):=fun c hc=>by obtain⟨y,e⟩:=mem hc;obtain⟨v,o,ho,_⟩:=I2.cell y c (lk e);show _=some ((s2.heap.get? c).getD _);rw[ho];rfl
  have h2:∀c∈cs,H2 c=none:=fun c hc=>by obtain⟨y,e⟩:=mem hc;exact I2.freeC y c (lk e)
  have h3:∀c∈cs,c∉frs X.stack/\X.base.get? c=none:=fun c hc=>by obtain⟨y,e⟩:=mem hc;exact I2.cellFree (lk e) (I2.ok.cab y c (hfn y) (lk e))
  have out:∀{b:Addr}{o:HO},H2 b=some o->b∉cs:=fun{b o} e z=>by rw[h2 b z]at e;cases e
  have tr:∀{b:Addr}{o:HO},H2 b=some o->zbz H2 cs ob b=some o:=fun e=>by rw[z1i (out e)];exact e
  have spq:=hq fa (zbz H2 cs ob) cs (fun b o no e=>tr (mfr b o no e)) (fun H3 s3=>?_) (fun c hc=>⟨ob c,z4z hc⟩) ?_
  .refine wpAny_call (y2f (G.run X.A X.stack s2 (zbz H2 cs ob) ⟨us,[]⟩ us [v0,.ref fa] _ _ hr (I2.env0T h1 h2 h3) (by have:=hb s2 us I2.kIn (by rw[y1A,<-r.length];exact G.len _ _ _ _ spq);rw[y1A]at this;exact this) r spq) fun r s' hq=>?_);cases r with
   |error e=>exact hx pins σ H2 s2 e s' I2 (zpk h1 h2 (fun c hc=>(h3 c hc).1) hq)
   |ok fl =>
    cases fl with
    |ret u=>exact I2.afterT h1 h2 h3 hq
    |next=>exact False.elim hq
    |brk=>exact False.elim hq
    |cont=>exact False.elim hq
  .have out3:∀{b:Addr}{o:HO},H2 b=some o->utk H3 cs b=some o:=fun e=>by rw[z19 (out e)];exact s3 _ _ (tr e)
   refine⟨fun b o no e=>out3 (mfr b o no e),fun _ T' hT'=>?_⟩;rcases mtb T' hT' with q|⟨c3,oc3,vs3,t3,q1,q2,q3⟩
   .exact .inl (out3 q)
   .exact .inr ⟨c3,oc3,vs3,t3,out3 q1,out3 q2,q3⟩
  .refine⟨clos,cs,pm,c',ctv,oc,vsc,t,tr m1,tr m2,m3,m4,fun y z c e1 e2=>I2.ok.inj y z c (lk e1) (lk e2),inn,fun c hc=>⟨mem hc,?_⟩,fun y hy=>?_,fun i y v e1 e2=>?_⟩
   .obtain⟨y,e⟩:=mem hc;obtain⟨v,o,ho,hd⟩:=I2.cell y c (lk e);refine⟨ob c,v,z4z hc,?_⟩;have:=h1 c hc;rw[ho]at this;rw[<-y0d this];exact hd
   .have hm':(y,NameKind.free)∈lsc.names:=y0T hy;obtain⟨c,e⟩:=z0D I2 S y hm';exact⟨c,(z1N lsc.names [] y (z0D I2 S) (.inl hm')).trans e⟩
   .obtain⟨j,f1,f2,f3⟩:=S.at_ e1 e2;have hm':(y,NameKind.free)∈lsc.names:=y0T f2;obtain⟨m,hn,hl⟩:=I2.loc;have hvis:=S.frees _ hm' rfl;obtain⟨u,ru,look⟩:=hl j y v f1 f3 (.inr hvis);rcases look with⟨hk',_⟩|⟨_,c,ec,cell⟩
    .have hk'':X.env.scope.names.lookup y=some .local:=hk';rcases hvis with z|z
     .rw[z]at hk'';cases hk''
     .rw[z]at hk'';cases hk''
    .have hcl:clos.lookup y=some c:=(z1N lsc.names [] y (z0D I2 S) (.inl hm')).trans ec;have hc:=inn y c hcl;obtain⟨o,ho,hd⟩:=cell;refine⟨c,ob c,u,hcl,z4z hc,?_,ru⟩;have:=h1 c hc;rw[ho]at this;rw[<-y0d this];exact hd
end
def NFr(H H':Hp):Prop:=∀b o,(∀ob,o≠frO ob)->H b=some o->H' b=some o
def NFr.seq{K:yyF}{H H':Hp}{a:Addr}{xs:List V}(s:NFr H H')(h:SqL K H a xs):SqL K H' a xs:=by
 rcases h with(h|⟨o,h⟩)|h
 .exact .inl (.inl (s _ _ (fun _ z=>by cases z) h))
 .exact .inl (.inr ⟨o,s _ _ (fun _ z=>by cases z) h⟩)
 .exact .inr h
mutual
theorem Dr.nfr{K:yyF}{H H':Hp}(s:NFr H H'):∀{d:D}{v:V},Dr K H d v->Dr K H' d v
 |.non,_,h=>by simp only[Dr]at h⊢;exact h
 |.bl _,_,h=>by simp only[Dr]at h⊢;exact h
 |.int _,_,h=>by simp only[Dr]at h⊢;exact h
 |.str _,_,h=>by simp only[Dr]at h⊢;exact h
 |.tup ds,_,h=>by
  simp only[Dr]at h⊢;obtain⟨a,vs,e,q,r⟩:=h;exact⟨a,vs,e,s _ _ (fun _ z=>by cases z) q,DrL.nfr s r⟩
 |.lst ds,_,h=>by simp only[Dr]at h⊢;obtain⟨a,vs,e,q,r⟩:=h;exact⟨a,vs,e,s.seq q,DrL.nfr s r⟩
theorem DrL.nfr{K:yyF}{H H':Hp}(s:NFr H H'):∀{ds:List D}{vs:List V},DrL K H ds vs->DrL K H' ds vs
 |[],_,h=>by simp only[DrL]at h⊢;exact h
 |d::ds,_,h=>by simp only[DrL]at h⊢;obtain⟨v,r,e,q,q'⟩:=h;exact⟨v,r,e,Dr.nfr s q,DrL.nfr s q'⟩
end
theorem NFr.utk{H H3:Hp}{cs:List Addr}(hc:∀c∈cs,∃ob,H c=some (frO ob))(s:z08 H H3):NFr H3 (L2.utk H3 cs):=fun b o n e=>z70 (fun c h=>let⟨ob,q⟩:=hc c h;⟨ob,s _ _ q⟩) e n
def Fun.okL{CX:CXT}{P:Program}{w:World}{K:yyF}{mg:yyS}{base:Heap}{x qual:Str}{st:Stmt}{f c:Addr}{fd:FuncData}{N ps:List Str}{k:Nat}{sp:Sp}(F:Fun K x qual st f fd)(hc:fd.code=.ref c)(S:z0j N ps (z05 st))(len:∀vs H Q E,sp vs H Q E->vs.length=ps.length)(hbody:∀(A:Around)(outer:List Env)(s:Shared)(H:Hp)(vs:List V)(Q:VK)(E:XK),z2F k (A.deeper (envOfC qual (z05 st) s.heap.objs.size f (.ref c)))->sp vs H Q E -> ∃t,PSs (z60 CX P w K mg base N qual (z05 st) f (.ref c) A outer s H E) (z0E st) t/\t { nx:=fun _ H'=>Q .non H',rt:=Q } (start N vs) H):z0u P w K mg base CX (k+1) f fd ps sp:=by obtain⟨oc,od,kV,doc,pm,an,cdv,ct,osl,rfl,lk,hcd⟩:=F.ex;have:cdv=.ref c:=hc;subst this;exact zdD lk hcd S len fun A outer s H vs Q E hr hsp=>hbody A outer s H vs Q E hr hsp
def z9x{P:Program}{w:World}{K:yyF}{mg mb:yyS}{CX:CXT}{k:Nat}{fa a:Addr}{fd:FuncData}{x:Str}{sp:Sp}{s₁:Shared}{vs:List Value}{ns:List Int}{Ts:List Tb}(KX:K.In s₁.heap)(hns:s₁.heap.Ns mainGlobals mg)(hb:s₁.heap.Ns builtinsNs mb)(hbb:∀x:Str,x≠"__name__"->mb x=bootBuiltins x)(hlim:s₁.heap.NoLimit)(hg:s₁.gens=#[])(ha:s₁.heap.get? a=some { cls:=.type "list",data:=.seq vs.toArray })(hi:IntsAre vs ns)(hl:ns.length<=sizeLine)(hr:z2F k callerA)(hT:∀T∈Ts,s₁.heap.get? T.at_=some (PySem.W.tabObj #[])/\K.lookup T.at_=none/\∃c,PySem.W.CodeHd s₁.heap c T.at_)(hbm:z4L s₁.heap mg)(F:∀base:Heap,K.In base->base.Ns mainGlobals mg->z4L base mg->z0u P w K mg base CX k fa fd [x] sp)(hbind:∀(s:Shared) (u:Value),BindsTo s fd ⟨[u],[]⟩ [(x,u)])(hsp:∀H:Hp,z2n Ts H->SqL K H a (ns.map V.int)->sp [.ref a] H (fun v _=>v=.bl true) fun _ _ _=>False)(hCX:∀H e s',CX [] H s₁ (fun _ _ _=>False) e s'->False) : codeAny (model P w) callerA (.call (.ref fa) ⟨[.ref a],[]⟩) (fun r s'=>r=.ok (.ret (.bool true))/\OldK s₁.heap s'.heap/\s'.os=s₁.os/\AllBare s'.gens) s₁:=by
 have rv:=z6R hi;have lenV:=hi.length;have isT:∀b,(∃T∈Ts,T.at_=b)->s₁.heap.get? b=some (PySem.W.tabObj #[])/\K.lookup b=none/\∃c,PySem.W.CodeHd s₁.heap c b:=fun b ⟨T,hT1,e⟩=>e▸hT T hT1;have core:∀H:Hp,z2n Ts H->SqL K H a (ns.map V.int)->HOk P w H s₁.heap->(∀b,H b≠none->(b=a/\K.lookup a=none/\∃o xs,H b=some (.frz o (.lst xs)))\/((∃T∈Ts,T.at_=b)/\H b=some (.tbl #[]))) ->
   codeAny (model P w) callerA (.call (.ref fa) ⟨[.ref a],[]⟩) (fun r s'=>r=.ok (.ret (.bool true))/\OldK s₁.heap s'.heap/\s'.os=s₁.os/\AllBare s'.gens) s₁:=by
  intro H hO hS hok hA;have base_of:∀{b:Addr}{o:Obj},s₁.heap.get? b=some o->H b=none->(zbt s₁.heap H).get? b=some o:=fun e n=>zbN e n;have noA:∀{b:Addr}{o:Obj},s₁.heap.get? b=some o->(∀xs,o.data≠.seq xs)->(∀xs,o.data≠.fields xs)->H b=none:=fun{b o} e d1 d2=>by
   cases q:H b with
   |none=>rfl
   |some u =>
    rcases hA b (by rw[q];simp)with⟨e',_⟩|⟨e',_⟩
    .subst e';rw[ha]at e;cases e;exact absurd rfl (d1 _)
    .rw[(isT b e').1]at e;cases e;exact absurd rfl (d2 _)
  have nsK:∀{b:Addr}{m:yyS},s₁.heap.Ns b m->(zbt s₁.heap H).Ns b m:=fun{b m} ⟨o,es,ep,e,d,r⟩=>⟨o,es,ep,base_of e (noA e (fun xs z=>by rw[z]at d;cases d) (fun xs z=>by rw[z]at d;cases d)),d,r⟩;have hKb:K.In (zbt s₁.heap H):=fun b o e=>base_of (KX b o e) (by
   cases q:H b with
   |none=>rfl
   |some u =>
    rcases hA b (by rw[q];simp)with⟨e',hk,_⟩|⟨e',_⟩
    .subst e';rw[hk]at e;cases e
    .rw[(isT b e').2.1]at e;cases e)
  have hM:Mod K mg (zbt s₁.heap H):=⟨hKb,nsK hns,⟨mb,nsK hb,hbb⟩,let⟨mc,h1,h2⟩:=hlim;⟨mc,nsK h1,h2⟩⟩;have hBM:z4L (zbt s₁.heap H) mg:=by obtain⟨bm,o,b1,b2,b3,b4,b5,b6,b7⟩:=hbm;exact⟨bm,o,b1,b2,b3,base_of b4 (noA b4 (fun xs z=>by rw[z]at b7;cases b7) (fun xs z=>by rw[z]at b7;cases b7)),b5,b6,b7⟩
  have e0:zbw P w K mg (zbt s₁.heap H) callerA [] s₁ H:=⟨rfl,hM,fun b o e=>zdO e,Nat.le_of_eq (z9r _ _),trivial,fun b hb=>absurd (show b∈([]:List Addr)from hb) (by simp),hok,.of_eq hg⟩;refine y2f ((F _ hKb (nsK hns) hBM).run callerA [] s₁ H ⟨[.ref a],[]⟩ [.ref a] [.ref a] _ _ hr e0 (hbind s₁ (.ref a)) (.cons rfl .nil) (hsp H hO hS)) fun r s' h=>?_;cases r with
  |error e=>exact(hCX H e s' h).elim
  |ok fl =>
   cases fl with
   |next=>exact False.elim h
   |brk=>exact False.elim h
   |cont=>exact False.elim h
   |ret u =>
    obtain⟨v,H',os,bare,un,hok',r',q⟩:=h;have q':v=.bl true:=q;subst q';obtain rfl:u=Value.bool true:=r';have key:∀b o,s₁.heap.get? b=some o->s'.heap.get? b=some o\/((∃T∈Ts,T.at_=b)/\∃more,s'.heap.get? b=some (PySem.W.tabObj (#[]++more))):=fun b o e=>by
     cases q:H b with
     |none=>exact .inl (un.keep b o e q (by intro z;exact absurd (show b∈([]:List Addr)from z) (by simp)) (by simp))
     |some u =>
      rcases hA b (by rw[q];simp)with⟨_,_,ob,xs,z⟩|⟨e',z⟩
      .have z2:=un.frzs b ob _ z;obtain⟨e1,_⟩:=hok b _ z;obtain⟨e2,_⟩:=hok' b _ z2;rw[e]at e1;cases e1;exact .inl e2
      .obtain⟨more,z2⟩:=un.tbls b #[] z;exact .inr ⟨e',more,hok' b _ z2⟩
    refine⟨rfl,⟨fun b o e=>?_,fun b o e=>?_⟩,os,bare⟩
    .rcases key b o e with z|⟨e',more,z⟩
     .exact .inl z
     .obtain⟨h1,_,c,hc⟩:=isT b e';rw[e]at h1;cases h1;refine .inr (.inl ⟨?_,rfl,#[],more,rfl,z⟩);obtain⟨o,vs,_,_,_,_,_,_,_,g1,g2,g3,g4,_⟩:=hc;exact⟨c,o,vs,g1,g2,g3,g4⟩
    .rcases key b o e with z|⟨e',more,z⟩
     .exact⟨_,z⟩
     .exact⟨_,z⟩
 have naT:∀T∈Ts,T.at_≠a:=fun T h z=>by have:=(hT T h).1;rw[z,ha]at this;cases this
 open Classical in
 cases hk:K.lookup a with
 |some o =>
  have e:=KX a o hk;rw[ha]at e;cases e;refine core (fun b=>if(∃T∈Ts,T.at_=b)then some (.tbl #[])else none) (fun T h=>.inl (if_pos ⟨T,h,rfl⟩)) (.inr ⟨_,vs.toArray,_,hk,rfl,rfl,rfl,by rw[y0g,lenV];exact hl,by simpa using rv⟩) (fun b u z=>?_) fun b z=>?_
  .by_cases hb:∃T∈Ts,T.at_=b
   .have z':=(if_pos hb).symm.trans z;cases z';exact(isT b hb).1
   .have z':=(if_neg hb).symm.trans z;cases z'
  .by_cases hb:∃T∈Ts,T.at_=b
   .exact .inr ⟨hb,if_pos hb⟩
   .exact absurd (if_neg hb) z
 |none =>
  have cA:∀b,b=a->(if b=a then some (HO.frz { cls:=.type "list",data:=.seq vs.toArray } (.lst (ns.map V.int)))else if(∃T∈Ts,T.at_=b)then some (.tbl #[])else none)=some (HO.frz { cls:=.type "list",data:=.seq vs.toArray } (.lst (ns.map V.int))):=fun b e=>if_pos e;have cT:∀b,b≠a->(∃T∈Ts,T.at_=b)->(if b=a then some (HO.frz { cls:=.type "list",data:=.seq vs.toArray } (.lst (ns.map V.int)))else if(∃T∈Ts,T.at_=b)then some (.tbl #[])else none)=some (.tbl #[]):=fun b e h=>by rw[if_neg e,if_pos h]
  have cN:∀b,b≠a->¬(∃T∈Ts,T.at_=b)->(if b=a then some (HO.frz { cls:=.type "list",data:=.seq vs.toArray } (.lst (ns.map V.int)))else if(∃T∈Ts,T.at_=b)then some (.tbl #[])else none)=none:=fun b e h=>by rw[if_neg e,if_neg h]
  refine core (fun b=>if b=a then some (.frz { cls:=.type "list",data:=.seq vs.toArray } (.lst (ns.map V.int)))else if(∃T∈Ts,T.at_=b)then some (.tbl #[])else none) (fun T h=>.inl (cT _ (naT T h) ⟨T,h,rfl⟩)) (.inl (.inr ⟨{ cls:=.type "list",data:=.seq vs.toArray },if_pos rfl⟩)) (fun b u z=>?_) (fun b z=>?_)
  .by_cases hb:b=a
   .have z':=(cA b hb).symm.trans z;cases z';subst hb;exact⟨ha,by rw[y00];exact hl,vs,_,rv,ha⟩
   .by_cases hb2:∃T∈Ts,T.at_=b
    .have z':=(cT b hb hb2).symm.trans z;cases z';exact(isT b hb2).1
    .have z':=(cN b hb hb2).symm.trans z;cases z'
  .by_cases hb:b=a
   .exact .inl ⟨hb,hk,_,_,cA b hb⟩
   .by_cases hb2:∃T∈Ts,T.at_=b
    .exact .inr ⟨hb2,cT b hb hb2⟩
    .exact absurd (cN b hb hb2) z
def walk_of2{l:PySem.W.OpenLaw}{n k:Nat}{q:Program}{loose:List Str}{XP:(yyS)->Heap->Prop}{YP:World->Heap->Prop}{d:DefRec}{K:Params->yyF}{CX:World->CXT}{sp:World->Sp}{x:Str}{Ts:List Tb}(hn:l.most=some n)(hn2:n<=sizeLine)(hdf:d.params.defaults=[])(hr:z2F k callerA)(hY:∀(w:World)(h:Heap),YP w h->(K w.params).In h/\∀P∈Ts.map (·.at_),h.get? P=some (PySem.W.tabObj #[]))(F:∀(w:World)(mg:yyS)(fa:Addr)(h:Heap),(K w.params).In h->h.Ns mainGlobals mg->mg d.name=some (.ref fa) -> ∃fd:FuncData,(∀(s:Shared)(u:Value),BindsTo s fd ⟨[u],[]⟩ [(x,u)])/\(∀T∈Ts,(K w.params).lookup T.at_=none/\∃c,PySem.W.codeHdIn (K w.params) c T.at_=true) /\ ∀base:Heap,(K w.params).In base->base.Ns mainGlobals mg->z4L base mg->z0u l.prog w (K w.params) mg base (CX w) k fa fd [x] (sp w))(hsp:∀(w:World)(H:Hp)(a:Addr)(ns:List Int),ns.length<=n->z2n Ts H->SqL (K w.params) H a (ns.map V.int)->sp w [.ref a] H (fun v _=>v=.bl true) fun _ _ _=>False)(hCX:∀(w:World)(H:Hp)(s:Shared)(e:Value)(s':Shared),CX w [] H s (fun _ _ _=>False) e s'->False) : PySem.W.WalkO q loose XP YP l.row.toRowW d [] (fun f vs=>PySem.call f vs):=by
 refine Att.attach_call hn hdf fun w s₀ s₁ mg mb fa o pm cd doc a vs ns G Y ho hd hcd hmg hobj hints hlen hg=>?_;obtain⟨KX,hTb⟩:=hY w _ Y;obtain⟨fd,hb,hT,hF⟩:=F w mg fa _ KX G.T.g hmg;refine z9x (Ts:=Ts) KX G.T.g G.T.b G.T.builtins G.T.nolimit hg hobj hints (y0w hlen hn2) hr (fun T h=>⟨hTb _ (y0e.mpr ⟨T,h,rfl⟩),(hT T h).1,?_⟩) ?_ hF hb (fun H hO hS=>hsp w H a ns hlen hO hS) fun H e s'=>hCX w H s₁ e s'
 .obtain⟨c,e⟩:=(hT T h).2;exact⟨c,PySem.W.codeHd_of_K KX e⟩
 .obtain⟨bm,ob,b1,b2,b3,b4,b5,b6⟩:=G.T.bmain;refine⟨bm,ob,b1,b2,fun z=>?_,b3,b4,b5,b6⟩;obtain⟨o,es,ep,e,d,_⟩:=G.T.g;rw[z]at b3;rw[b3]at e;cases e;rw[b6]at d;cases d
def z9i{Ts:List Tb}{T:Tb}(h:(Ts.map (·.at_)).Nodup)(hT:T∈Ts):∀T'∈Ts,T'.at_=T.at_->T'=T:=by
 induction Ts with
 |nil=>cases hT
 |cons a r ih =>
  rw[y0i,y1N]at h;intro T' hT' e;rcases y0o.mp hT with z|z
  .rcases y0o.mp hT' with y|y
   .rw[y,z]
   .exact absurd (y0e.mpr ⟨T',y,by rw[e,z]⟩) h.1
  .rcases y0o.mp hT' with y|y
   .exact absurd (y0e.mpr ⟨T,z,by rw[<-e,y]⟩) h.1
   .exact ih h.2 z T' y e
end L2
namespace Gu
open PySem L2
abbrev nV(nm:Int->Int)(i:Int):V:=.int (nm i)
abbrev kN(nm:Int->Int)(i:Int):Key:=Sum.inl (nm i)
def zba{nm:Int->Int}(h:∀x y,nm x=nm y->x=y)(x y:Int)(e:kN nm x=kN nm y):x=y:=h x y (Sum.inl.inj e)
def zez(nm:Int->Int)(r:Row):Row:=(r.1,r.2.map nm)
def zdU(r:Row):zez (fun i=>i) r=r:=by unfold zez;rw[List.map_id']
def zcj(K:yyF)(rows:List Row)(nm:Int->Int):List V->Hp->VK->Prop:=fun vs H Q=>∃i:Int,vs=[.int (nm i)]/\0<=i/\i<(rows.length:Int)/\z5L K H Q (z97 (zez nm (row rows i)))
section
variable(P:Program)(w:World)(K:yyF)(mg:yyS)(base:Heap)(CX:CXT)(k:Nat)
def z7o:Sp:=fun vs H Q _=>∃(f:Addr)(n:Nat)(rows:List Row)(nm:Int->Int),vs=[.int (nm 0),.ref f]/\(∀x y,nm x=nm y->x=y)/\z3b P w K mg base CX k H f (zcj K rows nm)/\z1b n rows/\n<=60/\∀(r:Addr)(H':Hp),z08 H H'->z1D K H' r (z0z rows)->Q (.ref r) H'
def z5q(Ct:Addr):Sp:=fun vs H Q E=>∃(f:Addr)(n:Nat)(rows:List Row)(nm:Int->Int),vs=[.int (nm 0),.ref f]/\(∀x y,nm x=nm y->x=y)/\z3b P w K mg base CX k H f (zcj K rows nm)/\z1b n rows/\n<=60 /\
 ((shr rows).length<=60->z5L K H Q (D.tup (z0x (shr rows))))/\(60<(shr rows).length->TMx Ct E H)
end
def zcT(Ts:List Tb)(K:yyF)(H:Hp)(Q:VK)(d:D):Prop:=∀v H',z1I Ts H H'->Dr K H' d v->Q v H'
def zmk(Ts:List Tb)(Ct:Addr)(E:XK)(H:Hp):Prop:=∀(ea:Addr)(H':Hp),z1I Ts H H'->E (.ref ea) (some Ct) H'
def z87(Ts:List Tb)(K:yyF):Sp:=fun vs H Q _=>∃(a:Addr)(ns:List Int),vs=[.ref a]/\SqL K H a (ns.map V.int)/\ns.length<=63/\z2n Ts H/\∀H',Q (.bl true) H'
def z2n.mono{Ts:List Tb}{H H':Hp}(h:z2n Ts H)(s:z08 H H'):z2n Ts H':=(z08.l s).tabs h
def z6Q:List Stmt->Pos
 |[.Return (some (.Call _ [_,.Lambda _ _ _ p] _ _)) _]=>p
 |_::r=>z6Q r
 |[]=>⟨0,0,0,0⟩
end Gu
namespace L2
open PySem PySem.Spec PyProof.Rows
def z3b.lam{CX:CXT}{P:Program}{w:World}{K:yyF}{mg:yyS}{base:Heap}{k:Nat}{H:Hp}{f:Addr}{params:Arguments}{body:Expr}{scope:Scope}{qual:Str}{N ps:List Str}{fv:St}{sp:List V->Hp->VK->Prop}(C:z7r H f params body scope qual N fv)(S:zgk N ps scope)(hbind:∀(cl:List (Str × Addr)) (pm cdv ct:Value) (us:List Value),us.length=ps.length->bindArgs (PySem.W.kla_fn "<lambda>" qual params body scope cl pm cdv ct) ⟨us,[]⟩=pure (ps.zip us))(hfv:fv.length=N.length)(len:∀vs H Q,sp vs H Q->vs.length=ps.length)(hbody:∀(H':Hp),z08 H H'->∀(A:Around) (outer:List Env) (s:Shared) (cd:Value) (clos:List (Str × Addr)) (cs:List Addr) (vs:List V) (Q:VK),z2F k (A.deeper (PySem.W.envX qual scope s.heap.objs.size f cd clos))->NFr H' (utk H' cs)->sp vs H' Q -> ∃t,PE (zbD P w K mg base N qual scope f cd clos A outer s (utk H' cs)) body t/\t (z7c vs fv) (utk H' cs) fun v H1=>(∀c∈cs,H1 c=none)->Q v (rtk H' H1 cs)):z3b P w K mg base CX (k+1) H f sp:=by obtain⟨clos,cs,pm,c',ctv,oc,vs',t,e1,_⟩:=id C;refine⟨⟨_,_,e1,rfl⟩,fun H' s' A outer s us vs Q hr e0 r hsp=>?_⟩;exact zeu (C.mono s') S hbind hfv hr e0 r (len _ _ _ hsp) fun cd clos cs hr' hcs=>hbody H' s' A outer s cd clos cs vs Q hr' (NFr.utk hcs (z08.refl _)) hsp
end L2
namespace Gu
open PySem L2
section
variable{K:yyF}{H H':Hp}{f:Int->D}{r:Int}{nm:Int->Int}
end
def sw(s i:Int):Int:=if i=0 then s else if i=s then 0 else i
def swM(rows:List Row)(s:Int):List Row:=(z0s rows.length).map fun i=>zez (sw s) (row rows (sw s i))
def goW(M:List Row):Int->List Int->Int
 |x,[]=>x
 |x,l::w=>goW M ((row M x).2.getD l.toNat 0) w
def LW(n:Nat)(w:List Int):Prop:=∀l∈w,0<=l/\l<(n:Int)
end Gu
namespace L2
open PySem PySem.Spec PyProof.Rows
def z0u.sub{P:Program}{w:World}{K:yyF}{mg:yyS}{base:Heap}{CX:CXT}{k:Nat}{f:Addr}{fd:FuncData}{ps:List Str}{sp sp':Sp}(h:z0u P w K mg base CX k f fd ps sp)(i:∀vs H Q E,sp' vs H Q E->sp vs H Q E):z0u P w K mg base CX k f fd ps sp' :=
 { h with len:=fun vs H Q E q=>h.len vs H Q E (i vs H Q E q),run:=fun A outer s H args us vs Q E hr e0 b r q=>h.run A outer s H args us vs Q E hr e0 b r (i vs H Q E q) }
end L2
namespace Gu
open PySem L2
instance LW.dec(n:Nat)(w:List Int):Decidable (LW n w):=by unfold LW;infer_instance
def mvR(o:Nat)(g:List Row):List Row:=g.map (zez fun x=>x+(o:Int))
def blk:Nat->List (List Row)->List Row
 |_,[]=>[]
 |o,g::gs=>mvR o g++blk (o+g.length) gs
def hds:Nat->List (List Row)->List Int
 |_,[]=>[]
 |o,g::gs=>(o:Int)::hds (o+g.length) gs
end Gu
namespace L2
open PySem PySem.Spec PyProof.Rows
section
variable{X:Cx}{K:yyF}{k v:Expr}{tk tv:TE}{pos:Pos}
end
structure ZA(z TI TO i1 i2:Addr)(fp1 fp2:List Addr):Prop where
 TIz:TI≠z
 TOz:TO≠z
 i1z:i1≠z
 i2z:i2≠z
 TITO:TI≠TO
 TIi1:TI≠i1
 TIi2:TI≠i2
 TOi1:TO≠i1
 TOi2:TO≠i2
 i12:i1≠i2
 f1z:z∉fp1
 f1T:TO∉fp1
 f1i:i2∉fp1
 f2z:z∉fp2
 f2T:TO∉fp2
 f2i:i1∉fp2
section
variable{prog:Program}{w:World}{A:Around}{E:yyE}{s:Shared}{z TI TO i1 i2:Addr}{fp1 fp2:List Addr}{n1 n2:Nat}{P1 P2:Nat->Value->Prop}{S1 S2:Nat->Heap->Prop}
def ndr{it:Addr}{fp:List Addr}{n:Nat}{P:Nat->Value->Prop}{St:Nat->Heap->Prop}(D:Draws prog w A it fp n P St){i:Nat}{h h':Heap}{a:Addr}(st:St i h)(hs:Heap.SameBut a h h')(ha:a∉fp):St i h' :=
 D.frame i h h' st fun b hb o e=>hs.extBut b o (fun q=>ha (q▸hb)) e
def zah{k1 k2:Nat}{a b:Value}{Q:yyE}(D1:Draws prog w A i1 fp1 n1 P1 S1)(D2:Draws prog w A i2 fp2 n2 P2 S2)(Z:ZA z TI TO i1 i2 fp1 fp2)(hz:IsZip s.heap z TI TO .none)(hTI:IsPair s.heap TI (.ref i1) (.ref i2))(hTO:IsPair s.heap TO a b)(t1:S1 k1 s.heap)(t2:S2 k2 s.heap)(l1:k1<n1)(l2:k2<n2)(hQ:∀x y h' tk,P1 k1 x->P2 k2 y->IsZip h' z TI TO (rawInt s.heap.objs.size)->IsPair h' TO x y->S1 (k1+1) h'->S2 (k2+1) h'->IsPair h' s.heap.objs.size x y -> (∀c o,c≠z->c≠TO->c≠i1->c≠i2->s.heap.get? c=some o->h'.get? c=some o)->Q (.ref s.heap.objs.size) { s with heap:=h',toks:=tk }) : wpAny (model prog w) A (Builtin.«zip.__next__» ⟨[.ref z],[]⟩) (fun fin s'=>∃v,fin=.done (.ret v)/\Q v s') E s:=by
 show wpAny _ _ (field (.ref z) 2>>=_) _ _ _;refine y02 (y1j hz rfl (x:=.bool false) rfl ?_);show wpAny _ _ (field (.ref z) 3>>=_) _ _ _;refine y02 (y1j hz rfl (x:=.ref TI) rfl (y02 (y1J hTI rfl ?_)));show wpAny _ _ (Builtin.SmallTypes.ownedTupleIsFree (.ref z)>>=_) _ _ _;refine y02 ?_;unfold Builtin.SmallTypes.ownedTupleIsFree;refine y02 (y1j hz rfl (x:=.none) rfl (y07 ?_));simp only[if_true];refine y02 (wpAny_rule (y02 (y1j hz rfl (x:=.ref TO) rfl (y02 (y1Z hz (by simp) fun ha za sa=>?_)))));replace za:IsZip ha z TI TO .ellipsis:=za;refine y02 ?_;simp only[List.zipIdx_cons,List.zipIdx_nil,y2N,List.forIn_nil];refine y02 (y02 (wpAny_onRaise ?_));show wpAny _ _ (Builtin.SmallTypes.nextOf (.ref i1)>>=_) _ _ _;refine y02 (D1.item k1 _ _ _ l1 (ndr D1 t1 sa Z.f1z) fun x hb tb px t1b sb=>y07 ?_);have Tb:IsPair hb TO a b:=sb.extBut _ _ Z.TOi1 (sa.extBut _ _ Z.TOz hTO);refine y02 (y1J Tb rfl (y02 (wpAny_updateSeq_pair Tb fun hc Tc sc=>?_)));replace Tc:IsPair hc TO x b:=Tc;refine y02 (wpAny_letGo (y07 ?_));refine y02 (y02 (wpAny_onRaise ?_));show wpAny _ _ (Builtin.SmallTypes.nextOf (.ref i2)>>=_) _ _ _;refine y02 (D2.item k2 _ _ _ l2 (ndr D2 (ndr D2 (ndr D2 t2 sa Z.f2z) sb Z.f2i) sc Z.f2T) fun y hd td py t2d sd=>y07 ?_);have Td:IsPair hd TO x b:=sd.extBut _ _ Z.TOi2 Tc;refine y02 (y1J Td rfl (y02 (wpAny_updateSeq_pair Td fun he Te se=>?_)));replace Te:IsPair he TO x y:=Te;refine y02 (wpAny_letGo (y07 (y07 ?_)));refine y02 (y1J Te rfl (y02 (wpAny_newTuple ?_)));have hsz:he.objs.size=s.heap.objs.size:=by rw[se.1,sd.1,sc.1,sb.1,sa.1]
 have ze:IsZip he z TI TO .ellipsis:=se.extBut _ _ Z.TOz.symm (sd.extBut _ _ Z.i2z.symm (sc.extBut _ _ Z.TOz.symm (sb.extBut _ _ Z.i1z.symm za)));have ke:∀c o,c≠z->c≠TO->c≠i1->c≠i2->s.heap.get? c=some o->he.get? c=some o:=fun c o c1 c2 c3 c4 e=>se.extBut _ _ c2 (sd.extBut _ _ c4 (sc.extBut _ _ c2 (sb.extBut _ _ c3 (sa.extBut _ _ c1 e))));have t1e:=ndr D1 (ndr D1 (ndr D1 t1b sc Z.f1T) sd Z.f1i) se Z.f1T;have t2e:=ndr D2 t2d se Z.f2T;have zlt:z<he.objs.size:=y0b ze;show wpAny _ _ (Builtin.SmallTypes.ownedTupleHandOut (.ref z) (.ref he.objs.size)>>=_) _ _ _;refine y02 ?_;unfold Builtin.SmallTypes.ownedTupleHandOut;have zf:IsZip (he.push { cls:=.type "tuple",data:=.seq #[x,y] }) z TI TO .ellipsis:=y03 _ ze;refine y02 (y1Z zf (by simp) fun hg zg sg=>?_);replace zg:IsZip hg z TI TO (rawInt he.objs.size):=zg;refine y1Z zg (by simp) fun hh zh sh=>?_;replace zh:IsZip hh z TI TO (rawInt he.objs.size):=zh;have up:∀c o,c≠z->he.get? c=some o->hh.get? c=some o:=fun c o c1 e=>sh.extBut _ _ c1 (sg.extBut _ _ c1 (y03 _ e));have pr:IsPair hh he.objs.size x y:=sh.extBut _ _ (y2S zlt) (sg.extBut _ _ (y2S zlt) (y09 _ rfl));rw[hsz]at zh pr;refine y07 ⟨_,rfl,?_⟩;show Q (.ref he.objs.size) _;rw[hsz];exact hQ x y hh _ px py zh (up _ _ Z.TOz Te) (D1.frame _ _ _ t1e fun b hb o e=>up b o (fun q=>Z.f1z (q▸hb)) e) (D2.frame _ _ _ t2e fun b hb o e=>up b o (fun q=>Z.f2z (q▸hb)) e) pr fun c o c1 c2 c3 c4 e=>up c o c1 (ke c o c1 c2 c3 c4 e)
def zc0{a b:Value}{Q:Fin->Shared->Prop}(D1:Draws prog w A i1 fp1 n1 P1 S1)(Z:ZA z TI TO i1 i2 fp1 fp2)(hz:IsZip s.heap z TI TO .none)(hTI:IsPair s.heap TI (.ref i1) (.ref i2))(hTO:IsPair s.heap TO a b)(t1:S1 n1 s.heap)(hE:∀h' e,(∀c o,c≠z->c≠TO->c≠i1->c≠i2->s.heap.get? c=some o->h'.get? c=some o)->(∃o,h'.get? e=some o/\o.cls=.type "StopIteration")->E (.ref e) { s with heap:=h' }) : wpAny (model prog w) A (Builtin.«zip.__next__» ⟨[.ref z],[]⟩) Q E s:=by
 show wpAny _ _ (field (.ref z) 2>>=_) _ _ _;refine y02 (y1j hz rfl (x:=.bool false) rfl ?_);show wpAny _ _ (field (.ref z) 3>>=_) _ _ _;refine y02 (y1j hz rfl (x:=.ref TI) rfl (y02 (y1J hTI rfl ?_)));show wpAny _ _ (Builtin.SmallTypes.ownedTupleIsFree (.ref z)>>=_) _ _ _;refine y02 ?_;unfold Builtin.SmallTypes.ownedTupleIsFree;refine y02 (y1j hz rfl (x:=.none) rfl (y07 ?_));simp only[if_true];refine y02 (wpAny_rule (y02 (y1j hz rfl (x:=.ref TO) rfl (y02 (y1Z hz (by simp) fun ha za sa=>?_)))));replace za:IsZip ha z TI TO .ellipsis:=za;refine y02 ?_;simp only[List.zipIdx_cons,List.zipIdx_nil,y2N,List.forIn_nil];refine y02 (y02 (wpAny_onRaise ?_));show wpAny _ _ (Builtin.SmallTypes.nextOf (.ref i1)>>=_) _ _ _;refine y02 (D1.done _ _ _ (ndr D1 t1 sa Z.f1z) fun hb e sb he=>?_);obtain⟨oe,hoe,hce⟩:=he;have zb:IsZip hb z TI TO .ellipsis:=sb _ _ Z.i1z.symm za;have hez:e≠z:=fun x=>by subst x;rw[zb]at hoe;cases hoe;simp at hce
 exact y1Z zb (by simp) fun hc _ sc=>hE hc e (fun c o c1 _ c3 _ x=>sc.extBut _ _ c1 (sb _ _ c3 (sa.extBut _ _ c1 x))) ⟨oe,sc.extBut _ _ hez hoe,hce⟩
end
abbrev zt1(h:Heap)(a:Addr):Heap:=h.push { cls:=.type "tuple_iterator",data:=.fields #[.ref a,.int 0 0] }
abbrev zt2(h:Heap)(a b:Addr):Heap:=(zt1 h a).push { cls:=.type "tuple_iterator",data:=.fields #[.ref b,.int 0 0] }
abbrev zt3(h:Heap)(a b:Addr):Heap:=(zt2 h a b).push { cls:=.type "tuple",data:=.seq #[.ref h.objs.size,.ref (zt1 h a).objs.size] }
abbrev zt4(h:Heap)(a b:Addr):Heap:=(zt3 h a b).push { cls:=.type "tuple",data:=.seq #[.none,.none] }
abbrev zt5(h:Heap)(a b:Addr):Heap:=(zt4 h a b).push { cls:=.type "zip",data:=.fields #[.none,.bool false,.bool false,.ref (zt2 h a b).objs.size,.ref (zt3 h a b).objs.size] }
def z5p(a b:Addr)(xs ys:Array Value) : Meets (Builtin.«zip.__new__» ⟨[.type "zip",.ref a,.ref b],[]⟩) (fun _ R s=>s.heap.IsTuple a xs/\s.heap.IsTuple b ys/\R (.ok (.ret (.ref (zt4 s.heap a b).objs.size))) { s with heap:=zt5 s.heap a b }) :=
 .of_wp fun prog w A R s h=>by
  obtain⟨hp,g,d,tk,os⟩:=s;obtain⟨hl1,hl2,h⟩:=h;have hsub:=sub_zip;have hL1:Heap.IsTuple (Shared.heap ⟨hp,g,d,tk,os⟩) a xs:=hl1;have hL2:Heap.IsTuple (Shared.heap ⟨hp.push { cls:=.type "tuple_iterator",data:=.fields #[.ref a,.int 0 0] },g,d,tk,os⟩) b ys:=by obtain⟨o,e,r⟩:=hl2;exact⟨o,y03 _ e,r⟩
  wp_walk using y1W hL1,y1W hL2
  exact⟨_,rfl,h⟩
section
variable{prog:Program}{w:World}{A:Around}{E:yyE}{s:Shared}
def z6V{a b:Addr}{xs ys:Array Value}{Q:yyE}(hl1:s.heap.IsTuple a xs)(hl2:s.heap.IsTuple b ys)(h:∀h',IsZip h' (s.heap.objs.size+4) (s.heap.objs.size+2) (s.heap.objs.size+3) .none->IsPair h' (s.heap.objs.size+2) (.ref s.heap.objs.size) (.ref (s.heap.objs.size+1)) -> IsPair h' (s.heap.objs.size+3) .none .none->h'.IsTupleIter s.heap.objs.size a 0->h'.IsTupleIter (s.heap.objs.size+1) b 0->h'.objs.size=s.heap.objs.size+5 -> (∀c o,s.heap.get? c=some o->h'.get? c=some o)->Q (.ref (s.heap.objs.size+4)) { s with heap:=h' }) : wpAny (model prog w) A (call (.type "zip") [.ref a,.ref b]) Q E s:=by
 refine callType_new F.called_zip (by decide) (F.typeCall_zip_2 _ _) (F.newCall_zip_2 _ _) (fun obj=>F.args_object_init_3 obj _ _) F.entry_zip_new (z5p a b xs ys) ⟨hl1,hl2,?_⟩;have e1:(zt1 s.heap a).objs.size=s.heap.objs.size+1:=y1g ..;have e2:(zt2 s.heap a b).objs.size=s.heap.objs.size+2:=by rw[y1g,e1]
 have e3:(zt3 s.heap a b).objs.size=s.heap.objs.size+3:=by rw[y1g,e2]
 have e4:(zt4 s.heap a b).objs.size=s.heap.objs.size+4:=by rw[y1g,e3]
 have e5:(zt5 s.heap a b).objs.size=s.heap.objs.size+5:=by rw[y1g,e4]
 have p:∀{h:Heap}{o u:Obj}{c:Addr},h.get? c=some u->(h.push o).get? c=some u:=fun e=>y03 _ e;have g5:(zt5 s.heap a b).get? (zt4 s.heap a b).objs.size=some _:=y09 _ rfl;have g4:(zt5 s.heap a b).get? (zt3 s.heap a b).objs.size=some _:=p (y09 _ rfl);have g3:(zt5 s.heap a b).get? (zt2 s.heap a b).objs.size=some _:=p (p (y09 _ rfl));have g2:(zt5 s.heap a b).get? (zt1 s.heap a).objs.size=some _:=p (p (p (y09 _ rfl)));have g1:(zt5 s.heap a b).get? s.heap.objs.size=some _:=p (p (p (p (y09 _ rfl))));show _/\_;rw[e2,e3,e4]at g5;rw[e1,e2]at g3;rw[e3]at g4;rw[e1]at g2;rw[e4];exact⟨⟨_,g5,rfl⟩,h _ g5 g3 g4 ⟨_,g1,rfl,rfl⟩ ⟨_,g2,rfl,rfl⟩ e5 fun c o x=>p (p (p (p (p x))))⟩
end
def zf0(K:yyF)(a b:Addr):It :=
 ⟨fun i H=>∃xs ys x y,SqT K H a xs/\SqT K H b ys/\xs[i]?=some x/\ys[i]?=some y,
  fun i H v H'=>∃p x y,v=.ref p/\H p=none/\(∀xs,SqT K H a xs->xs[i]?=some x)/\(∀ys,SqT K H b ys->ys[i]?=some y)/\H'=upd H p (.tup [x,y]),
  fun i H=>∃xs ys,SqT K H a xs/\SqT K H b ys/\xs.length=i/\ys.length=i⟩
section
variable{X:Cx}{elts:List Expr}{tk:Nat}{tp:Pos}
def z9S{P:Program}{w:World}{K:yyF}(a b z TI TO i1 i2:Addr)(D:TI≠z/\TO≠z/\i1≠z/\i2≠z/\TI≠TO/\TI≠i1/\TI≠i2/\TO≠i1/\TO≠i2/\i1≠i2)(aT:a≠TO)(bT:b≠TO) : z9b P w K (.Tuple elts tk tp) (zf0 K a b) [z,TI,TO,i1,i2] z (fun i h=>IsZip h z TI TO .none/\IsPair h TI (.ref i1) (.ref i2)/\(∃u v,IsPair h TO u v)/\h.IsTupleIter i1 a i/\h.IsTupleIter i2 b i) where
 mem:=by simp
 obj:=fun i h st c hc=>by
  obtain⟨hz,hTI,⟨u,v,hTO⟩,⟨o1,e1,c1,d1⟩,⟨o2,e2,c2,d2⟩⟩:=st;simp at hc;rcases hc with q|q|q|q|q
  .rw[q];exact⟨_,hz,fun v z=>by cases z⟩
  .rw[q];exact⟨_,hTI,fun v z=>by cases z⟩
  .rw[q];exact⟨_,hTO,fun v z=>by cases z⟩
  .rw[q];exact⟨_,e1,fun v z=>by rw[d1]at z;cases z⟩
  .rw[q];exact⟨_,e2,fun v z=>by rw[d2]at z;cases z⟩
 keep:=fun i h h' st k=>by obtain⟨hz,hTI,⟨u,v,hTO⟩,⟨o1,e1,c1⟩,⟨o2,e2,c2⟩⟩:=st;exact⟨k z (by simp) _ hz,k TI (by simp) _ hTI,⟨u,v,k TO (by simp) _ hTO⟩,⟨o1,k i1 (by simp) _ e1,c1⟩,⟨o2,k i2 (by simp) _ e2,c2⟩⟩
 item:=by
  intro X hP hw hK hc i pins s σ H E I hf st hg;subst hP hw hK;obtain⟨hz,hTI,⟨u,v,hTO⟩,h1,h2⟩:=st;obtain⟨xs,ys,x,y,hxs,hys,hx,hy⟩:=hg;obtain⟨its,rv,p,_⟩:=I.tuple hxs;obtain⟨itt,rw',p',_⟩:=I.tuple hys;obtain⟨ux,hux,rux⟩:=rv.get hx;obtain⟨uy,huy,ruy⟩:=rw'.get hy;obtain⟨d1,d2,d3,d4,d5,d6,d7,d8,d9,d10⟩:=D;have Da:∀{l:Addr}{its:Array Value},s.heap.IsTuple l its->l≠z/\l≠i1/\l≠i2:=fun{l its} hl=>by obtain⟨o,e,c,_⟩:=hl;obtain⟨o1,e1,c1,_⟩:=id h1;obtain⟨o2,e2,c2,_⟩:=id h2;exact⟨z1V e hz c rfl (by decide),z1V e e1 c c1 (by decide),z1V e e2 c c2 (by decide)⟩
  obtain⟨a1,a3,a4⟩:=Da p;obtain⟨b1,b3,b4⟩:=Da p';have D1:=z4h (prog:=X.prog) (w:=X.w) (A:=X.A.in1) (I.ok.hd hc) i1 a a3 its.toArray;have D2:=z4h (prog:=X.prog) (w:=X.w) (A:=X.A.in1) (I.ok.hd hc) i2 b b4 itt.toArray;have Z:ZA z TI TO i1 i2 [i1,a] [i2,b]:=⟨d1,d2,d3,d4,d5,d6,d7,d8,d9,d10,by simp[y1h d3,y1h a1],by simp[d8,y1h aT],by simp[y1h d10,y1h a4],by simp[y1h d4,y1h b1],by simp[d9,y1h bT],by simp[d10,y1h b3]⟩;have l1:i<its.toArray.size:=by have:=(y05.mp hux).1;simpa using this
  have l2:i<itt.toArray.size:=by have:=(y05.mp huy).1;simpa using this
  have hT:s.TypeIs (.ref z) "zip":=⟨_,hz,rfl⟩;unfold pyNext;refine y02 (wpAny_attempt (y11 (name:=Str.ofString "__next__") hT y2R (y1d y2R hT F.entry_zip_next
   (zah D1 D2 Z hz hTI hTO ⟨h1,p⟩ ⟨h2,p'⟩ l1 l2 fun x' y' h' tk px py q1 q2 q3 q4 q5 hk=>y07 ?_) (F.args_zip_next_1 _))))
  have ex:x'=ux:=by
   have e1:its.toArray[i]?=some ux:=by simpa using hux
   rw[e1]at px;exact(y0d px).symm
  have ey:y'=uy:=by
   have e1:itt.toArray[i]?=some uy:=by simpa using huy
   rw[e1]at py;exact(y0d py).symm
  subst ex ey;refine⟨_,rfl,wpAny_letOwnedTupleGo_zip q1 fun h2' hz2 hs2=>?_⟩;have zlt:z<s.heap.objs.size:=y0b hz;have kk:∀c o,c∉[z,TO,i1,i2]->s.heap.get? c=some o->h2'.get? c=some o:=fun c o hc q=>by simp at hc;exact(hs2.2 c hc.1).trans (hk c o hc.1 hc.2.1 hc.2.2.1 hc.2.2.2 q)
  have sub:∀c∈[z,TO,i1,i2],c∈[z,TI,TO,i1,i2]:=fun c hc=>by simp at hc⊢;rcases hc with q|q|q|q<;>simp[q]
  have I1:Inv X pins σ (upd H s.heap.objs.size (.tup [x,y])) { s with heap:=h2',toks:=tk }:=by refine I.turnedNew (ch:=[z,TO,i1,i2]) kk (y0a _) ?_ (fun c hc=>hf c (sub c hc));exact⟨by show 2<=sizeLine;decide,[x',y'],0,.cons rux (.cons ruy .nil),(hs2.2 _ (y2S zlt)).trans q5⟩
  have up:∀{c:Addr}{o:Obj},c≠z->h'.get? c=some o->h2'.get? c=some o:=fun{c o} hc q=>(hs2.2 c hc).trans q;obtain⟨⟨o3,e3,c3⟩,_⟩:=q3;obtain⟨⟨o4,e4,c4⟩,_⟩:=q4;refine⟨.ref s.heap.objs.size,_,I1,rfl,⟨s.heap.objs.size,x,y,rfl,I.fresh,fun zs hz'=>by rw[I.tuple_inj hz' hxs];exact hx,fun zs hz'=>by rw[I.tuple_inj hz' hys];exact hy,rfl⟩,⟨hz2,?_,⟨_,_,up d2 q2⟩,⟨o3,up d3 e3,c3⟩,⟨o4,up d4 e4,c4⟩⟩,fun c hc=>?_⟩
  .exact up d1 (hk TI _ d1 d5 d6 d7 hTI)
  .have c0:=(hf c hc).1;have lt:c<s.heap.objs.size:=by
    obtain⟨o1,e1,_⟩:=id h1;obtain⟨o2,e2,_⟩:=id h2;simp at hc;rcases hc with q|q|q|q|q
    .rw[q];exact zlt
    .rw[q];exact y0b hTI
    .rw[q];exact y0b hTO
    .rw[q];exact y0b e1
    .rw[q];exact y0b e2
   rw[z04 (y0q lt)];exact c0
 done:=by
  intro X hP hw hK hc i pins s σ H E I hf st hg;subst hP hw hK;obtain⟨hz,hTI,⟨u,v,hTO⟩,h1,h2⟩:=st;obtain⟨xs,ys,hxs,hys,hx,hy⟩:=hg;obtain⟨its,rv,p,_⟩:=I.tuple hxs;obtain⟨itt,rw',p',_⟩:=I.tuple hys;obtain⟨d1,d2,d3,d4,d5,d6,d7,d8,d9,d10⟩:=D;have Da:∀{l:Addr}{its:Array Value},s.heap.IsTuple l its->l≠z/\l≠i1/\l≠i2:=fun{l its} hl=>by obtain⟨o,e,c,_⟩:=hl;obtain⟨o1,e1,c1,_⟩:=id h1;obtain⟨o2,e2,c2,_⟩:=id h2;exact⟨z1V e hz c rfl (by decide),z1V e e1 c c1 (by decide),z1V e e2 c c2 (by decide)⟩
  obtain⟨a1,a3,a4⟩:=Da p;obtain⟨b1,b3,b4⟩:=Da p';have l1:=rv.length;have D1:=z4h (prog:=X.prog) (w:=X.w) (A:=X.A.in1) (I.ok.hd hc) i1 a a3 its.toArray;have Z:ZA z TI TO i1 i2 [i1,a] [i2,b]:=⟨d1,d2,d3,d4,d5,d6,d7,d8,d9,d10,by simp[y1h d3,y1h a1],by simp[d8,y1h aT],by simp[y1h d10,y1h a4],by simp[y1h d4,y1h b1],by simp[d9,y1h bT],by simp[d10,y1h b3]⟩;have hT:s.TypeIs (.ref z) "zip":=⟨_,hz,rfl⟩;have ei:i=its.toArray.size:=by simp;lia
  unfold pyNext;refine y02 (wpAny_attempt (y11 (name:=Str.ofString "__next__") hT y2R (y1d y2R hT F.entry_zip_next
   (zc0 D1 Z hz hTI hTO ⟨ei▸h1,p⟩ fun h' e hk he=>?_) (F.args_zip_next_1 _))))
  obtain⟨o,ho,hcl⟩:=he;refine y02 (wpAny_isInstance (T:="StopIteration") (b:=true) ⟨o,ho,hcl⟩ isSubtype_stop (y07 ⟨rfl,?_⟩));refine I.turnedL (ch:=[z,TO,i1,i2]) (t':=s.toks) (fun c o hcc q=>?_) (fun c hcc=>hf c ?_)
  .simp at hcc;exact hk c o hcc.1 hcc.2.1 hcc.2.2.1 hcc.2.2.2 q
  .simp at hcc⊢;rcases hcc with q|q|q|q<;>simp[q]
 self:=fun A i s Q E st h=>y2H st.1 h
def zjj(K:yyF)(ta:TA):TI:=fun σ H R=>ta σ H fun vs H1=>∃a b:Addr,vs=[.ref a,.ref b]/\(∃xs,SqT K H1 a xs)/\(∃ys,SqT K H1 b ys)/\R (zf0 K a b) H1
def zew{a b:Expr}{ta:TA}{p pos:Pos}(hg:Gl X "zip")(hm:X.mg "zip"=none)(ha:PA X [a,b] ta)(hs:starEach [a,b] X.env=[(false,eval a X.env),(false,eval b X.env)]:=by rfl)(hs2:starEach [b] X.env=[(false,eval b X.env)]:=by rfl) : PI X (.Tuple elts tk tp) (.Call (.Name "zip" p) [a,b] [] pos) (zjj X.K ta):=by
 intro pins s σ H R I h;refine Call_ (z55 I hg hm boot_zip (y1z (thn (ha pos pins s σ H _ I h) fun us s1 hz8=>?_) (by rw[hs,hs2]) (by rw[hs2];rfl)));obtain⟨vs,H1,I1,r1,q1⟩:=hz8;obtain⟨a,b,e,⟨xs,hq⟩,⟨ys,hq'⟩,q⟩:=q1;subst e;obtain⟨u,v,rfl,ru,rv'⟩:=zbY r1;cases ru;cases rv';obtain⟨its,rv,pl,hz⟩:=I1.tuple hq;obtain⟨its2,rv2,pl2,hz2⟩:=I1.tuple hq';have lt:∀{l:Addr}{its:Array Value},s1.heap.IsTuple l its->l<s1.heap.objs.size:=fun⟨o,e,_⟩=>y0b e;have la:=lt pl;have lb:=lt pl2;refine z6V pl pl2 fun h' z1 z2 z3 z4 z5 z6 hk=>y2H z1 ?_;have I2:Inv X pins σ H1 { s1 with heap:=h' }:=I1.kept (t':=s1.toks) hk;refine⟨s1.heap.objs.size+4,[s1.heap.objs.size+4,s1.heap.objs.size+2,s1.heap.objs.size+3,s1.heap.objs.size,s1.heap.objs.size+1],_,_,H1,rfl,I2,
  z9S a b (s1.heap.objs.size+4) (s1.heap.objs.size+2) (s1.heap.objs.size+3) s1.heap.objs.size (s1.heap.objs.size+1) (by refine⟨?_,?_,?_,?_,?_,?_,?_,?_,?_,?_⟩<;>(show @Ne Nat _ _;lia)) (y0q (y2T la (by lia))) (y0q (y2T lb (by lia))),⟨z1,z2,⟨_,_,z3⟩,z4,z5⟩,fun c hb=>?_,q⟩
 have hb':s1.heap.objs.size<=c:=by simp only[y0o,List.not_mem_nil,or_false]at hb;rcases hb with q|q|q|q|q<;>(have q:@Eq Nat c _:=q;lia)
 exact I1.fpOk hb' (I1.hok.fresh hb')
end
end L2
namespace Gu
open PySem L2
def pr(m:Nat)(i:Int):D:=.tup [.int (i/(m:Int)),.int (i%(m:Int))]
section
variable(P:Program)(w:World)(K:yyF)(mg:yyS)(base:Heap)(CX:CXT)(k:Nat)
end
def zp6(m:Nat)(R S:Row):Row:=(z4N R.1 S.1,(List.range R.1.length).map fun k=>R.2.getD k 0*(m:Int)+S.2.getD (R.1.getD k 0).toNat 0)
def zhx(one other:List Row):List Row:=(z0s (one.length*other.length)).map fun i=>zp6 other.length (row one (i/(other.length:Int))) (row other (i%(other.length:Int)))
def zlr(M:List Row):Int->List Int->List Int
 |_,[]=>[]
 |x,l::w=>(row M x).1.getD l.toNat 0::zlr M ((row M x).2.getD l.toNat 0) w
end Gu
namespace L2
open PySem PySem.Spec PyProof.Rows
section
variable{M:Model}{A:Around}{E:yyE}
variable{nm q:Str}{C N:Addr}{bs bm:List Value}{hdct:Bool}{sn:List Str}{sub:List Value}{ab:Bool}{col:Option Bool}{dd:Option Addr}{k0 k1 k2 k3 k5:Option Value}{newId:String}
variable{nm' q':Str}{C' N':Addr}{bs' bm':List Value}{hdct':Bool}{sn':List Str}{sub':List Value}{ab':Bool}{col':Option Bool}{dd':Option Addr}{k0' k1' k2' k3' k5':Option Value}{newId':String}
def za7{h:Heap}{g:Array GenState}{d:Drawn}{t:Nat}{os:OsState}{e:Addr}{oe:Obj}{Q:Bool->Shared->Prop}(hC:h.get? C=some (excClassObj nm q C N bs bm hdct sn sub ab col dd k0 k1 k2 k3 k5 newId))(hC':h.get? C'=some (excClassObj nm' q' C' N' bs' bm' hdct' sn' sub' ab' col' dd' k0' k1' k2' k3' k5' newId'))(he:h.get? e=some oe)(hcls:oe.cls=.ref C)(hbase:bm'.contains (.type "BaseException")=true)(hno:(Value.ref C::bm).contains (.ref C')=false)(hq:Q false ⟨h,g,d,t,os⟩):wpAny M A (excMatches (.ref e) (.ref C')) Q E ⟨h,g,d,t,os⟩:=by
 have hcB:(Value.ref C'::bm').contains (.type "BaseException")=true:=by rw[List.contains_cons,hbase,Bool.or_true]
 have f:=tc_notTuple;unfold excMatches;repeat (first|(with_reducible refine wpAny_loadPart_at he ?_;rw[hcls])|with_reducible refine wpAny_loadPart_at hC' ?_|(with_reducible refine wpAny_isSubtype_exc hC' ?_;rw[hcB])|(with_reducible refine wpAny_isSubtype_exc hC ?_;rw[hno])|wp_step)
 exact hq
end
def z4f(K:yyF)(C C':Addr):Bool:=match K.lookup C with
 |some ⟨_,_,.cls cd,_⟩=>!(cd.mro.contains (.ref C'))
 |_=>false
def zcK{K:yyF}{h:Heap}{C C':Addr}{bmB:List Value}{newId:String}(X:K.In h)(e:PySem.W.excIn K C bmB newId=true)(ap:z4f K C C'=true):∃bm N nm q bs hdct sn sub ab col dd k0 k1 k2 k3 k5 mN, h.get? C=some (excClassObj nm q C N bs bm hdct sn sub ab col dd k0 k1 k2 k3 k5 newId)/\h.Ns N mN/\mN "__init__"=none/\OwnTail h bmB bm/\(Value.ref C::bm).contains (.ref C')=false:=by
 obtain⟨bm,N,nm,q,bs,hdct,sn,sub,ab,col,dd,k0,k1,k2,k3,k5,mN,hC,hN,hi,ht⟩:=z5S X e;refine⟨bm,N,nm,q,bs,hdct,sn,sub,ab,col,dd,k0,k1,k2,k3,k5,mN,hC,hN,hi,ht,?_⟩;unfold z4f at ap;split at ap
 .rename_i cls dd' cd sl hl;have e1:=(X C _ hl).symm.trans hC;have e2:cd.mro=.ref C::bm:=by
   have e3:=y0d e1;unfold excClassObj at e3;injection e3 with _ _ e4 _;injection e4 with e5;rw[e5]
  rw[e2]at ap;simpa using ap
 .cases ap
def XE2(C C2:Addr)(n:Nat)(th th2:TS)(D:z3Z):XK:=fun _ C' H'=>(C'=some C/\∀σ:St,σ.length=n->th D σ H')\/(C'=some C2/\∀σ:St,σ.length=n->th2 D σ H')
def zek{X:Cx}{x x2:Str}{C C2:Addr}{newId newId2:String}{bmB bmB2:List Value}{np hpos np2 hpos2 pos:Pos}{body suite suite2:List Stmt}{b₀ b₂:Stmt}{tb:z3Z->TS}{th th2:TS}(hfr:X.env.frame=some X.env.locals)(hstk:X.stack=X.env::X.outer)(hx:X.mg x=some (.ref C))(hg:Gl X x)(he:PySem.W.excIn X.K C bmB newId=true)(hB:bmB.contains (.type "BaseException")=true)(hx2:X.mg x2=some (.ref C2))(hg2:Gl X x2)(he2:PySem.W.excIn X.K C2 bmB2 newId2=true)(hB2:bmB2.contains (.type "BaseException")=true)(hap:z4f X.K C2 C=true)(hb:∀pn E1 D,z2t (CXx X.prog X.w) (X.tried pn E1) (XE2 C C2 X.N.length th th2 D)->PSs (X.tried pn E1) body (tb D))(hs:∀e,PSs (X.sup e) (b₀::suite) th)(hs2:∀e,PSs (X.sup e) (b₂::suite2) th2)(hdb:(x==("__debug__":Str))=false:=by decide)(hdb2:(x2==("__debug__":Str))=false:=by decide) : PS X (.Try body [.ExceptHandler (some (.Name x np)) none (b₀::suite) hpos,.ExceptHandler (some (.Name x2 np2)) none (b₂::suite2) hpos2] [] [] pos) (fun D σ H=>tb D D σ H):=by
 intro pins s σ H D I h;refine wpAny_Try_except ?_;have pass:z2t (CXx X.prog X.w) (X.tried (X.pn++pins) fun e s₁=>wpAny (model X.prog X.w) X.A (noteFrame e X.env) (fun _ s₂=>wpAny (model X.prog X.w) X.A (setFlight e none) (fun _ s₃=>wpAny (model X.prog X.w) X.A (handleBy e X.env [.ExceptHandler (some (.Name x np)) none (b₀::suite) hpos,.ExceptHandler (some (.Name x2 np2)) none (b₂::suite2) hpos2]) (SP X pins D) X.xe s₃) X.xe s₂) X.xe s₁) (XE2 C C2 X.N.length th th2 D):=by
  intro pins' σ' H1 s1 e s' I1 hx';obtain⟨ea,Ce,H',rfl,os,bare,un,hok,fly,hE⟩:=hx';have J:=I1.call' (ch:=[]) os un hok bare (fun b z=>absurd z (by simp));have FF:s'.heap.FunFrames X.base (X.env::X.outer):=by have:=J.stack;rw[show(X.tried (X.pn++pins) _).stack=X.stack from rfl,hstk]at this;exact this
  have un':Un (frs (X.env::X.outer)) [] H1 H' s1.heap s'.heap:=by rw[<-hstk];exact un
  have hfree:∀b∈frs (X.env::X.outer),H' b=none/\(b∈frs (X.env::X.outer)\/s1.heap.get? b=none):=fun b hb=>⟨J.stkFree b (by show b∈frs X.stack;rw[hstk];exact hb),.inl hb⟩;refine ze2 (P:=X.prog) (w:=X.w) (fr:=frs (X.env::X.outer)) (H1:=H1) (H':=H') (h1:=s1.heap) (base:=X.base) (outer:=X.outer) (L:=X.env.locals) (by rw[I.ok.frames,hstk]) hfr FF un' hok hfree (fun b hb=>hb) fly fun h2 u2 k2 f2=>?_;have mk:∀h3,Un (frs (X.env::X.outer)) [] H1 H' s1.heap h3->HOk X.prog X.w H' h3->Inv (X.sup ea) pins σ' H' { s' with heap:=h3 }:=fun h3 u3 k3=>by have J3:=I1.call' (s':={ s' with heap:=h3 }) (ch:=[]) os (by show Un (frs X.stack) [] H1 H' s1.heap h3;rw[hstk];exact u3) k3 bare (fun b z=>absurd z (by simp));exact⟨I.ok.sup ea,J3.os,J3.bare,J3.base,J3.loc,J3.cell,J3.free,J3.freeC,fun p hp=>J3.pin p (y0x _ hp),J3.hok,J3.len⟩
  have J2:=mk h2 u2 k2;rcases hE with⟨hC,hth⟩|⟨hC,hth⟩
  .cases hC;obtain⟨bm,NN,nm,q,bs,hd,sn,sub,ab,col,dict,a0,a1,a2,a3,a5,mN,hC,hN,hi,ht⟩:=z5S J2.kIn he;refine wpAny_handleBy_cons (y2C (z2x J2 hg hx ?_ hdb)) (by intro z;cases z);obtain⟨_,_,b0,oe,vs,T,oT,ts,g1,⟨g2,_⟩,_⟩:=id f2;refine wpAny_excMatches_sub_self hC g1 g2 (z44 ht hB) ?_;refine codeAny_handlers_suite ?_;refine z8l (P:=X.prog) (w:=X.w) (fr:=frs (X.env::X.outer)) (H1:=H1) (H':=H') (h1:=s1.heap) (base:=X.base) (env:=X.env) (outer:=X.outer) (by have:=J2.stack;rw[show(X.sup ea).stack=X.stack from rfl,hstk]at this;exact this) u2 k2 hfree (fun b hb=>hb) f2 fun h3 u3 k3 f3=>?_;have J3:=mk h3 u3 k3;refine y0B (hs ea pins _ σ' H' D J3 (hth σ' J3.len)) (fun f s4 sp=>?_) fun _ _ z=>False.elim z;have z7u:∀{σ4 H4},Inv (X.sup ea) pins σ4 H4 s4->Inv X pins σ4 H4 s4:=fun K4=>⟨I.ok,K4.os,K4.bare,K4.base,K4.loc,K4.cell,K4.free,K4.freeC,K4.pin,K4.hok,K4.len⟩;cases f with
   |next=>obtain⟨σ4,H4,K4,q⟩:=sp;exact⟨σ4,H4,z7u K4,q⟩
   |brk=>obtain⟨σ4,H4,K4,q⟩:=sp;exact⟨σ4,H4,z7u K4,q⟩
   |cont=>obtain⟨σ4,H4,K4,q⟩:=sp;exact⟨σ4,H4,z7u K4,q⟩
   |ret u=>obtain⟨v,σ4,H4,K4,r,q⟩:=sp;exact⟨v,σ4,H4,z7u K4,r,q⟩
  .cases hC;obtain⟨bm,NN,nm,q,bs,hd,sn,sub,ab,col,dict,a0,a1,a2,a3,a5,mN,hC,hN,hi,ht⟩:=z5S J2.kIn he;obtain⟨bm',NN',nm',q',bs',hd',sn',sub',ab',col',dict',a0',a1',a2',a3',a5',mN',hC',hN',hi',ht',hno'⟩:=zcK J2.kIn he2 hap;obtain⟨_,_,b0',oe',vs',T',oT',ts',g1',⟨g2',_⟩,_⟩:=id f2;refine wpAny_handleBy_cons (y2C (z2x J2 hg hx ?_ hdb)) (by intro z;cases z);refine za7 hC' hC g1' g2' (z44 ht hB) hno' ?_;refine wpAny_handleBy_cons (y2C (z2x J2 hg2 hx2 ?_ hdb2)) (by intro z;cases z);obtain⟨_,_,b0,oe,vs,T,oT,ts,g1,⟨g2,_⟩,_⟩:=id f2;refine wpAny_excMatches_sub_self hC' g1 g2 (z44 ht' hB2) ?_;refine codeAny_handlers_suite ?_;refine z8l (P:=X.prog) (w:=X.w) (fr:=frs (X.env::X.outer)) (H1:=H1) (H':=H') (h1:=s1.heap) (base:=X.base) (env:=X.env) (outer:=X.outer) (by have:=J2.stack;rw[show(X.sup ea).stack=X.stack from rfl,hstk]at this;exact this) u2 k2 hfree (fun b hb=>hb) f2 fun h3 u3 k3 f3=>?_;have J3:=mk h3 u3 k3;refine y0B (hs2 ea pins _ σ' H' D J3 (hth σ' J3.len)) (fun f s4 sp=>?_) fun _ _ z=>False.elim z;have z7u:∀{σ4 H4},Inv (X.sup ea) pins σ4 H4 s4->Inv X pins σ4 H4 s4:=fun K4=>⟨I.ok,K4.os,K4.bare,K4.base,K4.loc,K4.cell,K4.free,K4.freeC,K4.pin,K4.hok,K4.len⟩;cases f with
   |next=>obtain⟨σ4,H4,K4,q⟩:=sp;exact⟨σ4,H4,z7u K4,q⟩
   |brk=>obtain⟨σ4,H4,K4,q⟩:=sp;exact⟨σ4,H4,z7u K4,q⟩
   |cont=>obtain⟨σ4,H4,K4,q⟩:=sp;exact⟨σ4,H4,z7u K4,q⟩
   |ret u=>obtain⟨v,σ4,H4,K4,r,q⟩:=sp;exact⟨v,σ4,H4,z7u K4,r,q⟩
 have I0:∀E,Inv (X.tried (X.pn++pins) E) [] σ H s:=fun E=>⟨I.ok.tried _ _,I.os,I.bare,I.base,I.loc,I.cell,I.free,I.freeC,fun p hp=>I.pin p (by rw[y1A]at hp;exact hp),I.hok,I.len⟩;refine y0B (hb (X.pn++pins) _ D pass [] s σ H D (I0 _) h) (fun f s1 sp=>?_) fun e s1 z=>z;have z7u:∀{E σ4 H4 s4},Inv (X.tried (X.pn++pins) E) [] σ4 H4 s4->Inv X pins σ4 H4 s4:=fun K4=>⟨I.ok,K4.os,K4.bare,K4.base,K4.loc,K4.cell,K4.free,K4.freeC,fun p hp=>K4.pin p (by rw[y1A];exact hp),K4.hok,K4.len⟩;cases f with
 |next=>obtain⟨σ4,H4,K4,q⟩:=sp;exact y2j ⟨σ4,H4,z7u K4,q⟩
 |brk=>obtain⟨σ4,H4,K4,q⟩:=sp;exact⟨σ4,H4,z7u K4,q⟩
 |cont=>obtain⟨σ4,H4,K4,q⟩:=sp;exact⟨σ4,H4,z7u K4,q⟩
 |ret u=>obtain⟨v,σ4,H4,K4,r,q⟩:=sp;exact⟨v,σ4,H4,z7u K4,r,q⟩
end L2
namespace Gu
open PySem L2
def zf7(n:Nat):List Row:=[(z0s n,List.replicate n 0)]
def pw(n:Nat)(one:List Row):Nat->List Row
 |0=>zf7 n
 |j+1=>shr (zhx (pw n one j) one)
end Gu
namespace L2
open PySem PySem.StrLaws PySem.Builtin PySem.Builtin.Str
abbrev sg(x:Str):List Nat:=x.cps.toList
def zdd(a b:Str):sg (a++b)=sg a++sg b:=by show(a.cps++b.cps).toList=_;rw[Array.toList_append]
def zfZ{a b:Str}(h:sg a=sg b):a=b:=PySem.Str.ext' (Array.toList_inj.mp h)
def z3h(a:Str):(sg a).length=a.length:=by show a.cps.toList.length=a.cps.size;rw[y1Q]
def zoY(w:Nat):Nat->List Str->List Nat
 |_,[]=>[]
 |_,[_]=>[]
 |a,p::q::r=>(a+p.length)::zoY w (a+p.length+w) (q::r)
def zdL(y:Str)(parts:List Str):Txt.join y parts=Str.join y parts:=glued_eq_join y parts
open PySem.Spec PyProof.Rows PySem.SeqAt
def Its(x:Str):It:=⟨fun i _=>i<x.length,fun i H v H'=>H'=H/\∃c,(sg x)[i]?=some c/\v=.str ⟨#[c]⟩,fun i _=>x.length<=i⟩
def zcR{x:Str}{i:Nat}:(sg x)[i]?=x.cps[i]?:=by simp
def z8Z{P:Program}{w:World}{K:yyF}{tg:Expr}(it:Addr)(x:Str)(t:Tok):z9b P w K tg (Its x) [it] it (fun i h=>h.IsStrIter it "str_ascii_iterator" x t i) where
 mem:=by simp
 obj:=fun i h st b hb=>by
  have e:b=it:=by simpa using hb
  subst e;obtain⟨o,e,c,d⟩:=st;exact⟨o,e,fun v z=>by rw[d]at z;cases z⟩
 keep:=fun i h h' st k=>let⟨o,ho,r⟩:=st;⟨o,k it (by simp) o ho,r⟩
 item:=by intro X hP hw hK hc i pins s σ H E I hf st hg;subst hP hw hK;obtain⟨f0,f1,f2,f3,f4,f5⟩:=hf it (by simp);have hg':i<x.cps.size:=hg;refine wpAny_pyNext_ascii_item st (c:=x.cps[i]) (by simp[hg']) fun h' st' sb=>?_;have I1:Inv X pins σ H { s with heap:=h',toks:=s.toks+1 }:=I.turned (t':=s.toks+1) (fun b o hb e=>(sb.2 b hb).trans e) f0 f1 f3 f4 f5;obtain⟨o,e,c,d⟩:=id st';exact⟨_,rfl,zb7 (s:={ s with heap:=h',toks:=s.toks+1 }) e c d (by decide) ⟨.str ⟨#[x.cps[i]]⟩,H,I1,⟨_,rfl⟩,⟨rfl,x.cps[i],by rw[zcR];simp[hg'],rfl⟩,st',fun b hb=>(hf b hb).1⟩⟩
 done:=by intro X hP hw hK hc i pins s σ H E I hf st hg;subst hP hw hK;obtain⟨f0,f1,f2,f3,f4,f5⟩:=hf it (by simp);exact wpAny_pyNext_ascii_end (I.ok.hd hc) st (y2t hg) fun h' eb=>⟨rfl,I.turned (t':=s.toks) (fun b o hb e=>eb b o hb e) f0 f1 f3 f4 f5⟩
 self:=fun _ _ _ _ _ st h=>wpAny_pyIter_striter_ascii st h
def z9F{P:Program}{w:World}{K:yyF}{tg:Expr}(it:Addr)(x:Str)(t:Tok):z9b P w K tg (Its x) [it] it (fun i h=>h.IsStrIter it "str_iterator" x t i) where
 mem:=by simp
 obj:=fun i h st b hb=>by
  have e:b=it:=by simpa using hb
  subst e;obtain⟨o,e,c,d⟩:=st;exact⟨o,e,fun v z=>by rw[d]at z;cases z⟩
 keep:=fun i h h' st k=>let⟨o,ho,r⟩:=st;⟨o,k it (by simp) o ho,r⟩
 item:=by intro X hP hw hK hc i pins s σ H E I hf st hg;subst hP hw hK;obtain⟨f0,f1,f2,f3,f4,f5⟩:=hf it (by simp);have hg':i<x.cps.size:=hg;refine wpAny_pyNext_wide_item st (c:=x.cps[i]) (by simp[hg']) fun h' st' sb=>?_;have I1:Inv X pins σ H { s with heap:=h',toks:=s.toks+1 }:=I.turned (t':=s.toks+1) (fun b o hb e=>(sb.2 b hb).trans e) f0 f1 f3 f4 f5;obtain⟨o,e,c,d⟩:=id st';exact⟨_,rfl,zb7 (s:={ s with heap:=h',toks:=s.toks+1 }) e c d (by decide) ⟨.str ⟨#[x.cps[i]]⟩,H,I1,⟨_,rfl⟩,⟨rfl,x.cps[i],by rw[zcR];simp[hg'],rfl⟩,st',fun b hb=>(hf b hb).1⟩⟩
 done:=by intro X hP hw hK hc i pins s σ H E I hf st hg;subst hP hw hK;obtain⟨f0,f1,f2,f3,f4,f5⟩:=hf it (by simp);exact wpAny_pyNext_wide_end (I.ok.hd hc) st (y2t hg) fun h' eb=>⟨rfl,I.turned (t':=s.toks) (fun b o hb e=>eb b o hb e) f0 f1 f3 f4 f5⟩
 self:=fun _ _ _ _ _ st h=>wpAny_pyIter_striter_wide st h
def zoR(tl:TE):TI:=fun σ H R=>tl σ H fun v H1=>∃x,v=.str x/\R (Its x) H1
section
variable{X:Cx}{tg:Expr}
def zeO{l:Expr}{tl:TE}(hl:PE X l tl):PI X tg l (zoR tl):=by
 intro pins s σ H R I h;refine z1w (hl pins s σ H _ I h) fun v s1 x H1 I1 r1 q1=>?_;obtain⟨z,e,q⟩:=q1;subst e;obtain⟨t,rfl⟩:=r1;have fp:∀b∈[s1.heap.objs.size],z43 X pins H1 b:=fun b hb=>by
  have e:b=s1.heap.objs.size:=by simpa using hb
  subst e;exact I1.fpOk (y0a _) (I1.hok.fresh (y0a _))
 cases ha:z.cps.all (· < 128)with
 |true=>exact wpAny_pyIter_ascii ha ⟨s1.heap.objs.size,[s1.heap.objs.size],_,_,H1,rfl,I1.kept (t':=s1.toks) fun b o e=>y03 _ e,z8Z _ z t,⟨_,y09 _ rfl,rfl,rfl⟩,fp,q⟩
 |false=>exact wpAny_pyIter_wide ha ⟨s1.heap.objs.size,[s1.heap.objs.size],_,_,H1,rfl,I1.kept (t':=s1.toks) fun b o e=>y03 _ e,z9F _ z t,⟨_,y09 _ rfl,rfl,rfl⟩,fp,q⟩
end
def zbA{x:Str}{l:Addr}{ix:List (Option Nat)}{g:TG}{te:TE}{σ:St}{H0:Hp}{Qe:Hp->Prop}(Pv:Nat->List V->Hp->Prop)(h0:Pv 0 [] H0)(hz:x.length<=sizeLine)(hn:∀i ys H,Pv i ys H->ys.length=i)(hs:∀i c ys H,(sg x)[i]?=some c->Pv i ys H->H l=some (.lst ys)->g (.str ⟨#[c]⟩) (z0L ix σ) H fun σ2 H2=>te σ2 H2 fun v H3=>H3 l=some (.lst ys)/\Pv (i+1) (ys++[v]) (upd H3 l (.lst (ys++[v]))))(hd:∀ys H,Pv x.length ys H->H l=some (.lst ys)->Qe H):z6I ix (Its x) g te σ l H0 Qe:=by refine z4H (n:=x.length) Pv h0 (fun i ys H hi p hy=>⟨hi,by rw[hn i ys H p];exact y0h hi hz,fun v H' y=>?_⟩) fun ys H p hy=>⟨y0a _,hd ys H p hy⟩;obtain⟨rfl,c,hc,rfl⟩:=y;exact hs i c ys _ hc p hy
theorem z6w:∀{xs:List Str}{us:List Value},z0J (xs.map V.str) us->∃l:List (Str × Tok),strValues l=us/\l.map (·.1)=xs
 |[],_,.nil=>⟨[],rfl,rfl⟩
 |x::xs,_,.cons r t=>by obtain⟨tk,rfl⟩:=r;obtain⟨l,rfl,rfl⟩:=z6w t;exact⟨(x,tk)::l,rfl,rfl⟩
section
variable{X:Cx}(K:yyF)
def z5N(hK:X.K=K):MtR X "str.join" (fun x vs H Q=>∃(y:Str) (p:Addr) (xs:List Str),x=.str y/\vs=[.ref p]/\SqL K H p (xs.map V.str)/\(xs.map (·.length)).sum+xs.length*y.length<=16777216/\Q (.str (Str.join y xs)) H):=by subst hK;intro pins s σ H x vs v us Q I rx r h;obtain⟨y,p,xs,rfl,rfl,hq,hz,q⟩:=h;obtain⟨t,rfl⟩:=rx;obtain⟨u,rfl,ru⟩:=z2E r;cases ru;obtain⟨its,rv,pl,_⟩:=I.list hq;obtain⟨l,rfl,rfl⟩:=z6w rv;refine SC.join pl.isList rfl (joinOk_of hz) fun t' k=>⟨.str _,H,I.tok _,⟨_,rfl⟩,?_⟩;rw[zdL];exact q
def z3S:z1s X (.type "str") (fun xs H Q=>∃(x:Str),xs=[.str x]/\Q (.str x) H):=by intro pins s σ H xs us Q I r h;obtain⟨x,rfl,q⟩:=h;obtain⟨u,rfl,t,rfl⟩:=z2E r;exact PySem.P.str_of_str ⟨.str x,H,I,⟨_,rfl⟩,q⟩
end
open PySem.W
section
variable{X:Cx}{pos:Pos}
end
open PySem.W (Frag nsIn)
def z4I(K:Frag)(a:Addr):Bool:=!(a==sysModules)&&match K.lookup a with
 |some o=>(o.cls == .type "dict")&&o.dict.isNone&&(o.slots == #[])&&(match o.data with|.dict es _=>es.all (fun e=>isExactStrKey e.key)|_=>false)
 |none=>false
def z8k{K:Frag}{a:Addr}(h:z4I K a=true):(a==sysModules)=false/\∃o es ep,K.lookup a=some o/\o.ExactDict/\o.data=.dict es ep/\(es.all fun e=>isExactStrKey e.key)=true:=by
 unfold z4I at h;rw[y13]at h;obtain⟨h1,h2⟩:=h;refine⟨by simpa using h1,?_⟩;cases hl:K.lookup a with
 |none=>rw[hl]at h2;cases h2
 |some o =>
  rw[hl]at h2;simp only[y13]at h2;obtain⟨⟨⟨c1,c2⟩,c3⟩,c4⟩:=h2;cases hd:o.data with
  |dict es ep=>rw[hd]at c4;exact⟨o,es,ep,rfl,⟨by simpa using c1,by simpa using c2,by simpa using c3⟩,hd,c4⟩
  |_=>rw[hd]at c4;cases c4
section
variable{prog:Program}{w:World}{A:Around}{E:yyE}{s:Shared}{K:Frag}{a:Addr}{x:Str}{tk:Tok}
def zi5{r:Option Value}{Q:Option Value->Shared->Prop}(hd:z4I K a=true)(hK:K.In s.heap)(hn:nsIn K a x=some r)(h:Q r { s with toks:=s.toks+1 }):wpAny (model prog w) A (dictGet a (.str x tk)) Q E s:=by
 obtain⟨_,o,es,ep,hl,hex,hdt,hall⟩:=z8k hd;have ho:=hK _ _ hl;unfold dictGet;try with_reducible refine y1i ?_
 refine y02 (wpAny_pyHash_str (y02 (KTD.kt_dictFind_strs (s:={ s with toks:=s.toks+1 }) ho hdt hall ?_)));have hf:findBy (fun k v=>v.isStr k) es x=r:=by
  have e1:findBy (fun k v=>v.isStr k) es x=(es.toList.find? fun e=>e.key.isStr x).map (·.val):=by obtain⟨l⟩:=es;simp[findBy]
  rw[e1];unfold nsIn at hn;obtain⟨cl,dc,dt,sl⟩:=o;have hdt':dt=.dict es ep:=hdt;subst hdt';rw[hl]at hn;dsimp only at hn;cases hq:es.toList.find? fun e=>e.key.isStr x with
  |none =>
   rw[hq]at hn;dsimp only at hn;split at hn
   .cases hn
   .exact y0d hn
  |some e=>rw[hq]at hn;exact y0d hn
 rw[findBy_of_findIdx?]at hf;cases hi:es.findIdx? fun e=>e.key.isStr x with
 |none=>rw[hi]at hf;exact y07 (by rw[<-hf]at h;exact h)
 |some i=>rw[hi]at hf;exact y02 (wpAny_dictEntries (s:={ s with toks:=s.toks+1 }) ho hdt (y07 (by rw[<-hf]at h;exact h)))
def zfX(hd:z4I K a=true)(hK:K.In s.heap):s.TypeIs (.ref a) "dict":=by obtain⟨_,o,es,ep,hl,hex,hdt,hall⟩:=z8k hd;exact⟨o,hK _ _ hl,hex.1⟩
def z9y{v:Value}{Q:yyE}(hd:z4I K a=true)(hK:K.In s.heap)(hn:nsIn K a x=some (some v))(h:Q v { s with toks:=s.toks+1 }):wpAny (model prog w) A (getItem (.ref a) (.str x tk)) Q E s:=by
 have T:=zfX hd hK;unfold getItem;try with_reducible refine y1i ?_
 refine y02 (wpAny_sequenceKey T (by decide) ?_);refine y02 (y11 (name:=Str.ofString "__getitem__") T slot_dict_getitem
  (y1d slot_dict_getitem T entry_dict_getitem ?_ (args_dict_getitem _ _)))
 show wpAny _ _ (dictGet a (.str x tk)>>=_) _ _ s;exact y02 (zi5 hd hK hn (y07 ⟨v,rfl,y07 h⟩))
end
def zfU(K:Frag)(td ty:TE):TE:=fun σ H Q=>td σ H fun x H1=>ty σ H1 fun y H2=>∃a z v u,x=.ref a/\z4I K a=true/\y=.str z/\nsIn K a z=some (some u)/\z0U v u/\Q v H2
section
variable{X:Cx}{o i:Expr}{td ty:TE}{pos:Pos}
def Inv.inK{pins:yyP}{σ:St}{H:Hp}{s:Shared}(I:Inv X pins σ H s):X.K.In s.heap:=fun a o e=>I.kIn a o e
def z80(ho:PE X o td)(hi:PE X i ty)(hs:zfq i):PE X (.Subscript o i pos) (zfU X.K td ty):=by intro pins s σ H Q I h;refine z7h y2a.lookup hs (thn (ho pins s σ H _ I h) fun u s1 ⟨x,H1,I1,rx,q1⟩=>thn (hi pins s1 σ H1 _ I1 q1) fun iv s2 hz8=>?_);obtain⟨y,H2,I2,ry,a,z,v,w,ex,hd,ey,hn,rv,q2⟩:=hz8;subst ex ey;obtain rfl:u=Value.ref a:=rx;obtain⟨t,rfl⟩:=ry;exact⟨zfX hd I2.inK,z9y hd I2.inK hn ⟨v,H2,I2.tok _,rv,q2⟩⟩
end
def zg5(K:Frag)(a:Addr)(xs:List Str):Bool:=match K.lookup a with
 |some ⟨.type "tuple",_,.seq its _,_⟩=>decide (its.toList.length=xs.length)&&(its.toList.zip xs).all fun p=>p.1.isStr p.2
 |_=>false
def zcF{v:Value}{x:Str}(h:v.isStr x=true):z0U (.str x) v:=KTD.kt_isStr h
theorem z8a:∀{us:List Value}{xs:List Str},us.length=xs.length->((us.zip xs).all fun p=>p.1.isStr p.2)=true->z0J (xs.map V.str) us
 |[],[],_,_=>.nil
 |u::us,x::xs,h,ha=>by rw[List.zip_cons_cons,List.all_cons,y13]at ha;exact .cons (zcF ha.1) (z8a (by simpa using h) ha.2)
def z9A{K:Frag}{a:Addr}{xs:List Str}(h:zg5 K a xs=true)(hz:xs.length<=1000)(H:Hp):SqT K H a (xs.map V.str):=by
 unfold zg5 at h;split at h
 .rename_i dc its n sl hl;rw[y13]at h;have h1:=y0l h.1;refine .inr ⟨_,its,n,hl,rfl,rfl,?_,z8a h1 h.2⟩;rw[y1Q]at h1;rw[h1];exact y0w hz (by decide)
 .cases h
def zeS(X:Cx)(CX:CXT)(k i:Nat)(t:TA):TE:=fun σ H Q=>∃(f:Addr)(fd:FuncData)(ps:List Str)(sp:Sp)(E:XK),σ[i]?=some (some (.ref f))/\z0u X.prog X.w X.K X.mg X.base CX k f fd ps sp/\z0i X.K fd ps []/\PySem.W.keepIn X.K (.ref f)=true/\z2t CX X E/\t σ H fun vs H1=>sp vs H1 Q E
section
variable{X:Cx}{CX:CXT}{k:Nat}{x:Str}{p pos:Pos}{e:Expr}{es:List Expr}{t:TA}
def zcz(i:Nat)(hr:z2F k X.A)(ha:PA X (e::es) t)(hN:X.N[i]?=some x:=by rfl)(hv:Vis X.env.scope x:=by first|exact Or.inl rfl|exact Or.inr (Or.inl rfl)|exact Or.inr (Or.inr rfl))(hd:(x==("__debug__":Str))=false:=by decide)(hcd:(x==("__classdict__":Str))=false:=by decide)(he:starEach (e::es) X.env=(false,eval e X.env)::starEach es X.env:=by rfl)(hpl:(backTo pos (starEach es X.env)).any (·.1)=false:=by rfl) : PE X (.Call (.Name x p) (e::es) [] pos) (zeS X CX k i t):=by intro pins s σ H Q I h;obtain⟨f,fd,ps,sp,E,ef,F,hb,hk,hx,h⟩:=h;refine y1s (z1w (z9t hN hv hd hcd pins s σ H (fun v H1=>v=.ref f/\H1=H) I ⟨_,ef,rfl,rfl⟩) fun u s1 v H1 I1 r1 hz9=>?_);obtain⟨hv1,hH1⟩:=hz9;subst hv1 hH1;cases r1;refine y1X (h₀:=X.base) I1.ok.mod.kin hk (thn (ha pos pins s1 σ H1 _ I1 h) fun us s2 ⟨vs,H2,I2,r,q⟩=>⟨I2.kIn,?_⟩) he hpl;exact z9Z F hr hb .nil hx I2 r (by rw[y1A];exact q)
end
open PySem.W.KIN (signs_num val_back)
def zdl(n:Nat):Str:=Str.ofString (toString ((n:Nat):Int))
def z8h(n:Nat):sg (zdl n)=(Nat.toDigits 10 n).map Char.toNat:=signs_num n
def z5Q(n:Nat):∀c∈sg (zdl n),48<=c/\c<=57:=fun c hc=>by rw[z8h]at hc;obtain⟨ch,hch,e⟩:=y0e.mp hc;have r:=PyProof.Rows.digit_range (Nat.isDigit_of_mem_toDigits (by decide) (by decide) hch);rw[<-e];exact r
section
variable{prog:Program}{w:World}{A:Around}{E:yyE}{s:Shared}{α:Type}{kf:Keyed->α}{lt:α->α->Bool}{kd:SortKind}{S:List Keyed}
end
section
variable{α:Type}(kf:Keyed->α)(lt:α->α->Bool)
end
section
variable{α:Type}{kf:Keyed->α}{lt:α->α->Bool}
end
section
variable{prog:Program}{w:World}{A:Around}{E:yyE}{s:Shared}{α:Type}{kf:Keyed->α}{lt:α->α->Bool}{kd:SortKind}{S:List Keyed}
end
section
variable{α:Type}{kf:Keyed->α}{lt:α->α->Bool}
end
section
variable{prog:Program}{w:World}{A:Around}{E:yyE}{s:Shared}{α:Type}{kf:Keyed->α}{lt:α->α->Bool}{kd:SortKind}{S:List Keyed}
def KA(xs:Array Keyed)(i:Nat):α:=kf (xs[i]?.getD (.none,.none))
end
section
variable{α:Type}{kf:Keyed->α}{lt:α->α->Bool}{kd:SortKind}{p0:Array (Nat × Nat × Nat)}{a₀:Array Keyed}{lo hi:Nat}{st:SortSt}
end
section
variable{prog:Program}{w:World}{A:Around}{E:yyE}{s:Shared}{α:Type}{kf:Keyed->α}{lt:α->α->Bool}{kd:SortKind}{S:List Keyed}{p0:Array (Nat × Nat × Nat)}{a₀:Array Keyed}{lo hi:Nat}
end
section
variable{prog:Program}{w:World}{A:Around}{E:yyE}{s:Shared}{α:Type}{kf:Keyed->α}{lt:α->α->Bool}{kd:SortKind}{S:List Keyed}{p0:Array (Nat × Nat × Nat)}{a₀:Array Keyed}{lo hi:Nat}
end
section
variable{prog:Program}{w:World}{A:Around}{E:yyE}{s:Shared}{α:Type}{kf:Keyed->α}{lt:α->α->Bool}{kd:SortKind}{S:List Keyed}
end
def zjr:Nat->List (List Keyed)->List (Nat × Nat)
 |_,[]=>[]
 |off,r::rs=>(off,r.length)::zjr (off+r.length) rs
section
variable{α:Type}{kf:Keyed->α}{lt:α->α->Bool}{kd:SortKind}
end
section
variable{prog:Program}{w:World}{A:Around}{E:yyE}{s:Shared}{α:Type}{kf:Keyed->α}{lt:α->α->Bool}{kd:SortKind}{S:List Keyed}
end
section
variable{X:Cx}{e st:Expr}{te ts:TE}{pos p2:Pos}
end
end L2
namespace Gu
open PySem L2
def lit(n:Int):Nat->Int->List Int
 |0,_=>[]
 |k+1,x=>x%n::lit n k (x/n)
def fits(n:Nat)(one:List Row)(m:Nat):Prop:=∀i,i<=m->(pw n one i).length<=60
def ziL{α:Type}{us:List α}(h:us.length=1):∃a,us=[a]:=by
 cases us with
 |nil=>cases h
 |cons a r =>
  cases r with
  |nil=>exact⟨a,rfl⟩
  |cons _ _=>simp at h
def zgh{α:Type}{us:List α}(h:us.length=2):∃a b,us=[a,b]:=by
 cases us with
 |nil=>cases h
 |cons a r =>
  obtain⟨b,rfl⟩:=ziL (show r.length=1 by simpa using h);exact⟨a,b,rfl⟩
def zl1{α:Type}{us:List α}(h:us.length=3):∃a b c,us=[a,b,c]:=by
 cases us with
 |nil=>cases h
 |cons a r =>
  obtain⟨b,c,rfl⟩:=zgh (show r.length=2 by simpa using h);exact⟨a,b,c,rfl⟩
section
variable(P:Program)(w:World)(K:yyF)(mg:yyS)(base:Heap)(CX:CXT)(k:Nat)
def z7a(Cm:V->Addr->Hp->List Row->Prop):Sp:=fun vs H Q _=>∃(f:Addr)(v0:V)(n:Nat)(rows:List Row),vs=[v0,.ref f]/\Cm v0 f H rows/\z1b n rows/\n<=60/\∀(r:Addr)(H':Hp),z08 H H'->z1D K H' r (z0z rows)->Q (.ref r) H'
def z5F(Cm:V->Addr->Hp->List Row->Prop)(Ct:Addr):Sp:=fun vs H Q E=>∃(f:Addr)(v0:V)(n:Nat)(rows:List Row),vs=[v0,.ref f]/\Cm v0 f H rows/\z1b n rows/\n<=60 /\
 ((shr rows).length<=60->z5L K H Q (D.tup (z0x (shr rows))))/\(60<(shr rows).length->TMx Ct E H)
def CmF:V->Addr->Hp->List Row->Prop:=fun v0 f H rows=>∃nm:Int->Int,v0=.int (nm 0)/\(∀x y,nm x=nm y->x=y)/\z3b P w K mg base CX k H f (zcj K rows nm)
end
section
variable{P:Program}{w:World}{K:yyF}{mg:yyS}{base:Heap}{CX:CXT}{k:Nat}{Ct:Addr}
def zfH(vs:List V)(H:Hp)(Q:VK)(E:XK)(h:z7a K (CmF P w K mg base CX k) vs H Q E):z7o P w K mg base CX k vs H Q E:=by obtain⟨f,v0,n,rows,rfl,⟨nm,rfl,ni,hV⟩,G,hn,q⟩:=h;exact⟨f,n,rows,nm,rfl,ni,hV,G,hn,q⟩
def zdu(vs:List V)(H:Hp)(Q:VK)(E:XK)(h:z5q P w K mg base CX k Ct vs H Q E):z5F K (CmF P w K mg base CX k) Ct vs H Q E:=by obtain⟨f,n,rows,nm,rfl,ni,hV,G,hn,q⟩:=h;exact⟨f,_,n,rows,rfl,⟨nm,rfl,ni,hV⟩,G,hn,q⟩
end
end Gu
namespace L2
open PySem PySem.Spec PyProof.Rows
section
variable{prog:Program}{w:World}{A:Around}{R:Result->Shared->Prop}{s:Shared}
end
section
variable{X:Cx}{pins:yyP}{σ:St}{H:Hp}{s:Shared}{N:List Str}{ix:List (Option Nat)}{scope:Scope}{elt iter tg cx:Expr}{pos:Pos}{g:TG}{tt:TT}{te:TE}{E:yyE}
end
section
variable{X:Cx}{pins:yyP}{σ:St}{H:Hp}{s:Shared}{N:List Str}{ix:List (Option Nat)}{scope:Scope}{elt iter tg cx:Expr}{pos:Pos}{te:TE}{E:yyE}
end
section
variable{X:Cx}{CX:CXT}{k:Nat}{f C:Addr}{fd:FuncData}{ps:List Str}{sp:Sp}{dvs:List V}{ds:List Value}{E:XK}{x m:Str}{p pos apos:Pos}{e o:Expr}{es:List Expr}{ta:TE}{t:TA}{σ0:St}
end
def zc6{X:Cx}{st:List Stmt}:PSs X st (fun _ _ _=>False):=fun _ _ _ _ _ _ h=>h.elim
open PySem.SeqAt
open PySem.AutoSeq1 (wpAny_loadPart')
section
variable{X:Cx}(K:yyF)
end
def Ris(xs:Array Nat):Prop:=xs.toList.Pairwise (· < ·)
section
variable{M:Model}{A:Around}{E:yyE}
end
def zoP(w:World):Bool:=!w.params.followText "set-order"
structure Sit(prog:Program)(w:World)(es:Array (Int × Value))(t:SetTable)(ks:List Int):Prop where
 elems:ElemsOf (intKind prog w) es.toList
 keysI:IntsAre (es.toList.map (·.2)) ks
 fits:t.fits es.size=true
 led:t.led=zoP w
 ris:Ris t.place
def zpp(prog:Program)(w:World)(h:Heap)(a:Addr)(ks:List Int):Prop :=
 ∃o es ep t,h.get? a=some o/\o.ExactSet/\o.data=.set es ep t/\Sit prog w es t ks
section
variable{prog:Program}{w:World}{A:Around}{E:yyE}{s:Shared}
end
section
variable{prog:Program}{w:World}{A:Around}{R:Result->Shared->Prop}{I:Addr}{fp wr:List Addr}{G:Array GenState->Array GenState->Prop}{n:Nat}{P:Nat->Value->Prop}{St:Nat->Shared->Prop}
end
section
variable{prog:Program}{w:World}{A:Around}{E:yyE}{s:Shared}
end
namespace SF
end SF
section
variable{prog:Program}{w:World}{A:Around}{E:yyE}{s:Shared}{it a:Addr}{es:Array (Int × Value)}{ep:Nat}{t:SetTable}{i:Nat}
end
end L2
namespace L2
open PySem PySem.Spec PyProof.Rows
section
variable{prog:Program}{w:World}{A:Around}{E:yyE}{s:Shared}{it a:Addr}{es:Array (Int × Value)}{ep:Nat}{t:SetTable}{i:Nat}
end
section
variable{prog:Program}{w:World}{A:Around}{es:Array (Int × Value)}{ep:Nat}{t:SetTable}
end
section
variable{prog:Program}{w:World}{A:Around}{E:yyE}{s:Shared}{it a:Addr}{es:Array (Int × Value)}{ep:Nat}{t:SetTable}{i:Nat}
end
section
variable{prog:Program}{w:World}{A:Around}{E:yyE}{s:Shared}{a:Nat}{es:Array (Int × Value)}{ep:Nat}{t:SetTable}
end
open PySem.SeqAt
open PySem.AutoSeq1 (wpAny_loadPart')
def zpt(P:Program)(w:World)(a:Addr)(ks:List Int):HO:=.ext fun h=>zpp P w h a ks
section
variable{X:Cx}(K:yyF)
end
open PySem.AutoSeq1 (wpAny_loadPart')
section
variable{prog:Program}{w:World}{A:Around}{E:yyE}{s:Shared}{α:Type}{kf:Keyed->α}{lt:α->α->Bool}{kd:SortKind}
end
end L2
namespace Gu
open PySem L2
def zeP{K:yyF}{a:Addr}{xs:List V}{g:TG}{tb:TS}{D:z3Z}{σ:St}{H:Hp}(Pv:Nat->St->Hp->Prop)(h0:Pv 0 σ H)(hl:∀i σ H,i<=xs.length->Pv i σ H->SqL K H a xs)(hs:∀i x σ H,xs[i]?=some x->Pv i σ H->∀Ed:z3Z,(∀σ' H',Pv (i+1) σ' H'->Ed.nx σ' H')->g x σ H fun σ2 H2=>tb Ed σ2 H2)(hd:∀σ H,Pv xs.length σ H->D.nx σ H) : ∃W:Nat->Nat->St->Hp->Prop,(∃m,W 0 m σ H)/\∀i m σ H,W i m σ H -> ((Itl K a).stop i H/\D.nx σ H)\/((Itl K a).go i H/\∃N:St->Hp->Prop,(∀σ' H',N σ' H'->∃m',m'<m/\W (i+1) m' σ' H')/\∀x H',(Itl K a).yld i H x H'->g x σ H' fun σ2 H2=>tb { D with nx:=N,ct:=N,bk:=D.nx } σ2 H2) :=
 z7N Pv h0 hl (fun i x σ H hx p=>hs i x σ H hx p _ fun _ _ z=>z) hd
def zob{K:yyF}{a:Addr}{xs:List V}{g:TG}{tb:TS}{D:z3Z}{σ:St}{H:Hp}(Pv:Nat->St->Hp->Prop)(h0:Pv 0 σ H)(hl:∀i σ H,i<=xs.length->Pv i σ H->SqT K H a xs)(hs:∀i x σ H,xs[i]?=some x->Pv i σ H->∀Ed:z3Z,(∀σ' H',Pv (i+1) σ' H'->Ed.nx σ' H')->g x σ H fun σ2 H2=>tb Ed σ2 H2)(hd:∀σ H,Pv xs.length σ H->D.nx σ H) : ∃W:Nat->Nat->St->Hp->Prop,(∃m,W 0 m σ H)/\∀i m σ H,W i m σ H -> ((Itt K a).stop i H/\D.nx σ H)\/((Itt K a).go i H/\∃N:St->Hp->Prop,(∀σ' H',N σ' H'->∃m',m'<m/\W (i+1) m' σ' H')/\∀x H',(Itt K a).yld i H x H'->g x σ H' fun σ2 H2=>tb { D with nx:=N,ct:=N,bk:=D.nx } σ2 H2) :=
 zdz Pv h0 hl (fun i x σ H hx p=>hs i x σ H hx p _ fun _ _ z=>z) hd
def zfI{W:Nat->St->Hp->Prop}{m:Nat}{T:(St->Hp->Prop)->Prop}(h:∀N:St->Hp->Prop,(∀m' σ' H',m'<m->W m' σ' H'->N σ' H')->T N):∃N:St->Hp->Prop,(∀σ' H',N σ' H'->∃m',m'<m/\W m' σ' H')/\T N :=
 ⟨fun σ' H'=>∃m',m'<m/\W m' σ' H',fun _ _ z=>z,h _ fun m' σ' H' a b=>⟨m',a,b⟩⟩
def zdg{lo:Int}{n:Nat}{g:TG}{tb:TS}{D:z3Z}{σ:St}{H:Hp}(Pv:Nat->St->Hp->Prop)(h0:Pv 0 σ H)(hs:∀i σ H,i<n->Pv i σ H->∀Ed:z3Z,(∀σ' H',Pv (i+1) σ' H'->Ed.nx σ' H')->g (.int (lo+i)) σ H fun σ2 H2=>tb Ed σ2 H2)(hd:∀σ H,Pv n σ H->D.nx σ H) : ∃W:Nat->Nat->St->Hp->Prop,(∃m,W 0 m σ H)/\∀i m σ H,W i m σ H -> ((Itr lo n).stop i H/\D.nx σ H)\/((Itr lo n).go i H/\∃N:St->Hp->Prop,(∀σ' H',N σ' H'->∃m',m'<m/\W (i+1) m' σ' H')/\∀x H',(Itr lo n).yld i H x H'->g x σ H' fun σ2 H2=>tb { D with nx:=N,ct:=N,bk:=D.nx } σ2 H2) :=
 z6P Pv h0 (fun i σ H hi p=>hs i σ H hi p _ fun _ _ z=>z) hd
def zoV{c:TT}{tb:TS}{D:z3Z}{σ:St}{H:Hp}(Post:St->Hp->Prop)(h1:∀Ed:z3Z,(∀σ' H',Post σ' H'->Ed.nx σ' H')->z7K c tb Ed σ H)(h2:∀σ' H',Post σ' H'->D.nx σ' H'):z7K c tb D σ H:=h1 D h2
def zbr{t1 t2:TS}{D:z3Z}{σ:St}{H:Hp}(Post:St->Hp->Prop)(h1:∀Ed:z3Z,(∀σ' H',Post σ' H'->Ed.nx σ' H')->t1 Ed σ H)(h2:∀σ' H',Post σ' H'->t2 D σ' H'):zex t1 t2 D σ H:=h1 _ h2
def fuL:List Int->List Int->Nat
 |a::as,b::bs=>if a=b then fuL as bs+1 else 0
 |_,_=>0
def pgo(m:Nat)(R S:Row):List Int:=(List.range R.2.length).map fun k=>R.2.getD k 0*(m:Int)+S.2.getD k 0
def prM(one other:List Row):List Row:=(z0s (one.length*other.length)).map fun c=>((row one (c/(other.length:Int))).1,pgo other.length (row one (c/(other.length:Int))) (row other (c%(other.length:Int))))
def zdE(w:List Int):List Int->List (List Int)->Nat->List Int->List (List Int)
 |_,ws,_,[]=>ws
 |o,ws,k,g::gs=>if g∈o then zdE w o ws (k+1) gs else zdE w (o++[g]) (ws++[w++[(k:Int)]]) (k+1) gs
def pb(one other:List Row):Nat->List Int->List (List Int)->Nat->Option (List Int)
 |0,_,_,_=>none
 |f+1,o,ws,i=>match o[i]?,ws[i]? with
  |some c,some w=>if(row one (c/(other.length:Int))).1=(row other (c%(other.length:Int))).1 then pb one other f (z0b o (row (prM one other) c).2) (zdE w o ws 0 (row (prM one other) c).2) (i+1)
   else some (w++[((fuL (row one (c/(other.length:Int))).1 (row other (c%(other.length:Int))).1:Nat):Int)])
  |_,_=>none
def zgD(one other:List Row):Option (List Int):=pb one other (one.length*other.length+1) [0] [[]] 0
end Gu
namespace L2
open PySem PySem.Spec PyProof.Rows
section
variable{prog:Program}{w:World}{A:Around}{E:yyE}{s:Shared}{z TI TO i1 i2:Addr}{fp1 fp2:List Addr}{n1 n2:Nat}{P1 P2:Nat->Value->Prop}{S1 S2:Nat->Heap->Prop}
end
section
variable{X:Cx}{elts:List Expr}{tk:Nat}{tp:Pos}
end
end L2
namespace Gu
open PySem L2
end Gu
namespace L2
open PySem PySem.Spec PyProof.Rows
variable{X:Cx}
end L2
namespace Gu
open PySem L2
end Gu
namespace L2
open PySem PySem.Spec PyProof.Rows
section
variable{prog:Program}{w:World}{A:Around}{R:Result->Shared->Prop}{s:Shared}
end
section
variable{X:Cx}{pins:yyP}{σ:St}{H:Hp}{s:Shared}{N:List Str}{ix:List (Option Nat)}{scope:Scope}{elt iter tg iter2 tg2:Expr}{pos:Pos}{g g2:TG}{wi2:TI}{te:TE}{E:yyE}
end
end L2
namespace Gu
open PySem L2
def zgA(M:List Row)(e:Row):Nat->Int
 |0=>goW M 0 e.1
 |t+1=>goW M (zgA M e t) e.2
def zpu(M:List Row)(e:Row)(t:Nat):List (List Int):=(List.range t).map fun j=>zlr M (zgA M e j) e.2
def zaM(xs:List V)(k:Nat)(h:k<=xs.length):z4Z xs (some (k:Int)) none=xs.drop k:=by unfold z4Z;rw[HT.sIx_none,HT.sIx_nat,y2Q h];exact y0s (by rw[y1R];exact y0a _)
end Gu
namespace L2
open PySem PySem.Spec PyProof.Rows PySem.SeqAt
section
variable{X:Cx}
end
open PySem.AutoSeq1 (wpAny_loadPart')
section
variable{X:Cx}
end
end L2
namespace Gu
open PySem L2
def zc7{n:Nat}(h:n<=1000000):n<=sizeLine:=y0w h (by decide)
def kI:Int->Key:=fun a=>Sum.inl a
def seen(M:List Row)(e:Row)(t:Nat):List Int:=(List.range t).map (zgA M e)
end Gu
namespace L2
open PySem PySem.Spec PyProof.Rows PySem.SeqAt
section
variable{X:Cx}(K:yyF)
end
end L2
namespace Gu
open PySem L2
def zpj{a b:TS}{D:z3Z}{σ:St}{H:Hp}(h:∀R:TS,R=b->zex a R D σ H):zex a b D σ H:=h b rfl
def atR{R b:TS}{D:z3Z}{σ:St}{H:Hp}(e:R=b)(h:b D σ H):R D σ H:=by rw[e];exact h
def StR(n:Nat)(M:List Row)(r:Int):Prop:=row M r=(z0s n,List.replicate n r)
instance(n:Nat)(M:List Row)(r:Int):Decidable (StR n M r):=inferInstanceAs (Decidable (_=_))
def zfw(M:List Row)(rs:List Int):List Int:=z0B (rs.flatMap fun r=>(row M r).2)
def mvF(n:Nat)(M:List Row)(rs:List Int):List Int:=rs.filter fun r=>!decide (StR n M r)
def mvs(n:Nat)(M:List Row):Nat->List Int
 |0=>[0]
 |k+1=>zfw M (mvF n M (mvs n M k))
def dlp(n:Nat)(M:List Row):Nat->Nat->Option Nat
 |0,_=>none
 |f+1,k=>if mvF n M (mvs n M k)=[]then some k else dlp n M f (k+1)
def dep(n:Nat)(M:List Row):Option Nat:=dlp n M M.length 0
def Lp(n:Nat)(M:List Row)(r:Int):Prop:=∃v,v≠[]/\LW n v/\goW M r v=r
noncomputable def lpB(n:Nat)(M:List Row)(j:Nat):Bool:=@decide (Lp n M (j:Int)) (Classical.propDecidable _)
noncomputable def zoU(n:Nat)(M:List Row)(i:Nat):List (List Row):=((List.range i).filter (lpB n M)).map fun(j:Nat)=>shr (swM M (j:Int))
end Gu
namespace L2
open PySem PySem.Spec PyProof.Rows
section
variable{X:Cx}
end
section
variable{prog:Program}{w:World}{A:Around}{R:Result->Shared->Prop}{s:Shared}
def z7j{kx vx tg iter:Expr}{scope:Scope}{pos:Pos}{it:Value}{d:Addr}{env:Env}(I:Nat->Shared->Prop)
  (z4N:∀n s,I n s->wpAny (model prog w) A (pyNext it) (fun r s1=>match r with
   |none=>R (.ok .next) s1
   |some v=>wpAny (model prog w) A (letOwnedTupleGo tg it v) (fun _ s2=>wpAny (model prog w) A (assign tg env v) (fun _ s3=>wpAny (model prog w) A (eval kx env) (fun x s4=>wpAny (model prog w) A (eval vx env) (fun y s5 =>
     wpAny (model prog w) A (dictSet d x y) (fun _ s6=>∃m,m<n/\I m s6) noE s5) noE s4) noE s3) noE s2) noE s1) noE s)
  (n:Nat) (h:I n s):codeAny (model prog w) A (.compLoop (.DictComp kx vx [⟨tg,iter,[],0⟩] scope pos) 0 it (.ref d) env) R s:=by
 have no:∀(P:yyE)(a:Value)(b:Shared),noE a b->P a b:=fun _ _ _ z=>False.elim z;refine codeAny_loop rfl I (fun n s hI=>?_) n h;show wpAny _ _ ((compTurn (.DictComp kx vx [⟨tg,iter,[],0⟩] scope pos) 0 it (.ref d) env).onRaise
  (fun x=>do noteFrame x env;theTreesLotGoes x)) _ _ s
 refine wpAny_noted ?_;rw[compTurn_dict];refine y02 (y1w (y02 (y0B (z4N n s hI) (fun r s1 h1=>?_) (no _))));cases r with
 |none=>exact y07 h1
 |some v =>
  refine y02 (y0B h1 (fun _ s2 h2=>?_) (no _));refine y02 (y0B h2 (fun _ s3 h3=>?_) (no _));refine y02 (y07 ?_);exact y02 (y02 (y0B h3 (fun x s4 h4=>y02 (y1i (y0B h4 (fun y s5 h5=>y02 (y1w (y1i (y0B h5 (fun _ s6 h6=>y07 ⟨rfl,h6⟩) (no _))))) (no _)))) (no _)))
end
def zaU(ix:List (Option Nat))(J:It)(g:TG)(tk tv:TE)(σ:St)(l:Addr)(H0:Hp)(Qe:Hp->Prop):Prop :=
 ∃W:Nat->Nat->List (Key × V)->Hp->Prop,(∃m,W 0 m [] H0)/\∀i m ys H,W i m ys H->H l=some (.dK ys) ->
  (J.stop i H/\Qe H)\/(J.go i H/\ys.length<sizeLine/\∃N:List (Key × V)->Hp->Prop,(∀zs H',N zs H'->∃m',m'<m/\W (i+1) m' zs H')/\∀x H',J.yld i H x H'->g x (z0L ix σ) H' fun σ2 H2=>tk σ2 H2 fun y H3=>tv σ2 H3 fun v H4 =>
   ∃k,y=kV k/\H4 l=some (.dK ys)/\N (z1X ys k v) (upd H4 l (.dK (z1X ys k v))))
def zf6(ix:List (Option Nat))(wi:TI)(g:TG)(tk tv:TE):TE:=fun σ H Q=>wi σ H fun J H1=>∀l,H1 l=none->zaU ix J g tk tv σ l (upd H1 l (.dK [])) fun H'=>Q (.ref l) H'
section
variable{X:Cx}{pins:yyP}{σ:St}{H:Hp}{s:Shared}{N:List Str}{ix:List (Option Nat)}{scope:Scope}{kx vx iter tg:Expr}{pos:Pos}{g:TG}{tk tv:TE}{E:yyE}
def zaE{a:Addr}{kvs:List (Key × V)}{k:Key}{u r:Value}{v:V}{A:Around}{Q:Unit->Shared->Prop}(I:Inv X pins σ H s)(e:H a=some (.dK kvs))(hl:kvs.length<sizeLine)(ry:z0U (kV k) u)(rv:z0U v r)(h:∀s',Inv X pins σ (upd H a (.dK (z1X kvs k v))) s'->Q () s') : wpAny (model X.prog X.w) A (dictSet a u r) Q E s:=by
 obtain⟨z,hd,vs,rel,dd⟩:=zdX I.hok e;have hz:vs.length<=sizeLine:=by rw[<-rel.length];exact z
 have hl:(z1X kvs k v).length<=sizeLine:=by have:=z1v kvs k v;lia
 refine wpAny_dictSet_pairs (hsz:=hz) (z6b ry) dd fun h' dd' hs=>h _ ?_;have he:∃q,h'.get? a=some q:=let⟨q,_,_,hq,_⟩:=dd';⟨q,hq⟩;exact z3A I (by rw[e];exact y1m) hs he (z9j hl hd (rel.put k rv) dd')
def z74{it:Addr}{fp:List Addr}{tn:Nat->Heap->Prop}{J:It}{Qe:Addr->Hp->Prop}{RR:Value->Addr->Result->Shared->Prop}(hc:X.calm=true)(S:z0X X.N X.env.scope N ix scope)(hg:∀cl C ex s H,PG (z0q X N scope cl C ex s H) tg g)(hk:∀cl C ex s H,PE (z0q X N scope cl C ex s H) kx tk)(hv:∀cl C ex s H,PE (z0q X N scope cl C ex s H) vx tv)(I:Inv X pins σ H s)(T:z9b X.prog X.w X.K tg J fp it tn)(st:tn 0 s.heap)(hf:∀b∈fp,z43 X pins H b)(hw:∀l,H l=none->zaU ix J g tk tv σ l (upd H l (.dK [])) (Qe l))(hRR:∀l C s' H' m,s'.heap.Ns C m->Inv X pins σ H' s'->z43 X pins H' C->Qe l H'->RR (.ref l) C (.ok .next) s') : wpAny (model X.prog X.w) X.A newDict (fun acc s3=>wpAny (model X.prog X.w) X.A (newFunctionEnv scope X.env.globals (z0m X.env.cells scope.names []) [] X.env.qual none .none (some X.env)) (fun cenv s4 => codeAny (model X.prog X.w) X.A (.compStart (.DictComp kx vx [⟨tg,iter,[],0⟩] scope pos) 0 (.ref it) acc { cenv with scope:=relabel scope X.env }) (RR acc cenv.locals) s4) E s3) E s:=by
 have hlt:∀b∈fp,b<s.heap.objs.size:=fun b hb=>by obtain⟨o,e,_⟩:=T.obj 0 s.heap st b hb;exact y0b e
 have hl0:H s.heap.objs.size=none:=I.fresh;obtain⟨W,⟨m0,w0⟩,z4N⟩:=hw s.heap.objs.size hl0;refine y0P ?_;generalize hs3:({ s with heap:=s.heap.push { cls:=.type "dict",data:=.dict #[] } }:Shared)=s3;have I3:Inv X pins σ (upd H s.heap.objs.size (.dK [])) s3:=by rw[<-hs3];exact I.laid (a:=s.heap.objs.size) (o:=.dK []) (t':=s.toks) (fun _ _ q=>y03 _ q) (y0a _) (z7D s.heap I.big)
 have k3:∀b o,s.heap.get? b=some o->s3.heap.get? b=some o:=fun b o e=>by rw[<-hs3];exact y03 _ e
 have sz3:s3.heap.objs.size=s.heap.objs.size+1:=by rw[<-hs3];exact y1g ..
 have lnfp:s.heap.objs.size∉fp:=fun hb=>y1c _ (hlt _ hb);have st3:tn 0 s3.heap:=T.keep 0 _ _ st fun b _ o e=>k3 b o e;have hf3:∀b∈fp,z43 X pins (upd H s.heap.objs.size (.dK [])) b:=fun b hb=>by obtain⟨f0,f⟩:=hf b hb;have nb:b≠s.heap.objs.size:=fun e=>lnfp (by rw[<-e];exact hb);exact⟨by rw[z04 nb];exact f0,f⟩
 have hlt3:∀b∈fp,b<s3.heap.objs.size:=fun b hb=>by rw[sz3];exact y2w (hlt b hb)
 clear hs3;refine y28 S.nocell (by intro y hy;simp at hy) (fun h1 hn1 hb1=>?_) S.kind;have hk1:∀b o,s3.heap.get? b=some o->h1.get? b=some o:=fun b o e =>
  (hb1.2 b (y0q (y0b e))).trans (y03 _ e)
 have J0:Inv (z0q X N scope (z0m X.env.cells scope.names []) s3.heap.objs.size fp s3 (upd H s.heap.objs.size (.dK []))) [] (z0L ix σ) (upd H s.heap.objs.size (.dK [])) { s3 with heap:=h1,toks:=s3.toks+([]:List (Str × Value)).length } :=
  z5E I3 S rfl hf3 hlt3 hn1 hk1
 have st1:tn 0 h1:=T.keep 0 _ _ st3 fun b _ o e=>hk1 b o e;have fpY:∀{Hc:Hp},(∀b∈fp,Hc b=none)->∀b∈fp,z43 (z0q X N scope (z0m X.env.cells scope.names []) s3.heap.objs.size fp s3 (upd H s.heap.objs.size (.dK []))) [] Hc b:=fun{Hc} hn b hb=>by obtain⟨_,f1,f2,_,f4,_⟩:=hf3 b hb;refine⟨hn b hb,y0q (hlt3 b hb),fun hb2=>(y0o.mp (I3.stkSub b hb2)).elim f1 f2,.inl hb,fun x c e=>f4 x c (z1r I3 S e),fun p hp=>absurd (show p∈([]:yyP)from hp) (by simp)⟩
 have loop:∀s4:Shared,s4=({ s3 with heap:=h1,toks:=s3.toks+([]:List (Str × Value)).length }:Shared)->codeAny (model X.prog X.w) X.A (.compLoop (.DictComp kx vx [⟨tg,iter,[],0⟩] scope pos) 0 (.ref it) (.ref s.heap.objs.size)
   (compEnvC scope (z0m X.env.cells scope.names []) s3.heap.objs.size X.env)) (RR (.ref s.heap.objs.size) s3.heap.objs.size) s4:=by
  intro s4 hs4;subst hs4;refine z7j (fun n s'=>∃i ys Hc,Inv (z0q X N scope (z0m X.env.cells scope.names []) s3.heap.objs.size fp s3 (upd H s.heap.objs.size (.dK []))) [] (z0L ix σ) Hc s'/\tn i s'.heap/\(∀b∈fp,Hc b=none)/\Hc s.heap.objs.size=some (.dK ys)/\W i n ys Hc) ?_ m0 ⟨0,[],_,J0,st1,fun b hb=>(hf3 b hb).1,z01,w0⟩;rintro n s5 ⟨i,ys,Hc,J5,st5,fr5,hl5,w5⟩;rcases z4N i n ys Hc w5 hl5 with⟨stop,qe⟩|⟨go,hz,NN,hNN,step⟩
  .refine thn (T.done (z0q X N scope (z0m X.env.cells scope.names []) s3.heap.objs.size fp s3 (upd H s.heap.objs.size (.dK []))) rfl rfl rfl hc i [] s5 _ Hc noE J5 (fpY fr5) st5 stop) fun r s6 hz8=>?_;obtain⟨hr,J6⟩:=hz8;subst hr;have I6:Inv X pins σ Hc s6:=I3.call' (ch:=fp) J6.os J6.base J6.hok J6.bare fun b hb=>by
    obtain⟨_,f1,f2,f3,f4,f5⟩:=hf3 b hb;exact⟨f3,f1,f4,f5⟩
   obtain⟨m6,hn6,_⟩:=J6.loc;exact hRR _ _ s6 Hc m6 hn6 I6 (I3.fpOk (y0a _) J6.free) qe
  .refine thn (T.item (z0q X N scope (z0m X.env.cells scope.names []) s3.heap.objs.size fp s3 (upd H s.heap.objs.size (.dK []))) rfl rfl rfl hc i [] s5 _ Hc noE J5 (fpY fr5) st5 go) fun r s6 hz8=>?_;obtain⟨u,hr,h6⟩:=hz8;subst hr;refine thn h6 fun _ s7 hz8=>?_;obtain⟨x,H7,J7,r7,y7,st7,fr7⟩:=hz8;have J7':=J7.pinned (fpY fr7) (T.obj _ _ st7);refine thn (hg _ _ _ _ _ _ s7 _ H7 x u _ J7' r7 (step x H7 y7)) fun _ s8 hz8=>?_;obtain⟨σ8,H8,J8,q8⟩:=hz8;refine thn (hk _ _ _ _ _ _ s8 σ8 H8 _ J8 q8) fun yk s9 hz8=>?_;obtain⟨vk,H9,J9,r9,q9⟩:=hz8;refine thn (hv _ _ _ _ _ _ s9 σ8 H9 _ J9 q9) fun yv s95 hz8=>?_;obtain⟨v,H95,J95,r95,kk,ek,hl9,n9⟩:=hz8;obtain⟨m',hm',w9⟩:=hNN _ _ n9;subst ek;refine zaE (X:=z0q X N scope (z0m X.env.cells scope.names []) s3.heap.objs.size fp s3 (upd H s.heap.objs.size (.dK []))) J95 hl9 hz r9 r95 fun s10 J10=>?_;have len8:(z0L ix σ).length=σ8.length:=by
    rw[J10.len];unfold z0L;rw[y00];exact S.len
   refine⟨m',hm',i+1,z1X ys kk v,_,?_,T.keep _ _ _ st7 fun b hb o e=>(J10.pin (b,o) (y0c _ (y0c _ (z0F hb e)))).1,fun b hb=>?_,z01,w9⟩
   .exact z3I I3 S J10
   .obtain⟨o,e,d⟩:=T.obj _ _ st7 b hb;exact(J10.pin (b,o) (y0c _ (y0c _ (z0F hb e)))).2.1
 exact codeAny_compStart_dict (loop _ rfl) (T.self _ 0 _ _ _ st1 (loop _ rfl))
def zcE{wi:TI}{i:Nat}{x:Str}{spos pos':Pos}(hc:X.calm=true)(S:z0X X.N X.env.scope N ix scope)(hi:PI X tg iter wi)(hg:∀cl C ex s H,PG (z0q X N scope cl C ex s H) tg g)(hk:∀cl C ex s H,PE (z0q X N scope cl C ex s H) kx tk)(hv:∀cl C ex s H,PE (z0q X N scope cl C ex s H) vx tv)(hN:X.N.Nodup)(hx:X.N[i]?=some x)(hl:X.env.scope.names.lookup x=some .local)(hsw:swapsWith (.DictComp kx vx [⟨tg,iter,[],0⟩] scope pos) (some (.Name x pos')) spos.line X.env=pure true:=by rfl)(hs:∀x,foldedSetIterable iter X.env x=pure x:=by intro _;rfl):PS X (.Assign [.Name x pos'] (.DictComp kx vx [⟨tg,iter,[],0⟩] scope pos) spos) (zfF (zf6 ix wi g tk tv) (z9G i)):=by
 intro pins s σ H D I h;rw[exec_Assign_Name_used _ _ _ _ hsw];refine y02 (y1w (y02 ?_));show wpAny _ _ (comprehension (.DictComp kx vx [⟨tg,iter,[],0⟩] scope pos) scope X.env _ newDict false (eval iter X.env) (some (assign (.Name x pos') X.env))>>=fun _=>pure ()) _ _ s;refine y02 (y0B (y1O (use:=some (assign (.Name x pos') X.env)) (Q:=fun _ s'=>SP X pins D .next s') rfl hs (z1f (z0D I S)) S.kind S.names
  (thn (hi pins s σ H _ I h) fun v s1 h1=>thn h1 fun itv s2 h2=>?_)) (fun _ s' q=>y07 (y07 q)) fun _ _ e=>e)
 obtain⟨it,fp,tn,J,H2,e,I2,T,st2,f2,hw⟩:=h2;subst e;refine z74 (RR:=fun acc C=>compPost (model X.prog X.w) X.A X.xe (some (assign (.Name x pos') X.env)) (fun _ s'=>SP X pins D .next s') acc C) hc S hg hk hv I2 T st2 f2 hw fun l C s' H' m hn I' fC q=>?_;obtain⟨c0,c1,c2,c3,c4,c5⟩:=fC;show wpAny _ _ (assign (.Name x pos') X.env (.ref l)) _ _ _;refine wpAny_assign_Name (z4g I' hN hx (.inl hl) (v:=.ref l) rfl (fun s'' I'' hz8=>?_) (.inr hl));obtain⟨a,sb,ha⟩:=hz8;have haC:C≠a:=by
  rcases ha with ha|ha
  .rw[ha];exact c1
  .exact fun z=>c4 x a ha z.symm
 refine⟨m,hn.sameBut sb haC,fun h' hs'=>?_⟩;exact⟨_,H',I''.turned (t':=s''.toks) (fun b o hb e=>(hs'.2 b hb).trans e) c0 c1 c3 c4 c5,q⟩
end
section
variable{X:Cx}{pins:yyP}{σ:St}{H:Hp}{s:Shared}{N:List Str}{ix:List (Option Nat)}{scope:Scope}{elt iter tg cx:Expr}{pos:Pos}{g:TG}{tt:TT}{te:TE}{E:yyE}
end
def z95{K:yyF}{a l:Addr}{xs:List V}{ix:List (Option Nat)}{g:TG}{tk tv:TE}{σ:St}{H0:Hp}{Qe:Hp->Prop}(Pv:Nat->List (Key × V)->Hp->Prop)(h0:Pv 0 [] H0)(hl:∀i ys H,i<=xs.length->Pv i ys H->SqL K H a xs)(hz:∀i ys H,i<xs.length->Pv i ys H->ys.length<sizeLine)(hs:∀i x ys H,xs[i]?=some x->Pv i ys H->H l=some (.dK ys)->g x (z0L ix σ) H fun σ2 H2=>tk σ2 H2 fun y H3=>tv σ2 H3 fun v H4=>∃k,y=kV k/\H4 l=some (.dK ys)/\Pv (i+1) (z1X ys k v) (upd H4 l (.dK (z1X ys k v))))(hd:∀ys H,Pv xs.length ys H->H l=some (.dK ys)->Qe H):zaU ix (Itl K a) g tk tv σ l H0 Qe:=by
 refine⟨fun i m ys H=>m=xs.length-i/\i<=xs.length/\Pv i ys H,⟨_,rfl,y0t _,h0⟩,fun i m ys H w hy=>?_⟩;obtain⟨rfl,hi,p⟩:=w;have q:=hl i ys H hi p;by_cases e:i=xs.length
 .subst e;exact .inl ⟨⟨xs,q,y0a _⟩,hd ys H p hy⟩
 .have hi':i<xs.length:=by lia
  refine .inr ⟨⟨xs,xs[i],q,by simp[hi']⟩,hz i ys H hi' p,fun zs H'=>Pv (i+1) zs H',fun zs H' z=>⟨xs.length-(i+1),by lia,rfl,by lia,z⟩,fun x H' y=>?_⟩;obtain⟨e',y⟩:=y;subst e';exact hs i x ys _ (y xs q) p hy
open PySem.SeqAt
section
variable{X:Cx}(K:yyF)
def zec(hK:X.K=K)(hu:X.A.units+64<cLine):OpR X (compareOp .NotEq) (fun x y H Q=>∃(ds es:List D),Dr K H (.lst ds) x/\Dr K H (.lst es) y/\ds.length=es.length/\D.okL ds es/\D.depL ds<=50/\Q (.bl (!D.eq (.lst ds) (.lst es))) H):=by
 subst hK;intro pins s σ H x y v u Q I rx ry h;obtain⟨ds,es,hx,hy,hln,o,hd,q⟩:=h;simp only[Dr]at hx hy;obtain⟨l,vs,rfl,q1,r⟩:=hx;obtain⟨b,us,rfl,q2,r'⟩:=hy;cases rx;cases ry;obtain⟨its,rv,pl,_⟩:=I.list q1;obtain⟨itt,rv',pl',_⟩:=I.list q2;have e1:its.toArray.size=ds.length:=by rw[r.length,rv.length];simp
 have e2:itt.toArray.size=es.length:=by rw[r'.length,rv'.length];simp
 have R:=RcNeAt.lists (A:=X.A) (e:=D.at_ ds es) pl.isList pl'.isList (by rw[e1,e2,hln]) (by lia) (fun j h1 h2=>by
  have l1:=rv.length;have l2:=rv'.length;have l3:=r.length;have l4:=r'.length;have h1':j<its.length:=by simpa using h1
  have h2':j<itt.length:=by simpa using h2
  have e1:ds[j]?=some ds[j]:=y01 (by lia);have e2:es[j]?=some es[j]:=y01 (by lia);obtain⟨x1,g1,d1⟩:=r.get e1;obtain⟨x2,g2,d2⟩:=r'.get e2;obtain⟨u1,k1,z5⟩:=rv.get g1;obtain⟨u2,k2,z6⟩:=rv'.get g2;have z1:u1=its.toArray[j]:=by rw[y01 h1']at k1;have:=y0d k1;simpa using this.symm
  have z2:u2=itt.toArray[j]:=by rw[y01 h2']at k2;have:=y0d k2;simpa using this.symm
  have z3:D.at_ ds es j=D.eq ds[j] es[j]:=by unfold D.at_;rw[e1,e2]
  rw[z3,<-z1,<-z2];exact(zfW I 50 X.A.in1 (y0w (D.depL_get e1) hd) (by show X.A.units+1+50<cLine;lia) d1 d2 (D.okL_get o e1 e2) z5 z6).1)
 rw[e1,D.all_eqL' hln]at R;have e3:D.eq (.lst ds) (.lst es)=D.eqL ds es:=by simp only[D.eq]
 rw[e3]at q;exact R _ _ _ _ ⟨.bl _,H,I,rfl,q⟩
end
end L2
namespace Gu
open PySem L2
def z7Q{H:Hp}{l:Addr}{ys:List V}{o:HO}(e:H l=some (.lst ys)):∀b xs,H b=some (.tup xs)->upd H l o b=some (.tup xs):=fun b xs h=>by rw[z04 (fun z=>by subst z;rw[e]at h;cases h)];exact h
end Gu
namespace L2
open PySem PySem.Spec PyProof.Rows
end L2
namespace Gu
open PySem L2
end Gu
namespace L2
open PySem PySem.Spec PyProof.Rows PySem.SeqAt
open PySem.AutoSeq1 (wpAny_loadPart')
section
variable{X:Cx}(K:yyF)
end
section
variable{X:Cx}{e st:Expr}{te ts:TE}{pos p2:Pos}
end
end L2
namespace Gu
open PySem L2
theorem zeF{M:List Row}{P:Int->Prop}(hP:∀c,P c->∀g∈(row M c).2,P g):∀(f i:Nat)(o:List Int),(∀c∈o,P c)->∀c∈bfs M f i o,P c
 |0,_,_,h=>h
 |f+1,i,o,h=>by
  cases eo:o[i]? with
  |none=>rw[z3c (by rw[y1q]at eo;exact eo)];exact h
  |some r =>
   rw[z3l eo];refine zeF hP f (i+1) _ fun c hc=>?_;rcases z0G.mp hc with z|z
   .exact h c z
   .exact hP r (h r (y0O eo)) c z
end Gu
namespace L2
open PySem PySem.Spec PyProof.Rows
def base(m:Nat)(q:Nat × Nat)(d:Option Nat):SetTable.Probe:={ j:=q.1,more:=SetTable.runEnd m q.1-q.1,i:=q.1,perturb:=q.2,dummy:=d }
def Within(t:SetTable)(p:SetTable.Probe):Prop:=p.j+p.more<=t.mask/\p.dummy=none
section
variable{prog:Program}{w:World}{A:Around}{E:yyE}{s:Shared}
end
section
variable{prog:Program}{w:World}{A:Around}{E:yyE}{s:Shared}{a x:Addr}{es:Array (Int × Value)}{ep:Nat}{t:SetTable}{seen:List D}{d:D}
end
section
variable{prog:Program}{w:World}{A:Around}{E:yyE}{s:Shared}{a x:Addr}{seen:List D}{d:D}
end
section
variable{prog:Program}{w:World}{A:Around}{R:Result->Shared->Prop}{I:Addr}{fp wr:List Addr}{G:Array GenState->Array GenState->Prop}{n:Nat}{P:Nat->Value->Prop}{St:Nat->Shared->Prop}
end
section
variable{prog:Program}{w:World}{A:Around}{E:yyE}{s:Shared}
end
open PySem.SeqAt
section
variable{X:Cx}(K:yyF)
end
end L2
namespace Gu
open PySem L2
end Gu
namespace L2
open PySem
end L2
namespace Gu
open PySem L2
end Gu
namespace L2
open PySem PySem.Spec PyProof.Rows PySem.SeqAt
open PySem.AutoSeq1 (wpAny_loadPart')
mutual
def D.lt:D->D->Bool
 |.int a,.int b=>decide (a<b)
 |.tup a,.tup b=>D.ltL a b
 |_,_=>false
def D.ltL:List D->List D->Bool
 |d::ds,e::es=>if D.eq d e=true then D.ltL ds es else D.lt d e
 |[],_::_=>true
 |_,[]=>false
end
section
variable{X:Cx}{pins:yyP}{s:Shared}{σ:St}{H:Hp}
end
end L2
namespace L2
open PySem PySem.Spec PyProof.Rows PySem.SeqAt PySem.W
open PySem.AutoSeq1 (wpAny_loadPart')
section
variable{prog:Program}{w:World}{A:Around}{E:yyE}{s:Shared}{α:Type}{kf:Keyed->α}{lt:α->α->Bool}{kd:SortKind}
end
open PySem.AutoSeq1 (wpAny_loadPart')
section
variable{X:Cx}(K:yyF)
end
section
variable{P:Program}{w:World}
section
variable{M:Model}{A:Around}{E:yyE}{Q:Unit->Shared->Prop}{s:Shared}{fr:List Addr}{H1 H':Hp}{h1:Heap}{env:Env}{outer:List Env}{L ea C:Addr}{base:Heap}{fl:Value}
end
end
section
variable{X:Cx}{N:List Str}{scope:Scope}{cl:List (Str × Addr)}{C:Addr}{ex:List Addr}{s:Shared}{H:Hp}{E:XK}{pins:yyP}{σ:St}{H':Hp}{s':Shared}
end
section
variable{prog:Program}{w:World}{A:Around}{R:Result->Shared->Prop}{s:Shared}
end
section
variable{X:Cx}{pins:yyP}{σ:St}{H:Hp}{s:Shared}{N:List Str}{ix:List (Option Nat)}{scope:Scope}{elt iter tg:Expr}{pos:Pos}{g:TG}{te:TE}{E:yyE}
end
end L2
namespace Gu
open PySem L2
def lbf(g:Int->List Int):Nat->Nat->List Int->List Int
 |0,_,o=>o
 |f+1,i,o=>match o[i]? with
  |none=>o
  |some r=>lbf g f (i+1) (z0b o (g r))
def gof(W:List (List Int))(x:Int):List Int:=W.map fun w=>w.getD x.toNat 0
def cmp(L:Nat)(W:List (List Int))(x:Int):List Int:=lbf (gof W) (L+1) 0 [x]
section
variable{L:Nat}{W:List (List Int)}(hW:∀w∈W,IsP L w)
include hW
end
def led(L:Nat)(W:List (List Int))(x:Int):List Int:=(z0s L).filter fun y=>decide (y∈cmp L W x)
end Gu
namespace L2
open PySem PySem.Spec PyProof.Rows PySem.SeqAt
section
variable{prog:Program}{w:World}{A:Around}{E:yyE}{s:Shared}{T:String}{r d:Addr}{n:Nat}{P:Nat->Value->Prop}{OK:Heap->Prop}
end
section
variable{X:Cx}(K:yyF)
end
section
variable{prog:Program}{w:World}{A:Around}{E:yyE}{s:Shared}{d it:Addr}{ks:List Value}{ep i:Nat}
end
open PySem.W
mutual
def D.ltK:D->D->Bool
 |.int a,.int b=>decide (a<b)
 |.int _,.tup _=>true
 |.tup a,.tup b=>D.ltKL a b
 |_,_=>false
def D.ltKL:List D->List D->Bool
 |d::ds,e::es=>if D.eq d e=true then D.ltKL ds es else D.ltK d e
 |[],_::_=>true
 |_,[]=>false
end
abbrev DK:={ d:D // D.key d }
def DK.lt(a b:DK):Bool:=D.ltK a.1 b.1
section
variable{X:Cx}{pins:yyP}{s:Shared}{σ:St}{H:Hp}{prog:Program}{w:World}{A:Around}{E:yyE}
end
end L2
namespace L2
open PySem PySem.Spec PyProof.Rows PySem.SeqAt PySem.W
section
variable{X:Cx}{CX:CXT}{k:Nat}{pins:yyP}{s:Shared}{σ:St}{H:Hp}{p fa:Addr}{sz:D->Int}{E:yyE}
end
section
variable{X:Cx}{CX:CXT}{k:Nat}{N:List Str}{ix:List (Option Nat)}{params:Arguments}{body:Expr}{lsc:Scope}{lpos:Pos}{c:Addr}{T:Tb}{Ts:List Tb}{p pos kp:Pos}{e0:Expr}{t0:TE}{sz:D->Int}
end
section
variable{X:Cx}(K:yyF)
end
section
variable{X:Cx}{pins:yyP}{s:Shared}{σ:St}{H:Hp}{sz:D->Int}{E:yyE}
end
section
variable{X:Cx}(K:yyF)
end
end L2
namespace Gu
open PySem L2
end Gu
namespace L2
open PySem PySem.Spec PyProof.Rows
section
variable{prog:Program}{w:World}{A:Around}{E:yyE}{s:Shared}{a x:Addr}{es:Array (Int × Value)}{ep:Nat}{t:SetTable}{seen:List D}{d:D}
end
section
variable{prog:Program}{w:World}{A:Around}{E:yyE}{s:Shared}{a x:Addr}{seen:List D}{d:D}
end
section
variable{prog:Program}{w:World}{A:Around}{R:Result->Shared->Prop}{I:Addr}{fp wr:List Addr}{G:Array GenState->Array GenState->Prop}{n:Nat}{P:Nat->Value->Prop}{St:Nat->Shared->Prop}{Ps:Value->Prop}
end
section
variable{prog:Program}{w:World}{A:Around}{E:yyE}{s:Shared}
end
open PySem.SeqAt PySem.W
section
variable{X:Cx}(K:yyF)
end
end L2
namespace Gu
open PySem L2
theorem DrL.takeL{K:yyF}{H:Hp}:∀{ds:List D}{vs:List V},DrL K H ds vs->∀k,DrL K H (ds.take k) (vs.take k)
 |_,_,_,0=>by rw[List.take_zero,List.take_zero];exact DrL.nil
 |[],_,h,k+1=>by simp only[DrL]at h;subst h;exact DrL.nil
 |d::ds,_,h,k+1=>by simp only[DrL]at h;obtain⟨v,r,rfl,q1,q2⟩:=h;exact DrL.cons q1 (DrL.takeL q2 k)
def zb1(xs:List V)(k:Nat):z4Z xs none (some (k:Int))=xs.take k:=by
 unfold z4Z;rw[HT.sIx_none,HT.sIx_nat,List.drop_zero,Nat.sub_zero];rcases Nat.le_total k xs.length with z|z
 .rw[y2Q z]
 .rw[Nat.min_eq_right z,y0V,y0s z]
end Gu
namespace L2
mutual
def D.flat:D->Prop
 |.tup ds=>D.flatL ds
 |.lst _=>False
 |_=>True
def D.flatL:List D->Prop
 |[]=>True
 |d::ds=>D.flat d/\D.flatL ds
end
mutual
theorem Dr.flat{K:yyF}{H H':Hp}(k:∀b xs,H b=some (.tup xs)->H' b=some (.tup xs)):∀{d:D}{v:V},D.flat d->Dr K H d v->Dr K H' d v
 |.non,_,_,h=>by simp only[Dr]at h⊢;exact h
 |.bl _,_,_,h=>by simp only[Dr]at h⊢;exact h
 |.int _,_,_,h=>by simp only[Dr]at h⊢;exact h
 |.str _,_,_,h=>by simp only[Dr]at h⊢;exact h
 |.lst _,_,q,_=>by simp only[D.flat]at q
 |.tup ds,_,q,h=>by simp only[Dr]at h⊢;simp only[D.flat]at q;obtain⟨a,vs,e,z,r⟩:=h;exact⟨a,vs,e,k a vs z,DrL.flat k q r⟩
theorem DrL.flat{K:yyF}{H H':Hp}(k:∀b xs,H b=some (.tup xs)->H' b=some (.tup xs)):∀{ds:List D}{vs:List V},D.flatL ds->DrL K H ds vs->DrL K H' ds vs
 |[],_,_,h=>by simp only[DrL]at h⊢;exact h
 |d::ds,_,q,h=>by simp only[DrL]at h⊢;simp only[D.flatL]at q;obtain⟨v,r,e,q1,q2⟩:=h;exact⟨v,r,e,Dr.flat k q.1 q1,DrL.flat k q.2 q2⟩
end
def z2H{l:List D}:D.flatL l↔∀d∈l,D.flat d:=by
 induction l with
 |nil=>simp[D.flatL]
 |cons d l ih=>simp only[D.flatL,ih,List.forall_mem_cons]
end L2
namespace Gu
open PySem L2
abbrev str(s:String):Str:=Str.ofString s
def z2U(x:Str):Bool:=decide (1<=x.length/\x.length<=12)&&(sg x).all fun c=>decide (97<=c/\c<=122)
def zbI:sg (str "abcdefghijklmnopqrstuvwxyz")=List.range' 97 26:=by decide +kernel
def zbE(c:Nat):(!(Builtin.Str.occurrences (str "abcdefghijklmnopqrstuvwxyz") ⟨#[c]⟩ 0 (str "abcdefghijklmnopqrstuvwxyz").length 1).isEmpty)=decide (97<=c/\c<=122):=by rw[StrLaws.found_one];show decide (c∈sg (str "abcdefghijklmnopqrstuvwxyz"))=_;rw[zbI,decide_eq_decide,List.mem_range'_1];lia
def z5K:Sp:=fun vs H Q _=>∃x:Str,vs=[.str x]/\x.length<=1000000/\∀H',z08 H H'->Q (.bl (z2U x)) H'
def z7m(i:Int):Str:=str (toString i)
def z30:D->Str
 |.int i=>z7m i
 |.str x=>x
 |_=>Str.empty
def z22:Sp:=fun vs H Q _=>(∃i:Int,vs=[.int i]/\i.natAbs.log2<1920/\Q (.str (z7m i)) H)\/∃x:Str,vs=[.str x]/\Q (.str x) H
def z1P(w:List Int):Str:=if w=[]then str "-" else Str.join (str "") (w.map z7m)
def zcU(w:List Int):Prop:=w.length<=100/\∀i∈w,0<=i/\i<=9
def z3z(K:yyF):Sp:=fun vs H Q _=>∃(a:Addr)(w:List Int),vs=[.ref a]/\SqT K H a (w.map V.int)/\zcU w/\∀H',z08 H H'->Q (.str (z1P w)) H'
def z3j{i:Int}(h:i.natAbs<10^61):i.natAbs.log2<1920:=by
 rcases Nat.eq_zero_or_pos i.natAbs with z|z
 .rw[z];decide
 .exact(Nat.log2_lt (by lia)).mpr (y0h h (by decide +kernel))
def z72{n:Nat}(h:n<10^60):1<=(zdl n).length/\(zdl n).length<=60:=by rw[<-z3h,z8h,y00];exact⟨toDigits_len_ge 10 n,toDigits_len_pow (by decide) (by decide) h⟩
def zed{i:Int}(h0:0<=i)(h9:i<=9):(z7m i).length=1:=by obtain⟨n,rfl⟩:=y2o h0;rw[show z7m ((n:Nat):Int)=zdl n from rfl,<-z3h,z8h,y00];rw[Nat.toDigits_of_lt_base (by lia)];rfl
def zbQ{l:List Str}(h:∀x∈l,x.length=1):(l.map (·.length)).sum=l.length:=by
 induction l with
 |nil=>rfl
 |cons x l ih=>rw[y0i,List.sum_cons,h x y0z,ih fun y hy=>h y (y0f _ hy),y0m];lia
theorem z54:∀xs:List Str,sg (Str.join (str "") xs)=(xs.map sg).flatten
 |[]=>rfl
 |[x]=>by show sg x=_;simp
 |x::z::r=>by show sg (x++str ""++Str.join (str "") (z::r))=_;rw[zdd,zdd,z54 (z::r)];show sg x++[]++_=_;simp
def z2p{y:Str}{xs:List Str}{B:Nat}(h:∀x∈xs,x.length<=B):(Str.join y xs).length<=xs.length*(B+y.length)/\(xs.map (·.length)).sum+xs.length*y.length<=xs.length*(B+y.length):=by have h1:=StrLaws.join_length_le y xs;have h2:=StrLaws.sumLen_le xs h;rw[Nat.mul_add];exact⟨by lia,by lia⟩
def zfb{i:Int}(h0:0<=i)(h9:i<=9):sg (z7m i)=[48+i.toNat]:=by
 obtain⟨n,rfl⟩:=y2o h0;rw[show z7m ((n:Nat):Int)=zdl n from rfl,z8h,Nat.toDigits_of_lt_base (by lia)];have:∀n:Nat,n<10->[Nat.digitChar n].map Char.toNat=[48+n]:=by decide
 exact this n (by lia)
def zaD{w:List Int}(hf:zcU w)(hne:w≠[]):sg (z1P w)=w.map fun i=>48+i.toNat:=by
 unfold z1P;rw[if_neg hne,z54,y0R];have h:=hf.2;clear hne hf;induction w with
 |nil=>rfl
 |cons i w ih =>
  rw[y0i,y1p,y0i,ih fun j hj=>h j (y0f _ hj)];show sg (z7m i)++_=_;rw[zfb (h i y0z).1 (h i y0z).2];rfl
def z5B{w:List Int}(hf:zcU w):1<=(z1P w).length/\(z1P w).length<=100:=by
 by_cases hne:w=[]
 .subst hne;exact⟨by decide +kernel,by decide +kernel⟩
 .rw[<-z3h,zaD hf hne,y00];have:=List.length_pos_iff.mpr hne;exact⟨this,hf.1⟩
def z3u{w:List Int}(hf:zcU w):∀c∈sg (z1P w),c=45\/(48<=c/\c<=57):=fun c hc=>by
 by_cases hne:w=[]
 .subst hne;have e:sg (z1P [])=[45]:=by decide +kernel
  rw[e]at hc;exact .inl (y0r.mp hc)
 .rw[zaD hf hne]at hc;obtain⟨i,hi,rfl⟩:=y0e.mp hc;obtain⟨h0,h9⟩:=hf.2 i hi;exact .inr (by lia)
def zdV(g:D):Prop:=(∃x,g=.str x/\z2U x=true)\/∃n:Nat,g=.int n/\n<10^60
abbrev z99:=List Int × List D
def rD(r:z99):D:=.tup [D.its r.1,.tup r.2]
structure z7d(r:z99):Prop where
 some:r.1≠[]
 figs:zcU r.1
 few:r.2.length<=10
 go:∀g∈r.2,zdV g
def zbv(r:z99):Str:=Str.join (str " ") (z1P r.1::r.2.map z30)
def zc2(rs:List z99):Str:=Str.join (str " / ") (rs.map zbv)
def z84{x:Str}(h:z2U x=true):1<=x.length/\x.length<=12:=by unfold z2U at h;rw[y13]at h;exact y0l h.1
def z4R{x:Str}(h:z2U x=true):∀c∈sg x,97<=c/\c<=122:=fun c hc=>by unfold z2U at h;rw[y13]at h;exact y0l (y2b.mp h.2 c hc)
def zfG{g:D}(h:zdV g):1<=(z30 g).length/\(z30 g).length<=60:=by
 rcases h with⟨x,rfl,hx⟩|⟨n,rfl,hn⟩
 .have:=z84 hx;exact⟨this.1,by show x.length<=60;lia⟩
 .exact z72 hn
def zby{g:D}(h:zdV g):∀c∈sg (z30 g),48<=c:=fun c hc=>by
 rcases h with⟨x,rfl,hx⟩|⟨n,rfl,hn⟩
 .have:=z4R hx c hc;lia
 .exact(z5Q n c hc).1
def z6K{r:z99}(h:z7d r):∀p∈z1P r.1::r.2.map z30,p.length<=100/\∀c∈sg p,45<=c/\c≠47:=fun p hp=>by
 rcases y0o.mp hp with rfl|hp
 .refine⟨(z5B h.figs).2,fun c hc=>?_⟩;have:=z3u h.figs c hc;lia
 .obtain⟨g,hg,rfl⟩:=y0e.mp hp;have:=(zfG (h.go g hg)).2;refine⟨by lia,fun c hc=>?_⟩;have:=zby (h.go g hg) c hc;lia
def zbi{r:z99}(h:z7d r):(zbv r).length<=1200:=by
 have:=(z2p (y:=str " ") fun p hp=>(z6K h p hp).1).1;have h1:(z1P r.1::r.2.map z30).length<=11:=by rw[y0m,y00];have:=h.few;lia
 have h2:(str " ").length=1:=by decide +kernel
 rw[h2]at this;have h3:(z1P r.1::r.2.map z30).length*(100+1)<=11*101:=y1v _ h1;unfold zbv;lia
def zai(K:yyF):Sp:=fun vs H Q _=>∃(v:V)(r:z99),vs=[v]/\Dr K H (rD r) v/\z7d r/\∀H',z08 H H'->Q (.str (zbv r)) H'
def z5G(K:yyF):Sp:=fun vs H Q _=>∃(a:Addr)(us:List V)(rs:List z99),vs=[.ref a]/\SqL K H a us/\DrL K H (rs.map rD) us/\(∀r∈rs,z7d r)/\rs.length<=100/\∀H',z08 H H'->Q (.str (zc2 rs)) H'
open PySem.NumText
def zd9(m:Nat):sg (z7m (-((m+1:Nat):Int)))=45::sg (zdl (m+1)):=by have e:toString (-((m+1:Nat):Int))="-"++toString (m+1):=rfl;unfold z7m;rw[e];show(Str.ofString ("-"++toString (m+1))).cps.toList=45::(Str.ofString (toString (((m+1:Nat):Int)))).cps.toList;rw[Str.ofString_eq_toList,Str.ofString_eq_toList];have e2:(toString (((m+1:Nat):Int)))=toString (m+1):=rfl;rw[e2,String.toList_append,y04];rfl
def zcg{rs:List z99}(h:∀r∈rs,z7d r)(hl:rs.length<=100):(zc2 rs).length<=130000:=by
 have h1:=(z2p (y:=str " / ") (xs:=rs.map zbv) (B:=1200) fun p hp=>by obtain⟨r,hr,rfl⟩:=y0e.mp hp;exact zbi (h r hr)).1;have h2:(rs.map zbv).length*(1200+(str " / ").length)<=100*(1200+(str " / ").length):=y1v _ (by rw[y00];lia);have h3:100*(1200+(str " / ").length)<=130000:=by decide +kernel
 exact y0w h1 (y0w h2 h3)
end Gu
namespace L2
open PySem PySem.Spec PyProof.Rows
section
variable{prog:Program}{w:World}{A:Around}{E:yyE}{s:Shared}
end
section
variable{X:Cx}{elts:List Expr}{tk:Nat}{tp:Pos}
end
end L2
namespace Gu
open PySem L2
inductive z2m:Str->Str->D->Prop
 |name {x:Str}:z2U x=true->z2m (str "name") x (.str x)
 |num {n:Int}:n.natAbs<10^60->z2m (str "number") (z7m n) (.int n)
 |word {w:List Int}:zcU w->z2m (str "word") (z1P w) (D.its w)
 |ring {w:List Int}:w≠[]->zcU w->z2m (str "ring") (z1P w) (D.its w)
 |rows {rs:List z99}:rs≠[]->(∀r∈rs,z7d r)->rs.length<=100->z2m (str "rows") (zc2 rs) (.lst (rs.map rD))
inductive z2L:List Str->List Str->List D->Prop
 |nil:z2L [] [] []
 |cons {k x:Str} {d:D} {ks xs:List Str} {ds:List D}:z2m k x d->z2L ks xs ds->z2L (k::ks) (x::xs) (d::ds)
def z2L.len{ks xs:List Str}{ds:List D}(h:z2L ks xs ds):xs.length=ks.length/\ds.length=ks.length:=by
 induction h with
 |nil=>exact⟨rfl,rfl⟩
 |cons _ _ ih=>exact⟨by rw[y0m,y0m,ih.1],by rw[y0m,y0m,ih.2]⟩
def z2L.get{ks xs:List Str}{ds:List D}(h:z2L ks xs ds):∀{i:Nat}{k:Str},ks[i]?=some k->∃x d,xs[i]?=some x/\ds[i]?=some d/\z2m k x d:=by
 induction h with
 |nil=>intro i k e;simp at e
 |@cons k x d ks xs ds p _ ih =>
  intro i k' e;cases i with
  |zero=>simp at e;subst e;exact⟨x,d,rfl,rfl,p⟩
  |succ i=>exact ih (by simpa using e)
def z5i{n:Int}(h:n.natAbs<10^60):(∀c∈sg (z7m n),45<=c)/\(z7m n).length<=61:=by
 rcases Int.lt_or_le n 0 with q|q
 .obtain⟨k,rfl⟩:∃k:Nat,n=-((k+1:Nat):Int):=⟨(-n).toNat-1,by lia⟩;have hk:k+1<10^60:=by lia
  refine⟨fun c hc=>?_,?_⟩
  .rw[zd9]at hc;rcases y0o.mp hc with rfl|hc
   .lia
   .have:=z5Q _ c hc;lia
  .rw[<-z3h,zd9,y0m,z3h];have:=z72 hk;lia
 .obtain⟨k,rfl⟩:=y2o q;have hk:k<10^60:=by lia
  refine⟨fun c hc=>?_,?_⟩
  .have:=z5Q k c hc;lia
  .have:=z72 hk;show(zdl k).length<=61;lia
def zc8{k x:Str}{d:D}(h:z2m k x d):x.length<=130000:=by
 cases h with
 |name h=>have:=z84 h;lia
 |num h=>have:=(z5i h).2;lia
 |word h=>have:=z5B h;lia
 |ring _ h=>have:=z5B h;lia
 |rows _ h hl=>exact zcg h hl
def z8P{k x:Str}{d:D}(h:z2m k x d)(hk:k≠str "rows"):32∉sg x:=fun hc=>by
 cases h with
 |name h=>have:=z4R h 32 hc;lia
 |num h=>have:=(z5i h).1 32 hc;lia
 |word h=>have:=z3u h 32 hc;lia
 |ring _ h=>have:=z3u h 32 hc;lia
 |rows _ _ _=>exact hk rfl
def z6O:List (Str × List Str):=[(str "sew",[str "name",str "rows"]),(str "join",[str "name",str "name",str "name"]),(str "turn",[str "name",str "name"]),(str "look",[str "name",str "name",str "word"]),(str "power",[str "name",str "name",str "number"]),(str "drop",[str "name"]),(str "hang",[str "name",str "word",str "ring"]),(str "wear",[str "name",str "name"]),(str "doff",[str "name"]),(str "unhang",[str "name"])]
def z2L.blank{ks xs:List Str}{ds:List D}(h:z2L ks xs ds):(∀k∈ks.dropLast,k≠str "rows")->∀x∈xs.dropLast,32∉sg x:=by
 induction h with
 |nil=>intro _ x hx;simp at hx
 |@cons k x d ks xs ds p q ih =>
  intro hk y hy;cases q with
  |nil=>simp at hy
  |@cons k' x' d' ks' xs' ds' p' q' =>
   have hy':y∈x::(x'::xs').dropLast:=hy;have hk':∀z∈k::(k'::ks').dropLast,z≠str "rows":=hk;rcases y0o.mp hy' with rfl|hy'
   .exact z8P p (hk' k y0z)
   .exact ih (fun z hz=>hk' z (y0f _ hz)) y hy'
def z93:∀p∈z6O,32∉sg p.1/\p.1.length<=100/\(∀k∈p.2.dropLast,k≠str "rows")/\p.2.length<=3/\p.2≠[]:=by decide +kernel
def z8O{head:Str}{z0Y xs:List Str}{ds:List D}(hm:(head,z0Y)∈z6O)(hp:z2L z0Y xs ds):32∉sg head/\head.length<=100/\(∀x∈xs.dropLast,32∉sg x)/\z0Y.length<=3/\xs≠[]:=by obtain⟨h1,h2,h3,h4,h5⟩:=z93 _ hm;refine⟨h1,h2,hp.blank h3,h4,fun z=>h5 ?_⟩;have:=hp.len.1;rw[z]at this;exact y18.mp this.symm
def z7k(K:yyF):Sp:=fun vs H Q _=>∃(v:V) (name:Str) (z0Y xs:List Str) (ds:List D),vs=[v]/\Dr K H (.tup (.str name::ds)) v/\(name,z0Y)∈z6O/\z2L z0Y xs ds/\∀H',z08 H H'->Q (.str (Str.join (str " ") (name::xs))) H'
def Kp(H H':Hp):Prop:=(∀b xs,H b=some (.tup xs)->H' b=some (.tup xs))/\∀b xs,H b=some (.lst xs)->H' b=some (.lst xs)
theorem DrL.rep{K:yyF}{H:Hp}{ds:List D}{us:List V}(h:DrL K H ds us):∀k:Nat,DrL K H (List.replicate k ds).flatten (List.replicate k us).flatten
 |0=>by simp only[List.replicate_zero,List.flatten_nil];exact DrL.nil
 |k+1=>by simp only[y1e,y1p];exact DrL.append h (DrL.rep h k)
def zaX(K:yyF)(a:Addr):Bool:=z6O.all fun p=>match PySem.W.nsIn K a p.1 with
 |some (some (.ref t))=>zg5 K t p.2
 |_=>false
def z8w{K:yyF}{a:Addr}(h:zaX K a=true):∀p∈z6O,∃t,PySem.W.nsIn K a p.1=some (some (.ref t))/\zg5 K t p.2=true:=fun p hp=>by
 have:=y2b.mp h p hp;split at this
 .rename_i t e;exact⟨t,e,this⟩
 .cases this
end Gu
namespace L2
open PySem
section
variable{X:Cx}{pins:yyP}{σ:St}{H:Hp}{s:Shared}{N:List Str}{ix:List (Option Nat)}{scope:Scope}{elt iter tg:Expr}{pos:Pos}{g:TG}{te:TE}{E:yyE}
end
end L2
namespace Gu
open PySem L2
def zdI:List Str:=[str "name",str "number",str "word",str "ring",str "rows"]
def z8s:∀q∈z6O,q.2≠[]/\q.2.length<=3/\∀k∈q.2,k∈zdI:=by decide +kernel
open PySem.StrLaws PySem.Builtin PySem.Builtin.Str
end Gu
namespace L2
open PySem PySem.Builtin PySem.Builtin.Str PyProof.Rows
section
variable{X:Cx}
end
open PySem.SeqAt
section
variable{X:Cx}
def isNone:Value->Bool
 |.none=>true
 |_=>false
end
section
variable{X:Cx}{o e:Expr}{apos cpos:Pos}{td te:TE}
end
end L2
namespace Gu
open PySem L2 PySem.StrLaws PySem.Builtin PySem.Builtin.Str
def z33{n j:Nat}(h:j<n):ixN n (j:Int)=some j:=by unfold ixN;rw[if_pos (by lia),if_pos (by lia)];simp
end Gu
namespace L2
open PySem PySem.Spec PyProof.Rows PySem.SeqAt
section
variable{X:Cx}{CX:CXT}{E:XK}{σ0:St}{k:Nat}{f:Addr}{fd:FuncData}{ps:List Str}{sp:Sp}{x:Str}{ds:List Value}{dvs:List V}{e:Expr}{es:List Expr}{t:TA}{p pos:Pos}
end
end L2
namespace Gu
open PySem L2 PySem.StrLaws PySem.Builtin PySem.Builtin.Str
def zgc(v:V)(vs:List V):z4Z (v::vs) (some 1) none=vs:=(zaM (v::vs) 1 (by simp)).trans rfl
end Gu
namespace L2
open PySem PySem.Spec PyProof.Rows PySem.SeqAt
section
variable{X:Cx}{a b c:Expr}{ta tb tc:TE}{pos:Pos}
def zkV(te:TE):TE:=fun σ H Q=>te σ H fun v H1=>(∃y:Str,v=.str y/\y.length<=sizeLine/\Q (.str y) H1)\/∃i:Int,v=.int i/\i.natAbs.log2<1920/\Q (.str (Str.ofString (toString i))) H1
def zg4(h:PE X a ta):PE X (.FormattedValue a (-1) none pos) (zkV ta):=by
 intro pins s σ H Q I hq;refine FormattedValue_plain (thn (h pins s σ H _ I hq) fun u s1 hz8=>?_);obtain⟨x,H1,I1,rx,q1⟩:=hz8;rcases q1 with⟨y,rfl,hy,q⟩|⟨i,rfl,hi,q⟩
 .obtain⟨t,rfl⟩:=rx;exact formatField_str (fun t' tk=>⟨.str y,H1,I1.tok _,⟨_,rfl⟩,q⟩) hy
 .obtain⟨t,rfl⟩:=rx;exact formatField_int_small hi ⟨.str _,H1,I1.tok _,⟨_,rfl⟩,q⟩
def zd1(ta tb tc:TE):TE:=fun σ H Q=>ta σ H fun v1 H1=>∃x1:Str,v1=.str x1/\x1.length<=sizeLine/\tb σ H1 fun v2 H2=>∃x2:Str,v2=.str x2/\x1.length+x2.length<=sizeLine/\tc σ H2 fun v3 H3=>∃x3:Str,v3=.str x3/\x1.length+x2.length+x3.length<=sizeLine/\Q (.str (x1++x2++x3)) H3
def zc4(ha:PE X a ta)(hb:PE X b tb)(hc:PE X c tc)(he:evalEach [a,b,c] X.env=[eval a X.env,eval b X.env,eval c X.env]:=by rfl):PE X (.JoinedStr [a,b,c] pos) (zd1 ta tb tc):=by
 intro pins s σ H Q I hq;refine wpAny_JoinedStr ?_;rw[he];refine thn (ha pins s σ H _ I hq) fun u s1 hz8=>?_;obtain⟨x,H1,I1,rx,x1,ex,l1,q1⟩:=hz8;subst ex;obtain⟨t1,rfl⟩:=rx;refine⟨x1,t1,rfl,by rw[PySem.Str.empty_append];exact l1,?_⟩;rw[PySem.Str.empty_append];refine thn (hb pins s1 σ H1 _ I1 q1) fun u s2 hz8=>?_;obtain⟨x,H2,I2,rx,x2,ex,l2,q2⟩:=hz8;subst ex;obtain⟨t2,rfl⟩:=rx;have l2':(x1++x2).length<=sizeLine:=by rw[y2p];exact l2
 refine⟨x2,t2,rfl,l2',?_⟩;refine thn (hc pins s2 σ H2 _ I2 q2) fun u s3 hz8=>?_;obtain⟨x,H3,I3,rx,x3,ex,l3,q3⟩:=hz8;subst ex;obtain⟨t3,rfl⟩:=rx;have l3':(x1++x2++x3).length<=sizeLine:=by rw[y2p,y2p];exact l3
 exact⟨x3,t3,rfl,l3',l3',⟨.str _,H3,I3.tok _,⟨_,rfl⟩,q3⟩⟩
end
def zfR(tk tv:TE):TE:=fun σ H Q=>∀p,H p=none->tk σ (upd H p (.dT [])) fun y H1=>tv σ H1 fun v H2=>∃(k:List Key)(b:Addr),H2 p=some (.dT [])/\y=.ref b/\H2 b=some (.tup (k.map kV))/\Q (.ref p) (upd H2 p (.dT (z1X [] k v)))
section
variable{X:Cx}{k v:Expr}{tk tv:TE}{pos:Pos}
def zbC(hu:X.A.units+1<cLine)(hk:PE X k tk)(hv:PE X v tv):PE X (.Dict [some k] [v] pos) (zfR tk tv):=by
 intro pins s σ H Q I h;have I1:=I.laid (a:=s.heap.objs.size) (o:=.dT []) (h':=s.heap.push { cls:=.type "dict",data:=.dict #[] }) (t':=s.toks) (fun _ _ q=>y03 _ q) (y0a _) (z7L s.heap I.big);have hq:=h _ I.fresh;refine wpAny_Dict_any rfl rfl (by simp) (by simp) (thn ((z8e hk hv zaO:PPs X pos [some k] [v] [(tk,tv)]) pins _ σ _ (fun ps H2=>match ps with|[(y,v)]=>∃(k:List Key)(b:Addr),H2 s.heap.objs.size=some (.dT [])/\y=.ref b/\H2 b=some (.tup (k.map kV))/\Q (.ref s.heap.objs.size) (upd H2 s.heap.objs.size (.dT (z1X [] k v)))|_=>False) I1 hq) fun ws s2 hz8=>?_)
 obtain⟨ps,H2,I2,rel,q⟩:=hz8;match ps,rel,q with
 |[],_,q=>exact False.elim q
 |_::_::_,_,q=>exact False.elim q
 |[(y,v)],rel,q =>
  obtain⟨k,b,e,eb,hb,q⟩:=q;subst eb;cases rel with
  |@cons a bb as bs hh t =>
   cases t;obtain⟨u1,u2⟩:=bb;obtain⟨ry,rv⟩:=hh;obtain rfl:u1=Value.ref b:=ry;obtain⟨z,hd,xs,rr,dd⟩:=zeI I2.hok e;unfold storeAll;rw[y2N];have hz:xs.length<=sizeLine:=by rw[<-y23 rr];exact z
   have hl:(z1X ([]:List (List Key × V)) k v).length<=sizeLine:=by have:=z1v ([]:List (List Key × V)) k v;exact y0w this (by decide)
   refine y02 (y02 (wpAny_dictSet_heap (hsz:=hz) (show X.A.units<cLine by lia) (z4F I2.hok hb) dd fun h' dd' hsb=>y07 ?_));show wpAny _ _ (forIn ([]:List (Value × Value)) PUnit.unit _) _ _ _;rw[List.forIn_nil];refine y07 ?_;obtain⟨q',es,ep,hq',h2,h3,h4,_,h5⟩:=dd';refine⟨.ref s.heap.objs.size,upd H2 s.heap.objs.size (.dT (z1X [] k v)),z3A (ob:=.dT (z1X [] k v)) I2 (by rw[e];exact y1m) hsb ⟨q',hq'⟩ ⟨hl,hd,_,(rr.put k hb rv).keeps fun c ys ec=>?_,q',es,ep,hq',h2,h3,h4,h5⟩,rfl,q⟩;rw[z04 (z4b ec e (fun z=>nomatch z))];exact ec
end
section
variable{prog:Program}{w:World}{A:Around}{R:Result->Shared->Prop}{s:Shared}
def z6h(elt t1 i1 t2 i2 cx:Expr)(scope:Scope)(pos:Pos)(it acc:Value)(env:Env) :
  compTurn (.ListComp elt [⟨t1,i1,[],0⟩,⟨t2,i2,[cx],0⟩] scope pos) 1 it acc env=(standAt i2.pos>>=fun _=>pyNext it>>=fun r=>match r with
   |none=>pure (.done .next)
   |some v=>letOwnedTupleGo t2 it v>>=fun _=>assign t2 env v>>=fun _ =>
    (forIn [cx] true fun c r=>if r=true then do let ok <-isTrue c env (eval c env);pure (ForInStep.yield ok)else pure (ForInStep.yield r))>>=fun ok =>
    if ok=true then((eval elt env>>=fun x=>call (.builtin "list.append") [acc,x]>>=fun _=>pure ())>>=fun _ =>
     again (.compLoop (.ListComp elt [⟨t1,i1,[],0⟩,⟨t2,i2,[cx],0⟩] scope pos) 1 it acc env))else again (.compLoop (.ListComp elt [⟨t1,i1,[],0⟩,⟨t2,i2,[cx],0⟩] scope pos) 1 it acc env)):=by rfl
def z5v(elt t1 i1 t2 i2 cx:Expr)(scope:Scope)(pos:Pos)(it acc:Value)(env:Env) :
  compTurn (.ListComp elt [⟨t1,i1,[],0⟩,⟨t2,i2,[cx],0⟩] scope pos) 0 it acc env=(standAt i1.pos>>=fun _=>pyNext it>>=fun r=>match r with
   |none=>pure (.done .next)
   |some v=>letOwnedTupleGo t1 it v>>=fun _=>assign t1 env v>>=fun _ =>
    eval i2 env>>=fun x=>standAt i2.pos>>=fun _=>foldedSetIterable i2 env x>>=fun x=>holding [x] (pyIter x)>>=fun it2=>runOwn (.compStart (.ListComp elt [⟨t1,i1,[],0⟩,⟨t2,i2,[cx],0⟩] scope pos) 1 it2 acc env) env>>=fun _ =>
     again (.compLoop (.ListComp elt [⟨t1,i1,[],0⟩,⟨t2,i2,[cx],0⟩] scope pos) 0 it acc env)):=by rfl
def z63{elt t1 i1 t2 i2 cx:Expr}{scope:Scope}{pos:Pos}{it acc:Value}{env:Env}(I:Nat->Shared->Prop)
  (z4N:∀n s,I n s->wpAny (model prog w) A (pyNext it) (fun r s1=>match r with
   |none=>R (.ok .next) s1
   |some v=>wpAny (model prog w) A (letOwnedTupleGo t2 it v) (fun _ s2=>wpAny (model prog w) A (assign t2 env v) (fun _ s3=>wpAny (model prog w) A (isTrue cx env (eval cx env)) (fun ok s35 =>
     match ok with
     |true=>wpAny (model prog w) A (eval elt env) (fun x s4=>wpAny (model prog w) A (call (.builtin "list.append") [acc,x]) (fun _ s5=>∃m,m<n/\I m s5) noE s4) noE s35
     |false=>∃m,m<n/\I m s35) noE s3) noE s2) noE s1) noE s)
  (n:Nat) (h:I n s):codeAny (model prog w) A (.compLoop (.ListComp elt [⟨t1,i1,[],0⟩,⟨t2,i2,[cx],0⟩] scope pos) 1 it acc env) R s:=by
 have no:∀(P:yyE)(a:Value)(b:Shared),noE a b->P a b:=fun _ _ _ z=>False.elim z;refine codeAny_loop rfl I (fun n s hI=>?_) n h;show wpAny _ _ ((compTurn (.ListComp elt [⟨t1,i1,[],0⟩,⟨t2,i2,[cx],0⟩] scope pos) 1 it acc env).onRaise
  (fun x=>do noteFrame x env;theTreesLotGoes x)) _ _ s
 refine wpAny_noted ?_;rw[z6h];refine y02 (y1w (y02 (y0B (z4N n s hI) (fun r s1 h1=>?_) (no _))));cases r with
 |none=>exact y07 h1
 |some v =>
  refine y02 (y0B h1 (fun _ s2 h2=>?_) (no _));refine y02 (y0B h2 (fun _ s3 h3=>y02 (wpAny_tests_one (y0B h3 (fun ok s35 h35=>?_) (no _)))) (no _));cases ok with
  |false=>exact y07 ⟨rfl,h35⟩
  |true=>exact y02 (y02 (y0B h35 (fun x s4 h4=>y02 (y0B h4 (fun _ s5 h5=>y07 (y07 ⟨rfl,h5⟩)) (no _))) (no _)))
def z6e{elt t1 i1 t2 i2 cx:Expr}{scope:Scope}{pos:Pos}{it acc:Value}{env:Env}(hs:∀x,foldedSetIterable i2 env x=pure x)(I:Nat->Shared->Prop)
  (z4N:∀n s,I n s->wpAny (model prog w) A (pyNext it) (fun r s1=>match r with
   |none=>R (.ok .next) s1
   |some v=>wpAny (model prog w) A (letOwnedTupleGo t1 it v) (fun _ s2=>wpAny (model prog w) A (assign t1 env v) (fun _ s3=>wpAny (model prog w) A (eval i2 env) (fun x s4 =>
     wpAny (model prog w) A (pyIter x) (fun it2 s5=>∀R':Result->Shared->Prop,(∀s6,(∃m,m<n/\I m s6)->R' (.ok .next) s6)->codeAny (model prog w) A (.compStart (.ListComp elt [⟨t1,i1,[],0⟩,⟨t2,i2,[cx],0⟩] scope pos) 1 it2 acc env) R' s5) noE s4) noE s3) noE s2) noE s1) noE s)
  (n:Nat) (h:I n s):codeAny (model prog w) A (.compLoop (.ListComp elt [⟨t1,i1,[],0⟩,⟨t2,i2,[cx],0⟩] scope pos) 0 it acc env) R s:=by
 have no:∀(P:yyE)(a:Value)(b:Shared),noE a b->P a b:=fun _ _ _ z=>False.elim z;refine codeAny_loop rfl I (fun n s hI=>?_) n h;show wpAny _ _ ((compTurn (.ListComp elt [⟨t1,i1,[],0⟩,⟨t2,i2,[cx],0⟩] scope pos) 0 it acc env).onRaise
  (fun x=>do noteFrame x env;theTreesLotGoes x)) _ _ s
 refine wpAny_noted ?_;rw[z5v];refine y02 (y1w (y02 (y0B (z4N n s hI) (fun r s1 h1=>?_) (no _))));cases r with
 |none=>exact y07 h1
 |some v =>
  refine y02 (y0B h1 (fun _ s2 h2=>?_) (no _));refine y02 (y0B h2 (fun _ s3 h3=>?_) (no _));refine y02 (y0B h3 (fun x s4 h4=>?_) (no _));refine y02 (y1w ?_);rw[hs];refine y02 (y07 (y02 (y1i (y0B h4 (fun it2 s5 h5=>?_) (no _)))));exact y02 (wpAny_runOwn (h5 _ fun s6 h6=>y07 ⟨rfl,h6⟩))
def z5o{elt t1 i1 t2 i2 cx scope pos it acc env}(h0:codeAny (model prog w) A (.compLoop (.ListComp elt [⟨t1,i1,[],0⟩,⟨t2,i2,[cx],0⟩] scope pos) 1 it acc env) R s)(h:wpAny (model prog w) A (pyIter it) (fun it' s'=>codeAny (model prog w) A (.compLoop (.ListComp elt [⟨t1,i1,[],0⟩,⟨t2,i2,[cx],0⟩] scope pos) 1 it' acc env) R s') (notedBy (model prog w) A env fun x s'=>R (.error x) s') s) : codeAny (model prog w) A (.compStart (.ListComp elt [⟨t1,i1,[],0⟩,⟨t2,i2,[cx],0⟩] scope pos) 1 it acc env) R s:=by
 refine codeAny_of_tree ?_;show wpAny _ _ ((compStart (.ListComp elt [⟨t1,i1,[],0⟩,⟨t2,i2,[cx],0⟩] scope pos) 1 it acc env).onRaise (fun x=>do noteFrame x env;standAt theWindowsPlace)) _ _ s
 refine wpAny_notedAt ?_;unfold compStart;show wpAny _ _ (ask>>=_) _ _ s;refine y02 (wpAny_askSetting (wpAny_ite ?_));split
 .first
   |exact y02 (y07 (y07 (And.intro rfl h0)))
   |exact y07 (And.intro rfl h0)
 .refine y02 (wpAny_rule ?_);refine y02 (y1w (y02 (y0B h (fun it' s' h'=>y07 (And.intro rfl h')) fun _ _ z=>z)))
end
def zgm(J2:It)(g2:TG)(tt:TT)(te:TE)(σ2:St)(l:Addr)(ys:List V)(H3:Hp)(N:List V->Hp->Prop):Prop :=
 ∃W:Nat->Nat->List V->St->Hp->Prop,(∃m,W 0 m ys σ2 H3)/\∀j m zs σ3 H,W j m zs σ3 H->H l=some (.lst zs) ->
  (J2.stop j H/\N zs H)\/(J2.go j H/\zs.length<sizeLine/\∃N2:List V->St->Hp->Prop,(∀zs' σ' H',N2 zs' σ' H'->∃m',m'<m/\W (j+1) m' zs' σ' H')/\∀x H',J2.yld j H x H'->g2 x σ3 H' fun σ4 H4=>tt σ4 H4 fun b H5 =>
   match b with
   |true=>te σ4 H5 fun v H6=>H6 l=some (.lst zs)/\N2 (zs++[v]) σ4 (upd H6 l (.lst (zs++[v])))
   |false=>H5 l=some (.lst zs)/\N2 zs σ4 H5)
def z7f(ix:List (Option Nat))(J:It)(g:TG)(wi2:TI)(g2:TG)(tt:TT)(te:TE)(σ:St)(l:Addr)(H0:Hp)(Qe:Hp->Prop):Prop :=
 ∃W:Nat->Nat->List V->Hp->Prop,(∃m,W 0 m [] H0)/\∀i m ys H,W i m ys H->H l=some (.lst ys) ->
  (J.stop i H/\Qe H)\/(J.go i H/\∃N:List V->Hp->Prop,(∀zs H',N zs H'->∃m',m'<m/\W (i+1) m' zs H')/\∀x H',J.yld i H x H'->g x (z0L ix σ) H' fun σ2 H2=>wi2 σ2 H2 fun J2 H3 =>
   H3 l=some (.lst ys)/\zgm J2 g2 tt te σ2 l ys H3 N)
def zdH(ix:List (Option Nat))(wi:TI)(g:TG)(wi2:TI)(g2:TG)(tt:TT)(te:TE):TE:=fun σ H Q=>wi σ H fun J H1=>∀l,H1 l=none->z7f ix J g wi2 g2 tt te σ l (upd H1 l (.lst [])) fun H'=>Q (.ref l) H'
section
variable{X:Cx}{pins:yyP}{σ:St}{H:Hp}{s:Shared}{N:List Str}{ix:List (Option Nat)}{scope:Scope}{elt iter tg iter2 tg2 cx:Expr}{pos:Pos}{g g2:TG}{wi2:TI}{tt:TT}{te:TE}{E:yyE}
def z7p{Y:Cx}{l it2:Addr}{t1 i1:Expr}{fp2:List Addr}{tn2:Nat->Heap->Prop}{J2:It}{pins:yyP}{σ2:St}{H3:Hp}{s:Shared}{ys:List V}{NN:List V->Hp->Prop}{R:Result->Shared->Prop}(hx:Y.xe=noE)(hc:Y.calm=true)(hg:PG Y tg2 g2)(ht:PT Y cx tt)(he:PE Y elt te)(I:Inv Y pins σ2 H3 s)(T:z9b Y.prog Y.w Y.K tg2 J2 fp2 it2 tn2)(st:tn2 0 s.heap)(hf:∀b∈fp2,z43 Y pins H3 b)(hl:H3 l=some (.lst ys))(hw:zgm J2 g2 tt te σ2 l ys H3 NN)(hR:∀s' σ' H' zs,Inv Y pins σ' H' s'->H' l=some (.lst zs)->NN zs H'->R (.ok .next) s') : codeAny (model Y.prog Y.w) Y.A (.compStart (.ListComp elt [⟨t1,i1,[],0⟩,⟨tg2,iter2,[cx],0⟩] scope pos) 1 (.ref it2) (.ref l) Y.env) R s:=by
 obtain⟨W,⟨m0,w0⟩,z4N⟩:=hw;have stat:∀{H':Hp},(∀b∈fp2,H' b=none)->∀b∈fp2,z43 Y pins H' b:=fun hn b hb=>⟨hn b hb,(hf b hb).2⟩;have loop:codeAny (model Y.prog Y.w) Y.A (.compLoop (.ListComp elt [⟨t1,i1,[],0⟩,⟨tg2,iter2,[cx],0⟩] scope pos) 1 (.ref it2) (.ref l) Y.env) R s:=by
  refine z63 (fun n s'=>∃j zs σ' Hc,Inv Y pins σ' Hc s'/\tn2 j s'.heap/\(∀b∈fp2,Hc b=none)/\Hc l=some (.lst zs)/\W j n zs σ' Hc) ?_ m0 ⟨0,ys,σ2,H3,I,st,fun b hb=>(hf b hb).1,hl,w0⟩;rintro n s5 ⟨j,zs,σ5,Hc,J5,st5,fr5,hl5,w5⟩;rcases z4N j n zs σ5 Hc w5 hl5 with⟨stop,qe⟩|⟨go,hz,N2,hN2,step⟩
  .refine thn (T.done Y rfl rfl rfl hc j pins s5 σ5 Hc noE J5 (stat fr5) st5 stop) fun r s6 h6=>?_;obtain⟨hr,J6⟩:=h6;subst hr;exact hR s6 σ5 Hc zs J6 hl5 qe
  .refine thn (T.item Y rfl rfl rfl hc j pins s5 σ5 Hc noE J5 (stat fr5) st5 go) fun r s6 h6=>?_;obtain⟨u,hr,h6⟩:=h6;subst hr;refine thn h6 fun _ s7 h7=>?_;obtain⟨x,H7,J7,r7,y7,st7,fr7⟩:=h7;have J7':=J7.pinned (stat fr7) (T.obj _ _ st7);have hgY:=hg _ s7 σ5 H7 x u _ J7' r7 (step x H7 y7);rw[hx]at hgY;refine thn hgY fun _ s8 h8=>?_;obtain⟨σ8,H8,J8,q8⟩:=h8;have htY:=ht _ s8 σ8 H8 _ J8 q8;rw[hx]at htY;refine thn htY fun ok s85 h85=>?_;obtain⟨H85,J85,q85⟩:=h85;cases ok with
   |false =>
    obtain⟨hl9,n9⟩:=q85;obtain⟨m',hm',w9⟩:=hN2 _ _ _ n9;refine⟨m',hm',j+1,zs,σ8,_,J85.unpinned,T.keep _ _ _ st7 fun b hb o e=>(J85.pin (b,o) (y0c _ (y0c _ (z0F hb e)))).1,fun b hb=>?_,hl9,w9⟩;obtain⟨o,e,d⟩:=T.obj _ _ st7 b hb;exact(J85.pin (b,o) (y0c _ (y0c _ (z0F hb e)))).2.1
   |true =>
   have heY:=he _ s85 σ8 H85 _ J85 q85;rw[hx]at heY;refine thn heY fun y s9 h9=>?_;obtain⟨v,H9,J9,r9,hl9,n9⟩:=h9;obtain⟨m',hm',w9⟩:=hN2 _ _ _ n9;have hmt:=z0H (X:=Y) _ s9 σ8 H9 (.ref l) [v] (.ref l) [y] (fun z Hz=>z=.non/\Hz=upd H9 l (.lst (zs++[v]))) J9 rfl (.cons r9 .nil) ⟨_,zs,v,rfl,rfl,hl9,hz,rfl,rfl⟩;rw[hx]at hmt;refine thn hmt fun _ s10 h10=>?_;obtain⟨_,H10,J10,_,_,e10⟩:=h10;subst e10;refine⟨m',hm',j+1,zs++[v],σ8,_,J10.unpinned,T.keep _ _ _ st7 fun b hb o e=>(J10.pin (b,o) (y0c _ (y0c _ (z0F hb e)))).1,fun b hb=>?_,z01,w9⟩;obtain⟨o,e,d⟩:=T.obj _ _ st7 b hb;exact(J10.pin (b,o) (y0c _ (y0c _ (z0F hb e)))).2.1
 exact z5o loop (T.self _ 0 _ _ _ st loop)
def z6i{it:Addr}{fp:List Addr}{tn:Nat->Heap->Prop}{J:It}{Qe:Addr->Hp->Prop}{RR:Value->Addr->Result->Shared->Prop}(hc:X.calm=true)(S:z0X X.N X.env.scope N ix scope)(hg:∀cl C ex s H,PG (z0q X N scope cl C ex s H) tg g)(hi2:∀cl C ex s H,PI (z0q X N scope cl C ex s H) tg2 iter2 wi2)(hg2:∀cl C ex s H,PG (z0q X N scope cl C ex s H) tg2 g2)(ht:∀cl C ex s H,PT (z0q X N scope cl C ex s H) cx tt)(he:∀cl C ex s H,PE (z0q X N scope cl C ex s H) elt te)(hs2:∀env x,foldedSetIterable iter2 env x=pure x)(I:Inv X pins σ H s)(T:z9b X.prog X.w X.K tg J fp it tn)(st:tn 0 s.heap)(hf:∀b∈fp,z43 X pins H b)(hw:∀l,H l=none->z7f ix J g wi2 g2 tt te σ l (upd H l (.lst [])) (Qe l))(hRR:∀l C s' H' m,s'.heap.Ns C m->Inv X pins σ H' s'->z43 X pins H' C->Qe l H'->RR (.ref l) C (.ok .next) s') : wpAny (model X.prog X.w) X.A (newList []) (fun acc s3=>wpAny (model X.prog X.w) X.A (newFunctionEnv scope X.env.globals (z0m X.env.cells scope.names []) [] X.env.qual none .none (some X.env)) (fun cenv s4 => codeAny (model X.prog X.w) X.A (.compStart (.ListComp elt [⟨tg,iter,[],0⟩,⟨tg2,iter2,[cx],0⟩] scope pos) 0 (.ref it) acc { cenv with scope:=relabel scope X.env }) (RR acc cenv.locals) s4) E s3) E s:=by
 have hlt:∀b∈fp,b<s.heap.objs.size:=fun b hb=>by obtain⟨o,e,_⟩:=T.obj 0 s.heap st b hb;exact y0b e
 have hl0:H s.heap.objs.size=none:=I.fresh;obtain⟨W,⟨m0,w0⟩,z4N⟩:=hw s.heap.objs.size hl0;refine y0P ?_;generalize hs3:({ s with heap:=s.heap.push { cls:=.type "list",dict:=none,data:=.seq ([]:List Value).toArray } }:Shared)=s3;have I3:Inv X pins σ (upd H s.heap.objs.size (.lst [])) s3:=by rw[<-hs3];exact I.lnew (its:=[]) (t':=s.toks) .nil (y0t _)
 have k3:∀b o,s.heap.get? b=some o->s3.heap.get? b=some o:=fun b o e=>by rw[<-hs3];exact y03 _ e
 have sz3:s3.heap.objs.size=s.heap.objs.size+1:=by rw[<-hs3];exact y1g ..
 have lnfp:s.heap.objs.size∉fp:=fun hb=>y1c _ (hlt _ hb);have st3:tn 0 s3.heap:=T.keep 0 _ _ st fun b _ o e=>k3 b o e;have hf3:∀b∈fp,z43 X pins (upd H s.heap.objs.size (.lst [])) b:=fun b hb=>by obtain⟨f0,f⟩:=hf b hb;have nb:b≠s.heap.objs.size:=fun e=>lnfp (by rw[<-e];exact hb);exact⟨by rw[z04 nb];exact f0,f⟩
 have hlt3:∀b∈fp,b<s3.heap.objs.size:=fun b hb=>by rw[sz3];exact y2w (hlt b hb)
 clear hs3;refine y28 S.nocell (by intro y hy;simp at hy) (fun h1 hn1 hb1=>?_) S.kind;have hk1:∀b o,s3.heap.get? b=some o->h1.get? b=some o:=fun b o e =>
  (hb1.2 b (y0q (y0b e))).trans (y03 _ e)
 have J0:Inv (z0q X N scope (z0m X.env.cells scope.names []) s3.heap.objs.size fp s3 (upd H s.heap.objs.size (.lst []))) [] (z0L ix σ) (upd H s.heap.objs.size (.lst [])) { s3 with heap:=h1,toks:=s3.toks+([]:List (Str × Value)).length } :=
  z5E I3 S rfl hf3 hlt3 hn1 hk1
 have st1:tn 0 h1:=T.keep 0 _ _ st3 fun b _ o e=>hk1 b o e;have fpY:∀{Hc:Hp},(∀b∈fp,Hc b=none)->∀b∈fp,z43 (z0q X N scope (z0m X.env.cells scope.names []) s3.heap.objs.size fp s3 (upd H s.heap.objs.size (.lst []))) [] Hc b:=fun{Hc} hn b hb=>by obtain⟨_,f1,f2,_,f4,_⟩:=hf3 b hb;refine⟨hn b hb,y0q (hlt3 b hb),fun hb2=>(y0o.mp (I3.stkSub b hb2)).elim f1 f2,.inl hb,fun x c e=>f4 x c (z1r I3 S e),fun p hp=>absurd (show p∈([]:yyP)from hp) (by simp)⟩
 have loop:∀s4:Shared,s4=({ s3 with heap:=h1,toks:=s3.toks+([]:List (Str × Value)).length }:Shared)->codeAny (model X.prog X.w) X.A (.compLoop (.ListComp elt [⟨tg,iter,[],0⟩,⟨tg2,iter2,[cx],0⟩] scope pos) 0 (.ref it) (.ref s.heap.objs.size)
   (compEnvC scope (z0m X.env.cells scope.names []) s3.heap.objs.size X.env)) (RR (.ref s.heap.objs.size) s3.heap.objs.size) s4:=by
  intro s4 hs4;subst hs4;refine z6e (hs2 _) (fun n s'=>∃i ys Hc,Inv (z0q X N scope (z0m X.env.cells scope.names []) s3.heap.objs.size fp s3 (upd H s.heap.objs.size (.lst []))) [] (z0L ix σ) Hc s'/\tn i s'.heap/\(∀b∈fp,Hc b=none)/\Hc s.heap.objs.size=some (.lst ys)/\W i n ys Hc) ?_ m0 ⟨0,[],_,J0,st1,fun b hb=>(hf3 b hb).1,z01,w0⟩;rintro n s5 ⟨i,ys,Hc,J5,st5,fr5,hl5,w5⟩;rcases z4N i n ys Hc w5 hl5 with⟨stop,qe⟩|⟨go,NN,hNN,step⟩
  .refine thn (T.done (z0q X N scope (z0m X.env.cells scope.names []) s3.heap.objs.size fp s3 (upd H s.heap.objs.size (.lst []))) rfl rfl rfl hc i [] s5 _ Hc noE J5 (fpY fr5) st5 stop) fun r s6 h6=>?_;obtain⟨hr,J6⟩:=h6;subst hr;have I6:Inv X pins σ Hc s6:=I3.call' (ch:=fp) J6.os J6.base J6.hok J6.bare fun b hb=>by
    obtain⟨_,f1,f2,f3,f4,f5⟩:=hf3 b hb;exact⟨f3,f1,f4,f5⟩
   obtain⟨m6,hn6,_⟩:=J6.loc;exact hRR _ _ s6 Hc m6 hn6 I6 (I3.fpOk (y0a _) J6.free) qe
  .refine thn (T.item (z0q X N scope (z0m X.env.cells scope.names []) s3.heap.objs.size fp s3 (upd H s.heap.objs.size (.lst []))) rfl rfl rfl hc i [] s5 _ Hc noE J5 (fpY fr5) st5 go) fun r s6 h6=>?_;obtain⟨u,hr,h6⟩:=h6;subst hr;refine thn h6 fun _ s7 h7=>?_;obtain⟨x,H7,J7,r7,y7,st7,fr7⟩:=h7;have J7':=J7.pinned (fpY fr7) (T.obj _ _ st7);refine thn (hg _ _ _ _ _ _ s7 _ H7 x u _ J7' r7 (step x H7 y7)) fun _ s8 h8=>?_;obtain⟨σ8,H8,J8,q8⟩:=h8;refine thn (hi2 _ _ _ _ _ _ s8 σ8 H8 _ J8 q8) fun x2 s9 h9=>thn h9 fun it2 s10 h10=>?_;obtain⟨a2,fp2,tn2,J2,H10,e2,J10,T2,st10,f10,hl10,hw10⟩:=h10;subst e2;intro R' hR';refine z7p (Y:=z0q X N scope (z0m X.env.cells scope.names []) s3.heap.objs.size fp s3 (upd H s.heap.objs.size (.lst []))) rfl hc (hg2 _ _ _ _ _) (ht _ _ _ _ _) (he _ _ _ _ _) J10 T2 st10 f10 hl10 hw10 fun s' σ' H' zs J' hl' n'=>hR' s' ?_;obtain⟨m',hm',w9⟩:=hNN _ _ n';refine⟨m',hm',i+1,zs,H',z3I I3 S J',T.keep _ _ _ st7 fun b hb o e=>(J'.pin (b,o) (y0c _ (y0c _ (z0F hb e)))).1,fun b hb=>?_,hl',w9⟩;obtain⟨o,e,d⟩:=T.obj _ _ st7 b hb;exact(J'.pin (b,o) (y0c _ (y0c _ (z0F hb e)))).2.1
 exact codeAny_compStart_list (loop _ rfl) (T.self _ 0 _ _ _ st1 (loop _ rfl))
def zaT{wi:TI}(hc:X.calm=true)(S:z0X X.N X.env.scope N ix scope)(hi:PI X tg iter wi)(hg:∀cl C ex s H,PG (z0q X N scope cl C ex s H) tg g)(hi2:∀cl C ex s H,PI (z0q X N scope cl C ex s H) tg2 iter2 wi2)(hg2:∀cl C ex s H,PG (z0q X N scope cl C ex s H) tg2 g2)(ht:∀cl C ex s H,PT (z0q X N scope cl C ex s H) cx tt)(he:∀cl C ex s H,PE (z0q X N scope cl C ex s H) elt te)(hs2:∀env x,foldedSetIterable iter2 env x=pure x:=by intro _ _;rfl)(hs:∀x,foldedSetIterable iter X.env x=pure x:=by intro _;rfl):PE X (.ListComp elt [⟨tg,iter,[],0⟩,⟨tg2,iter2,[cx],0⟩] scope pos) (zdH ix wi g wi2 g2 tt te):=by intro pins s σ H Q I h;rw[eval_ListComp];refine y1O (use:=none) rfl hs (z1f (z0D I S)) S.kind S.names (thn (hi pins s σ H _ I h) fun v s1 h1=>thn h1 fun itv s2 h2=>?_);obtain⟨it,fp,tn,J,H2,e,I2,T,st2,f2,hw⟩:=h2;subst e;refine z6i (RR:=fun acc C=>compPost (model X.prog X.w) X.A X.xe none (EP X pins σ Q) acc C) hc S hg hi2 hg2 ht he hs2 I2 T st2 f2 hw fun l C s' H' m hn I' fC q=>⟨m,hn,fun h' hs'=>?_⟩;obtain⟨c0,c1,_,c3,c4,c5⟩:=fC;exact⟨.ref l,H',I'.turned (t':=s'.toks) (fun b o hb e=>(hs'.2 b hb).trans e) c0 c1 c3 c4 c5,rfl,q⟩
end
def z7y{K:yyF}{a l:Addr}{xs:List V}{ix:List (Option Nat)}{g:TG}{wi2:TI}{g2:TG}{tt:TT}{te:TE}{σ:St}{H0:Hp}{Qe:Hp->Prop}(Pv:Nat->List V->Hp->Prop)(h0:Pv 0 [] H0)(hl:∀i ys H,i<=xs.length->Pv i ys H->SqL K H a xs)(hs:∀i x ys H,xs[i]?=some x->Pv i ys H->H l=some (.lst ys)->g x (z0L ix σ) H fun σ2 H2=>wi2 σ2 H2 fun J2 H3=>H3 l=some (.lst ys)/\zgm J2 g2 tt te σ2 l ys H3 (Pv (i+1)))(hd:∀ys H,Pv xs.length ys H->H l=some (.lst ys)->Qe H):z7f ix (Itl K a) g wi2 g2 tt te σ l H0 Qe:=by
 refine⟨fun i m ys H=>m=xs.length-i/\i<=xs.length/\Pv i ys H,⟨xs.length,by simp,y0t _,h0⟩,?_⟩;rintro i m ys H ⟨rfl,hi,p⟩ hy;have q:=hl i ys H hi p;by_cases hlt:i<xs.length
 .refine .inr ⟨⟨xs,xs[i],q,by simp[hlt]⟩,Pv (i+1),fun zs H' r=>⟨xs.length-(i+1),by lia,rfl,hlt,r⟩,fun x H' y=>?_⟩;obtain⟨e,y⟩:=y;subst e;exact hs i x ys _ (y xs q) p hy
 .have e:i=xs.length:=by lia
  subst e;exact .inl ⟨⟨xs,q,y0a _⟩,hd ys H p hy⟩
def zet{K:yyF}{a l:Addr}{xs ys:List V}{g2:TG}{tt:TT}{te:TE}{σ2:St}{H3:Hp}{N:List V->Hp->Prop}(Pv:Nat->List V->St->Hp->Prop)(h0:Pv 0 ys σ2 H3)(hl:∀j zs σ H,j<=xs.length->Pv j zs σ H->SqT K H a xs)(hz:∀j zs σ H,j<=xs.length->Pv j zs σ H->zs.length<sizeLine)
  (hs:∀j x zs σ H,xs[j]?=some x->Pv j zs σ H->H l=some (.lst zs)->g2 x σ H fun σ4 H4=>tt σ4 H4 fun b H5 =>
   match b with
   |true=>te σ4 H5 fun v H6=>H6 l=some (.lst zs)/\Pv (j+1) (zs++[v]) σ4 (upd H6 l (.lst (zs++[v])))
   |false=>H5 l=some (.lst zs)/\Pv (j+1) zs σ4 H5)
  (hd:∀zs σ H,Pv xs.length zs σ H->H l=some (.lst zs)->N zs H):zgm (Itt K a) g2 tt te σ2 l ys H3 N:=by
 refine⟨fun j m zs σ H=>m=xs.length-j/\j<=xs.length/\Pv j zs σ H,⟨xs.length,by simp,y0t _,h0⟩,?_⟩;rintro j m zs σ H ⟨rfl,hj,p⟩ hy;have q:=hl j zs σ H hj p;by_cases hlt:j<xs.length
 .refine .inr ⟨⟨xs,xs[j],q,by simp[hlt]⟩,hz j zs σ H hj p,fun zs' σ' H'=>Pv (j+1) zs' σ' H',fun zs' σ' H' r=>⟨xs.length-(j+1),by lia,rfl,hlt,r⟩,fun x H' y=>?_⟩;obtain⟨e,y⟩:=y;subst e;exact hs j x zs σ _ (y xs q) p hy
 .have e:j=xs.length:=by lia
  subst e;exact .inl ⟨⟨xs,q,y0a _⟩,hd zs σ H p hy⟩
end L2
namespace Gu
open PySem L2
def hf(n:Int)(d x y:Addr):List (Str × V):=z3Y "taken_back" (.ref y) (z3Y "done" (.ref x) (z3Y "things" (.ref d) (z3Y "many_letters" (.int n) [])))
def zov(n:Int)(d x y:Addr):(hf n d x y).lookup ("many_letters":Str)=some (.int n):=by unfold hf;rw[z0p,if_neg (by decide +kernel),z0p,if_neg (by decide +kernel),z0p,if_neg (by decide +kernel),z0p,if_pos rfl]
def ziz(n:Int)(d x y:Addr):(hf n d x y).lookup ("things":Str)=some (.ref d):=by unfold hf;rw[z0p,if_neg (by decide +kernel),z0p,if_neg (by decide +kernel),z0p,if_pos rfl]
def zoT(n:Int)(d x y:Addr):(hf n d x y).lookup ("done":Str)=some (.ref x):=by unfold hf;rw[z0p,if_neg (by decide +kernel),z0p,if_pos rfl]
def zor(n:Int)(d x y:Addr):(hf n d x y).lookup ("taken_back":Str)=some (.ref y):=by unfold hf;rw[z0p,if_pos rfl]
def zcr(n:Int)(d x y:Addr){m:Str}(h1:¬m="taken_back")(h2:¬m="done")(h3:¬m="things")(h4:¬m="many_letters"):(hf n d x y).lookup m=none:=by unfold hf;rw[z0p,if_neg h1,z0p,if_neg h2,z0p,if_neg h3,z0p,if_neg h4];rfl
structure TxH(K:yyF)(mg:yyS)(C:Addr):Prop where
 cl:Cls K C
 nN:z2Q K C "many_letters"
 nD:z2Q K C "things"
 nX:z2Q K C "done"
 nY:z2Q K C "taken_back"
 mgC:mg "House"=some (.ref C)
def z9O(nm:Int->D)(r:Row):D:=.tup [D.its r.1,.tup (r.2.map nm)]
def zat{K:yyF}{H:Hp}{nm:Int->D}{r:Row}{v:V}(h:Dr K H (z9O nm r) v):∃a b c ws,v=.ref a/\H a=some (.tup [.ref b,.ref c])/\H b=some (.tup (r.1.map V.int))/\H c=some (.tup ws)/\DrL K H (r.2.map nm) ws:=by unfold z9O at h;simp only[Dr,DrL]at h;obtain⟨a,vs,rfl,e,x,l,rfl,hx,y,l',rfl,hy,rfl⟩:=h;obtain⟨b,us,rfl,eb,rb⟩:=hx;obtain⟨c,ws,rfl,ec,rc⟩:=hy;have e1:=DrL.ints_inv rb;subst e1;exact⟨a,b,c,ws,rfl,e,eb,ec,rc⟩
def z8d(K:yyF)(rows:List Row)(nm:Int->D):List V->Hp->VK->Prop:=fun vs H Q=>∃(i:Int)(v:V),vs=[v]/\Dr K H (nm i) v/\0<=i/\i<(rows.length:Int)/\z5L K H Q (z9O nm (row rows i))
section
variable(P:Program)(w:World)(K:yyF)(mg:yyS)(base:Heap)(CX:CXT)(k:Nat)
end
def z5m(K:yyF):Sp:=fun vs H Q _=>∃(n:Nat)(b:V)(p:List Int),vs=[.int n,b]/\Dr K H (D.its p) b/\p.length<=60/\n<=60/\∀(k:Bool)(H':Hp),(k=true↔IsP n p)->z08 H H'->Q (.bl k) H'
def z1B(n:Nat)(rows:List Row)(m:Nat):Prop:=z1b n rows/\rows.length<=m
def z40(K:yyF)(Ct:Addr):Sp:=fun vs H Q E=>∃(n:Nat)(a:Addr)(rows:List Row)(m:Nat),vs=[.int n,.ref a,.int m]/\z1D K H a rows/\n<=60/\m<=400/\rows.length<=5000/\(∀r∈rows,r.1.length<=60/\r.2.length<=60) /\
 (z1B n rows m->∀H',z08 H H'->Q .non H')/\(¬z1B n rows m->TMx Ct E H)
def z73(Ts:List Tb)(K:yyF)(Cb:Addr):Sp:=fun vs H Q E=>∃(n:Nat)(a:Addr)(rows:List Row),vs=[.int n,.ref a]/\z2n Ts H/\z1D K H a rows/\n<=60/\rows.length<=5000/\(∀r∈rows,r.1.length<=60/\r.2.length<=60) /\
 (z1B n rows 400->(shr rows).length<=60/\zcT Ts K H Q (D.tup (z0x (shr rows))))/\(¬z1B n rows 400->zmk Ts Cb E H)
def goD:Str ⊕ Int->D
 |.inl x=>.str x
 |.inr i=>.int i
abbrev z34:=List Int × List (Str ⊕ Int)
def zbH(r:z34):D:=.tup [D.its r.1,.tup (r.2.map goD)]
def z3k(rs:List z34):List D:=rs.map zbH
def goN:Str ⊕ Int->Int
 |.inl _=>0
 |.inr i=>i
def z2M(r:z34):Row:=(r.1,r.2.map goN)
def z5D(K:yyF)(H:Hp)(a:Addr)(rs:List z34):Prop:=∃us,H a=some (.lst us)/\DrL K H (z3k rs) us
theorem z5D.mono{K:yyF}{H H':Hp}{a:Addr}{rs:List z34}(h:z5D K H a rs)(s:z08 H H'):z5D K H' a rs:=by obtain⟨us,e,d⟩:=h;exact⟨us,s _ _ e,d.mono s⟩
def z5x{K:yyF}{H:Hp}{rs:List z34}{us:List V}(h:DrL K H (z3k rs) us){i:Nat}{r:z34}(e:rs[i]?=some r):∃v,us[i]?=some v/\Dr K H (zbH r) v :=
 h.get (by unfold z3k;rw[y08,e];rfl)
def z7t:Str ⊕ Int->V
 |.inl x=>.str x
 |.inr i=>.int i
theorem zaQ{K:yyF}{H:Hp}:∀{gs:List (Str ⊕ Int)}{ws:List V},DrL K H (gs.map goD) ws->ws=gs.map z7t
 |[],ws,h=>by simp only[y0Z,DrL]at h;exact h
 |g::gs,ws,h=>by
  simp only[y0i,DrL]at h;obtain⟨v,r,rfl,hv,hr⟩:=h;rw[zaQ hr,y0i];cases g with
  |inl x=>simp only[goD,Dr]at hv;rw[hv];rfl
  |inr i=>simp only[goD,Dr]at hv;rw[hv];rfl
def z4j{K:yyF}{H:Hp}{r:z34}{v:V}(h:Dr K H (zbH r) v):∃a b c,v=.ref a/\H a=some (.tup [.ref b,.ref c])/\H b=some (.tup (r.1.map V.int))/\H c=some (.tup (r.2.map z7t)):=by unfold zbH at h;simp only[Dr,DrL]at h;obtain⟨a,vs,rfl,e,x,l,rfl,hx,y,l',rfl,hy,rfl⟩:=h;obtain⟨b,us,rfl,eb,rb⟩:=hx;obtain⟨c,ws,rfl,ec,rc⟩:=hy;have e1:=DrL.ints_inv rb;have e2:=zaQ rc;subst e1 e2;exact⟨a,b,c,rfl,e,eb,ec⟩
def z5X(K:yyF)(Cb:Addr):Sp:=fun vs H Q E=>∃(n:Nat)(a:Addr)(rs:List z34),vs=[.int n,.ref a]/\z5D K H a rs/\n<=60/\rs.length<=5000/\(∀r∈rs,r.1.length<=60/\r.2.length<=60) /\
 (z1B n (rs.map z2M) 60->∀H',z08 H H'->Q .non H')/\(¬z1B n (rs.map z2M) 60->TMx Cb E H)
def plD(p:Str × Int):D:=.tup [.str p.1,.int p.2]
def z4x(x:Str):Str ⊕ Int->Str × Int
 |.inl y=>(y,0)
 |.inr i=>(x,i)
def z2K(p:Str × Int):D.flat (plD p):=by unfold plD;simp only[D.flat,D.flatL,and_true]
def z9R{K:yyF}{H:Hp}{p:Str × Int}{v:V}(h:Dr K H (plD p) v):∃a,v=.ref a/\H a=some (.tup [.str p.1,.int p.2]):=by unfold plD at h;simp only[Dr,DrL]at h;obtain⟨a,vs,e,s,x,l,rfl,hx,y,l',rfl,hy,rfl⟩:=h;subst hx hy;exact⟨a,e,s⟩
def zaF{K:yyF}{H:Hp}{p:Str × Int}{a:Addr}(h:H a=some (.tup [.str p.1,.int p.2])):Dr K H (plD p) (.ref a):=by unfold plD;exact Dr.tup h (DrL.cons (by simp only[Dr]) (DrL.cons (Dr.int _) DrL.nil))
def z5r(K:yyF):Sp:=fun vs H Q _=>∃(x:Str)(g:Str ⊕ Int),vs=[.str x,z7t g]/\z5L K H Q (plD (z4x x g))
def z9T(K:yyF)(H:Hp)(rs:List z34)(kvs:List (Key × V))(x:Str)(i:Int)(R:z34):Prop :=
 (x=str ""/\0<=i/\rs[i.toNat]?=some R)\/(x≠str ""/\∃(g:List Row) (u:V) (r:Row),z2S kvs (Sum.inr x)=some u/\Dr K H (D.tup (z0x g)) u/\0<=i/\g[i.toNat]?=some r/\R=(r.1,r.2.map .inr))
def zdJ(x:Str)(R:z34):D:=.tup [D.its R.1,.tup (R.2.map fun g=>plD (z4x x g))]
def z7q(K:yyF):Sp:=fun vs H Q _=>∃(a d:Addr)(rs:List z34)(kvs:List (Key × V))(v:V)(x:Str)(i:Int)(R:z34),vs=[.ref a,.ref d,v]/\z5D K H a rs/\H d=some (.dK kvs)/\Dr K H (plD (x,i)) v/\x.length<=1000/\z9T K H rs kvs x i R/\R.2.length<=60/\z5L K H Q (zdJ x R)
def z9T.map{K:yyF}{H H':Hp}{rs:List z34}{kvs:List (Key × V)}{x:Str}{i:Int}{R:z34}(f:∀d v,Dr K H d v->Dr K H' d v)(h:z9T K H rs kvs x i R):z9T K H' rs kvs x i R:=by
 rcases h with h|⟨hx,g,u,r,hv,du,h0,hr,e⟩
 .exact .inl h
 .exact .inr ⟨hx,g,u,r,hv,f _ _ du,h0,hr,e⟩
structure zno(K:yyF)(H:Hp)(rs:List z34)(kvs:List (Key × V))(rows:List Row)(nm:Int->Str × Int):Prop where
 first:nm 0=(str "",0)
 inj:∀x y,nm x=nm y->x=y
 short:∀i,0<=i->i<(rows.length:Int)->(nm i).1.length<=1000
 row_:∀i,0<=i->i<(rows.length:Int)->∃R:z34,z9T K H rs kvs (nm i).1 (nm i).2 R/\R.1=(row rows i).1/\R.2.map (z4x (nm i).1)=(row rows i).2.map nm/\R.2.length<=60
def pnD(nm:Int->Str × Int)(i:Int):D:=plD (nm i)
def kT(p:Str × Int):List Key:=[Sum.inr p.1,Sum.inl p.2]
def kn(nm:Int->Str × Int)(i:Int):List Key:=kT (nm i)
def zf1{nm:Int->Str × Int}(h:∀x y,nm x=nm y->x=y)(x y:Int)(e:kn nm x=kn nm y):x=y:=by unfold kn kT at e;injection e with e1 e2;injection e1 with e1;injection e2 with e2 _;injection e2 with e2;exact h x y (Prod.ext e1 e2)
def z7R(nm:Int->Str × Int)(o:List Int):D.flatL (o.map (pnD nm)):=z2H.mpr fun d hd=>by obtain⟨i,_,rfl⟩:=y0e.mp hd;exact z2K _
def zap{K:yyF}{H:Hp}{nm:Int->Str × Int}{i:Int}{v:V}(h:Dr K H (pnD nm i) v):∃b,v=.ref b/\H b=some (.tup ((kn nm i).map kV)):=z9R h
def zc9{rows:List Row}{nm:Int->Str × Int}{i:Int}{R:z34}(h1:R.1=(row rows i).1)(h2:R.2.map (z4x (nm i).1)=(row rows i).2.map nm):zdJ (nm i).1 R=z9O (pnD nm) (row rows i):=by unfold zdJ z9O;rw[h1,show(R.2.map fun g=>plD (z4x (nm i).1 g))=(R.2.map (z4x (nm i).1)).map plD by rw[y0R];rfl,h2,y0R];rfl
section
variable(P:Program)(w:World)(K:yyF)(mg:yyS)(base:Heap)(CX:CXT)(k:Nat)
def z7x:Sp:=fun vs H Q _=>∃(f:Addr)(v0:V)(n:Nat)(rows:List Row)(nm:Int->Str × Int),vs=[v0,.ref f]/\(∀x y,nm x=nm y->x=y)/\Dr K H (pnD nm 0) v0/\z3b P w K mg base CX k H f (z8d K rows (pnD nm))/\z1b n rows/\n<=60/\∀(r:Addr)(H':Hp),z08 H H'->z1D K H' r (z0z rows)->Q (.ref r) H'
def CmT:V->Addr->Hp->List Row->Prop:=fun v0 f H rows=>∃nm:Int->Str × Int,(∀x y,nm x=nm y->x=y)/\Dr K H (pnD nm 0) v0/\z3b P w K mg base CX k H f (z8d K rows (pnD nm))
def z5z(Ct:Addr):Sp:=fun vs H Q E=>∃(f:Addr)(v0:V)(n:Nat)(rows:List Row)(nm:Int->Str × Int),vs=[v0,.ref f]/\(∀x y,nm x=nm y->x=y)/\Dr K H (pnD nm 0) v0/\z3b P w K mg base CX k H f (z8d K rows (pnD nm))/\z1b n rows/\n<=60 /\
 ((shr rows).length<=60->z5L K H Q (D.tup (z0x (shr rows))))/\(60<(shr rows).length->TMx Ct E H)
end
def zg6{P:Program}{w:World}{K:yyF}{mg:yyS}{base:Heap}{CX:CXT}{k:Nat}(vs:List V)(H:Hp)(Q:VK)(E:XK)(h:z7a K (CmT P w K mg base CX k) vs H Q E):z7x P w K mg base CX k vs H Q E:=by obtain⟨f,v0,n,rows,rfl,⟨nm,hN,d,hV⟩,G,hn,q⟩:=h;exact⟨f,v0,n,rows,nm,rfl,hN,d,hV,G,hn,q⟩
def zdY{P:Program}{w:World}{K:yyF}{mg:yyS}{base:Heap}{CX:CXT}{k:Nat}{Ct:Addr}(vs:List V)(H:Hp)(Q:VK)(E:XK)(h:z5z P w K mg base CX k Ct vs H Q E):z5F K (CmT P w K mg base CX k) Ct vs H Q E:=by obtain⟨f,v0,n,rows,nm,rfl,hN,d,hV,G,hn,q⟩:=h;exact⟨f,v0,n,rows,rfl,⟨nm,hN,d,hV⟩,G,hn,q⟩
def z9M(Ts:List Tb)(K:yyF)(Ct:Addr):Sp:=fun vs H Q E=>∃(a d:Addr)(rs:List z34)(kvs:List (Key × V))(n:Nat)(rows:List Row)(nm:Int->Str × Int),vs=[.ref a,.ref d]/\z2n Ts H/\z5D K H a rs/\H d=some (.dK kvs)/\zno K H rs kvs rows nm/\z1b n rows/\n<=60 /\
 ((shr rows).length<=60->zcT Ts K H Q (D.tup (z0x (shr rows))))/\(60<(shr rows).length->zmk Ts Ct E H)
def zbs:Str ⊕ Int->Option Str
 |.inl x=>some x
 |.inr _=>none
def z2l(rs:List z34):List Str:=(rs.map fun r=>r.2.filterMap zbs).flatten
def z5W(K:yyF):Sp:=fun vs H Q _=>∃(a:Addr)(rs:List z34),vs=[.ref a]/\z5D K H a rs/\rs.length<=5000/\(∀r∈rs,r.2.length<=60)/\∀(l:Addr)(H':Hp),z08 H H'->H l=none->H' l=some (.lst ((z2l rs).map V.str))->Q (.ref l) H'
def z91{rs:List z34}(h:∀r∈rs,r.2.length<=60):(z2l rs).length<=60*rs.length:=by
 induction rs with
 |nil=>simp[z2l]
 |cons r rs ih =>
  have h1:=ih fun r' hr'=>h r' (y0f _ hr');have h2:=h r y0z;have h3:=List.length_filterMap_le zbs r.2;unfold z2l at h1⊢;rw[y0i,y1p,y06,y0m];lia
def z6X{rs:List z34}{i:Nat}{r:z34}(e:rs[i]?=some r):z2l (rs.take (i+1))=z2l (rs.take i)++r.2.filterMap zbs:=by unfold z2l;rw[y0v,e,y1t,y04,List.flatten_append];simp
def zjI{K:yyF}{a b:Addr}{xs ys:List V}{g:TG}{tb:TS}{D:z3Z}{σ:St}{H:Hp}(hlen:xs.length=ys.length)(Pv:Nat->St->Hp->Prop)(h0:Pv 0 σ H)(hl:∀i σ H,i<=xs.length->Pv i σ H->SqT K H a xs/\SqT K H b ys)(hs:∀i x y p σ H,xs[i]?=some x->ys[i]?=some y->Pv i σ H->H p=none->∀Ed:z3Z,(∀σ' H',Pv (i+1) σ' H'->Ed.nx σ' H')->g (.ref p) σ (upd H p (.tup [x,y])) fun σ2 H2=>tb Ed σ2 H2)(hd:∀σ H,Pv xs.length σ H->D.nx σ H) : ∃W:Nat->Nat->St->Hp->Prop,(∃m,W 0 m σ H)/\∀i m σ H,W i m σ H -> ((zf0 K a b).stop i H/\D.nx σ H)\/((zf0 K a b).go i H/\∃N:St->Hp->Prop,(∀σ' H',N σ' H'->∃m',m'<m/\W (i+1) m' σ' H')/\∀x H',(zf0 K a b).yld i H x H'->g x σ H' fun σ2 H2=>tb { D with nx:=N,ct:=N,bk:=D.nx } σ2 H2):=by
 refine⟨fun i m σ H=>m=xs.length-i/\i<=xs.length/\Pv i σ H,⟨xs.length,by simp,y0t _,h0⟩,?_⟩;rintro i m σ H ⟨rfl,hi,p⟩;obtain⟨q,q'⟩:=hl i σ H hi p;rcases Nat.lt_or_ge i xs.length with hlt|hge
 .refine .inr ⟨⟨xs,ys,xs[i],ys[i]'(by lia),q,q',by simp[hlt],by simp[show i<ys.length by lia]⟩,fun σ' H'=>Pv (i+1) σ' H',fun σ' H' z=>⟨xs.length-(i+1),by lia,rfl,by lia,z⟩,fun v H' y=>?_⟩;obtain⟨c,z,z',rfl,hb,hz,hz',rfl⟩:=y;exact hs i z z' c σ H (hz xs q) (hz' ys q') p hb _ fun _ _ z=>z
 .have e:i=xs.length:=by lia
  subst e;exact .inl ⟨⟨xs,ys,q,q',rfl,hlen.symm⟩,hd σ H p⟩
def zgi(K:yyF)(k:Str):Sp:=fun vs H Q _=>∃(v:V)(d:D)(x:Str),vs=[v]/\Dr K H d v/\z2m k x d/\∀H',z08 H H'->Q (.str x) H'
def Wrs(P:Program)(w:World)(K:yyF)(mg:yyS)(base:Heap)(CX:CXT)(n:Nat)(aW:Addr):Prop:=∀k∈zdI,∃(f:Addr)(fd:FuncData)(ps:List Str),PySem.W.nsIn K aW k=some (some (.ref f))/\z0u P w K mg base CX n f fd ps (zgi K k)/\z0i K fd ps []/\PySem.W.keepIn K (.ref f)=true
end Gu
namespace L2
open PySem PySem.Spec PyProof.Rows PySem.SeqAt
section
variable{X:Cx}(K:yyF)
def z5j{ys:List (Int × Tok)}{ns:List Int}(ey:ys.map (·.1)=ns){j:Nat}(hj:j<ys.length):∃h:j<ns.length,numAt ys.toArray j=ns[j]:=by
 have hjn:j<ns.length:=by rw[<-ey,y00];exact hj
 refine⟨hjn,?_⟩;rw[numAt_eq];have:(ys.toArray.toList.map (·.1))=ns:=by simpa using ey
 rw[this];simp[hjn]
def zgI(hK:X.K=K)(hc:X.calm=true):z1s X (.builtin "max") (fun xs H Q=>∃(p:Addr) (ns:List Int),xs=[.ref p]/\SqT K H p (ns.map V.int)/\ns≠[]/\∀M∈ns,(∀a∈ns,a<=M)->Q (.int M) H):=by
 subst hK;intro pins s σ H xs us Q I r h;obtain⟨p,ns,rfl,hp,hn,q⟩:=h;obtain⟨u,rfl,ru⟩:=z2E r;cases ru;obtain⟨its,rv,pl,hz⟩:=I.tuple hp;obtain⟨ys,rfl,ey⟩:=z3o rv;have hne:0<ys.length:=by rw[<-y00 (f:=(·.1)),ey];exact List.length_pos_iff.mpr hn
 have e1:(ys.map fun p=>Value.int p.1 p.2).toArray=intItems ys.toArray:=by unfold intItems;simp
 rw[e1]at pl;replace pl:s.heap.IsTuple p (intItems ys.toArray):=pl;obtain⟨o,ho,_⟩:=id pl;have hap:p≠s.heap.objs.size:=y0q (y0b ho);refine call_max_walk (y1W pl ?_);refine⟨_,_,_,_,_,_,_,rfl,Walks.tuple (A:=X.A.in1) (I.ok.hd hc) s.heap.objs.size p hap (intItems ys.toArray),⟨⟨_,y09 _ rfl,rfl,rfl⟩,pl.at fun o e=>y03 _ e⟩,fun b hb=>?_,by simpa[intItems]using hne,CmpOf.ints_gt (numAt ys.toArray) (fun _ _=>intItems_at),fun v h' tk hv hk=>?_⟩
 .rcases y0o.mp hb with rfl|hb
  .exact y0b (y09 _ rfl)
  .obtain rfl:=y0r.mp hb;exact y0b (y03 _ ho)
 have esz:(intItems ys.toArray).size=ys.length:=by simp[intItems]
 rw[esz]at hv;obtain⟨t,rfl⟩:=intItems_at hv;obtain⟨h1,h2⟩:=argBest_gt (numAt ys.toArray) (ys.length-1);generalize argBest (fun i j=>decide (numAt ys.toArray i>numAt ys.toArray j)) (ys.length-1)=k at h1 h2 hv;obtain⟨hk1,ek⟩:=z5j ey (j:=k) (by lia);rw[ek]at h2;rw[ek];refine⟨.int ns[k],H,I.kept (t':=tk) fun b o e=>hk b o (fun hb=>absurd (y0b e) ((y0r.mp hb)▸y1c _)) (y03 _ e),⟨_,rfl⟩,q _ (y0n hk1) fun a ha=>?_⟩;obtain⟨j,hj,rfl⟩:=y1f ha;have hjy:j<ys.length:=by rw[<-ey,y00]at hj;exact hj
 obtain⟨_,ej⟩:=z5j ey hjy;have:=h2 j (by lia)
 rwa [ej]at this
def zhd(hK:X.K=K)(hc:X.calm=true):z1s X (.builtin "min") (fun xs H Q=>∃(p:Addr) (ns:List Int),xs=[.ref p]/\SqT K H p (ns.map V.int)/\ns≠[]/\∀M∈ns,(∀a∈ns,M<=a)->Q (.int M) H):=by
 subst hK;intro pins s σ H xs us Q I r h;obtain⟨p,ns,rfl,hp,hn,q⟩:=h;obtain⟨u,rfl,ru⟩:=z2E r;cases ru;obtain⟨its,rv,pl,hz⟩:=I.tuple hp;obtain⟨ys,rfl,ey⟩:=z3o rv;have hne:0<ys.length:=by rw[<-y00 (f:=(·.1)),ey];exact List.length_pos_iff.mpr hn
 have e1:(ys.map fun p=>Value.int p.1 p.2).toArray=intItems ys.toArray:=by unfold intItems;simp
 rw[e1]at pl;replace pl:s.heap.IsTuple p (intItems ys.toArray):=pl;obtain⟨o,ho,_⟩:=id pl;have hap:p≠s.heap.objs.size:=y0q (y0b ho);refine call_min_walk (y1W pl ?_);refine⟨_,_,_,_,_,_,_,rfl,Walks.tuple (A:=X.A.in1) (I.ok.hd hc) s.heap.objs.size p hap (intItems ys.toArray),⟨⟨_,y09 _ rfl,rfl,rfl⟩,pl.at fun o e=>y03 _ e⟩,fun b hb=>?_,by simpa[intItems]using hne,CmpOf.ints_lt (numAt ys.toArray) (fun _ _=>intItems_at),fun v h' tk hv hk=>?_⟩
 .rcases y0o.mp hb with rfl|hb
  .exact y0b (y09 _ rfl)
  .obtain rfl:=y0r.mp hb;exact y0b (y03 _ ho)
 have esz:(intItems ys.toArray).size=ys.length:=by simp[intItems]
 rw[esz]at hv;obtain⟨t,rfl⟩:=intItems_at hv;obtain⟨h1,h2⟩:=argBest_lt (numAt ys.toArray) (ys.length-1);generalize argBest (fun i j=>decide (numAt ys.toArray i<numAt ys.toArray j)) (ys.length-1)=k at h1 h2 hv;obtain⟨hk1,ek⟩:=z5j ey (j:=k) (by lia);rw[ek]at h2;rw[ek];refine⟨.int ns[k],H,I.kept (t':=tk) fun b o e=>hk b o (fun hb=>absurd (y0b e) ((y0r.mp hb)▸y1c _)) (y03 _ e),⟨_,rfl⟩,q _ (y0n hk1) fun a ha=>?_⟩;obtain⟨j,hj,rfl⟩:=y1f ha;have hjy:j<ys.length:=by rw[<-ey,y00]at hj;exact hj
 obtain⟨_,ej⟩:=z5j ey hjy;have:=h2 j (by lia)
 rwa [ej]at this
def ze0(hK:X.K=K)(hu:X.A.units+64<cLine):OpR X (compareOp .NotEq) (fun x y H Q=>∃(ds es:List D),Dr K H (.lst ds) x/\Dr K H (.lst es) y/\D.okL ds es/\D.depL ds<=50/\Q (.bl (!D.eq (.lst ds) (.lst es))) H):=by
 intro pins s σ H x y v u Q I rx ry h;obtain⟨ds,es,hx,hy,o,hd,q⟩:=h;by_cases hln:ds.length=es.length
 .exact zec K hK hu pins s σ H x y v u Q I rx ry ⟨ds,es,hx,hy,hln,o,hd,q⟩
 subst hK;simp only[Dr]at hx hy;obtain⟨l,vs,rfl,q1,r⟩:=hx;obtain⟨b,us,rfl,q2,r'⟩:=hy;cases rx;cases ry;obtain⟨its,rv,pl,_⟩:=I.list q1;obtain⟨itt,rv',pl',_⟩:=I.list q2;have e1:its.toArray.size=ds.length:=by rw[r.length,rv.length];simp
 have e2:itt.toArray.size=es.length:=by rw[r'.length,rv'.length];simp
 have R:=RcNeAt.lists_lengths (A:=X.A) pl.isList pl'.isList (by rw[e1,e2];exact bne_iff_ne.mpr hln) (by lia);have e3:D.eq (.lst ds) (.lst es)=false:=by simp only[D.eq];exact D.eqL_len hln
 rw[e3]at q;exact R _ _ _ _ ⟨.bl _,H,I,rfl,q⟩
end
end L2
namespace Gu
open PySem L2
structure z1Q(C:Addr)(H:Hp)(p:Addr)(n:Int)(d x y:Addr)(th:List (List Key × V))(dn tb:List V):Prop where
 ob:∃dx,H p=some (.ins C dx (hf n d x y))
 dc:H d=some (.dT th)
 dn_:H x=some (.lst dn)
 tb_:H y=some (.lst tb)
 xy:x≠y
def z1Q.same{C:Addr}{H H':Hp}{p:Addr}{n:Int}{d x y:Addr}{th:List (List Key × V)}{dn tb:List V}(h:z1Q C H p n d x y th dn tb)(s:z08 H H'):z1Q C H' p n d x y th dn tb:=by obtain⟨⟨dx,a⟩,b,c,e,u⟩:=h;exact⟨⟨dx,s _ _ a⟩,s _ _ b,s _ _ c,s _ _ e,u⟩
def kH(k nm:Str):List Key:=[Sum.inr k,Sum.inr nm]
def z7e(C Ct:Addr):Sp:=fun vs H Q E=>∃(p dx:Addr)(n:Int),vs=[.ref p,.int n]/\H p=some (.ins C dx [])/\((2<=n/\n<=5)->∀(d x y:Addr)(H':Hp),H d=none->H x=none->H y=none->z1Q C H' p n d x y [] [] []->(∀b o,H b=some o->b≠p->H' b=some o)->Q .non H')/\(¬(2<=n/\n<=5)->TMx Ct E H)
def z3t(C Cn Ct:Addr):Sp:=fun vs H Q E=>∃(p:Addr)(n:Int)(d x y:Addr)(th:List (List Key × V))(dn tb:List V)(k nm:Str),vs=[.ref p,.str k,.str nm]/\z1Q C H p n d x y th dn tb/\nm.length<=1000000 /\
 (z2U nm=false->TMx Cn E H)/\(z2U nm=true->(z2S th (kH k nm)).isSome=true->TMx Ct E H)/\(z2U nm=true->(z2S th (kH k nm)).isSome=false->∀H',z08 H H'->Q .non H')
def ze9(C:Addr):Sp:=fun vs H Q _=>∃(p:Addr)(n:Int)(d x y:Addr)(th:List (List Key × V))(dn tb:List V)(k:List Key)(b:Addr)(v:V),vs=[.ref p,.ref b,v]/\z1Q C H p n d x y th dn tb/\H b=some (.tup (k.map kV))/\v≠.non/\th.length<sizeLine/\Q .non (upd H d (.dT (z1X th k v)))
def zfN:TE:=fun _ _ _=>False
def zci{X:Cx}{e:Expr}:PE X e zfN:=fun _ _ _ _ _ _ h=>False.elim h
def But(H H':Hp)(d x y:Addr):Prop:=∀b o,H b=some o->b≠d->b≠x->b≠y->H' b=some o
def z9k(K:yyF)(C:Addr):Sp:=fun vs H Q _=>∃(p:Addr)(n:Int)(d x y:Addr)(th:List (List Key × V))(dn tb:List V)(k:Str)(v u:V)(name nm:Str)(z0Y xs:List Str)(ds:List D),
 vs=[.ref p,.str k,v,u]/\z1Q C H p n d x y th dn tb/\v≠.non/\th.length<sizeLine/\dn.length<sizeLine/\Dr K H (.tup (.str name::.str nm::ds)) u/\(name,z0Y)∈z6O/\z2L z0Y xs (.str nm::ds) /\
 ∀(q kq:Addr) (H':Hp),H q=none->H kq=none->z1Q C H' p n d x y (z1X th (kH k nm) v) (dn++[.ref q]) []->H' q=some (.tup [.str (Str.join (str " ") (name::xs)),.ref kq,(z2S th (kH k nm)).getD .non,v])->H' kq=some (.tup ((kH k nm).map kV))->But H H' d x y->Q .non H'
structure zoA(Ts:List Tb)(H H':Hp)(d x y:Addr):Prop where
 at_:∀b o,(∀ps,o≠.tbl ps)->H b=some o->b≠d->b≠x->b≠y->H' b=some o
 tabs:z2n Ts H'
def z1Q.sameL{Ts:List Tb}{C:Addr}{H H':Hp}{p:Addr}{n:Int}{d x y:Addr}{th:List (List Key × V)}{dn tb:List V}(h:z1Q C H p n d x y th dn tb)(s:z1I Ts H H'):z1Q C H' p n d x y th dn tb:=by obtain⟨⟨dx,a⟩,b,c,e,u⟩:=h;exact⟨⟨dx,s.at_ _ _ (fun _ z=>by cases z) a⟩,s.at_ _ _ (fun _ z=>by cases z) b,s.at_ _ _ (fun _ z=>by cases z) c,s.at_ _ _ (fun _ z=>by cases z) e,u⟩
def z2n.but{Ts:List Tb}{C:Addr}{H H':Hp}{p:Addr}{n:Int}{d x y:Addr}{th:List (List Key × V)}{dn tb:List V}(t:z2n Ts H)(h:z1Q C H p n d x y th dn tb)(s:But H H' d x y):z2n Ts H':=by
 obtain⟨_,b,c,e,_⟩:=h;have k:∀a o,H a=some o->(∀z,o≠.dT z)->(∀z,o≠.lst z)->H' a=some o:=fun a o ea n1 n2 =>
  s a o ea (fun z=>by rw[z,b]at ea;cases ea;exact n1 _ rfl) (fun z=>by rw[z,c]at ea;cases ea;exact n2 _ rfl) (fun z=>by rw[z,e]at ea;cases ea;exact n2 _ rfl)
 intro T hT;rcases t T hT with e1|⟨c',oc,vs,tk,e1,e2,e3⟩
 .exact .inl (k _ _ e1 (fun _ z=>by cases z) (fun _ z=>by cases z))
 .exact .inr ⟨c',oc,vs,tk,k _ _ e1 (fun _ z=>by cases z) (fun _ z=>by cases z),k _ _ e2 (fun _ z=>by cases z) (fun _ z=>by cases z),e3⟩
def z8t(rs:List z34):Prop:=∀r∈rs,∀g∈r.2,∃i,g=.inr i
def z8t.names{rs:List z34}(h:z8t rs):z2l rs=[]:=by unfold z2l;rw[List.flatten_eq_nil_iff];intro l hl;obtain⟨r,hr,rfl⟩:=y0e.mp hl;rw[List.filterMap_eq_nil_iff];intro g hg;obtain⟨i,rfl⟩:=h r hr g hg;rfl
def z8t.sews{K:yyF}{H:Hp}{rs:List z34}{kvs:List (Key × V)}(h:z8t rs)(hs:∀r∈rs,r.2.length<=60):zno K H rs kvs (rs.map z2M) fun i=>(str "",i):=by
 refine⟨rfl,fun x y e=>(Prod.mk.inj e).2,fun i _ _=>y0t _,fun i h0 hi=>?_⟩;rw[y00]at hi;have hj:i.toNat<rs.length:=by lia
 have er:row (rs.map z2M) i=z2M rs[i.toNat]:=by unfold row;simp[hj]
 refine⟨rs[i.toNat],.inl ⟨rfl,h0,y01 hj⟩,by rw[er];rfl,?_,hs _ (y0n hj)⟩;rw[er];show _=((rs[i.toNat]).2.map goN).map _;rw[y0R];refine y0E fun g hg=>?_;obtain⟨k,rfl⟩:=h _ (y0n hj) g hg;rfl
def zbb(K:yyF):Sp:=fun vs H Q _=>∃(n:Nat)(a:Addr)(rows:List Row)(m:Nat),vs=[.int n,.ref a,.int m]/\z1D K H a rows/\1<=n/\n<=60/\m<=400/\rows.length<=4000/\(∀r∈rows,r.1.length<=60/\r.2.length<=60) /\
 ∀(b:Bool)(H':Hp),(b=true↔¬z1B n rows m)->z08 H H'->Q (.bl b) H'
def z9s(Ts:List Tb)(K:yyF)(C Cb:Addr):Sp:=fun vs H Q E=>∃(p:Addr)(n:Nat)(d x y:Addr)(th:List (List Key × V))(dn tb:List V)(nm:Str)(a:Addr)(rs:List z34)(xs:List Str),
 vs=[.ref p,.str nm,.ref a]/\z1Q C H p n d x y th dn tb/\z2n Ts H/\z2U nm=true/\nm.length<=1000000/\(z2S th (kH (str "guise") nm)).isSome=false/\z5D K H a rs/\z8t rs/\n<=60/\rs.length<=5000/\(∀r∈rs,r.1.length<=60/\r.2.length<=60)/\th.length<sizeLine/\dn.length<sizeLine /\
 (z1B n (rs.map z2M) 60->z2L [str "name",str "rows"] xs [.str nm,.lst (z3k rs)]/\(shr (rs.map z2M)).length<=60/\∀(v:V) (q:Addr) (H':Hp),z1Q C H' p n d x y (z1X th (kH (str "guise") nm) v) (dn++[.ref q]) []->zoA Ts H H' d x y->Q .non H')/\(¬z1B n (rs.map z2M) 60->TMx Cb E H)
def z3L(rows:List Row):List z34:=rows.map fun r=>(r.1,r.2.map .inr)
def z6n(rows:List Row):z8t (z3L rows):=fun r hr g hg=>by obtain⟨r0,_,rfl⟩:=y0e.mp hr;obtain⟨i,_,rfl⟩:=y0e.mp hg;exact⟨i,rfl⟩
def z6Y(rows:List Row):(z3L rows).map z2M=rows:=by unfold z3L;rw[y0R];refine(y0E fun r _=>?_).trans (List.map_id _);show(r.1,(r.2.map .inr).map goN)=r;rw[y0R];have:r.2.map (goN∘(.inr:Int->Str ⊕ Int))=r.2:=(y0E fun i _=>rfl).trans (List.map_id _);rw[this]
def z7G(rows:List Row):z3k (z3L rows)=z0x rows:=by unfold z3k z3L z0x;rw[y0R];refine y0E fun r _=>?_;show D.tup [D.its r.1,.tup ((r.2.map .inr).map goD)]=z97 r;unfold z97 D.its;rw[y0R];rfl
def z1D.g{K:yyF}{H:Hp}{a:Addr}{rows:List Row}(h:z1D K H a rows):z5D K H a (z3L rows):=by obtain⟨us,e,d⟩:=h;exact⟨us,e,by rw[z7G];exact d⟩
def z7z(Ts:List Tb)(K:yyF):Sp:=fun vs H Q _=>∃(n:Nat)(a:Addr)(rows:List Row)(door:Nat),vs=[.int n,.ref a,.int door]/\z2n Ts H/\z1D K H a rows/\2<=n/\n<=5/\rows.length<=4000/\(∀r∈rows,r.1.length<=60/\r.2.length<=60) /\
 (door=0->(z1B n rows 400->(shr rows).length<=60)/\∀H',z1I Ts H H'->(z1B n rows 400->Q (.str "") H')/\(¬z1B n rows 400->Q (.str "bad") H')) /\
 (door≠0->(z1B n rows 60->(shr rows).length<=60/\∃xs,z2L [str "name",str "rows"] xs [.str (str "a"),.lst (z0x rows)])/\∀H',z1I Ts H H'->(z1B n rows 60->Q (.str "") H')/\(¬z1B n rows 60->Q (.str "bad") H'))
def zdW{n:Nat}{rows:List Row}{j:Nat}(G:z1b n rows)(hj:1<=j)(hl:j<=rows.length)(h:∀r∈rows,∀g∈r.2,g<(j:Int)):(shr rows).length<=j:=by
 obtain⟨L,_⟩:=z0Q G;have hP:∀c∈z0g rows,0<=c/\c<(j:Int):=by
  refine zeF (P:=fun c=>0<=c/\c<(j:Int)) (fun c hc g hg=>?_) _ _ _ (fun c hc=>?_)
  .have hm:row rows c∈rows:=z1Y hc.1 (by lia);exact⟨(G.go _ hm g hg).1,h _ hm g hg⟩
  .rw[y0r.mp hc];lia
 have ht:(rows.take j).length=j:=by rw[y0k];lia
 have L2:z7g (rows.take j) (z0g rows):=⟨L.nd,fun x hx=>by rw[ht];exact hP x hx,L.hd⟩;have hh:=(z2b (kOf rows) (z0g rows)).2.2;have hz:=L2.len;unfold shr z3m;rw[y00];lia
def z9c{n:Nat}{rows:List Row}{nm:Str}(hn:1<=n)(hn5:n<=5)(hM:z1B n rows 60)(hb:z2U nm=true):∃xs,z2L [str "name",str "rows"] xs [.str nm,.lst (z0x rows)]:=by
 have e:z0x rows=(rows.map fun r=>((r.1,r.2.map D.int):z99)).map rD:=by unfold z0x;rw[y0R];rfl
 rw[e];refine⟨_,.cons (.name hb) (.cons (.rows (fun z=>?_) (fun r hr=>?_) ?_) .nil)⟩
 .have h1:=hM.1.some;have h2:=y1n List.length z;simp at h2;rw[h2]at h1;simp at h1
 .obtain⟨r0,h0,rfl⟩:=y0e.mp hr;have hp:=hM.1.perm r0 h0;have hl:=hp.len;have hg:=hM.1.len r0 h0;refine⟨fun z=>?_,⟨?_,fun i hi=>?_⟩,?_,fun g hg=>?_⟩
  .have z':r0.1=[]:=z;rw[z']at hl;simp at hl;lia
  .show r0.1.length<=100;lia
  .have:=hp.mem.mp hi;lia
  .show(r0.2.map D.int).length<=10;rw[y00];lia
  .obtain⟨i,hi,rfl⟩:=y0e.mp hg;have h1:=hM.1.go r0 h0 i hi;have h2:=hM.2;exact .inr ⟨i.toNat,by rw[Int.toNat_of_nonneg h1.1],y0h (show i.toNat<60 by lia) (by decide +kernel)⟩
 .rw[y00];have:=hM.2;lia
def z4v(K:yyF):Sp:=fun vs H Q _=>∃(n:Nat)(a:Addr)(rows:List Row)(way:Nat)(cell:Int),vs=[.int n,.ref a,.int way,.int cell]/\z1D K H a rows/\z1b n rows/\rows.length<=8/\2<=n/\n<=5/\way<15 /\
 ∀(l:Addr)(rs:List Row)(H':Hp),z08 H H'->z1D K H' l rs->rs.length<=4000->(∀r∈rs,r.1.length<=60/\r.2.length<=60)->(∀m,z1B n rs m->(shr rs).length<=60)->Q (.ref l) H'
def z8p{n:Nat}{rs:List Row}(h:rs.length<=60):∀m,z1B n rs m->(shr rs).length<=60:=fun _ hM=>y0w (zgf hM.1) h
def zfz{n:Nat}{rs:List Row}{j:Nat}(hj:1<=j)(h8:j<=60)(hl:j<=rs.length)(h:∀r∈rs,∀g∈r.2,g<(j:Int)):∀m,z1B n rs m->(shr rs).length<=60:=fun _ hM=>y0w (zdW hM.1 hj hl h) h8
def z1x(p:List Int)(lo hi:Option Int):∃q:List Int,z4Z (p.map V.int) lo hi=q.map V.int/\q.length<=p.length:=by
 unfold z4Z;refine⟨(p.drop (HT.sIx (p.map V.int).length 0 lo)).take (HT.sIx (p.map V.int).length (p.map V.int).length hi-HT.sIx (p.map V.int).length 0 lo),?_,?_⟩
 .rw[List.map_take,List.map_drop]
 .rw[y0k,y1R];lia
def SpI(K:yyF)(H:Hp)(l b c:Addr)(r0:Row)(m:Nat)(st:St)(σ:St)(H':Hp):Prop :=
 σ=st/\z08 H H'/\H' b=some (.tup (r0.1.map V.int))/\H' c=some (.tup (r0.2.map V.int))/\∃(us:List V)(rs:List Row),H' l=some (.lst us)/\us.length=m/\DrL K H' (z0x rs) us/\rs.length=m/\∀r∈rs,r.1.length<=60/\r.2.length<=60
theorem SpI.set{K:yyF}{H:Hp}{l b c:Addr}{r0:Row}{m:Nat}{st σ:St}{H' H'':Hp}(h:SpI K H l b c r0 m st σ H')(hl:H l=none)(s:z08 H' H''){q p1 p2:Addr}{x y:List Int}(eq:H'' q=some (.tup [.ref p1,.ref p2]))(e1:H'' p1=some (.tup (x.map V.int)))(e2:H'' p2=some (.tup (y.map V.int)))(hx:x.length<=60)(hy:y.length<=60){us:List V}(eu:H'' l=some (.lst us))(j:Nat):SpI K H l b c r0 m st σ (upd H'' l (.lst (us.set j (.ref q)))):=by
 obtain⟨hσ,s0,eb,ec,us',rs,el,hul,dl,hrl,hall⟩:=h;have e':=s _ _ el;rw[eu]at e';cases e';have kk:z1m H'' (upd H'' l (.lst (us.set j (.ref q)))):=z1m.up (z1m.refl H'') eu (fun _ z=>by cases z);refine⟨hσ,fun a o ea=>?_,kk _ _ (s _ _ eb),kk _ _ (s _ _ ec),us.set j (.ref q),rs.set j (x,y),z01,by rw[List.length_set];exact hul,?_,by rw[List.length_set];exact hrl,fun r hr=>?_⟩
 .have:a≠l:=fun z=>by rw[z,hl]at ea;cases ea
  rw[z04 this];exact s _ _ (s0 _ _ ea)
 .unfold z0x;rw[List.map_set];exact DrL.set (z2W (r:=(x,y)) (kk _ _ eq) (kk _ _ e1) (kk _ _ e2)) j ((dl.mono s).keyed kk (z1T _))
 .rcases List.mem_or_eq_of_mem_set hr with z|z
  .exact hall r z
  .rw[z];exact⟨hx,hy⟩
def zaB{p:List Int}{j:Int}(h1:-(p.length:Int)<=j)(h2:j<(p.length:Int)):∃i,atI (p.map V.int) j=some (.int i):=by
 unfold atI ixN;rw[y00];by_cases h:0<=j
 .rw[if_pos h,if_pos h2];refine⟨p[j.toNat]'(by lia),?_⟩;simp[y01 (show j.toNat<p.length by lia)]
 .rw[if_neg h,if_pos h1];refine⟨p[(j+p.length).toNat]'(by lia),?_⟩;simp[y01 (show(j+p.length).toNat<p.length by lia)]
def z2m.inv{k x:Str}{d:D}(h:z2m k x d):(k=str "name"/\z2U x=true/\d=.str x)\/(k=str "number"/\∃n:Int,n.natAbs<10^60/\x=z7m n/\d=.int n)\/((k=str "word"\/k=str "ring")/\∃w,zcU w/\x=z1P w/\d=D.its w)\/(k=str "rows"/\∃rs:List z99,(∀r∈rs,z7d r)/\rs.length<=100/\x=zc2 rs/\d=.lst (rs.map rD)):=by
 cases h with
 |name h=>exact .inl ⟨rfl,h,rfl⟩
 |num h=>exact .inr (.inl ⟨rfl,_,h,rfl,rfl⟩)
 |word h=>exact .inr (.inr (.inl ⟨.inl rfl,_,h,rfl,rfl⟩))
 |ring h0 h=>exact .inr (.inr (.inl ⟨.inr rfl,_,h,rfl,rfl⟩))
 |rows h0 h1 h2=>exact .inr (.inr (.inr ⟨rfl,_,h1,h2,rfl,rfl⟩))
def z8n{K:yyF}{k:Str}(hk:k≠str "word"/\k≠str "ring"/\k≠str "rows")(vs:List V)(H:Hp)(Q:VK)(E:XK)(h:zgi K k vs H Q E):z22 vs H Q E:=by
 obtain⟨v,d,x,rfl,hd,hp,q⟩:=h;rcases hp.inv with⟨_,_,rfl⟩|⟨_,n,hn,rfl,rfl⟩|⟨z|z,_⟩|⟨z,_⟩
 .simp only[Dr]at hd;subst hd;exact .inr ⟨x,rfl,q H (z08.refl H)⟩
 .simp only[Dr]at hd;subst hd;exact .inl ⟨n,rfl,z3j (y0h hn (Nat.pow_le_pow_right (by decide) (by decide))),q H (z08.refl H)⟩
 .exact absurd z hk.1
 .exact absurd z hk.2.1
 .exact absurd z hk.2.2
def zaP{K:yyF}{k:Str}(hk:k≠str "name"/\k≠str "number"/\k≠str "rows")(vs:List V)(H:Hp)(Q:VK)(E:XK)(h:zgi K k vs H Q E):z3z K vs H Q E:=by
 obtain⟨v,d,x,rfl,hd,hp,q⟩:=h;rcases hp.inv with⟨z,_⟩|⟨z,_⟩|⟨_,w,hw,rfl,rfl⟩|⟨z,_⟩
 .exact absurd z hk.1
 .exact absurd z hk.2.1
 .unfold D.its at hd;simp only[Dr]at hd;obtain⟨a,us,rfl,e,r⟩:=hd;obtain rfl:=DrL.ints_inv r;exact⟨a,w,rfl,SqT.of e,hw,q⟩
 .exact absurd z hk.2.2
def zes{K:yyF}{k:Str}(hk:k≠str "name"/\k≠str "number"/\k≠str "word"/\k≠str "ring")(vs:List V)(H:Hp)(Q:VK)(E:XK)(h:zgi K k vs H Q E):z5G K vs H Q E:=by
 obtain⟨v,d,x,rfl,hd,hp,q⟩:=h;rcases hp.inv with⟨z,_⟩|⟨z,_⟩|⟨z|z,_⟩|⟨_,rs,h1,h2,rfl,rfl⟩
 .exact absurd z hk.1
 .exact absurd z hk.2.1
 .exact absurd z hk.2.2.1
 .exact absurd z hk.2.2.2
 .simp only[Dr]at hd;obtain⟨a,us,rfl,e,r⟩:=hd;exact⟨a,us,rs,rfl,e,r,h1,h2,q⟩
def WrA(P:Program)(w:World)(K:yyF)(mg:yyS)(base:Heap)(CX:CXT)(n:Nat)(aW:Addr)(k:Str)(sp:Sp):Prop:=∃(f:Addr)(fd:FuncData)(ps:List Str),PySem.W.nsIn K aW k=some (some (.ref f))/\z0u P w K mg base CX n f fd ps sp/\z0i K fd ps []/\PySem.W.keepIn K (.ref f)=true
def zfP{P:Program}{w:World}{K:yyF}{mg:yyS}{base:Heap}{CX:CXT}{n:Nat}{aW:Addr}(h1:WrA P w K mg base CX n aW (str "name") z22)(h2:WrA P w K mg base CX n aW (str "number") z22)(h3:WrA P w K mg base CX n aW (str "word") (z3z K))(h4:WrA P w K mg base CX n aW (str "ring") (z3z K))(h5:WrA P w K mg base CX n aW (str "rows") (z5G K)):Wrs P w K mg base CX n aW:=fun k hk=>by
 unfold zdI at hk;simp only[y0o,List.not_mem_nil,or_false]at hk;rcases hk with rfl|rfl|rfl|rfl|rfl
 .obtain⟨f,fd,ps,a,O,b,c⟩:=h1;exact⟨f,fd,ps,a,O.sub (z8n (by decide +kernel)),b,c⟩
 .obtain⟨f,fd,ps,a,O,b,c⟩:=h2;exact⟨f,fd,ps,a,O.sub (z8n (by decide +kernel)),b,c⟩
 .obtain⟨f,fd,ps,a,O,b,c⟩:=h3;exact⟨f,fd,ps,a,O.sub (zaP (by decide +kernel)),b,c⟩
 .obtain⟨f,fd,ps,a,O,b,c⟩:=h4;exact⟨f,fd,ps,a,O.sub (zaP (by decide +kernel)),b,c⟩
 .obtain⟨f,fd,ps,a,O,b,c⟩:=h5;exact⟨f,fd,ps,a,O.sub (zes (by decide +kernel)),b,c⟩
section
variable{P:Program}{w:World}{K:yyF}{mg:yyS}{base:Heap}{f g:Addr}{fd gd:FuncData}{CX:CXT}[NoE CX]
abbrev nIN:List Str:=["text"]
def zpg:z0j nIN ["text"] (z05 z3F):={}
def zly:z0X nIN (z05 z3F) ["sign"] [none] (csc [(".0",.local),("sign",.local),("SMALL_LETTERS",.globalImplicit)]):={}
def z9f{t1 t2:Tok}(ml:mg "len"=none)(mall:mg "all"=none)(m_MOST_LETTERS_OF_NAME:mg "MOST_LETTERS_OF_NAME"=some (.int 12 t1))(m_SMALL_LETTERS:mg "SMALL_LETTERS"=some (.str "abcdefghijklmnopqrstuvwxyz" t2))(F:Fun K "is_name" "is_name" z3F f fd):z0u P w K mg base CX 1 f fd ["text"] z5K:=by
 refine F.okc zpg (fun vs H Q E h=>?_) (fun cdv A outer s H vs Q E hr h=>?_)
 .obtain⟨x,rfl,_⟩:=h;rfl
 obtain⟨x,rfl,hx,gv⟩:=h;refine⟨_,z07 (z0y (zf3 (z89 z3s z3s z06 (z0e z6a rfl ml y0y (z00 (pv 0) z03)) (z1G (v:=.int 12) rfl m_MOST_LETTERS_OF_NAME ⟨_,rfl⟩)) (zgd (z0e (zow K rfl rfl) rfl mall PyProof.Rows.boot_all (z00 (z1a rfl zly (zeO (pv 0)) (fun _ _ _ _ _=>z0c (i:=0) zly.nd rfl (Or.inl rfl)) (fun _ _ _ _ _=>z9I zaV (pv 0) (z1G (v:=.str "abcdefghijklmnopqrstuvwxyz") rfl m_SMALL_LETTERS ⟨_,rfl⟩) rfl)) z03))))),?_⟩;have hz:x.length<=sizeLine:=y0w hx (by decide);refine(exA rfl ⟨x,rfl,hz,exC rfl rfl (exA rfl ?_)⟩);unfold z2U at gv;refine z1q (fun c1=>(exC rfl rfl (exA rfl ?_))) (fun c1=>?_)
 .have c1':(1:Int)<=(x.length:Int):=y0l c1;refine z1q (fun c2=>?_) (fun c2=>?_)
  .have c2':(x.length:Int)<=12:=y0l c2;refine(exA rfl ⟨x,rfl,fun l hl=>zbA (x:=x) (fun i ys H2=>i<=x.length/\z08 H H2/\ys=(((sg x).take i).map fun c=>decide (97<=c/\c<=122)).map V.bl) ⟨y0t _,same_up (z08.refl H) hl,rfl⟩ hz (fun i ys H2 h=>by rw[h.2.2,y00,y00,y0k,z3h];have:=h.1;lia) (fun i c ys H2 hc h hy=>?_) (fun ys H2 h hy=>?_)⟩)
   .obtain⟨hi,s2,rfl⟩:=h;refine(exA rfl (exC rfl rfl ⟨hy,?_,z0d s2 hl,?_⟩))
    .have:=(y05.mp hc).1;rw[z3h]at this;lia
    .rw[y0v,hc,y1t,y04,y04,y0H,y0H,zbE]
   .obtain⟨_,s2,rfl⟩:=h;rw[y0s (by rw[z3h];lia)]at hy;refine⟨l,exA rfl ⟨SqL.of hy,?_⟩⟩;have e:=gv H2 s2;rw[y0U (show 1<=x.length/\x.length<=12 by lia),Bool.true_and]at e;rw[List.all_map];exact e
  .have c2':¬(x.length:Int)<=12:=fun z=>c2 (y0U z);have e:=gv H (z08.refl H);rw[y0J (show ¬(1<=x.length/\x.length<=12)by lia),Bool.false_and]at e;exact e
 .have c1':¬(1:Int)<=(x.length:Int):=fun z=>c1 (y0U z);refine(exA rfl ?_);have e:=gv H (z08.refl H);rw[y0J (show ¬(1<=x.length/\x.length<=12)by lia),Bool.false_and]at e;exact z5n e
abbrev nPW:List Str:=["part"]
def zpq:z0j nPW ["part"] (z05 z38):={}
def z8J(mstr:mg "str"=none)(F:Fun K "plainly_written" "plainly_written" z38 f fd):z0u P w K mg base CX 1 f fd ["part"] z22:=by
 refine F.okc zpq (fun vs H Q E h=>?_) (fun cdv A outer s H vs Q E hr h=>?_)
 .rcases h with⟨_,rfl,_⟩|⟨_,rfl,_⟩<;>rfl
 refine⟨_,z07 (z0y (z0o (z3V.or z3S) rfl mstr y1H (z00 (pv 0) z03))),?_⟩;rcases h with⟨i,rfl,hi,gv⟩|⟨x,rfl,gv⟩
 .exact(exA rfl (.inl ⟨i,rfl,hi,gv⟩))
 .exact(exA rfl (.inr ⟨x,rfl,gv⟩))
abbrev nWW:List Str:=["word"]
def zps:z0j nWW ["word"] (z05 z3G):={}
def zkF:z0X nWW (z05 z3G) ["letter"] [none] (csc [(".0",.local),("letter",.local),("str",.globalImplicit)]):={}
def zaI{t1:Tok}(ml:mg "len"=none)(mstr:mg "str"=none)(m_EMPTY:mg "EMPTY"=some (.str "-" t1))(F:Fun K "word_written" "word_written" z3G f fd):z0u P w K mg base CX 1 f fd ["word"] (z3z K):=by
 refine F.okc zps (fun vs H Q E h=>?_) (fun cdv A outer s H vs Q E hr h=>?_)
 .obtain⟨a,w,rfl,_⟩:=h;rfl
 obtain⟨a,w,rfl,ea,hf,gv⟩:=h;refine⟨_,z07 (z0y (z3g (z1c zdp (z0e z0a rfl ml y0y (z00 (pv 0) z03)) z06 (z1C _)) (z2A y1U y21 y22 (z5N K rfl) z1h (z00 (z1a rfl zkF (z2P (pv 0)) (fun _ _ _ _ _=>z0c (i:=0) zkF.nd rfl (Or.inl rfl)) (fun _ _ _ _ _=>z0o (z3V.or z3S) rfl mstr y1H (z00 (pv 0) z03))) z03)) (z1G (v:=.str "-") rfl m_EMPTY ⟨_,rfl⟩))),?_⟩;refine(exA rfl ⟨a,exA rfl ⟨.inr ea,exC rfl rfl (exA rfl (z1q (fun c=>?_) (fun c=>?_)))⟩⟩)
 .have c':((w.map V.int).length:Int)>0:=y0l c;rw[y00]at c';refine⟨rfl,exA rfl ⟨a,rfl,⟨_,ea⟩,fun l hl=>z1U (xs:=w.map V.int) (fun i ys H2=>i<=w.length/\z08 H H2/\ys=((w.take i).map z7m).map V.str) ⟨y0t _,same_up (z08.refl H) hl,rfl⟩ (fun i ys H2 _ h=>h.2.1.tupl ea) (by rw[y00];exact z0l (by have:=hf.1;lia)) (fun i ys H2 h=>by rw[h.2.2,y00,y00,y0k];have:=h.1;lia) (fun i x ys H2 hx h hy=>?_) (fun ys H2 h hy=>?_)⟩⟩
  .obtain⟨hi,s2,rfl⟩:=h;rw[y08]at hx;obtain⟨n,hn,rfl⟩:=y15.mp hx;have hil:=(y05.mp hn).1;obtain⟨n0,n9⟩:=hf.2 n (y0O hn);refine(exA rfl (.inl ⟨n,rfl,z3j (by lia),hy,by lia,z0d s2 hl,?_⟩));rw[y0v,hn,y1t,y04,y04,y0H,y0H];rfl
  .obtain⟨_,s2,rfl⟩:=h;rw[y0s (by rw[y00];lia)]at hy;refine⟨_,l,exA rfl ⟨rfl,SqL.of hy,?_,?_⟩⟩
   .rw[zbQ fun x hx=>?_]
    .rw[y00];have:=hf.1;show w.length+w.length*0<=_;lia
    .obtain⟨n,hn,rfl⟩:=y0e.mp hx;exact zed (hf.2 n hn).1 (hf.2 n hn).2
   .have e:=gv H2 s2;unfold z1P at e;rw[if_neg (fun z=>by rw[z]at c';simp at c')]at e;exact e
 .have c':¬((w.map V.int).length:Int)>0:=fun z=>c (y0U z);rw[y00]at c';have e:=gv H (z08.refl H);unfold z1P at e;rw[if_pos (y18.mp (by lia))]at e;exact e
abbrev nRW:List Str:=["row","rearranging","goings"]
def zkb:z0j nRW ["row"] (z05 z5d):={}
def zkL:z0X nRW (z05 z5d) ["going"] [none] (csc [(".0",.local),("going",.local),("plainly_written",.globalImplicit)]):={}
def zcy(F:Fun K "row_written" "row_written" z5d f fd){aW:Addr}{dW:FuncData}(W:z0u P w K mg base CX 1 aW dW ["word"] (z3z K))(bW:z0i K dW ["word"] [])(kW:PySem.W.keepIn K (.ref aW)=true)(mW:mg "word_written"=some (.ref aW)){aPl:Addr}{dPl:FuncData}(Pl:z0u P w K mg base CX 1 aPl dPl ["part"] z22)(bPl:z0i K dPl ["part"] [])(kPl:PySem.W.keepIn K (.ref aPl)=true)(mPl:mg "plainly_written"=some (.ref aPl)):z0u P w K mg base CX 2 f fd ["row"] (zai K):=by
 refine F.okc zkb (fun vs H Q E h=>?_) (fun cdv A outer s H vs Q E hr h=>?_)
 .obtain⟨v,r,rfl,_⟩:=h;rfl
 obtain⟨v,r,rfl,dv,G,gv⟩:=h;refine⟨_,z02 (z29 (pv 0) (z2k rfl (z0h (z0c (i:=1) zkb.nd rfl (Or.inl rfl)) (z0h (z0c (i:=2) zkb.nd rfl (Or.inl rfl)) z18))))
  (z07 (z0y (z2A y1U y21 y22 (z5N K rfl) z1h (z00 (z0f zfa (z1W (z00 (z0t W hr rfl mW kW bW .nil z1t (z00 (pv 1) z03)) z03)) (z1a rfl zkL (z2P (pv 2)) (fun _ _ _ _ _=>z0c (i:=0) zkL.nd rfl (Or.inl rfl)) (fun _ _ _ _ _=>z0t Pl hr rfl mPl kPl bPl .nil z1t (z00 (pv 0) z03)))) z03)))),?_⟩
 obtain⟨a,us,rfl,ea,dus⟩:∃(a:Addr)(us:List V),v=.ref a/\H a=some (.tup us)/\DrL K H [D.its r.1,.tup r.2] us:=by simp only[rD,Dr]at dv;exact dv
 obtain⟨y1,y2,rfl,dy1,dy2⟩:∃y1 y2,us=[y1,y2]/\Dr K H (D.its r.1) y1/\Dr K H (.tup r.2) y2:=by simp only[DrL]at dus;obtain⟨y1,_,rfl,q1,y2,_,rfl,q2,rfl⟩:=dus;exact⟨y1,y2,rfl,q1,q2⟩
 obtain⟨b1,w1,rfl,eb1,dw1⟩:∃(a:Addr)(us:List V),y1=.ref a/\H a=some (.tup us)/\DrL K H (r.1.map D.int) us:=by simp only[D.its,Dr]at dy1;exact dy1
 obtain⟨b2,w2,rfl,eb2,dw2⟩:∃(a:Addr)(us:List V),y2=.ref a/\H a=some (.tup us)/\DrL K H r.2 us:=by simp only[Dr]at dy2;exact dy2
 have e1:=DrL.ints_inv dw1;subst e1;have hl2:=dw2.length;have hfew:=G.few;refine(exA rfl (exF a rfl (SqT.of ea) rfl (exB rfl (exC rfl rfl ?_))));refine⟨rfl,exA rfl ⟨b1,r.1,rfl,SqT.of eb1,G.figs,fun H1 s1=>⟨show 1<=sizeLine by decide,fun l1 hl1=>?_⟩⟩⟩;have s2:z08 H1 (upd H1 l1 (.lst [.str (z1P r.1)])):=same_up (z08.refl H1) hl1;have e2:upd H1 l1 (.lst [.str (z1P r.1)]) l1=some (.lst [.str (z1P r.1)]):=z01;generalize upd H1 l1 (.lst [.str (z1P r.1)])=H2 at s2 e2⊢;have s02:=s1.trans s2;refine(exA rfl ⟨b2,rfl,⟨_,SqT.of (s02 _ _ eb2)⟩,fun l3 hl3=>z1U (xs:=w2) (fun i ys H3=>i<=w2.length/\z08 H2 H3/\ys=((r.2.take i).map z30).map V.str) ⟨y0t _,same_up (z08.refl H2) hl3,rfl⟩ (fun i ys H3 _ h=>SqT.of (h.2.1 _ _ (s02 _ _ eb2))) (z0l (by lia)) (fun i ys H3 h=>by rw[h.2.2,y00,y00,y0k];have:=h.1;lia) (fun i x ys H3 hx h hy=>?_) (fun ys H3 h hy=>?_)⟩)
 .obtain⟨hi,s3,rfl⟩:=h;have hil:=(y05.mp hx).1;have eg:r.2[i]?=some r.2[i]:=y01 (by lia);have hgm:=y0n (show i<r.2.length by lia);have et:r.2.take (i+1)=r.2.take i++[r.2[i]]:=by rw[y0v,eg];rfl
  generalize r.2[i]=g at eg hgm et;obtain⟨x',ex,dx⟩:=dw2.get eg;rw[hx]at ex;cases ex;have fin:upd H3 l3 (.lst (((r.2.take i).map z30).map V.str++[.str (z30 g)]))=upd H3 l3 (.lst (((r.2.take i).map z30).map V.str++[.str (z30 g)])):=rfl;rcases G.go g hgm with⟨z,rfl,hz⟩|⟨n,rfl,hn⟩
  .simp only[Dr]at dx;subst dx;refine(exA rfl (.inr ⟨z,rfl,hy,by lia,z0d s3 hl3,?_⟩));rw[et,y04,y04,y0H,y0H];rfl
  .simp only[Dr]at dx;subst dx;refine(exA rfl (.inl (exA rfl ⟨z3j (by lia),hy,by lia,z0d s3 hl3,?_⟩)));rw[et,y04,y04,y0H,y0H];rfl
 .obtain⟨_,s3,rfl⟩:=h;rw[y0s (by lia)]at hy;refine⟨l1,l3,exC rfl rfl ⟨s3 _ _ e2,hy,y0w (show 1+((r.2.map z30).map V.str).length<=11 by rw[y00,y00];lia) (by decide),fun l4 hl4=>?_⟩⟩;refine⟨_,l4,z1P r.1::r.2.map z30,rfl,rfl,SqL.of z01,?_,gv _ (s02.trans (same_up s3 hl4))⟩;have h:=(z2p (y:=str " ") fun p hp=>(z6K G p hp).1).2;have h1:(z1P r.1::r.2.map z30).length*(100+(str " ").length)<=11*(100+(str " ").length):=y1v _ (by rw[y0m,y00];lia);have h2:11*(100+(str " ").length)<=16777216:=by decide +kernel
  exact y0w h (y0w h1 h2)
abbrev nRS:List Str:=["rows"]
def zoX:z0j nRS ["rows"] (z05 z3D):={}
def znT:z0X nRS (z05 z3D) ["row"] [none] (csc [(".0",.local),("row",.local),("row_written",.globalImplicit)]):={}
def zb5(F:Fun K "rows_written" "rows_written" z3D f fd){aR:Addr}{dR:FuncData}(R:z0u P w K mg base CX 2 aR dR ["row"] (zai K))(bR:z0i K dR ["row"] [])(kR:PySem.W.keepIn K (.ref aR)=true)(mR:mg "row_written"=some (.ref aR)):z0u P w K mg base CX 3 f fd ["rows"] (z5G K):=by
 refine F.okc zoX (fun vs H Q E h=>?_) (fun cdv A outer s H vs Q E hr h=>?_)
 .obtain⟨a,us,rs,rfl,_⟩:=h;rfl
 obtain⟨a,us,rs,rfl,ea,dus,G,hl,gv⟩:=h;refine⟨_,z07 (z0y (z2A y1U y21 y22 (z5N K rfl) z1h (z00 (z1a rfl znT (z1Z (pv 0)) (fun _ _ _ _ _=>z0c (i:=0) znT.nd rfl (Or.inl rfl)) (fun _ _ _ _ _=>z0t R hr rfl mR kR bR .nil z1t (z00 (pv 0) z03))) z03))),?_⟩;have hul:us.length=rs.length:=by have:=dus.length;rw[y00]at this;lia
 refine⟨rfl,exA rfl ⟨a,rfl,⟨_,ea⟩,fun l3 hl3=>z2v (xs:=us) (fun i ys H3=>i<=us.length/\z08 H H3/\ys=((rs.take i).map zbv).map V.str) ⟨y0t _,same_up (z08.refl H) hl3,rfl⟩ (fun i ys H3 _ h=>h.2.1.seq ea) (z0l (by lia)) (fun i ys H3 h=>by rw[h.2.2,y00,y00,y0k];have:=h.1;lia) (fun i x ys H3 hx h hy=>?_) (fun ys H3 h hy=>?_)⟩⟩
 .obtain⟨hi,s3,rfl⟩:=h;have hil:=(y05.mp hx).1;have eg:rs[i]?=some rs[i]:=y01 (by lia);have hgm:=y0n (show i<rs.length by lia);have et:rs.take (i+1)=rs.take i++[rs[i]]:=by rw[y0v,eg];rfl
  generalize rs[i]=r at eg hgm et;obtain⟨x',ex,dx⟩:=dus.get (show(rs.map rD)[i]?=some (rD r)by rw[y08,eg];rfl);rw[hx]at ex;cases ex;refine(exA rfl ⟨x,r,rfl,dx.mono s3,G r hgm,fun H4 s4=>⟨s4 _ _ hy,by lia,z0d (s3.trans s4) hl3,?_⟩⟩);rw[et,y04,y04,y0H,y0H]
 .obtain⟨_,s3,rfl⟩:=h;rw[y0s (by lia)]at hy;refine⟨_,l3,rs.map zbv,rfl,rfl,SqL.of hy,?_,gv _ s3⟩;have h:=(z2p (y:=str " / ") (xs:=rs.map zbv) (B:=1200) fun p hp=>by obtain⟨r,hr,rfl⟩:=y0e.mp hp;exact zbi (G r hr)).2;have h1:(rs.map zbv).length*(1200+(str " / ").length)<=100*(1200+(str " / ").length):=y1v _ (by rw[y00];lia);have h2:100*(1200+(str " / ").length)<=16777216:=by decide +kernel
  exact y0w h (y0w h1 h2)
abbrev nLW:List Str:=["deed","name","parts","kind","part","writer"]
def zey:z0j nLW ["deed"] (z05 z1y):={}
def zco{a_DEEDS a_WRITERS:Addr}(mzip:mg "zip"=none)(m_DEEDS:mg "DEEDS"=some (.ref a_DEEDS))(dD:z4I K a_DEEDS=true)(hD:∀p∈z6O,∃t,PySem.W.nsIn K a_DEEDS p.1=some (some (.ref t))/\zg5 K t p.2=true)(m_WRITERS:mg "WRITERS"=some (.ref a_WRITERS))(dW:z4I K a_WRITERS=true)(W:Wrs P w K mg base CX 6 a_WRITERS)(F:Fun K "line_written" "line_written" z1y f fd):z0u P w K mg base CX 7 f fd ["deed"] (z7k K):=by
 refine F.okc zey (fun vs H Q E h=>?_) (fun cdv A outer s H vs Q E hr h=>?_)
 .obtain⟨v,name,z0Y,xs,ds,rfl,_⟩:=h;rfl
 obtain⟨v,name,z0Y,xs,ds,rfl,dv,hm,hp,gv⟩:=h;refine⟨_,z02 (z0k (i:=1) zey.nd rfl (Or.inl rfl) (z1L z3O (pv 0) z06 (fun _ _=>rfl)))
  (z02 (z0k (i:=2) zey.nd rfl (Or.inl rfl) (z1W (z00 (pv 1) z03)))
  (z02 (z2R y16 rfl (zew rfl mzip (z00 (z80 (z1G (v:=.ref a_DEEDS) rfl m_DEEDS rfl) (pv 1) (fun _ _=>rfl)) (z00 (z0Z z1M (pv 0) (z1j z06) z1u) z03))) (z2k rfl (z0h (z0c (i:=3) zey.nd rfl (Or.inl rfl)) (z0h (z0c (i:=4) zey.nd rfl (Or.inl rfl)) z18)))
   (z02 (z0k (i:=5) zey.nd rfl (Or.inl rfl) (z80 (z1G (v:=.ref a_WRITERS) rfl m_WRITERS rfl) (pv 3) (fun _ _=>rfl)))
   (z07 (z0M (z2A y0A y0C y0D z0H (pv 2) (z00 (zcz (CX:=CX) 5 hr (z00 (pv 4) z03)) z03))))))
  (z07 (z0y (z2A y1U y21 y22 (z5N K rfl) z1h (z00 (pv 2) z03)))))),?_⟩
 obtain⟨a,us,rfl,ea,dus⟩:∃(a:Addr)(us:List V),v=.ref a/\H a=some (.tup us)/\DrL K H (.str name::ds) us:=by simp only[Dr]at dv;exact dv
 obtain⟨ws,rfl,dws⟩:∃ws,us=.str name::ws/\DrL K H ds ws:=by simp only[DrL,Dr]at dus;obtain⟨v,r,rfl,rfl,h⟩:=dus;exact⟨r,rfl,h⟩
 obtain⟨h1,h2,h3,h4,h5⟩:=z8O hm hp;obtain⟨hxl,hdl⟩:=hp.len;have hwl:=dws.length;obtain⟨t,hn,ht⟩:=hD _ hm;have hkk:=(z8s _ hm).2.2;refine(exA rfl (exD a _ _ (.str name) rfl rfl (SqT.of ea) (z0S (j:=0) rfl) ?_));refine(exA rfl ⟨show 1<=sizeLine by decide,fun lp hlp=>?_⟩);have s1:z08 H (upd H lp (.lst [.str name])):=same_up (z08.refl H) hlp;have e1:upd H lp (.lst [.str name]) lp=some (.lst [.str name]):=z01;generalize upd H lp (.lst [.str name])=H1 at s1 e1⊢;refine(exA rfl ⟨a_DEEDS,name,.ref t,exA rfl ⟨dD,rfl,hn,rfl,exA rfl ⟨1,rfl,a,exA rfl ⟨s1 _ _ ea,fun q H2 s2 e2=>?_⟩⟩⟩⟩);rw[zgc]at e2;have s02:=s1.trans s2;have hks:SqT K H2 t (z0Y.map V.str):=z9A (xs:=z0Y) ht (by lia) _;have hnot:a≠lp:=fun z=>by have:=s1 _ _ ea;rw[z,e1]at this;cases this
 have hq0:q≠lp:=fun z=>by rw[z,s2 _ _ e1]at e2;cases e2
 refine⟨t,q,rfl,⟨_,hks⟩,⟨_,SqT.of e2⟩,zjI (xs:=z0Y.map V.str) (ys:=ws) (by rw[y00];lia) (fun i σ H3=>∃(u3 u4 u5:Option V),σ=[some (.ref a),some (.str name),some (.ref lp),u3,u4,u5]/\z08 H H3/\H3 q=some (.tup ws)/\H3 lp=some (.lst ((name::xs.take i).map V.str))/\i<=z0Y.length)
  ⟨_,_,_,rfl,s02,e2,s2 _ _ e1,y0t _⟩ (fun i σ H3 _ h=>by obtain⟨_,_,_,_,t3,t4,_⟩:=h;exact⟨z9A (xs:=z0Y) ht (by lia) _,SqT.of t4⟩) (fun i x y p σ H3 hx hy h hp0 Ed nx=>?_) (fun σ H3 h=>?_)⟩
 .obtain⟨u3,u4,u5,rfl,s3,e3,er3,hi⟩:=h;rw[y08]at hx;obtain⟨k,hk,rfl⟩:=y15.mp hx;have hil:=(y05.mp hk).1;obtain⟨z,d,ez,ed,pk⟩:=hp.get hk;obtain⟨y',ey,dy⟩:=dws.get ed;rw[hy]at ey;cases ey;have s4:z08 H3 (upd H3 p (.tup [.str k,y])):=same_up (z08.refl H3) hp0;have e4:upd H3 p (.tup [.str k,y]) p=some (.tup [.str k,y]):=z01;generalize upd H3 p (.tup [.str k,y])=H4 at s4 e4⊢;have s04:=s3.trans s4;refine(exF p rfl (SqT.of e4) rfl (exB rfl (exC rfl rfl ?_)));obtain⟨fa,fda,ps,hns,FO,hbd,hkp⟩:=W k (hkk k (y0O hk));refine(exA rfl ⟨a_WRITERS,k,.ref fa,exA rfl ⟨dW,rfl,hns,rfl,?_⟩⟩);refine(exA rfl ⟨.inl ⟨rfl,_,SqL.of (s4 _ _ er3)⟩,fa,fda,_,exB rfl ⟨FO,hbd,hkp,z1t,exA rfl ⟨y,d,z,rfl,dy.mono s04,pk,fun H5 s5=>?_⟩⟩⟩);have er5:=s5 _ _ (s4 _ _ er3);refine⟨lp,_,.str z,rfl,rfl,er5,z0l (by rw[y00,y0m,y0k];lia),nx _ _ ⟨_,exB rfl ⟨z0d (s04.trans s5) hlp,?_,?_,by lia⟩⟩⟩
  .rw[z04 hq0];exact s5 _ _ (s4 _ _ e3)
  .rw[z01,y0v,ez,y1t,<-List.cons_append,y04];rfl
 .obtain⟨u3,u4,u5,rfl,s3,e3,er3,hi⟩:=h;rw[y00,y0s (by lia)]at er3;refine⟨rfl,exA rfl ⟨str " ",lp,name::xs,rfl,rfl,SqL.of er3,?_,gv _ s3⟩⟩;have h1:=(z2p (y:=str " ") (xs:=name::xs) (B:=130000) fun p hpm=>by
   rcases y0o.mp hpm with rfl|hpm
   .lia
   .obtain⟨i,hi⟩:=List.getElem?_of_mem hpm;have hil:=(y05.mp hi).1;obtain⟨x,d,ex,_,pk⟩:=hp.get (i:=i) (y01 (show i<z0Y.length by lia));rw[hi]at ex;cases ex;exact zc8 pk).2
  have h2:(name::xs).length*(130000+(str " ").length)<=4*(130000+(str " ").length):=y1v _ (by rw[y0m];lia);have h3:4*(130000+(str " ").length)<=16777216:=by decide +kernel
  exact y0w h1 (y0w h2 h3)
def zbZ:z0j ["letters","numbers"] ["letters","numbers"] (z05 z68):={}
def z9w(F:Fun K "rearranges" "rearranges" z68 f fd)(ms:mg "sorted"=none)(mls:mg "list"=none)(mr:mg "range"=none):z0u P w K mg base CX 1 f fd ["letters","numbers"] (z5m K):=by
 refine F.okc zbZ (fun vs H Q E h=>?_) (fun cdv A outer s H vs Q E hr h=>?_)
 .obtain⟨n,b,p,rfl,_⟩:=h;rfl
 obtain⟨n,b,p,rfl,hb,hp,hn,q⟩:=h;refine⟨_,z07 (z0y (z9I (zoD K rfl hr.units) (z0e (zfQ K rfl) rfl ms PyProof.Rows.boot_sorted (z00 (pv 1) z03)) (z0o (z2f rfl) rfl mls y1D (z00 (z0o z3d rfl mr y1x (z00 (pv 0) z03)) z03)) (z1C _))),?_⟩;obtain⟨b,rfl,eb⟩:=Dr.its_inv hb;refine(exA rfl ⟨b,p,rfl,SqT.of eb,by lia,fun ns' hperm hsort l hl=>?_⟩);refine(exA rfl ⟨(n:Int),rfl,by lia,by lia,fun r hr0=>⟨r,0,(n:Int),rfl,z01,⟨by decide,by decide,by lia,by lia⟩,by lia,fun l2 hl2=>?_⟩⟩);have en:((n:Int)-0).toNat=n:=by lia
 rw[en,z2u];have s1:z08 (upd H l (.lst (ns'.map V.int))) (upd (upd (upd H l (.lst (ns'.map V.int))) r (.rng 0 n)) l2 (.lst ((z0s n).map V.int))):=same_up (same_up (z08.refl _) hr0) hl2;refine⟨l,l2,D.lst (ns'.map D.int),D.lst ((z0s n).map D.int),rfl,rfl,Dr.lst (s1 _ _ z01) (DrL.ints _),Dr.lst z01 (DrL.ints _),by simp only[D.ok];exact z5t _ _,by simp only[D.dep,D.depL_ints];decide,?_⟩;refine q _ _ ⟨fun z=>?_,fun z=>?_⟩ ((same_up (z08.refl H) hl).trans s1)
 .have e:=D.eq_of z;injection e with e;have e2:ns'=z0s n:=List.map_inj_right (fun _ _ h=>by injection h) |>.mp e;rw[e2]at hperm;exact hperm.symm
 .rw[z4a z hperm hsort];exact D.eq_refl _
abbrev nCA:List Str:=["letters","rows","most","rearranging","goings"]
def zkc:z0j nCA ["letters","rows","most"] (z05 z58):={}
def zn1:z0X nCA (z05 z58) ["going","rows"] [none,some 1] (csc [(".0",.local),("going",.local),("len",.globalImplicit),("rows",.free)]):={}
def z9h{Ct:Addr}{bmB:List Value}{B newId initId:String}(mC:mg "BadMachine"=some (.ref Ct))(xC:PySem.W.excIn K Ct bmB newId=true)(hB:ExcBaseFacts B newId initId bmB)(ml:mg "len"=none)(many:mg "any"=none)(F:Fun K "check_machine" "check_machine" z58 f fd){aG:Addr}{dG:FuncData}(G:z0u P w K mg base (CXx P w) 1 aG dG ["letters","numbers"] (z5m K))(bG:z0i K dG ["letters","numbers"] [])(kG:PySem.W.keepIn K (.ref aG)=true)(mG:mg "rearranges"=some (.ref aG)):z0u P w K mg base (CXx P w) 2 f fd ["letters","rows","most"] (z40 K Ct):=by
 refine F.okx zkc (fun vs H Q E h=>?_) (fun cdv A outer s H vs Q E hr h=>?_)
 .obtain⟨n,a,rows,m,rfl,_⟩:=h;rfl
 obtain⟨n,a,rows,m,rfl,⟨us,ea,da⟩,hn,hm,hrl,hsm,gv,qx⟩:=h;refine⟨_,z02 (z15 (z6o (z3p z3s z3s z06 (z0e z0a rfl ml y0y (z00 (pv 1) z03)) (pv 2))) (z07 (z1R mC rfl xC hB (zc4 z1h (zg4 (pv 2)) z1h))) z0n)
  (z07 (z2R PassesOwn.leaving rfl (z1Z (pv 1)) (z2k rfl (z0h (z0c (i:=3) zkc.nd rfl (Or.inl rfl)) (z0h (z0c (i:=4) zkc.nd rfl (Or.inl rfl)) z18)))
   (z02 (z15 (z6o (z4C (z0t G hr rfl mG kG bG .nil z1t (z00 (pv 0) (z00 (pv 3) z03))))) (z07 (z1R mC rfl xC hB z1h)) z0n)
   (z02 (z15 (z0I (zcO (z0e z0a rfl ml y0y (z00 (pv 4) z03)) (pv 0))) (z07 (z1R mC rfl xC hB z1h)) z0n)
   (z07 (z15 (z4C (z0e (zos K rfl rfl) rfl many PyProof.Rows.boot_any (z00 (z1a rfl zn1 (z2P (pv 4)) (fun _ _ _ _ _=>z0c (i:=0) zn1.nd rfl (Or.inl rfl)) (fun _ _ _ _ _=>zg3 (z89 z3s z6k z06 (pv 0) (z0e (zp7 K rfl) rfl ml y0y (z00 (pv 1) z03))))) z03))) (z07 (z1R mC rfl xC hB z1h)) z0n)))))),?_⟩
 have hul:us.length=rows.length:=by have:=da.length;unfold z0x at this;rw[y00]at this;exact this.symm
 have bad:¬z1B n rows m->∀(H1:Hp),z08 H H1->∀ea:Addr,E (.ref ea) (some Ct) H1:=fun z H1 s1 ea=>qx z ea H1 s1;have hstr:∀x:Str,x.length<=100->x.length<=sizeLine:=fun x h=>z0l (by lia);have l1:(Str.ofString "a machine has from 1 to ").length<=40:=by decide +kernel
 have l3:(Str.ofString " rows here").length<=40:=by decide +kernel
 have l2:(Str.ofString (toString ((m:Nat):Int))).length<=10:=by
  have h:∀k,k<=400->(Str.ofString (toString ((k:Nat):Int))).length<=10:=by decide +kernel
  exact h m hm
 have msg:¬z1B n rows m->zd1 (tC (.str (Str.ofString "a machine has from 1 to "))) (zkV (zks 2)) (tC (.str (Str.ofString " rows here"))) (L2.start nCA [.int n,.ref a,.int m]) H (fun v H1=>∀ea,E (.ref ea) (some Ct) H1):=fun z =>
  ⟨_,rfl,z0l (by lia),_,rfl,.inr ⟨_,rfl,z3j (by lia),_,rfl,z0l (by lia),_,rfl,z0l (by lia),bad z H (z08.refl H)⟩⟩
 refine(exA rfl (exG a rfl (.inl (SqL.of ea)) (exC rfl rfl (exA rfl (z1q (fun c1=>(exA rfl (exC rfl rfl (exA rfl ?_)))) (fun c1=>?_))))));rotate_left
 .have c1':=y0L (y0K.mpr c1);exact(exA rfl (z1q (fun _=>msg fun z=>c1' (by have:=z.1.some;lia)) (fun z=>absurd rfl z)))
 have c1':=y0l c1;refine z1q (fun z=>msg fun y=>by have:=y.2;rw[y0U (show(us.length:Int)<=(m:Int)by lia)]at z;cases z) (fun z=>?_);have c2':(us.length:Int)<=(m:Int):=by
  by_cases y:(us.length:Int)<=(m:Int)
  .exact y
  .exact absurd (by rw[y0J y];rfl) z
 refine⟨_,rfl,a,rfl,⟨_,SqL.of ea⟩,zeP (xs:=us) (fun i σ H2=>∃(u1 u2:Option V),σ=[some (.int n),some (.ref a),some (.int m),u1,u2]/\z08 H H2/\∀r∈rows.take i,IsP n r.1/\r.2.length=n/\∀g∈r.2,0<=g/\g<(rows.length:Int))
  ⟨_,_,rfl,z08.refl H,fun r hr=>by simp at hr⟩ (fun i σ H2 _ h=>by obtain⟨_,_,_,t2,_⟩:=h;exact SqL.of (t2 _ _ ea)) (fun i x σ H2 hx h Ed nx=>?_) (fun σ H2 h=>?_)⟩
 .obtain⟨u1,u2,rfl,t2,hgood⟩:=h;have hil:i<us.length:=(y05.mp hx).1;have er:rows[i]?=some rows[i]:=y01 (by lia);have hrm:rows[i]∈rows:=y0n (by lia);obtain⟨x',ex,dx⟩:=z2r da er;rw[hx]at ex;cases ex;generalize rows[i]=ri at er dx hrm;obtain⟨hs1,hs2⟩:=hsm ri hrm;have et:rows.take (i+1)=rows.take i++[ri]:=by rw[y0v,er];rfl
  obtain⟨t,b,c,rfl,et0,eb,ec⟩:=z1H (dx.mono t2);refine(exF t rfl (SqT.of et0) rfl (exB rfl (exC rfl rfl ?_)));refine(exA rfl (exA rfl ⟨n,.ref b,ri.1,rfl,Dr.tup eb (DrL.ints _),hs1,hn,fun k H3 hk s3=>(exA rfl ?_)⟩));have s03:=t2.trans s3;cases k with
  |false=>exact z1q (fun _=>bad (fun z=>by have:=hk.mpr (z.1.perm ri hrm);cases this) H3 s03) (fun z=>absurd rfl z)
  |true =>
   refine z5n ?_;have hperm:=hk.mp rfl;have ec3:=s3 _ _ ec;refine(exA rfl (exG c rfl (.inr (SqT.of ec3)) (exA rfl (exC rfl rfl (exA rfl (z1q (fun z=>?_) (fun z=>?_)))))))
   .refine bad (fun y=>?_) H3 s03;have:=y.1.len ri hrm;rw[y00,this]at z;simp at z
   have hgl:ri.2.length=n:=by
    by_cases y:ri.2.length=n
    .exact y
    .exact absurd (show(!decide ((((ri.2.map V.int).length:Nat):Int)=(n:Int)))=true by rw[y00,y0J (by lia)];rfl) z
   refine(exA rfl ⟨c,rfl,⟨_,SqT.of ec3⟩,fun l hl0=>z1U (xs:=ri.2.map V.int) (fun j ys H4=>j<=ri.2.length/\ys=((ri.2.take j).map fun g=>!(decide (0<=g/\g<(rows.length:Int)))).map V.bl/\z08 H3 H4) ⟨y0t _,rfl,same_up (z08.refl H3) hl0⟩ (fun j ys H4 _ h=>SqT.of (h.2.2 _ _ ec3)) (by rw[y00];exact z0l (by lia)) (fun j ys H4 h=>?_) (fun j x ys H4 hx h hy=>?_) (fun ys H4 h hy=>?_)⟩)
   .obtain⟨hj,rfl,_⟩:=h;rw[y00,y00,y0k];lia
   .obtain⟨hj,rfl,s4⟩:=h;rw[y08]at hx;obtain⟨g,hg,rfl⟩:=y15.mp hx;have hjl:=(y05.mp hg).1;have eg:ri.2.take (j+1)=ri.2.take j++[g]:=by rw[y0v,hg];rfl
    have ea4:=s4 _ _ (s03 _ _ ea);refine(exA rfl (exC rfl rfl (exA rfl (z1q (fun c=>(exA rfl (exG a rfl (.inl (SqL.of ea4)) (exC rfl rfl (exA rfl ⟨hy,by lia,?_,z0d s4 hl0⟩))))) (fun c=>?_)))))
    .have c':=y0l c;rw[eg,y04,y04,y0H,y0H];congr 3;rw[hul];congr 1;exact decide_eq_decide.mpr ⟨fun z=>⟨c',z⟩,fun z=>z.2⟩
    .have c':=y0L (y0K.mpr c);refine(exA rfl ⟨hy,by lia,?_,z0d s4 hl0⟩);rw[eg,y04,y04,y0H,y0H,y0J (fun z=>c' z.1)]
   .obtain⟨_,rfl,s4⟩:=h;rw[y00,y0V]at hy;have s04:=s03.trans s4;refine⟨l,exA rfl ⟨SqL.of hy,exA rfl (z1q (fun z=>?_) (fun z=>?_))⟩⟩
    .refine bad (fun y=>?_) H4 s04;obtain⟨b1,hb1,hb2⟩:=y2G.mp z;obtain⟨g,hg,rfl⟩:=y0e.mp hb1;rw[id,y0U (y.1.go ri hrm g hg)]at hb2;cases hb2
    .refine nx _ _ (exB rfl ⟨s04,fun r hr=>?_⟩);rw[et]at hr;rcases y0G.mp hr with y|y
     .exact hgood r y
     .rw[y0r.mp y];refine⟨hperm,hgl,fun g hg=>?_⟩;by_cases w1:0<=g/\g<(rows.length:Int)
      .exact w1
      .exact absurd (y2G.mpr ⟨true,y0e.mpr ⟨g,hg,by rw[y0J w1];rfl⟩,rfl⟩) z
 .obtain⟨u1,u2,rfl,t2,hgood⟩:=h;rw[hul,y0V]at hgood;exact gv ⟨⟨by lia,by lia,fun r hr=>(hgood r hr).1,fun r hr=>(hgood r hr).2.1,fun r hr=>(hgood r hr).2.2⟩,by lia⟩ _ t2
def z3x:z0j ["things","numbers","thing"] ["things"] (z05 z1O):={}
def z5b:z0X ["things","numbers","thing"] (z05 z1O) ["thing","numbers"] [none,some 1] (csc [(".0",.local),("thing",.local),("numbers",.free)]):={}
def z7b(F:Fun K "numbered" "numbered" z1O f fd)(ml:mg "len"=none):z0u P w K mg base CX 1 f fd ["things"] (z3w K):=by
 refine F.okc z3x (fun vs H Q E h=>?_) (fun cdv A outer s H vs Q E hr h=>?_)
 .obtain⟨a,us,ds,rfl,_⟩:=h;rfl
 obtain⟨a,us,ds,rfl,ha,hd,hT,hlen,q⟩:=h;have hu9:(A.deeper (PyProof.Rows.envOfC "numbered" (z05 z1O) s.heap.objs.size f cdv)).units+9<cLine:=by have:=hr.units;lia
 refine⟨_,z02 (z0k (i:=1) z3x.nd rfl (Or.inr rfl) (zeg (K:=K)))
  (z02 (z2R y16 rfl (z1Z (pv 0)) (z0c (i:=2) z3x.nd rfl (Or.inl rfl))
   (z07 (z15 (z0I (zbl (K:=K) hu9 (pv 2) (pv 1))) (z07 (zeo (K:=K) hu9 (pv 1) (pv 2) (z0e (zkp K) rfl ml y0y (z00 (pv 1) z03)))) z0n)))
  (z07 (z0y (z1a rfl z5b (z1Z (pv 0)) (fun _ _ _ _ _=>z0c (i:=0) z5b.nd rfl (Or.inl rfl)) (fun _ _ _ _ _=>zfx P w K rfl rfl hu9 (pv 1) (pv 0) (fun _ _=>rfl)))))),?_⟩
 intro d hd0 ob0 g0;have hul:ds.length=us.length:=hd.length;have s0:z08 H (upd H d ob0):=same_up (z08.refl H) hd0;refine⟨_,rfl,a,rfl,⟨_,SqL.of (s0 _ _ ha)⟩,zeP (xs:=us) (fun i σ H2=>∃v:Option V,σ=[some (.ref a),some (.ref d),v]/\z08 H H2/\DD P w K H2 d (prs id (z0B (ds.take i))))
  ⟨none,rfl,s0,g0⟩ (fun i σ H2 _ h=>by obtain⟨_,_,s2,_⟩:=h;exact SqL.of (s2 _ _ ha)) (fun i x σ H2 hx h Ed nx3=>?_) (fun σ H2 h=>?_)⟩
 .obtain⟨v,rfl,s2,g⟩:=h;have hiu:i<us.length:=(y05.mp hx).1;have ed:ds[i]?=some ds[i]:=y01 (by lia);obtain⟨x',ex,dx⟩:=hd.get ed;rw[hx]at ex;cases ex;have hk:=hT _ (y0n (show i<ds.length by lia));generalize ds[i]=di at ed dx hk;have et:z0B (ds.take (i+1))=z2J (z0B (ds.take i)) di:=by
   unfold z0B;rw[y0v,ed];exact z2e _ _ _
  have hlu:(z0B (ds.take i)).length<=4900:=by have:=z23 (ds.take i) [];rw[y0k]at this;unfold z0B;simp at this;lia
  refine(exA rfl (exA rfl ⟨d,_,di,rfl,g,zi1 hk (dx.mono s2),exA rfl ?_⟩));have hv:z2S (prs id (z0B (ds.take i))) di=_:=z31 id (fun _ _ e=>e) (z0B (ds.take i)) di;by_cases hm:di∈z0B (ds.take i)
  .rw[hv,if_pos hm];refine z5n (nx3 _ _ (exA rfl ⟨s2,?_⟩));rw[et,z0v hm];exact g
  .rw[hv,if_neg hm];refine z8x (exA rfl ⟨d,exA rfl ⟨g,exA rfl (exA rfl ⟨d,_,di,rfl,g,zi1 hk (dx.mono s2),by rw[z3f];exact z47 hlu,fun ob g2=>nx3 _ _ (exA rfl ⟨z0d s2 hd0,?_⟩)⟩)⟩⟩);rw[et,z0w hm,<-z77 id (fun _ _ e=>e) hm];rw[z3f]at g2;exact g2
 .obtain⟨v,rfl,s2,g⟩:=h;rw[y0s (by lia)]at g;refine(exA rfl ⟨a,rfl,⟨_,SqL.of (s2 _ _ ha)⟩,fun l hl0=>z2v (xs:=us) (fun i ys H3=>i<=ds.length/\ys=((z2j ds).take i).map V.int/\z08 H2 H3) ⟨y0t _,rfl,same_up (z08.refl H2) hl0⟩ (fun i ys H3 _ h=>SqL.of (h.2.2 _ _ (s2 _ _ ha))) (z0l (by lia)) (fun i ys H3 h=>?_) (fun i x ys H3 hx h hy=>?_) (fun ys H3 h hy=>?_)⟩)
  .obtain⟨hi,rfl,_⟩:=h;unfold z2j;rw[y00,y0k,y00];lia
  .obtain⟨_,rfl,s3⟩:=h;have hiu:i<us.length:=(y05.mp hx).1;have ed:ds[i]?=some ds[i]:=y01 (by lia);obtain⟨x',ex,dx⟩:=hd.get ed;rw[hx]at ex;cases ex;have hmem:ds[i]∈ds:=y0n (show i<ds.length by lia);have hk:=hT _ hmem;generalize ds[i]=di at ed dx hk hmem;have hm:di∈z0B ds:=z0G.mpr (.inr hmem);have hv:z2S (prs id (z0B ds)) di=_:=z31 id (fun _ _ e=>e) (z0B ds) di;rw[if_pos hm]at hv;refine(exA rfl (exA rfl ⟨d,_,di,exA rfl ⟨g.mono s3,zi1 hk (dx.mono (s2.trans s3)),hv,hy,by lia,?_,z0d s3 hl0⟩⟩));have en:(z2j ds)[i]?=some (((z0B ds).idxOf di:Nat):Int):=by unfold z2j;rw[y08,ed];rfl
   rw[z26 _ en]
  .obtain⟨_,rfl,s3⟩:=h;have e:((z2j ds).take us.length)=z2j ds:=y0s (by unfold z2j;rw[y00];lia);rw[e]at hy;exact q l H3 (s2.trans s3) hy
def zfn:z0j ["kinds","goings"] ["kinds","goings"] (z05 z8E):={}
def zdb:z0X ["kinds","goings"] (z05 z8E) ["going","kinds"] [none,some 0] (csc [(".0",.local),("going",.local),("kinds",.free)]):={}
def zdx(F:Fun K "kinds_gone_to" "kinds_gone_to" z8E f fd)(mt:mg "tuple"=none):z0u P w K mg base CX 1 f fd ["kinds","goings"] (z7S K):=by
 refine F.okc zfn (fun vs H Q E h=>?_) (fun cdv A outer s H vs Q E hr h=>?_)
 .obtain⟨a,b,ks,gs,rfl,_⟩:=h;rfl
 obtain⟨a,b,ks,gs,rfl,ha,hb,hg,hl,q⟩:=h;refine⟨_,z07 (z0y (z0o z0K rfl mt y0N (z00 (z1a rfl zdb (z2P (pv 1)) (fun _ _ _ _ _=>z0c (i:=0) zdb.nd rfl (Or.inl rfl)) (fun _ _ _ _ _=>z1L (ixL K rfl) (pv 1) (pv 0) (fun _ _=>rfl))) z03))),?_⟩;obtain⟨b,rfl,eb⟩:=Dr.its_inv hb;refine(exA rfl ⟨b,rfl,⟨_,SqT.of eb⟩,fun l hl0=>z1U (xs:=gs.map V.int) (fun i ys H2=>i<=gs.length/\ys=((gs.take i).map fun g=>ks.getD g.toNat 0).map V.int/\z08 H H2) ⟨y0t _,rfl,same_up (z08.refl H) hl0⟩ (fun i ys H2 _ h=>SqT.of (h.2.2 _ _ eb)) (by rw[y00];exact z0l (by lia)) (fun i ys H2 h=>?_) (fun i x ys H2 hx h hy=>?_) (fun ys H2 h hy=>?_)⟩)
 .obtain⟨hi,rfl,_⟩:=h;rw[y00,y00,y0k];lia
 .obtain⟨hi,rfl,s2⟩:=h;have hil:i<gs.length:=by have:=(y05.mp hx).1;rwa [y00]at this
  have eg:gs[i]?=some gs[i]:=y01 hil;obtain⟨h0,h1⟩:=hg _ (y0n hil);generalize gs[i]=gi at eg h0 h1;have ex:x=V.int gi:=by rw[y08,eg]at hx;exact(y0d hx).symm
  subst ex;have hk:gi.toNat<ks.length:=by lia
  refine(exA rfl (exA rfl (exD a _ gi (V.int (ks.getD gi.toNat 0)) rfl rfl (SqL.of (s2 _ _ ha)) (z8b h0 (by simp[hk])) ⟨hy,hil,?_,z0d s2 hl0⟩)));rw[z26 _ eg,y04];rfl
 .obtain⟨_,rfl,s2⟩:=h;refine⟨l,exA rfl (.inl ⟨SqL.of hy,fun t ht=>?_⟩)⟩;rw[y00,y0V];exact q _ _ (same_up s2 ht) (Dr.tup z01 (DrL.ints _))
def z4G:z0j ["rows","kinds","count"] ["rows"] (z05 z4d):={}
def z5C:z0X ["rows","kinds","count"] (z05 z4d) ["rearranging","goings"] [none,none] (csc [(".0",.local),("rearranging",.local),("goings",.local)]):={}
def z42:z0X ["rows","kinds","count"] (z05 z4d) ["kind","rearranging","goings","kinds"] [none,none,none,some 1] (csc [(".0",.local),("kind",.local),("rearranging",.local),("goings",.local),("kinds_gone_to",.globalImplicit),("kinds",.free)]):={}
def z9d{k Ct:Addr}{kd:FuncData}{tm:Tok}{bmB:List Value}{B newId initId:String}(mC:mg "TooMany"=some (.ref Ct))(xC:PySem.W.excIn K Ct bmB newId=true)(hB:ExcBaseFacts B newId initId bmB)(F:Fun K "kinds_of_rows" "kinds_of_rows" z4d f fd)(mz:mg "zip"=none)(mx:mg "max"=none)(mM:mg "MOST_FORM_ROWS"=some (.int 60 tm))(G:z0u P w K mg base (CXx P w) 1 g gd ["things"] (z3w K))(bG:z0i K gd ["things"] [])(kG:PySem.W.keepIn K (.ref g)=true)(mG:mg "numbered"=some (.ref g))(T:z0u P w K mg base (CXx P w) 1 k kd ["kinds","goings"] (z7S K))(bT:z0i K kd ["kinds","goings"] [])(kT:PySem.W.keepIn K (.ref k)=true)(mT:mg "kinds_gone_to"=some (.ref k)):z0u P w K mg base (CXx P w) 2 f fd ["rows"] (z5H K Ct):=by
 refine F.okx z4G (fun vs H Q E h=>?_) (fun cdv A outer s H vs Q E hr h=>?_)
 .obtain⟨a,n,rows,rfl,_⟩:=h;rfl
 obtain⟨a,n,rows,rfl,⟨us,ea,da⟩,GF,hn,q,qx⟩:=h;have h400:=GF.few;refine⟨_,z02 (z0k (i:=1) z4G.nd rfl (Or.inr rfl) (z0t G hr rfl mG kG bG .nil z1t (z00 (z1a rfl z5C (z1Z (pv 0)) (fun _ _ _ _ _=>pgT K (n:=2) rfl rfl (z0h (z0c (i:=0) z5C.nd rfl (Or.inl rfl)) (z0h (z0c (i:=1) z5C.nd rfl (Or.inl rfl)) z18))) (fun _ _ _ _ _=>pv 0)) z03)))
  (z02 (z0k (i:=2) z4G.nd rfl (Or.inl rfl) z06)
  (z02 (z3e PassesOwn.leaving (z1c z6k (pv 2) (z0f z1g (z0e (zmB K rfl rfl) rfl mx y2D (z00 (pv 1) z03)) z06) (z1C _))
   (z02 (z0k (i:=2) z4G.nd rfl (Or.inl rfl) (z0f z1g (z0e (zmB K rfl rfl) rfl mx y2D (z00 (pv 1) z03)) z06))
   (z02 (z15 (z1c zdp (pv 2) (z1G (v:=.int 60) rfl mM ⟨_,rfl⟩) (z1C _)) (z07 (z1R mC rfl xC hB z1h)) z0n)
   (z07 (z0k (i:=1) z4G.nd rfl (Or.inr rfl) (z0t G hr rfl mG kG bG .nil z1t (z00 (z1a rfl z42 (ziG K rfl rfl mz (z00 (pv 1) (z00 (pv 0) z03)))
    (fun _ _ _ _ _=>pgT K (n:=2) rfl rfl (z0h (z0c (i:=0) z42.nd rfl (Or.inl rfl)) (z0h (pgT K (n:=2) rfl rfl (z0h (z0c (i:=1) z42.nd rfl (Or.inl rfl)) (z0h (z0c (i:=2) z42.nd rfl (Or.inl rfl)) z18))) z18)))
    (fun _ _ _ _ _=>z0A (z00 (pv 0) (z00 (z0t T hr rfl mT kT bT .nil z1t (z00 (pv 3) (z00 (pv 2) z03))) z03)))) z03)))))))
  (z07 (z0y (pv 1))))),?_⟩
 have hul:us.length=rows.length:=by have:=da.length;unfold z0x at this;rw[y00]at this;exact this.symm
 have hrs:=GF.some;refine(exA rfl ⟨a,rfl,⟨_,SqL.of ea⟩,fun l1 hl1=>z2v (xs:=us) (fun i ys H2=>i<=us.length/\ys.length=i/\z08 H H2/\DrL K H2 ((rows.take i).map fun r=>D.its r.1) ys) ⟨y0t _,rfl,same_up (z08.refl H) hl1,DrL.nil⟩ (fun i ys H2 _ h=>SqL.of (h.2.2.1 _ _ ea)) (z0l (by lia)) (fun i ys H2 h=>h.2.1) (fun i x ys H2 hx h hy=>?_) (fun ys H2 h hy=>?_)⟩)
 .obtain⟨hi,hyl,s2,d2⟩:=h;have hil:i<us.length:=(y05.mp hx).1;have er:rows[i]?=some rows[i]:=y01 (by lia);obtain⟨x',ex,dx⟩:=z2r da er;rw[hx]at ex;cases ex;generalize rows[i]=ri at er dx;obtain⟨t,b,c,rfl,et,eb,ec⟩:=z1H (dx.mono s2);refine(exF t rfl (SqT.of et) rfl (exB rfl (exC rfl rfl (exA rfl ⟨hy,hil,by rw[y06,hyl];rfl,z0d s2 hl1,?_⟩))));rw[z26 _ er];have kk:z1m H2 (upd H2 l1 (.lst (ys++[.ref b]))):=z1m.up (z1m.refl _) hy (fun _ z=>by cases z);exact DrL.append (d2.keyed kk (by have:=z88 ((rows.take i).map (·.1));rw[y0R]at this;exact this)) (DrL.one (Dr.tup (kk _ _ eb) (DrL.ints _)))
 obtain⟨_,hyl,s2,d2⟩:=h;rw[y0s (by lia)]at d2;have e1:(rows.map fun r=>D.its r.1)=(rows.map (·.1)).map D.its:=by rw[y0R];rfl
 rw[e1]at d2;refine⟨l1,ys,exA rfl ⟨hy,d2,fun d hd=>?_,by rw[y00,y00];lia,fun l2 H3 s3 e3=>?_⟩⟩
 .obtain⟨p,_,rfl⟩:=y0e.mp hd;exact⟨z3H p,by rw[zej];decide,_,rfl⟩
 rw[z7X D.its (fun _ _=>z7w)]at e3;have K0:=zcQ GF;refine⟨fun m σ H4=>∃(c:Int)(ks:List Int)(l:Addr),σ=[some (.ref a),some (.ref l),some (.int c)]/\z08 H H4/\H4 l=some (.lst (ks.map V.int))/\z4J rows ks/\zad rows ks/\(c=0\/c<=60)/\0<=c/\(rows.length:Int)+1<=m+c/\z4M rows m c ks=z0Y rows,
  ⟨rows.length+1,0,_,l2,rfl,s2.trans s3,e3,K0,zfY rows,.inl rfl,Int.le_refl _,by lia,rfl⟩,?_⟩
 rintro m σ H4 ⟨c,ks,l,rfl,t4,e4,GK,NK,hc6,hc0,hm,hk⟩;obtain⟨x1,x2⟩:=z76 (zfp GF GK) fun k hk=>(GK.rg k hk).1;obtain⟨c1,c2⟩:=zf4 (zfp GF GK) GK.rg;have ec:cnt ks-1+1=cnt ks:=by lia
 refine(exA rfl (exA rfl ⟨l,ks,cnt ks-1,rfl,SqL.of e4,x1,x2,exC rfl rfl (exC rfl rfl (exA rfl ?_))⟩));refine z1q (fun cc=>?_) (fun cc=>?_)
 .have c':=y0l cc;rw[ec]at c';refine zfI fun N nx2=>?_;refine(exA rfl ⟨l,ks,cnt ks-1,rfl,SqL.of e4,x1,x2,exC rfl rfl (exA rfl (exC rfl rfl (exA rfl ?_)))⟩);have hmono:=z5a GF m c ks NK GK;rw[hk]at hmono;refine z1q (fun cc2=>?_) (fun cc2=>?_)
  .have c'':=y0l cc2;exact fun ea=>qx (by lia) ea H4 t4
  have c60:=y0L (y0K.mpr cc2);have hkl:=GK.len;have hsl:=z61 GK;have hn400:=GF.few;refine(exA rfl (exA rfl ⟨l,a,rfl,⟨_,SqL.of e4⟩,⟨_,SqL.of (t4 _ _ ea)⟩,fun l5 hl5=>zbF (xs:=ks.map V.int) (zs:=us) (by rw[y00];lia) (fun i ys H5=>i<=rows.length/\ys.length=i/\z08 H4 H5/\DrL K H5 (((z3W ks rows).take i).map z4O) ys) ⟨y0t _,rfl,same_up (z08.refl H4) hl5,DrL.nil⟩ (fun i ys H5 _ h=>⟨SqL.of (h.2.2.1 _ _ e4),SqL.of (h.2.2.1 _ _ (t4 _ _ ea))⟩) (by rw[y00];exact z0l (by lia)) (fun i ys H5 h=>h.2.1) (fun i x y p ys H5 hx hz h hy hp=>?_) (fun ys H5 h hy=>?_)⟩))
  .obtain⟨hi,hyl,s5,d5⟩:=h;have hil:i<rows.length:=by have:=(y05.mp hz).1;lia
   have er:rows[i]?=some rows[i]:=y01 hil;have ek:ks[i]?=some ks[i]:=y01 (by lia);have hrm:rows[i]∈rows:=y0n hil;obtain⟨y',ey,dy⟩:=z2r da er;rw[hz]at ey;cases ey;have es:(z3W ks rows)[i]?=some (ks[i],rows[i].2.map fun g=>ks.getD g.toNat 0):=by unfold z3W;rw[y08,y1b (z:=(ks[i],rows[i])) |>.mpr ⟨ek,er⟩];rfl
   generalize rows[i]=ri at er dy es hrm;generalize ks[i]=ki at ek es;have ex:x=V.int ki:=by rw[y08,ek]at hx;exact(y0d hx).symm
   subst ex;have sp:z08 H (upd H5 p (.tup [V.int ki,y])):=(t4.trans s5).trans (same_up (z08.refl H5) hp);have sp5:z08 H5 (upd H5 p (.tup [V.int ki,y])):=same_up (z08.refl H5) hp;obtain⟨t,b,c,rfl,et,eb,ec⟩:=z1H (dy.mono sp);refine(exF p rfl (SqT.of z01) rfl (exB rfl (exB rfl (exF t rfl (SqT.of et) rfl (exB rfl (exC rfl rfl ⟨rfl,exA rfl (exA rfl (exA rfl ⟨l,.ref c,ks,ri.2,rfl,sp5 _ _ (s5 _ _ e4),Dr.tup ec (DrL.ints _),fun g hg=>by rw[hkl];exact GF.go ri hrm g hg,by rw[GF.len ri hrm];lia,fun v H6 s6 dv=>⟨by show 2<=sizeLine;decide,fun t7 ht7=>?_⟩⟩))⟩))))));have s67:=same_up (o:=HO.tup [V.int ki,v]) s6 ht7;have hy7:=s67 _ _ (sp5 _ _ hy);refine⟨hy7,hil,by rw[y06,hyl];rfl,z0d (s5.trans (sp5.trans s67)) hl5,?_⟩;rw[z26 _ es];have kk:z1m H5 (upd (upd H6 t7 (.tup [V.int ki,v])) l5 (.lst (ys++[.ref t7]))):=z1m.up (z1m.of (sp5.trans s67)) hy7 (fun _ z=>by cases z);have k6:z1m H6 (upd (upd H6 t7 (.tup [V.int ki,v])) l5 (.lst (ys++[.ref t7]))):=z1m.up (z1m.of (same_up (z08.refl H6) ht7)) hy7 (fun _ z=>by cases z);have nt7:t7≠l5:=z4b z01 hy7 (by intro z;cases z);refine DrL.append (d5.keyed kk (z65 _)) (DrL.one ?_);exact Dr.tup (vs:=[V.int ki,v]) (by rw[z04 nt7];exact z01) (DrL.cons (Dr.int ki) (DrL.one (dv.keyed k6 (z3H _))))
  obtain⟨_,hyl5,s5,d5⟩:=h;rw[y00,hkl,y0s (by lia)]at d5;refine⟨l5,ys,exA rfl ⟨hy,d5,fun d hd=>?_,by rw[y00];lia,fun l6 H6 s6 e6=>?_⟩⟩
  .obtain⟨p,_,rfl⟩:=y0e.mp hd;exact⟨z8q p,zcl p,_,rfl⟩
  rw[z7X z4O zbk]at e6;cases m with
  |zero=>lia
  |succ m =>
   refine nx2 m _ _ (Nat.lt_succ_self m) ⟨cnt ks,_,l6,(by show[some (V.ref a),some (V.ref l6),some (V.int (cnt ks-1+1))]=_;rw[ec]),(t4.trans s5).trans s6,e6,z9B GK,zcS hkl,.inr (by lia),by lia,by lia,?_⟩;rw[<-hk];exact(if_pos c').symm
 .have c':=y0L (y0K.mpr cc);rw[ec]at c';have hkk:z0Y rows=ks:=by
   rw[<-hk];cases m with
   |zero=>rfl
   |succ m=>exact if_neg c'
  refine(exA rfl (q (by rw[hkk];lia) l H4 t4 ?_));rw[hkk];exact e4
abbrev zcY:List Str:=["first","row_at","order","places","found","rearranging","goings","going"]
def z2X:z0j zcY ["first","row_at"] (z05 z4K):={}
def z9N:z0X zcY (z05 z4K) ["going","places"] [none,some 3] (csc [(".0",.local),("going",.local),("places",.free)]):={}
def zcL(F:Fun K "rows_come_to" "rows_come_to" z4K f fd)(ml:mg "len"=none)(mt:mg "tuple"=none):z0u P w K mg base CX 5 f fd ["first","row_at"] (z7o P w K mg base CX 4):=by
 refine F.okc z2X (fun vs H Q E h=>?_) (fun cdv A outer s H vs Q E hr h=>?_)
 .obtain⟨a,n,rows,nm,rfl,_⟩:=h;rfl
 obtain⟨fa,n,rows,nm,rfl,ni,hV,G,hn,q⟩:=h;have hu:=z71 hr;refine⟨_,z02 (z0k (i:=2) z2X.nd rfl (Or.inl rfl) (z1W (z00 (pv 0) z03)))
  (z02 (z0k (i:=3) z2X.nd rfl (Or.inr rfl) (ze6 (z8e (pv 0) z06 zaO) rfl rfl (by simp) (by decide)))
  (z02 (z0k (i:=4) z2X.nd rfl (Or.inl rfl) (z1W z03))
  (z02 (z3e y16 (z1c z6k (z0e z0a rfl ml y0y (z00 (pv 4) z03)) (z0e z0a rfl ml y0y (z00 (pv 2) z03)) (z1C _))
   (z02 (z29 (z8m (CX:=CX) 1 hr (z00 (z1L z1F (pv 2) (z0e z0a rfl ml y0y (z00 (pv 4) z03)) (fun _ _=>rfl)) z03)) (z2k rfl (z0h (z0c (i:=5) z2X.nd rfl (Or.inl rfl)) (z0h (z0c (i:=6) z2X.nd rfl (Or.inl rfl)) z18))))
   (z02 (z2R y16 rfl (z2P (pv 6)) (z0c (i:=7) z2X.nd rfl (Or.inl rfl))
    (z07 (z15 (z0I (z6z hu (pv 7) (pv 3)))
     (z02 (z7B hu (pv 3) (pv 7) (z0e z0a rfl ml y0y (z00 (pv 2) z03)) rfl)
     (z07 (z0M (z2A y0A y0C y0D z0H (pv 2) (z00 (pv 7) z03))))) z0n)))
   (z07 (z0M (z2A y0A y0C y0D z0H (pv 4) (z00 (z0A (z00 (pv 5) (z00 (z0o z0K rfl mt y0N
    (z00 (z1a rfl z9N (z2P (pv 6)) (fun _ _ _ _ _=>z0c (i:=0) z9N.nd rfl (Or.inl rfl)) (fun _ _ _ _ _=>z7C hu (pv 1) (pv 0) (fun _ _=>rfl))) z03)) z03))) z03)))))))
  (z07 (z0y (pv 4)))))),?_⟩
 refine(exA rfl ⟨by show 1<=sizeLine;decide,fun lo hlo=>fun lp hlp=>(exA rfl ⟨z01,[(Sum.inl (nm 0),V.int 0)],rfl,by simp,by show 0<=sizeLine;decide,fun lf hlf=>?_⟩)⟩);have s1:z08 H (upd H lo (.lst [.int (nm 0)])):=same_up (z08.refl H) hlo;have hlp0:H lp=none:=s1.free hlp;have nlo:lo≠lp:=z09 z01 hlp;have s2:z08 H (upd (upd (upd H lo (.lst [.int (nm 0)])) lp (.dK [])) lp (.dK (z4o [] [(Sum.inl (nm 0),V.int 0)]))):=z0d (same_up s1 hlp) hlp0;have hlf0:H lf=none:=s2.free hlf;have nlf:lo≠lf:=z09 (show upd (upd (upd H lo (.lst [.int (nm 0)])) lp (.dK [])) lp (.dK (z4o [] [(Sum.inl (nm 0),V.int 0)])) lo=_ by rw[z04 nlo,z04 nlo];exact z01) hlf;have nlpf:lp≠lf:=z09 z01 hlf;have s3:=same_up (o:=HO.lst []) s2 hlf;have OL:=z0Q G;have hol:=OL.1.len;have h400:=G.few;refine⟨fun m σ H2=>∃(i:Nat)(o:List Int)(u1 u2 u3:Option V)(fs:List V),m=rows.length+1-i/\σ=[some (.int (nm 0)),some (.ref fa),some (.ref lo),some (.ref lp),some (.ref lf),u1,u2,u3]/\z08 H H2/\H2 lo=some (.lst (o.map (nV nm)))/\H2 lp=some (.dK (prs (kN nm) o))/\H2 lf=some (.lst fs) /\
   DrL K H2 (z0x ((z0z rows).take i)) fs/\z7g rows o/\i<=o.length/\bfs rows (rows.length+1-i) i o=z0g rows,⟨_,0,[0],none,none,none,[],rfl,rfl,s3,?_,?_,z01,DrL.nil,zcA G,by simp,rfl⟩,?_⟩
 .rw[z04 nlf,z04 nlo,z04 nlo];exact z01
 .rw[z04 nlpf];exact z01
 rintro m σ H2 ⟨i,o,u1,u2,u3,fs,rfl,rfl,t2,glo,glp,glf,df,L,hi,hb⟩;have hfl:fs.length=i:=by
  have:=df.length;unfold z0x at this;rw[y00,y0k]at this;obtain⟨mm,em⟩:=z4q rows (rows.length+1-i) i o;rw[hb]at em;have:(z0z rows).length=(z0g rows).length:=by unfold z0z z1E;rw[y00]
  have:o.length<=(z0g rows).length:=by rw[em,y06];lia
  lia
 refine(exA rfl (exG lf rfl (.inl (SqL.of glf)) (exA rfl (exG lo rfl (.inl (SqL.of glo)) (exC rfl rfl (exA rfl ?_))))));have hol2:(o.map (nV nm)).length=o.length:=y00 _;refine z1q (fun c=>?_) (fun c=>?_)
 .have c':=y0l c;rw[hfl,hol2]at c';have hio:i<o.length:=by lia
  have eo:o[i]?=some o[i]:=y01 hio;have hro:o[i]∈o:=y0n hio;generalize o[i]=r at eo hro;obtain⟨r0,r1⟩:=L.rg r hro;have hrow:=z1Y r0 r1;have hgl:=G.len _ hrow;have hgo:=G.go _ hrow;have hlen:=L.len;refine zfI fun N nx2=>?_;refine⟨fa,zcj K rows nm,rfl,(hV.mono t2).1,exA rfl (exA rfl (exG lf rfl (.inl (SqL.of glf)) (exD lo _ _ (V.int (nm r)) rfl rfl (SqL.of glo) (z0S (by rw[y08,hfl,eo];rfl)) ⟨hV.mono t2,r,rfl,r0,r1,fun v Hc sc dv=>?_⟩)))⟩;obtain⟨t,b,cc,rfl,et,eb,ec⟩:=z1H dv;have t2:=t2.trans sc;have glo:=sc _ _ glo;have glp:=sc _ _ glp;have glf:=sc _ _ glf;have df:=df.mono sc;refine(exF t rfl (SqT.of et) rfl (exB rfl (exC rfl rfl ?_)));unfold zez at eb ec;simp only at eb ec;generalize hgs:(row rows r).2=gs at *;refine⟨_,rfl,cc,rfl,⟨_,SqT.of ec⟩,zob (xs:=(gs.map nm).map V.int) (fun j σ H3=>∃u:Option V,σ=[some (.int (nm 0)),some (.ref fa),some (.ref lo),some (.ref lp),some (.ref lf),some (.ref b),some (.ref cc),u]/\z08 H H3/\z1m Hc H3/\H3 lo=some (.lst ((z0b o (gs.take j)).map (nV nm)))/\H3 lp=some (.dK (prs (kN nm) (z0b o (gs.take j))))/\H3 lf=some (.lst fs))
   ⟨_,rfl,t2,z1m.refl _,glo,glp,glf⟩ (fun j σ H3 _ h=>by obtain⟨_,_,_,k3,_⟩:=h;exact SqT.of (k3 _ _ ec)) (fun j x σ H3 hx h Ed nx3=>?_) (fun σ H3 h=>?_)⟩
  .obtain⟨u,rfl,t3,k3,e1,e2,e3⟩:=h;have hjl:j<gs.length:=by have:=(y05.mp hx).1;rwa [y00,y00]at this
   have eg:gs[j]?=some gs[j]:=y01 hjl;generalize gs[j]=gj at eg;have ex:x=V.int (nm gj):=by rw[y08,y08,eg]at hx;exact(y0d hx).symm
   subst ex;have et':z0b o (gs.take (j+1))=z2J (z0b o (gs.take j)) gj:=by rw[y0v,eg];exact z2e _ _ _
   have hal:(z0b o (gs.take j)).length<=4500:=by have:=z23 (gs.take j) o;rw[y0k]at this;lia
   generalize z0b o (gs.take j)=oj at *;refine(exA rfl (exA rfl ⟨lp,exA rfl ⟨z5k.k (k:=kN nm gj) e2,exA rfl ?_⟩⟩));have hv:=z31 (κ:=Key) (kN nm) (zba ni) oj gj;by_cases hm:gj∈oj
   .rw[hv,if_pos hm];refine z5n (nx3 _ _ (exA rfl ⟨t3,k3,?_,?_,e3⟩))
    .rw[et',z0v hm];exact e1
    .rw[et',z0v hm];exact e2
   .rw[hv,if_neg hm];have nlop:lo≠lp:=z4b e1 e2 (by intro z;cases z);refine z8x (exA rfl (exG lo rfl (.inl (SqL.of e1)) (exA rfl (exA rfl ⟨lp,exA rfl ⟨zcB.k (k:=kN nm gj) e2 (by rw[z3f];exact z47 (by lia)),?_⟩⟩))));have e1':upd H3 lp (.dK (z1X (prs (kN nm) oj) (kN nm gj) (V.int ((oj.map (nV nm)).length:Nat)))) lo=some (.lst (oj.map (nV nm))):=by rw[z04 nlop];exact e1
    refine(exA rfl ⟨.inl ⟨rfl,_,SqL.of e1'⟩,exA rfl ⟨lo,exC rfl rfl ⟨e1',by rw[y00];exact z47 (by lia),?_⟩⟩⟩);refine nx3 _ _ (exA rfl ⟨z0d (z0d t3 hlp0) hlo,z1m.up (z1m.up k3 e2 (fun _ z=>by cases z)) e1' (fun _ z=>by cases z),?_,?_,?_⟩)
    .rw[z01,et',z0w hm,y04];rfl
    .rw[z04 nlop.symm,z01,et',z0w hm,y00,z77 (kN nm) (zba ni) hm]
    .rw[z04 nlf.symm,z04 nlpf.symm];exact e3
  .obtain⟨u,rfl,t3,k3,e1,e2,e3⟩:=h;rw[y00,y00,y0V]at e1 e2;obtain⟨mm,em⟩:=z4q rows (rows.length+1-(i+1)) (i+1) (z0b o gs);have hb':bfs rows (rows.length+1-(i+1)) (i+1) (z0b o gs)=z0g rows:=by
    rw[<-hb,show rows.length+1-i=(rows.length+1-(i+1))+1 by lia,z3l eo,hgs]
   rw[hb']at em;have L':z7g rows (z0b o gs):=by rw[<-hgs];exact L.add G hro
   obtain⟨m1,em1⟩:=z0P gs o;have hoi:(z0g rows)[i]?=some r:=by rw[em,em1,y14,y1a hio];exact eo
   have hi':i+1<=(z0b o gs).length:=by rw[em1,y06];lia
   have hmem:∀g∈gs,g∈z0b o gs:=fun g hg=>z0G.mpr (.inr hg);have efound:(z0z rows).take (i+1)=(z0z rows).take i++[((row rows r).1,gs.map fun g=>(((z0b o gs).idxOf g:Nat):Int))]:=by
    have e4:(z0z rows)[i]?=some ((row rows r).1,gs.map fun g=>(((z0b o gs).idxOf g:Nat):Int)):=by unfold z0z z1E;rw[y08,hoi];show some ((row rows r).1,(row rows r).2.map fun g=>(((z0g rows).idxOf g:Nat):Int))=_;rw[hgs];congr 2;refine y0E fun g hg=>?_;rw[em,z6T (hmem g hg)]
    rw[y0v,e4];rfl
   generalize z0b o gs=o' at *;refine(exA rfl ⟨.inl ⟨rfl,_,SqL.of e3⟩,exA rfl (exA rfl ⟨cc,rfl,⟨_,SqT.of (k3 _ _ ec)⟩,fun l4 hl4=>z1U (xs:=(gs.map nm).map V.int) (fun j ys H4=>j<=gs.length/\ys=((gs.take j).map fun g=>((o'.idxOf g:Nat):Int)).map V.int/\z08 H3 H4) ⟨y0t _,rfl,same_up (z08.refl H3) hl4⟩ (fun j ys H4 _ h=>SqT.of (h.2.2 _ _ (k3 _ _ ec))) (by rw[y00,y00];exact z0l (by lia)) (fun j ys H4 h=>?_) (fun j x ys H4 hx h hy=>?_) (fun ys H4 h hy=>?_)⟩)⟩)
   .obtain⟨hj,rfl,_⟩:=h;rw[y00,y00,y0k];lia
   .obtain⟨hj,rfl,s4⟩:=h;have hjl:j<gs.length:=by have:=(y05.mp hx).1;rwa [y00,y00]at this
    have eg:gs[j]?=some gs[j]:=y01 hjl;have hgm:=hmem _ (y0n hjl);generalize gs[j]=gj at eg hgm;have ex:x=V.int (nm gj):=by rw[y08,y08,eg]at hx;exact(y0d hx).symm
    subst ex;have hv:=z31 (κ:=Key) (kN nm) (zba ni) o' gj;rw[if_pos hgm]at hv;refine(exA rfl (exA rfl ⟨lp,exA rfl ⟨(by rw[<-hv];exact z5k.k (k:=kN nm gj) (s4 _ _ e2)),hy,hjl,?_,z0d s4 hl4⟩⟩));rw[z26 _ eg,y04];rfl
   .obtain⟨_,rfl,s4⟩:=h;rw[y00,y00,y0V]at hy;refine⟨l4,exA rfl (.inl ⟨SqL.of hy,fun t4 ht4=>⟨by show 2<=sizeLine;decide,fun t5 ht5=>?_⟩⟩)⟩;have s5:=same_up (o:=HO.tup ((gs.map fun g=>((o'.idxOf g:Nat):Int)).map V.int)) s4 ht4;have s6:=same_up (o:=HO.tup [.ref b,.ref t4]) s5 ht5;have e3':=s6 _ _ e3;refine⟨lf,fs,.ref t5,rfl,rfl,e3',by rw[hfl];exact z47 (by lia),?_⟩;have kk:z1m Hc (upd (upd (upd H4 t4 (.tup ((gs.map fun g=>((o'.idxOf g:Nat):Int)).map V.int))) t5 (.tup [.ref b,.ref t4])) lf (.lst (fs++[.ref t5]))):=z1m.up (k3.trans (z1m.of s6)) e3' (fun _ z=>by cases z);have nt5:t5≠lf:=z4b z01 e3' (by intro z;cases z);have nt4:t4≠t5:=z09 z01 ht5;have nt4f:t4≠lf:=z4b (show upd (upd H4 t4 (.tup ((gs.map fun g=>((o'.idxOf g:Nat):Int)).map V.int))) t5 (.tup [.ref b,.ref t4]) t4=some (.tup ((gs.map fun g=>((o'.idxOf g:Nat):Int)).map V.int))by rw[z04 nt4];exact z01) e3' (by intro z;cases z);refine nx2 (rows.length+1-(i+1)) _ _ (by lia) ⟨i+1,o',_,_,_,fs++[.ref t5],rfl,rfl,z0d (t3.trans s6) hlf0,?_,?_,z01,?_,L',hi',hb'⟩
    .rw[z04 nlf];exact s6 _ _ e1
    .rw[z04 nlpf];exact s6 _ _ e2
    .rw[efound];unfold z0x;rw[y04];refine DrL.append (df.keyed kk (z1T _)) (DrL.one (z2W (b:=b) (c:=t4) ?_ (kk _ _ eb) ?_))
     .rw[z04 nt5];exact z01
     .rw[z04 nt4f,z04 nt4];exact z01
 .have c':=y0L (y0K.mpr c);rw[hfl,hol2]at c';have e:z0g rows=o:=by rw[<-hb];exact z3c (by lia)
  have e2:(z0z rows).take i=z0z rows:=y0s (by unfold z0z z1E;rw[y00,e];lia);rw[e2]at df;exact(exA rfl (q lf H2 t2 ⟨fs,glf,df⟩))
abbrev zd7:List Str:=["first","row_at","order","places","found","rearranging","goings","going"]
def z2T:z0j zd7 ["first","row_at"] (z05 z4K):={}
def zbj:z0X zd7 (z05 z4K) ["going","places"] [none,some 3] (csc [(".0",.local),("going",.local),("places",.free)]):={}
def zbO(F:Fun K "rows_come_to" "rows_come_to" z4K f fd)(ml:mg "len"=none)(mt:mg "tuple"=none):z0u P w K mg base CX 5 f fd ["first","row_at"] (z7x P w K mg base CX 4):=by
 refine F.okc z2T (fun vs H Q E h=>?_) (fun cdv A outer s H vs Q E hr h=>?_)
 .obtain⟨a,v0,n,rows,nm,rfl,_⟩:=h;rfl
 obtain⟨fa,v0,n,rows,nm,rfl,hN,dv0,hV,G,hn,q⟩:=h;obtain⟨a0,rfl,ea0⟩:=zap dv0;have hk:=zf1 hN;have hu:=z71 hr;have hu9:(A.deeper (PyProof.Rows.envOfC "rows_come_to" (z05 z4K) s.heap.objs.size f cdv)).units+9<cLine:=by have:=hr.units;lia
 refine⟨_,z02 (z0k (i:=2) z2T.nd rfl (Or.inl rfl) (z1W (z00 (pv 0) z03)))
  (z02 (z0k (i:=3) z2T.nd rfl (Or.inr rfl) (zbC hu (pv 0) z06))
  (z02 (z0k (i:=4) z2T.nd rfl (Or.inl rfl) (z1W z03))
  (z02 (z3e y16 (z1c z6k (z0e z0a rfl ml y0y (z00 (pv 4) z03)) (z0e z0a rfl ml y0y (z00 (pv 2) z03)) (z1C _))
   (z02 (z29 (z8m (CX:=CX) 1 hr (z00 (z1L z1F (pv 2) (z0e z0a rfl ml y0y (z00 (pv 4) z03)) (fun _ _=>rfl)) z03)) (z2k rfl (z0h (z0c (i:=5) z2T.nd rfl (Or.inl rfl)) (z0h (z0c (i:=6) z2T.nd rfl (Or.inl rfl)) z18))))
   (z02 (z2R y16 rfl (z2P (pv 6)) (z0c (i:=7) z2T.nd rfl (Or.inl rfl))
    (z07 (z15 (z0I (z6z hu (pv 7) (pv 3)))
     (z02 (z7B hu (pv 3) (pv 7) (z0e z0a rfl ml y0y (z00 (pv 2) z03)) rfl)
     (z07 (z0M (z2A y0A y0C y0D z0H (pv 2) (z00 (pv 7) z03))))) z0n)))
   (z07 (z0M (z2A y0A y0C y0D z0H (pv 4) (z00 (z0A (z00 (pv 5) (z00 (z0o z0K rfl mt y0N
    (z00 (z1a rfl zbj (z2P (pv 6)) (fun _ _ _ _ _=>z0c (i:=0) zbj.nd rfl (Or.inl rfl)) (fun _ _ _ _ _=>z7C hu (pv 1) (pv 0) (fun _ _=>rfl))) z03)) z03))) z03)))))))
  (z07 (z0y (pv 4)))))),?_⟩
 refine(exA rfl ⟨by show 1<=sizeLine;decide,fun lo hlo=>?_⟩);have s1:=same_up (o:=HO.lst [.ref a0]) (z08.refl H) hlo;have elo1:upd H lo (.lst [.ref a0]) lo=some (.lst [.ref a0]):=z01;generalize upd H lo (.lst [.ref a0])=H1 at s1 elo1;refine fun lp hlp=>(exA rfl ?_);have hlp0:H lp=none:=s1.free hlp;have nlo:lo≠lp:=z09 elo1 hlp;have s2:=same_up (o:=HO.dT []) s1 hlp;refine⟨kn nm 0,a0,z01,rfl,s2 _ _ ea0,⟨by show 0<=sizeLine;decide,fun lf hlf=>?_⟩⟩;rw[zeb]at hlf⊢;have s3:z08 H (upd H1 lp (.dT (z1X [] (kn nm 0) (.int 0)))):=same_up s1 hlp;have elo3:upd H1 lp (.dT (z1X [] (kn nm 0) (.int 0))) lo=some (.lst [.ref a0]):=by rw[z04 nlo];exact elo1
 have g2:upd H1 lp (.dT (z1X [] (kn nm 0) (.int 0))) lp=some (.dT (prs (kn nm) [0])):=z01;generalize upd H1 lp (.dT (z1X [] (kn nm 0) (.int 0)))=H2' at s3 elo3 g2 hlf⊢;have hlf0:H lf=none:=s3.free hlf;have nlf:lo≠lf:=z09 elo3 hlf;have nlpf:lp≠lf:=z09 g2 hlf;have s4:=same_up (o:=HO.lst []) s3 hlf;have s24:=same_up (o:=HO.lst []) (z08.refl H2') hlf;have OL:=z0Q G;have hol:=OL.1.len;have h400:=G.few;refine⟨fun m σ H2=>∃(i:Nat)(o:List Int)(os:List V)(u1 u2 u3:Option V)(fs:List V),m=rows.length+1-i/\σ=[some (.ref a0),some (.ref fa),some (.ref lo),some (.ref lp),some (.ref lf),u1,u2,u3]/\z08 H H2/\H2 lo=some (.lst os)/\DrL K H2 (o.map (pnD nm)) os/\H2 lp=some (.dT (prs (kn nm) o))/\H2 lf=some (.lst fs) /\
   DrL K H2 (z0x ((z0z rows).take i)) fs/\z7g rows o/\i<=o.length/\bfs rows (rows.length+1-i) i o=z0g rows,⟨_,0,[0],[.ref a0],none,none,none,[],rfl,rfl,s4,s24 _ _ elo3,?_,s24 _ _ g2,z01,DrL.nil,zcA G,by simp,rfl⟩,?_⟩
 .exact DrL.one (dv0.mono s4)
 rintro m σ H2 ⟨i,o,os,u1,u2,u3,fs,rfl,rfl,t2,glo,dos,glp,glf,df,L,hi,hb⟩;have hfl:fs.length=i:=by
  have:=df.length;unfold z0x at this;rw[y00,y0k]at this;obtain⟨m0,em⟩:=z4q rows (rows.length+1-i) i o;rw[hb]at em;have:(z0z rows).length=(z0g rows).length:=by unfold z0z z1E;rw[y00]
  have:o.length<=(z0g rows).length:=by rw[em,y06];lia
  lia
 refine(exA rfl (exG lf rfl (.inl (SqL.of glf)) (exA rfl (exG lo rfl (.inl (SqL.of glo)) (exC rfl rfl (exA rfl ?_))))));have hol2:os.length=o.length:=by have:=dos.length;rw[y00]at this;lia
 refine z1q (fun c=>?_) (fun c=>?_)
 .have c':=y0l c;rw[hfl,hol2]at c';have hio:i<o.length:=by lia
  have eo:o[i]?=some o[i]:=y01 hio;have hro:o[i]∈o:=y0n hio;generalize o[i]=r at eo hro;obtain⟨r0,r1⟩:=L.rg r hro;have hrow:=z1Y r0 r1;have hgl:=G.len _ hrow;have hgo:=G.go _ hrow;have hlen:=L.len;refine zfI fun N nx2=>?_;obtain⟨vo,evo,dvo⟩:=dos.get (show(o.map (pnD nm))[i]?=some (pnD nm r)by rw[y08,eo];rfl);refine⟨fa,z8d K rows (pnD nm),rfl,(hV.mono t2).1,exA rfl (exA rfl (exG lf rfl (.inl (SqL.of glf)) (exD lo _ _ vo rfl rfl (SqL.of glo) (z0S (by rw[hfl];exact evo)) ⟨hV.mono t2,r,vo,rfl,dvo,r0,r1,fun v Hc sc dv=>?_⟩)))⟩;obtain⟨t,b,cc,ws,rfl,et,eb,ec,dws⟩:=zat dv;have t2:=t2.trans sc;have glo:=sc _ _ glo;have glp:=sc _ _ glp;have dos:=dos.mono sc;have glf:=sc _ _ glf;have df:=df.mono sc;refine(exF t rfl (SqT.of et) rfl (exB rfl (exC rfl rfl ?_)));generalize hgs:(row rows r).2=gs at *;refine⟨_,rfl,cc,rfl,⟨_,SqT.of ec⟩,zob (xs:=ws) (fun j σ H3=>∃(u:Option V)(oj:List V),σ=[some (.ref a0),some (.ref fa),some (.ref lo),some (.ref lp),some (.ref lf),some (.ref b),some (.ref cc),u]/\z08 H H3/\z1m Hc H3/\H3 lo=some (.lst oj)/\DrL K H3 ((z0b o (gs.take j)).map (pnD nm)) oj/\H3 lp=some (.dT (prs (kn nm) (z0b o (gs.take j))))/\H3 lf=some (.lst fs))
   ⟨_,os,rfl,t2,z1m.refl _,glo,dos,glp,glf⟩ (fun j σ H3 _ h=>by obtain⟨_,_,_,_,k3,_⟩:=h;exact SqT.of (k3 _ _ ec)) (fun j x σ H3 hx h Ed nx3=>?_) (fun σ H3 h=>?_)⟩
  .obtain⟨u,oj,rfl,t3,k3,e1,doj,g3,e3⟩:=h;have hwl:ws.length=gs.length:=by have:=dws.length;rw[y00]at this;lia
   have hjl:j<gs.length:=by have:=(y05.mp hx).1;lia
   have eg:gs[j]?=some gs[j]:=y01 hjl;obtain⟨x',ex,dx⟩:=dws.get (show(gs.map (pnD nm))[j]?=some (pnD nm gs[j])by rw[y08,eg];rfl);rw[hx]at ex;cases ex;generalize gs[j]=gj at eg dx;have dx3:Dr K H3 (pnD nm gj) x:=Dr.flat k3 (z2K _) dx;obtain⟨xa,rfl,exa⟩:=zap dx3;have et':z0b o (gs.take (j+1))=z2J (z0b o (gs.take j)) gj:=by rw[y0v,eg];exact z2e _ _ _
   have hal:(z0b o (gs.take j)).length<=4500:=by have:=z23 (gs.take j) o;rw[y0k]at this;lia
   have hojl:oj.length=(z0b o (gs.take j)).length:=by have:=doj.length;rw[y00]at this;lia
   generalize z0b o (gs.take j)=ol at *;refine(exA rfl (exA rfl ⟨lp,exA rfl ⟨z5k.t g3 exa,exA rfl ?_⟩⟩));have hv:=z31 (κ:=List Key) (kn nm) hk ol gj;by_cases hm:gj∈ol
   .rw[hv,if_pos hm];refine z5n (nx3 _ _ ⟨_,oj,rfl,t3,k3,e1,?_,?_,e3⟩)
    .rw[et',z0v hm];exact doj
    .rw[et',z0v hm];exact g3
   .rw[hv,if_neg hm];refine z8x (exA rfl (exG lo rfl (.inl (SqL.of e1)) (exA rfl (exA rfl ⟨lp,exA rfl ⟨zcB.t g3 exa (by rw[z3f];exact y1k (y1y (Nat.lt_succ_of_le hal)) (by decide)),?_⟩⟩))));rw[hojl,z77 (kn nm) hk hm];have g4:upd H3 lp (.dT (prs (kn nm) (ol++[gj]))) lp=some (.dT (prs (kn nm) (ol++[gj]))):=z01;have k4:z1m H3 (upd H3 lp (.dT (prs (kn nm) (ol++[gj])))):=z1m.up (z1m.refl _) g3 (fun _ z=>by cases z);generalize hob:HO.dT (prs (kn nm) (ol++[gj]))=ob at g4 k4⊢;have e1':upd H3 lp ob lo=some (.lst oj):=by rw[z04 nlo];exact e1
    have k5:z1m (upd H3 lp ob) (upd (upd H3 lp ob) lo (.lst (oj++[.ref xa]))):=z1m.up (z1m.refl _) e1' (fun _ z=>by cases z);refine(exA rfl ⟨.inl ⟨rfl,_,SqL.of e1'⟩,exA rfl ⟨lo,exC rfl rfl ⟨e1',z47 (by lia),?_⟩⟩⟩);refine nx3 _ _ ⟨_,oj++[.ref xa],rfl,z0d (z0d t3 hlp0) hlo,k3.trans (k4.trans k5),z01,?_,?_,?_⟩
    .rw[et',z0w hm,y04];exact DrL.append (DrL.flat (k4.trans k5) (z7R nm _) doj) (DrL.one (Dr.flat (k4.trans k5) (z2K _) dx3))
    .rw[et',z0w hm];rw[z04 nlo.symm,g4,hob]
    .rw[z04 nlf.symm,z04 nlpf.symm];exact e3
  .obtain⟨u,oj,rfl,t3,k3,e1,doj,e2,e3⟩:=h;have hwl:ws.length=gs.length:=by have:=dws.length;rw[y00]at this;lia
   rw[hwl,y0V]at doj e2;obtain⟨m0,em⟩:=z4q rows (rows.length+1-(i+1)) (i+1) (z0b o gs);have hb':bfs rows (rows.length+1-(i+1)) (i+1) (z0b o gs)=z0g rows:=by rw[<-hb,show rows.length+1-i=(rows.length+1-(i+1))+1 by lia,z3l eo,hgs]
   rw[hb']at em;have L':z7g rows (z0b o gs):=by rw[<-hgs];exact L.add G hro
   obtain⟨m1,em1⟩:=z0P gs o;have hoi:(z0g rows)[i]?=some r:=by rw[em,em1,y14,y1a hio];exact eo
   have hi':i+1<=(z0b o gs).length:=by rw[em1,y06];lia
   have hmem:∀g∈gs,g∈z0b o gs:=fun g hg=>z0G.mpr (.inr hg);have efound:(z0z rows).take (i+1)=(z0z rows).take i++[((row rows r).1,gs.map fun g=>(((z0b o gs).idxOf g:Nat):Int))]:=by
    have e4:(z0z rows)[i]?=some ((row rows r).1,gs.map fun g=>(((z0b o gs).idxOf g:Nat):Int)):=by unfold z0z z1E;rw[y08,hoi];show some ((row rows r).1,(row rows r).2.map fun g=>(((z0g rows).idxOf g:Nat):Int))=_;rw[hgs];congr 2;refine y0E fun g hg=>?_;rw[em,z6T (hmem g hg)]
    rw[y0v,e4];rfl
   generalize z0b o gs=o' at *;refine(exA rfl ⟨.inl ⟨rfl,_,SqL.of e3⟩,exA rfl (exA rfl ⟨cc,rfl,⟨_,SqT.of (k3 _ _ ec)⟩,fun l4 hl4=>z1U (xs:=ws) (fun j ys H4=>j<=gs.length/\ys=((gs.take j).map fun g=>((o'.idxOf g:Nat):Int)).map V.int/\z08 H3 H4) ⟨y0t _,rfl,same_up (z08.refl H3) hl4⟩ (fun j ys H4 _ h=>SqT.of (h.2.2 _ _ (k3 _ _ ec))) (by rw[hwl];exact z0l (by lia)) (fun j ys H4 h=>?_) (fun j x ys H4 hx h hy=>?_) (fun ys H4 h hy=>?_)⟩)⟩)
   .obtain⟨hj,rfl,_⟩:=h;rw[y00,y00,y0k];lia
   .obtain⟨hj,rfl,s4⟩:=h;have hjl:j<gs.length:=by have:=(y05.mp hx).1;lia
    have eg:gs[j]?=some gs[j]:=y01 hjl;have hgm:=hmem _ (y0n hjl);obtain⟨x',ex,dx⟩:=dws.get (show(gs.map (pnD nm))[j]?=some (pnD nm gs[j])by rw[y08,eg];rfl);rw[hx]at ex;cases ex;generalize gs[j]=gj at eg hgm dx;have dx4:Dr K H4 (pnD nm gj) x:=(Dr.flat k3 (z2K _) dx).mono s4;obtain⟨xa,rfl,exa⟩:=zap dx4;have hv:=z31 (κ:=List Key) (kn nm) hk o' gj;rw[if_pos hgm]at hv;refine(exA rfl (exA rfl ⟨lp,exA rfl ⟨by rw[<-hv];exact z5k.t (s4 _ _ e2) exa,hy,hjl,?_,z0d s4 hl4⟩⟩));rw[z26 _ eg,y04];rfl
   .obtain⟨_,rfl,s4⟩:=h;rw[hwl,y0V]at hy;refine⟨l4,exA rfl (.inl ⟨SqL.of hy,fun t4 ht4=>⟨by show 2<=sizeLine;decide,fun t5 ht5=>?_⟩⟩)⟩;have s5:=same_up (o:=HO.tup ((gs.map fun g=>((o'.idxOf g:Nat):Int)).map V.int)) s4 ht4;have s6:=same_up (o:=HO.tup [.ref b,.ref t4]) s5 ht5;have e3':=s6 _ _ e3;refine⟨lf,fs,.ref t5,rfl,rfl,e3',by rw[hfl];exact z47 (by lia),?_⟩;have kk:z1m Hc (upd (upd (upd H4 t4 (.tup ((gs.map fun g=>((o'.idxOf g:Nat):Int)).map V.int))) t5 (.tup [.ref b,.ref t4])) lf (.lst (fs++[.ref t5]))):=z1m.up (k3.trans (z1m.of s6)) e3' (fun _ z=>by cases z);have kk':=z1m.up (u:=HO.lst (fs++[.ref t5])) (z1m.refl (upd (upd H4 t4 (.tup ((gs.map fun g=>((o'.idxOf g:Nat):Int)).map V.int))) t5 (.tup [.ref b,.ref t4]))) e3' (fun _ z=>by cases z);have nt5:t5≠lf:=z4b z01 e3' (by intro z;cases z);have nt4:t4≠t5:=z09 z01 ht5;have nt4f:t4≠lf:=z4b (show upd (upd H4 t4 (.tup ((gs.map fun g=>((o'.idxOf g:Nat):Int)).map V.int))) t5 (.tup [.ref b,.ref t4]) t4=some (.tup ((gs.map fun g=>((o'.idxOf g:Nat):Int)).map V.int))by rw[z04 nt4];exact z01) e3' (by intro z;cases z);refine nx2 (rows.length+1-(i+1)) _ _ (by lia) ⟨i+1,o',oj,_,_,_,fs++[.ref t5],rfl,rfl,z0d (t3.trans s6) hlf0,?_,?_,?_,z01,?_,L',hi',hb'⟩
    .rw[z04 nlf];exact s6 _ _ e1
    .exact DrL.flat kk' (z7R nm _) (doj.mono s6)
    .rw[z04 nlpf];exact s6 _ _ e2
    .rw[efound];unfold z0x;rw[y04];refine DrL.append (df.keyed kk (z1T _)) (DrL.one (z2W (b:=b) (c:=t4) ?_ (kk _ _ eb) ?_))
     .rw[z04 nt5];exact z01
     .rw[z04 nt4f,z04 nt4];exact z01
 .have c':=y0L (y0K.mpr c);rw[hfl,hol2]at c';have e:z0g rows=o:=by rw[<-hb];exact z3c (by lia)
  have e2:(z0z rows).take i=z0z rows:=y0s (by unfold z0z z1E;rw[y00,e];lia);rw[e2]at df;exact(exA rfl (q lf H2 t2 ⟨fs,glf,df⟩))
abbrev zdN:List Str:=["first","row_at","found","kinds","least","rearranging","goings","kind"]
def z2h:z0j zdN ["first","row_at"] (z05 z62):={}
def z6C{Cm:V->Addr->Hp->List Row->Prop}{k q Ct:Addr}{kd qd:FuncData}(F:Fun K "least_form" "least_form" z62 f fd)(ml:mg "len"=none)(mt:mg "tuple"=none)(mz:mg "zip"=none)(G:z0u P w K mg base (CXx P w) 5 g gd ["first","row_at"] (z7a K Cm))(bG:z0i K gd ["first","row_at"] [])(kG:PySem.W.keepIn K (.ref g)=true)(mG:mg "rows_come_to"=some (.ref g))(T:z0u P w K mg base (CXx P w) 5 k kd ["rows"] (z5H K Ct))(bT:z0i K kd ["rows"] [])(kT:PySem.W.keepIn K (.ref k)=true)(mT:mg "kinds_of_rows"=some (.ref k))(U:z0u P w K mg base (CXx P w) 5 q qd ["kinds","goings"] (z7S K))(bU:z0i K qd ["kinds","goings"] [])(kU:PySem.W.keepIn K (.ref q)=true)(mU:mg "kinds_gone_to"=some (.ref q)):z0u P w K mg base (CXx P w) 6 f fd ["first","row_at"] (z5F K Cm Ct):=by
 refine F.okx z2h (fun vs H Q E h=>?_) (fun cdv A outer s H vs Q E hr h=>?_)
 .obtain⟨a,v0,n,rows,rfl,_⟩:=h;rfl
 obtain⟨fa,v0,n,rows,rfl,hC,GM,hn,gv,gx⟩:=h;have hsc:=zdA GM;have h400:=GM.few;refine⟨_,z02 (z0k (i:=2) z2h.nd rfl (Or.inl rfl) (z0t G hr rfl mG kG bG .nil z1t (z00 (pv 0) (z00 (pv 1) z03))))
  (z02 (z0k (i:=3) z2h.nd rfl (Or.inl rfl) (z0t T hr rfl mT kT bT .nil (z6p fun _ _ _ z=>z) (z00 (pv 2) z03)))
  (z02 (z0k (i:=4) z2h.nd rfl (Or.inl rfl) (z1W z03))
  (z02 (z2R PassesOwn.leaving rfl (zdc rfl mz (z00 (pv 2) (z00 (pv 3) z03)))
   (z2k rfl (z0h (z2k rfl (z0h (z0c (i:=5) z2h.nd rfl (Or.inl rfl)) (z0h (z0c (i:=6) z2h.nd rfl (Or.inl rfl)) z18))) (z0h (z0c (i:=7) z2h.nd rfl (Or.inl rfl)) z18)))
   (z07 (z15 (z0I (z17 (pv 7) (z0e z0a rfl ml y0y (z00 (pv 4) z03))))
    (z07 (z0M (z2A y0A y0C y0D z0H (pv 4) (z00 (z0A (z00 (pv 5) (z00 (z0t U hr rfl mU kU bU .nil z1t (z00 (pv 3) (z00 (pv 6) z03))) z03))) z03)))) z0n)))
  (z07 (z0y (z0o z0K rfl mt y0N (z00 (pv 4) z03))))))),?_⟩
 have GF:=z2I GM;have hfl:=zcf GM;refine(exA rfl (exA rfl ⟨fa,v0,n,rows,rfl,hC,GM,hn,fun lf H1 s1 rf=>?_⟩));refine(exA rfl ⟨lf,n,z0z rows,rfl,rf,GF,hn,fun h6 lk H2 s2 ek=>?_,fun h6 ea H' s'=>gx (by lia) ea H' (s1.trans s')⟩);have gv:=gv (by lia);rw[<-z6d GM]at gv;clear hsc h6;have GK:=z3E GF;have hkl:=GK.len;unfold zbT at gv;generalize z0Y (z0z rows)=ks at *;generalize z0z rows=fs at *;obtain⟨us,ef,df⟩:=rf.mono s2;have hul:us.length=fs.length:=by have:=df.length;unfold z0x at this;rw[y00]at this;exact this.symm
 have s12:=s1.trans s2;refine⟨by show 0<=sizeLine;decide,fun ll hll=>(exA rfl (exA rfl ⟨lf,lk,rfl,?_⟩))⟩;have hll0:H2 ll=none:=hll;have s3:z08 H2 (upd H2 ll (.lst [])):=same_up (z08.refl H2) hll;refine⟨⟨_,SqL.of (s3 _ _ ef)⟩,⟨_,SqL.of (s3 _ _ ek)⟩,zdr (xs:=us) (ys:=ks.map V.int) (by rw[y00];lia) (fun i σ H3=>∃(u1 u2 u3:Option V)(ws:List V),σ=[some v0,some (.ref fa),some (.ref lf),some (.ref lk),some (.ref ll),u1,u2,u3]/\z08 H2 H3/\H3 ll=some (.lst ws)/\DrL K H3 (z0x (z24 fs ks i)) ws)
  ⟨_,_,_,[],rfl,s3,z01,DrL.nil⟩ (fun i σ H3 _ h=>by obtain⟨_,_,_,_,_,t3,_,_⟩:=h;exact⟨SqL.of (t3 _ _ ef),SqL.of (t3 _ _ ek)⟩) (fun i x y p σ H3 hx hy h hp=>?_) (fun σ H3 h=>?_)⟩
 .obtain⟨u1,u2,u3,ws,rfl,t3,e3,d3⟩:=h;have hil:i<fs.length:=by have:=(y05.mp hx).1;lia
  have er:fs[i]?=some fs[i]:=y01 hil;have ek':ks[i]?=some ks[i]:=y01 (by lia);have hrm:fs[i]∈fs:=y0n hil;obtain⟨x',ex,dx⟩:=z2r df er;rw[hx]at ex;cases ex;generalize fs[i]=ri at er dx hrm;generalize ks[i]=ki at ek';have ey:y=V.int ki:=by rw[y08,ek']at hy;exact(y0d hy).symm
  subst ey;have hst:=z4p er ek';have hll2:=z8M fs ks i;have hwl:ws.length=(z24 fs ks i).length:=by have:=d3.length;unfold z0x at this;rw[y00]at this;exact this.symm
  generalize z24 fs ks i=lp at *;have sp3:z08 H3 (upd H3 p (.tup [x,V.int ki])):=same_up (z08.refl H3) hp;have sp:z08 H2 (upd H3 p (.tup [x,V.int ki])):=t3.trans sp3;obtain⟨t,b,c,rfl,et,eb,ec⟩:=z1H (dx.mono sp);refine(exF p rfl (SqT.of z01) rfl (exB rfl (exF t rfl (SqT.of et) rfl (exB rfl (exC rfl rfl (exC rfl rfl (exA rfl (exA rfl (exG ll rfl (.inl (SqL.of (sp3 _ _ e3))) (exC rfl rfl (exA rfl ?_)))))))))));refine z1q (fun c'=>?_) (fun c'=>?_)
  .have c'':=y0l c';have hst2:z24 fs ks (i+1)=lp++[(ri.1,ri.2.map fun g=>ks.getD g.toNat 0)]:=by
    rw[hst];unfold z5I;exact if_pos (by rw[<-hwl];exact c'')
   refine(exA rfl ⟨.inl ⟨rfl,_,SqL.of (sp3 _ _ e3)⟩,exA rfl (exA rfl (exA rfl ⟨lk,.ref c,ks,ri.2,rfl,sp _ _ ek,Dr.tup ec (DrL.ints _),fun g hg=>by rw[hkl];exact GF.go ri hrm g hg,by rw[GF.len ri hrm];lia,fun v H6 s6 dv=>⟨by show 2<=sizeLine;decide,fun t7 ht7=>?_⟩⟩))⟩);have s67:=same_up (o:=HO.tup [.ref b,v]) s6 ht7;have e7:=s67 _ _ (sp3 _ _ e3);refine⟨ll,ws,.ref t7,rfl,rfl,e7,z47 (by lia),?_⟩;have kk:z1m H3 (upd (upd H6 t7 (.tup [.ref b,v])) ll (.lst (ws++[.ref t7]))):=z1m.up (z1m.of (sp3.trans s67)) e7 (fun _ z=>by cases z);have k6:z1m H6 (upd (upd H6 t7 (.tup [.ref b,v])) ll (.lst (ws++[.ref t7]))):=z1m.up (z1m.of (same_up (z08.refl H6) ht7)) e7 (fun _ z=>by cases z);have nt7:t7≠ll:=z4b z01 e7 (by intro z;cases z);have eb':H6 b=some (.tup (ri.1.map V.int)):=s6 _ _ eb;obtain⟨c2,rfl,ec2⟩:=Dr.its_inv dv;refine⟨_,_,_,ws++[.ref t7],rfl,z0d (sp.trans s67) hll0,z01,?_⟩;rw[hst2];unfold z0x;rw[y04];refine DrL.append (d3.keyed kk (z1T _)) (DrL.one (z2W (b:=b) (c:=c2) ?_ (k6 _ _ eb') (k6 _ _ ec2)));rw[z04 nt7];exact z01
  .have c'':=y0L (y0K.mpr c');have hst2:z24 fs ks (i+1)=lp:=by
    rw[hst];unfold z5I;exact if_neg (by rw[<-hwl];exact c'')
   refine⟨_,_,_,ws,rfl,sp,sp3 _ _ e3,?_⟩;rw[hst2];exact d3.mono sp3
 .obtain⟨u1,u2,u3,ws,rfl,t3,e3,d3⟩:=h;rw[hul,z59 hkl]at d3;refine(exA rfl ⟨ll,exA rfl (.inl ⟨SqL.of e3,fun t ht=>?_⟩)⟩);exact gv _ _ ((s12.trans t3).trans (same_up (z08.refl H3) ht)) (Dr.tup z01 (d3.mono (same_up (z08.refl H3) ht)))
def zdR:z0j ["letters","rows"] ["letters","rows"] (z05 z4A):={}
abbrev za2:Scope:=csc [("at",.local),("rows",.free)]
def zev:z0X ["letters","rows"] (z05 z4A) ["at","rows"] [none,some 1] za2:={}
def zea:zgk ["at","rows"] ["at"] za2:={}
def zcn{tm:Tok}(mM:mg "MOST_ROWS"=some (.int 400 tm)){k Ct Cb cc:Addr}{kd:FuncData}{Ts:List Tb}{T0:Tb}(F:Fun K "form" "form" z4A f fd)(hcd:fd.code=.ref cc)(hC:PySem.W.CodeHd base cc T0.at_)(hB:z4L base mg)(hT:T0∈Ts)(hTn:∀T'∈Ts,T'.at_=T0.at_->T'=T0)(hTp:T0.pos=z6Q (z0E z4A))(hTq:T0.qual=("form.<locals>."++"<lambda>":Str))(G:z0u P w K mg base (CXx P w) 6 g gd ["letters","rows","most"] (z40 K Cb))(bG:z0i K gd ["letters","rows","most"] [])(kG:PySem.W.keepIn K (.ref g)=true)(mG:mg "check_machine"=some (.ref g))(T:z0u P w K mg base (CXx P w) 6 k kd ["first","row_at"] (z5q P w K mg base (CXx P w) 4 Ct))(bT:z0i K kd ["first","row_at"] [])(kT:PySem.W.keepIn K (.ref k)=true)(mT:mg "least_form"=some (.ref k)):z0u P w K mg base (CXx P w) 7 f fd ["letters","rows"] (z73 Ts K Cb):=by
 refine F.okL hcd zdR (fun vs H Q E h=>?_) (fun A outer s H vs Q E hr h=>?_)
 .obtain⟨n,a,rows,rfl,_⟩:=h;rfl
 obtain⟨n,a,rows,rfl,hTb,ha,hn,hrl,hsm,gv,gx⟩:=h;refine⟨_,z02 (z0M (z0t G hr rfl mG kG bG .nil (z6p fun _ _ _ z=>z) (z00 (pv 0) (z00 (pv 1) (z00 (z1G (v:=.int 400) rfl mM ⟨_,rfl⟩) z03)))))
  (z07 (z0y (z81 (Ts:=Ts) (T:=T0) T hr rfl mT kT bT (z6p fun _ _ _ z=>z) z06 (fun σ H Q Q' h q=>h _ _ q) zev rfl hC hB (fun _=>rfl) hT hTn hTp hTq))),?_⟩
 refine(exA rfl (exA rfl ⟨n,a,rows,400,rfl,ha,hn,by decide,hrl,hsm,fun hM H1 s1=>⟨z2n.mono hTb s1,fun fa H2 cs f1 f2 f3 C=>?_⟩,fun hM e H1 s1=>gx hM e H1 (z08.l s1)⟩));obtain⟨h60,gv⟩:=gv hM;have GM:=hM.1;have fin:∀{H3:Hp},z08 H2 H3->z1I Ts H (utk H3 cs):=fun s3=>(z08.l s1).trans (f2 _ s3);obtain⟨us,ea,da⟩:=ha.mono s1;have ea2:=f1 _ _ (fun _ z=>by cases z) ea;have da2:DrL K H2 (z0x rows) us:=da.monoL (Ts:=[]) ⟨f1,fun _ _ h=>absurd h (by simp)⟩;refine⟨fa,n,rows,fun i=>i,rfl,fun _ _ e=>e,?_,GM,hn,fun h6 v H3 s3 d=>gv v _ (fin s3) (d.nfr (NFr.utk f3 s3)),fun h6=>absurd h60 (by lia)⟩;refine z3b.lam (k:=3) C zea (fun _ _ _ _ us hl=>match us,hl with|[_],_=>rfl) rfl (fun vs H Q h=>?_) (fun H' s' A outer s cd clos cs vs Q hr nf h=>?_)
 .obtain⟨i,rfl,_⟩:=h;rfl
 obtain⟨i,rfl,h0,h1,gq⟩:=h;refine⟨_,z1L z1F (pv 1) (pv 0) (fun _ _=>rfl),?_⟩;obtain⟨v,ev,dv⟩:=z2r da2 (zdB h0 h1);refine(exA rfl (exA rfl ⟨a,us,i,v,rfl,rfl,nf.seq (SqL.of (s' _ _ ea2)),z8b h0 ev,fun hc=>?_⟩));have sr:=z08.rtk (H:=H') (H1:=utk H' cs) (cs:=cs) (z08.refl _);refine gq v _ sr ?_;rw[zdU];exact(dv.mono s').mono sr
abbrev nPG:List Str:=["name","going"]
def zpr:z0j nPG ["name","going"] (z05 z1z):={}
def za1(B:Blt mg)(F:Fun K "place_gone_to" "place_gone_to" z1z f fd):z0u P w K mg base CX 1 f fd ["name","going"] (z5r K):=by
 refine F.okc zpr (fun vs H Q E h=>?_) (fun cdv A outer s H vs Q E hr h=>?_)
 .obtain⟨x,g,rfl,_⟩:=h;rfl
 obtain⟨x,g,rfl,gv⟩:=h;refine⟨_,z07 (z0y (z3g (z4C (zht K rfl (pv 1) B.isi B.str y1H)) (z0A (z00 (pv 1) (z00 z06 z03))) (z0A (z00 (pv 0) (z00 (pv 1) z03))))),?_⟩;cases g with
 |inl y=>exact(exA rfl ⟨_,exB rfl ⟨.of (.str y),rfl,exA rfl (z8x (exA rfl ⟨show 2<=sizeLine by decide,fun q hq=>gv _ _ (same_up (z08.refl H) hq) (zaF z01)⟩))⟩⟩)
 |inr i=>exact(exA rfl ⟨_,exB rfl ⟨.of (.int i),rfl,exA rfl (z5n (exA rfl (exA rfl ⟨show 2<=sizeLine by decide,fun q hq=>gv _ _ (same_up (z08.refl H) hq) (zaF z01)⟩)))⟩⟩)
abbrev nRA:List Str:=["rows","guises","place","name","at","rearranging","goings"]
def zfE:z0j nRA ["rows","guises","place"] (z05 z4S):={}
def zmM:z0X nRA (z05 z4S) ["going","name"] [none,some 3] (csc [(".0",.local),("going",.local),("place_gone_to",.globalImplicit),("name",.free)]):={}
def zcD(mt:mg "tuple"=none)(F:Fun K "row_at" "row_at" z4S f fd){aG:Addr}{dG:FuncData}(G:z0u P w K mg base CX 1 aG dG ["name","going"] (z5r K))(bG:z0i K dG ["name","going"] [])(kG:PySem.W.keepIn K (.ref aG)=true)(mG:mg "place_gone_to"=some (.ref aG)):z0u P w K mg base CX 2 f fd ["rows","guises","place"] (z7q K):=by
 refine F.okc zfE (fun vs H Q E h=>?_) (fun cdv A outer s H vs Q E hr h=>?_)
 .obtain⟨a,d,rs,kvs,v,x,i,R,rfl,_⟩:=h;rfl
 obtain⟨a,d,rs,kvs,v,x,i,R,rfl,⟨us,ea,da⟩,ed,dv,hx,hR,hR60,gv⟩:=h;have hu:=z71 hr;refine⟨_,z02 (z29 (pv 2) (z2k rfl (z0h (z0c (i:=3) zfE.nd rfl (Or.inr rfl)) (z0h (z0c (i:=4) zfE.nd rfl (Or.inl rfl)) z18))))
  (z02 (z29 (z3g (zcH (pv 3) (fun _=>rfl)) (z1L z3O (z7C hu (pv 1) (pv 3) (fun _ _=>rfl)) (pv 4) (fun _ _=>rfl)) (z1L z1F (pv 0) (pv 4) (fun _ _=>rfl))) (z2k rfl (z0h (z0c (i:=5) zfE.nd rfl (Or.inl rfl)) (z0h (z0c (i:=6) zfE.nd rfl (Or.inl rfl)) z18))))
  (z07 (z0y (z0A (z00 (pv 5) (z00 (z0o z0K rfl mt y0N (z00 (z1a rfl zmM (z2P (pv 6)) (fun _ _ _ _ _=>z0c (i:=0) zmM.nd rfl (Or.inl rfl)) (fun _ _ _ _ _=>z0t G hr rfl mG kG bG .nil z1t (z00 (pv 1) (z00 (pv 0) z03)))) z03)) z03)))))),?_⟩
 obtain⟨pa,rfl,epa⟩:=z9R dv;have hxs:x.length<=sizeLine:=z0l (by lia);refine zpj fun R1 hR1=>?_;refine(exA rfl (exF pa rfl (SqT.of epa) rfl (exB rfl (exC rfl rfl ?_))));refine atR (R:=R1) hR1 ?_;clear hR1;refine zbr (fun σ H'=>∃(b c:Addr),σ=[some (.ref a),some (.ref d),some (.ref pa),some (.str x),some (.int i),some (.ref b),some (.ref c)]/\H'=H/\H b=some (.tup (R.1.map V.int))/\H c=some (.tup (R.2.map z7t))) (fun Ed nxE=>?_) (fun σ H' h=>?_)
 .rcases hR with⟨hx0,h0,hri⟩|⟨hx0,g,u,r,hv,du,h0,hri,rfl⟩
  .obtain⟨v,ev,dv⟩:=z5x da hri;obtain⟨t,b,c,rfl,et0,eb,ec⟩:=z4j dv;refine(exA rfl ⟨false,⟨hxs,by rw[hx0];show false=(((str "").length:Int) != 0);decide +kernel⟩,z5n (exA rfl (exA rfl (exD a us i (.ref t) rfl rfl (SqL.of ea) (z8b h0 ev) (exF t rfl (SqT.of et0) rfl (exB rfl (exC rfl rfl (nxE _ _ ⟨b,c,rfl,rfl,eb,ec⟩)))))))⟩)
  .obtain⟨ga,gs,rfl,ega,dgs⟩:∃(a:Addr)(vs:List V),u=.ref a/\H a=some (.tup vs)/\DrL K H (z0x g) vs:=by
    simp only[Dr]at du;exact du
   obtain⟨v,ev,dv⟩:=z2r dgs hri;obtain⟨t,b,c,rfl,et0,eb,ec⟩:=z1H dv;have hl:((x.length:Int) != 0)=true:=by
    have:x.length≠0:=fun z=>hx0 (zfZ (by have e:sg x=[]:=y18.mp (by rw[z3h];exact z);rw[e];decide +kernel))
    rw[bne_iff_ne];lia
   refine(exA rfl ⟨true,⟨hxs,hl.symm⟩,z8x (exA rfl (exA rfl ⟨d,.ref ga,rfl,.inl ⟨kvs,Sum.inr x,Rd.of ed,rfl,hv.symm⟩,exA rfl (exD ga gs i (.ref t) rfl rfl (SqT.of ega) (z8b h0 ev) (exF t rfl (SqT.of et0) rfl (exB rfl (exC rfl rfl (nxE _ _ ⟨b,c,rfl,rfl,eb,?_⟩)))))⟩))⟩);rw[y0R];exact ec
 obtain⟨b,c,rfl,rfl,eb,ec⟩:=h;refine(exA rfl (exA rfl ⟨c,rfl,⟨_,SqT.of ec⟩,fun l hl=>z1U (xs:=R.2.map z7t) (fun j ys H2=>j<=R.2.length/\ys.length=j/\z08 H' H2/\DrL K H2 ((R.2.take j).map fun g=>plD (z4x x g)) ys) ⟨y0t _,rfl,same_up (z08.refl H') hl,DrL.nil⟩ (fun j ys H2 _ h=>SqT.of (h.2.2.1 _ _ ec)) (by rw[y00];exact z0l (by lia)) (fun j ys H2 h=>h.2.1) (fun j y ys H2 hy0 h hy=>?_) (fun ys H2 h hy=>?_)⟩))
 .obtain⟨hj,hyl,s2,d2⟩:=h;rw[y08]at hy0;obtain⟨g,hg,rfl⟩:=y15.mp hy0;have hjl:=(y05.mp hg).1;refine(exA rfl (exA rfl ⟨x,g,rfl,fun v H3 s3 dv=>?_⟩));have ey:=s3 _ _ hy;have kp:=z7Q (o:=.lst (ys++[v])) ey;refine⟨ey,by lia,by rw[y06,hyl];rfl,z0d (s2.trans s3) hl,?_⟩;rw[y0v,hg,y1t,y04,y0H];refine DrL.append (DrL.flat kp (z2H.mpr fun d hd=>?_) (d2.mono s3)) (DrL.one (Dr.flat kp (z2K _) dv));obtain⟨z,_,rfl⟩:=y0e.mp hd;exact z2K _
 .obtain⟨_,hyl,s2,d2⟩:=h;rw[y00,y0V]at d2;refine⟨l,exA rfl (.inl ⟨SqL.of hy,fun q hq=>?_⟩)⟩;have s4:z08 H2 (upd H2 q (.tup ys)):=same_up (z08.refl H2) hq;have e4:upd H2 q (.tup ys) q=some (.tup ys):=z01;generalize upd H2 q (.tup ys)=H4 at s4 e4⊢;refine⟨show 2<=sizeLine by decide,fun q5 hq5=>?_⟩;have s5:z08 H4 (upd H4 q5 (.tup [.ref b,.ref q])):=same_up (z08.refl H4) hq5;have s25:=s4.trans s5;exact gv _ _ (s2.trans s25) (Dr.tup z01 (DrL.cons (Dr.tup ((s2.trans s25) _ _ eb) (DrL.ints _)) (DrL.one (Dr.tup (s5 _ _ e4) (d2.mono s25)))))
abbrev nNG:List Str:=["rows"]
def zoS:z0j nNG ["rows"] (z05 z1n):={}
def zgn:z0X nNG (z05 z1n) ["rearranging","goings","going"] [none,none,none] (csc [(".0",.local),("rearranging",.local),("goings",.local),("going",.local),("isinstance",.globalImplicit),("str",.globalImplicit)]):={}
def zaf(B:Blt mg)(F:Fun K "names_gone_to" "names_gone_to" z1n f fd):z0u P w K mg base CX 1 f fd ["rows"] (z5W K):=by
 refine F.okc zoS (fun vs H Q E h=>?_) (fun cdv A outer s H vs Q E hr h=>?_)
 .obtain⟨a,rs,rfl,_⟩:=h;rfl
 obtain⟨a,rs,rfl,⟨us,ea,da⟩,hrl,hsm,gv⟩:=h;refine⟨_,z07 (z0y (zaT rfl zgn (z1Z (pv 0)) (fun _ _ _ _ _=>pgT K (n:=2) rfl rfl (z0h (z0c (i:=0) zgn.nd rfl (Or.inl rfl)) (z0h (z0c (i:=1) zgn.nd rfl (Or.inl rfl)) z18))) (fun _ _ _ _ _=>(piT K rfl (pv 1))) (fun _ _ _ _ _=>(z0c (i:=2) zgn.nd rfl (Or.inl rfl))) (fun _ _ _ _ _=>(z4C (zht K rfl (pv 2) B.isi B.str y1H))) (fun _ _ _ _ _=>pv 2))),?_⟩;have hul:us.length=rs.length:=by have:=da.length;unfold z3k at this;rw[y00]at this;exact this.symm
 have hnl:=fun(i:Nat)=>z91 (rs:=rs.take i) fun r hr=>hsm r (y29 hr);refine(exA rfl ⟨a,rfl,⟨_,SqL.of ea⟩,fun l hl=>z7y (xs:=us) (fun i ys H2=>i<=rs.length/\ys=(z2l (rs.take i)).map V.str/\z08 H H2) ⟨y0t _,by simp[z2l],same_up (z08.refl H) hl⟩ (fun i ys H2 _ h=>SqL.of (h.2.2 _ _ ea)) (fun i x ys H2 hx h hy=>?_) (fun ys H2 h hy=>?_)⟩)
 .obtain⟨hi,rfl,s2⟩:=h;have hil:i<us.length:=(y05.mp hx).1;have er:rs[i]?=some rs[i]:=y01 (by lia);have hrm:rs[i]∈rs:=y0n (by lia);obtain⟨x',ex,dx⟩:=z5x da er;rw[hx]at ex;cases ex;generalize rs[i]=r at er dx hrm;have hr60:=hsm r hrm;obtain⟨t,b,c,rfl,et0,eb,ec⟩:=z4j (dx.mono s2);have hni:=hnl i;rw[y0k]at hni;refine⟨t,_,rfl,SqT.of et0,rfl,_,_,rfl,_,_,rfl,rfl,_,rfl,c,rfl,⟨_,SqT.of ec⟩,hy,zet (xs:=r.2.map z7t) (fun j zs σ H3=>∃u:Option V,σ=[some (.ref b),some (.ref c),u]/\j<=r.2.length/\zs=(z2l (rs.take i)++(r.2.take j).filterMap zbs).map V.str/\z08 H H3/\z1m H2 H3)
   ⟨_,rfl,y0t _,by simp,s2,z1m.refl _⟩ (fun j zs σ H3 _ h=>by obtain⟨_,_,_,_,_,k3⟩:=h;exact SqT.of (k3 _ _ ec)) (fun j zs σ H3 _ h=>?_) (fun j y zs σ H3 hy0 h hz=>?_) (fun zs σ H3 h hz=>?_)⟩
  .obtain⟨_,_,_,rfl,_,_⟩:=h;have:=List.length_filterMap_le zbs (r.2.take j);rw[y0k]at this;rw[y00,y06];exact y1k (show _<=400000 by lia) (by decide)
  .obtain⟨u,rfl,hj,rfl,s3,k3⟩:=h;rw[y08]at hy0;obtain⟨g,hg,rfl⟩:=y15.mp hy0;have hjl:=(y05.mp hg).1;have eg:(r.2.take (j+1)).filterMap zbs=(r.2.take j).filterMap zbs++(zbs g).toList:=by
    rw[y0v,hg,y1t,List.filterMap_append];cases g<;>rfl
   cases g with
   |inl z =>
    refine(exA rfl ⟨_,exB rfl ⟨.of (.str z),rfl,exA rfl (exA rfl ⟨hz,exA rfl ⟨by lia,?_,z0d s3 hl,k3.trans (z1m.up (z1m.refl _) hz (fun _ z=>by cases z))⟩⟩)⟩⟩);rw[eg,<-y14,y04 (l₂:=(zbs (Sum.inl z)).toList)];rfl
   |inr z =>
    refine(exA rfl ⟨_,exB rfl ⟨.of (.int z),rfl,exA rfl ⟨hz,exA rfl ⟨by lia,?_,s3,k3⟩⟩⟩⟩);rw[eg];simp[zbs]
  .obtain⟨u,rfl,hj,rfl,s3,k3⟩:=h;refine⟨by lia,?_,s3⟩;rw[y00,y0V,z6X er]
 .obtain⟨_,rfl,s2⟩:=h;rw[hul,y0s (by lia)]at hy;exact gv l H2 s2 hl hy
abbrev nSw:List Str:=["rows","guises"]
def zoG:z0j nSw ["rows","guises"] (z05 z46):={}
abbrev zo1:Scope:=csc [("place",.local),("guises",.free),("rows",.free),("row_at",.globalImplicit)]
def zoH:z0X nSw (z05 z46) ["place","guises","rows"] [none,some 1,some 0] zo1:={}
def zot:zgk ["place","guises","rows"] ["place"] zo1:={}
def zdy{k b Ct cc:Addr}{kd bd:FuncData}{Ts:List Tb}{T0:Tb}(F:Fun K "sewn" "sewn" z46 f fd)(hcd:fd.code=.ref cc)(hC:PySem.W.CodeHd base cc T0.at_)(hB:z4L base mg)(hT:T0∈Ts)(hTn:∀T'∈Ts,T'.at_=T0.at_->T'=T0)(hTp:T0.pos=z6Q (z0E z46))(hTq:T0.qual=("sewn.<locals>."++"<lambda>":Str))(J:z0u P w K mg base (CXx P w) 3 b bd ["rows","guises","place"] (z7q K))(bJ:z0i K bd ["rows","guises","place"] [])(kJ:PySem.W.keepIn K (.ref b)=true)(mJ:mg "row_at"=some (.ref b))(T:z0u P w K mg base (CXx P w) 6 k kd ["first","row_at"] (z5z P w K mg base (CXx P w) 4 Ct))(bT:z0i K kd ["first","row_at"] [])(kT:PySem.W.keepIn K (.ref k)=true)(mT:mg "least_form"=some (.ref k)):z0u P w K mg base (CXx P w) 7 f fd ["rows","guises"] (z9M Ts K Ct):=by
 refine F.okL hcd zoG (fun vs H Q E h=>?_) (fun A outer s H vs Q E hr h=>?_)
 .obtain⟨a,d,rs,kvs,n,rows,nm,rfl,_⟩:=h;rfl
 obtain⟨a,d,rs,kvs,n,rows,nm,rfl,hTb,hra,hd,hS,G,hn,gv,gx⟩:=h;refine⟨_,z07 (z0y (z81 (Ts:=Ts) (T:=T0) T hr rfl mT kT bT (z6p fun _ _ _ z=>z) (z0A (z00 z1h (z00 z06 z03))) (fun σ H Q Q' h ⟨a,b⟩=>⟨a,fun t ht=>h _ _ (b t ht)⟩) zoH rfl hC hB (fun _=>rfl) hT hTn hTp hTq)),?_⟩;refine⟨by show 2<=sizeLine;decide,fun t ht=>?_⟩;have s1:=same_up (o:=HO.tup [V.str (Str.ofString ""),V.int 0]) (z08.refl H) ht;have e1:upd H t (HO.tup [V.str (Str.ofString ""),V.int 0]) t=some (.tup [V.str (Str.ofString ""),V.int 0]):=z01;generalize upd H t (HO.tup [V.str (Str.ofString ""),V.int 0])=H1 at s1 e1;refine⟨z2n.mono hTb s1,fun fa H2 cs f1 f2 f3 C=>?_⟩;have fin:∀{H3:Hp},z08 H2 H3->z1I Ts H (utk H3 cs):=fun s3=>(z08.l s1).trans (f2 _ s3);have n1:z1I [] H1 H2:=⟨f1,fun _ _ h=>absurd h (by simp)⟩;have e2:=n1.g e1;obtain⟨us,ea,da⟩:=hra.mono s1;have ea2:=f1 _ _ (fun _ z=>by cases z) ea;have da2:=da.monoL n1;have ed2:=f1 _ _ (fun _ z=>by cases z) (s1 _ _ hd);have dr2:∀d v,Dr K H d v->Dr K H2 d v:=fun d v h=>(h.mono s1).monoL n1;refine⟨fa,.ref t,n,rows,nm,rfl,hS.inj,by unfold pnD;rw[hS.first];exact zaF e2,?_,G,hn,fun h6 v H3 s3 d=>gv h6 v _ (fin s3) (d.nfr (NFr.utk f3 s3)),fun h6 e H3 s3=>gx h6 e _ (fin s3)⟩;refine z3b.lam (k:=3) C zot (fun _ _ _ _ us hl=>by obtain⟨a9,rfl⟩:=ziL hl;rfl) rfl (fun vs H Q h=>?_) (fun H' s' A outer s cd clos cs vs Q hr nf h=>?_)
 .obtain⟨i,v,rfl,_⟩:=h;rfl
 obtain⟨i,v,rfl,dv,h0,h1,gq⟩:=h;obtain⟨R,hR,hR1,hR2,hR60⟩:=hS.row_ i h0 h1;rw[<-zc9 hR1 hR2]at gq;refine⟨_,z0t J hr rfl mJ kJ bJ .nil z1t (z00 (pv 2) (z00 (pv 1) (z00 (pv 0) z03))),?_⟩;refine(exA rfl (exA rfl (exA rfl ⟨a,d,rs,kvs,v,(nm i).1,(nm i).2,R,rfl,⟨us,nf _ _ (fun _ z=>by cases z) (s' _ _ ea2),(da2.mono s').nfr nf⟩,nf _ _ (fun _ z=>by cases z) (s' _ _ ed2),dv.nfr nf,hS.short i h0 h1,hR.map fun d v h=>((dr2 d v h).mono s').nfr nf,hR60,fun v' H1' s1' d1' hc=>gq v' _ (z08.rtk s1') (d1'.mono (z08.rtk' hc))⟩)))
abbrev nCS:List Str:=["letters","rows","numbered"]
def zkw:z0j nCS ["letters","rows"] (z05 z1l):={}
def zhC:z0X nCS (z05 z1l) ["rearranging","goings"] [none,none] (csc [(".0",.local),("rearranging",.local),("goings",.local),("tuple",.globalImplicit)]):={}
def zfr:z0X ["rearranging","goings"] (csc [(".0",.local),("rearranging",.local),("goings",.local),("tuple",.globalImplicit)]) ["going"] [none] (csc [(".0",.local),("going",.local),("isinstance",.globalImplicit),("str",.globalImplicit)]):={}
def z9g{Cb:Addr}{tm:Tok}(B:Blt mg)(mt:mg "tuple"=none)(m_MOST_SEWN_ROWS:mg "MOST_SEWN_ROWS"=some (.int 60 tm))(F:Fun K "check_sewing" "check_sewing" z1l f fd){aG:Addr}{dG:FuncData}(G:z0u P w K mg base (CXx P w) 2 aG dG ["letters","rows","most"] (z40 K Cb))(bG:z0i K dG ["letters","rows","most"] [])(kG:PySem.W.keepIn K (.ref aG)=true)(mG:mg "check_machine"=some (.ref aG)):z0u P w K mg base (CXx P w) 3 f fd ["letters","rows"] (z5X K Cb):=by
 refine F.okx zkw (fun vs H Q E h=>?_) (fun cdv A outer s H vs Q E hr h=>?_)
 .obtain⟨n,a,rs,rfl,_⟩:=h;rfl
 obtain⟨n,a,rs,rfl,⟨us,ea,da⟩,hn,hrl,hsm,gv,qx⟩:=h;refine⟨_,z02 (zaa (i:=2) rfl zhC (z1Z (pv 1)) (fun _ _ _ _ _=>pgT K (n:=2) rfl rfl (z0h (z0c (i:=0) zhC.nd rfl (Or.inl rfl)) (z0h (z0c (i:=1) zhC.nd rfl (Or.inl rfl)) z18))) (fun _ _ _ _ _=>z0A (z00 (pv 0) (z00 (z0o (zp2 K rfl) rfl mt y0N (z00 (z1a rfl zfr (piT K rfl (pv 1)) (fun _ _ _ _ _=>z0c (i:=0) zfr.nd rfl (Or.inl rfl)) (fun _ _ _ _ _=>z3g (z4C (zht K rfl (pv 0) B.isi B.str y1H)) z06 (pv 0))) z03)) z03))) zkw.nd rfl rfl)
  (z07 (z0M (z0t G hr rfl mG kG bG .nil (z6p fun _ _ _ z=>z) (z00 (pv 0) (z00 (pv 2) (z00 (z1G (v:=.int 60) rfl m_MOST_SEWN_ROWS ⟨_,rfl⟩) z03)))))),?_⟩
 have hul:us.length=rs.length:=by have:=da.length;unfold z3k at this;rw[y00]at this;exact this.symm
 refine(exA rfl ⟨a,rfl,⟨_,SqL.of ea⟩,fun l hl=>z2v (xs:=us) (fun i ys H2=>i<=rs.length/\ys.length=i/\z08 H H2/\DrL K H2 (z0x ((rs.map z2M).take i)) ys) ⟨y0t _,rfl,same_up (z08.refl H) hl,DrL.nil⟩ (fun i ys H2 _ h=>SqL.of (h.2.2.1 _ _ ea)) (zc7 (by lia)) (fun i ys H2 h=>h.2.1) (fun i x ys H2 hx h hy=>?_) (fun ys H2 h hy=>?_)⟩)
 .obtain⟨hi,hyl,s2,d2⟩:=h;have hil:i<us.length:=(y05.mp hx).1;have er:rs[i]?=some rs[i]:=y01 (by lia);have hrm:rs[i]∈rs:=y0n (by lia);obtain⟨x',ex,dx⟩:=z5x da er;rw[hx]at ex;cases ex;generalize rs[i]=r at er dx hrm;obtain⟨hs1,hs2⟩:=hsm r hrm;have et:(rs.map z2M).take (i+1)=(rs.map z2M).take i++[z2M r]:=by rw[y0v,y08,er];rfl
  obtain⟨t,b,c,rfl,et0,eb,ec⟩:=z4j (dx.mono s2);refine(exF t rfl (SqT.of et0) rfl (exB rfl (exC rfl rfl (exA rfl (exA rfl ⟨c,rfl,⟨_,SqT.of ec⟩,fun l2 hl2=>z1U (xs:=r.2.map z7t) (fun j zs H3=>j<=r.2.length/\zs=((r.2.take j).map goN).map V.int/\z08 H2 H3) ⟨y0t _,rfl,same_up (z08.refl H2) hl2⟩ (fun j zs H3 _ h=>SqT.of (h.2.2 _ _ ec)) (by rw[y00];exact z0l (by lia)) (fun j zs H3 h=>?_) (fun j x zs H3 hx h hz=>?_) (fun zs H3 h hz=>?_)⟩)))))
  .obtain⟨hj,rfl,_⟩:=h;rw[y00,y00,y0k];lia
  .obtain⟨hj,rfl,s3⟩:=h;rw[y08]at hx;obtain⟨g,hg,rfl⟩:=y15.mp hx;have hjl:=(y05.mp hg).1;have eg:((r.2.take (j+1)).map goN).map V.int=((r.2.take j).map goN).map V.int++[V.int (goN g)]:=by rw[y0v,hg,y1t,y04,y04];rfl
   cases g with
   |inl z=>exact(exA rfl ⟨_,exB rfl ⟨.of (.str z),rfl,exA rfl (z8x ⟨hz,by lia,eg.symm,z0d s3 hl2⟩)⟩⟩)
   |inr z=>exact(exA rfl ⟨_,exB rfl ⟨.of (.int z),rfl,exA rfl (z5n (exA rfl ⟨hz,by lia,eg.symm,z0d s3 hl2⟩))⟩⟩)
  .obtain⟨_,rfl,s3⟩:=h;rw[y00,y0V]at hz;refine⟨l2,exA rfl (.inl ⟨SqL.of hz,fun q hq=>?_⟩)⟩;have s4:z08 H3 (upd H3 q (.tup ((r.2.map goN).map V.int))):=same_up (z08.refl H3) hq;have e4:upd H3 q (.tup ((r.2.map goN).map V.int)) q=some (.tup ((r.2.map goN).map V.int)):=z01;generalize upd H3 q (.tup ((r.2.map goN).map V.int))=H4 at s4 e4⊢;refine⟨show 2<=sizeLine by decide,fun q5 hq5=>?_⟩;have s5:z08 H4 (upd H4 q5 (.tup [.ref b,.ref q])):=same_up (z08.refl H4) hq5;have e5:upd H4 q5 (.tup [.ref b,.ref q]) q5=some (.tup [.ref b,.ref q]):=z01;generalize upd H4 q5 (.tup [.ref b,.ref q])=H5 at s5 e5⊢;have s25:=s3.trans (s4.trans s5);have ey:=s25 _ _ hy;refine⟨ey,by lia,by rw[y06,hyl];rfl,z0d (s2.trans s25) hl,?_⟩;have kp:=z7Q (o:=.lst (ys++[.ref q5])) ey;rw[et];unfold z0x at d2⊢;rw[y04];refine DrL.append (DrL.flat kp (z2H.mpr fun d hd=>?_) (d2.mono s25)) (DrL.one (Dr.tup (kp _ _ e5) (DrL.cons (Dr.tup (kp _ _ (s25 _ _ eb)) (DrL.ints _)) (DrL.one (Dr.tup (kp _ _ (s5 _ _ e4)) (DrL.ints _))))));obtain⟨r',_,rfl⟩:=y0e.mp hd;unfold z97 D.its;simp only[D.flat,D.flatL,and_true];exact⟨z2H.mpr fun d hd=>by obtain⟨z,_,rfl⟩:=y0e.mp hd;simp only[D.flat],z2H.mpr fun d hd=>by obtain⟨z,_,rfl⟩:=y0e.mp hd;simp only[D.flat]⟩
 .obtain⟨_,hyl,s2,d2⟩:=h;rw[hul,y0s (by rw[y00];lia)]at d2;refine(exA rfl (exA rfl ⟨n,l,rs.map z2M,60,rfl,⟨_,hy,d2⟩,hn,by decide,by rw[y00];lia,fun r hr=>?_,fun hM H3 s3=>gv hM H3 (s2.trans s3),fun hM e H3 s3=>qx hM e H3 (s2.trans s3)⟩));obtain⟨r',hr',rfl⟩:=y0e.mp hr;obtain⟨z1,z2⟩:=hsm r' hr';exact⟨z1,by show(r'.2.map goN).length<=60;rw[y00];exact z2⟩
def zka:z0j ["self","letters"] ["self","letters"] (z05 zal):={}
def zaR{C Ct:Addr}{bmB:List Value}{B newId initId:String}{t2 t5:Tok}(mC:mg "BadBreadth"=some (.ref Ct))(xC:PySem.W.excIn K Ct bmB newId=true)(hB:ExcBaseFacts B newId initId bmB)(mL:mg "LEAST_BREADTH"=some (.int 2 t2))(mM:mg "MOST_BREADTH"=some (.int 5 t5))(F:Fun K "__init__" "House.__init__" zal f fd)(T:TxH K mg C):z0u P w K mg base (CXx P w) 1 f fd ["self","letters"] (z7e C Ct):=by
 refine F.okx zka (fun vs H Q E h=>?_) (fun cdv A outer s H vs Q E hr h=>?_)
 .obtain⟨p,dx,n,rfl,_⟩:=h;rfl
 obtain⟨p,dx,n,rfl,hp,gv,gb⟩:=h;refine⟨_,z02 (z15 (z6o (z3p z3s z3s (z1G (v:=.int 2) rfl mL ⟨_,rfl⟩) (pv 1) (z1G (v:=.int 5) rfl mM ⟨_,rfl⟩))) (z07 (z1R mC rfl xC hB z1h)) z0n)
  (z02 (z7P (pv 0) (pv 1) rfl) (z02 (z7P (pv 0) zct rfl) (z02 (z7P (pv 0) (z1W z03) rfl) (z07 (z7P (pv 0) (z1W z03) rfl))))),?_⟩
 have bad:¬(2<=n/\n<=5)->∀ea:Addr,E (.ref ea) (some Ct) H:=fun z ea=>gb z ea H (z08.refl _);refine(exA rfl (exC rfl rfl (exA rfl (z1q (fun c1=>(exC rfl rfl (exA rfl ?_))) (fun c1=>?_)))));rotate_left
 .have c1':=y0L (y0K.mpr c1);refine(exA rfl (z1q (fun _=>bad (by lia)) (fun z=>absurd rfl z)))
 have c1':=y0l c1;refine z1q (fun z=>bad (fun y=>by rw[y0U y.2]at z;cases z)) (fun z=>?_);have c2':n<=5:=by
  by_cases y:n<=5
  .exact y
  .exact absurd (by rw[y0J y];rfl) z
 have l1:∀(f1:Str)(v:V)(fs:List (Str × V))(k:Nat),fs.length<=k->(z3Y f1 v fs).length<=k+1:=fun f1 v fs k h=>y0w (z2Y f1 v fs) (Nat.succ_le_succ h);have k1:=l1 "many_letters" (.int n) [] 0 (y0a _);refine(exA rfl (exA rfl ⟨p,C,dx,[],rfl,hp,T.cl,T.nN,(by show 0<1000;decide),?_⟩));intro d hd;have npd:p≠d:=z09 z01 hd;have k2:=l1 "things" (.ref d) _ 1 k1;refine(exA rfl ⟨p,C,dx,exA rfl ⟨(by rw[z04 npd];exact z01),T.cl,T.nD,y1k k1 (by decide),y0t _,fun x hx=>?_⟩⟩);have npx:p≠x:=z09 z01 hx;have ndx:d≠x:=z09 (by rw[z04 npd.symm,z01]) hx;have k3:=l1 "done" (.ref x) _ 2 k2;refine(exA rfl ⟨p,C,dx,exA rfl ⟨(by rw[z04 npx];exact z01),T.cl,T.nX,y1k k2 (by decide),y0t _,fun y hy=>?_⟩⟩);have npy:p≠y:=z09 z01 hy;have nxy:x≠y:=z09 (by rw[z04 npx.symm,z01]) hy;have ndy:d≠y:=z09 (by rw[z04 npd.symm,z04 ndx,z04 npd.symm,z01]) hy;refine(exA rfl ⟨p,C,dx,exA rfl ⟨(by rw[z04 npy];exact z01),T.cl,T.nY,y1k k3 (by decide),?_⟩⟩);have fd':H d=none:=by have z:=hd;rw[z04 npd.symm]at z;exact z
 have fx':H x=none:=by have z:=hx;rw[z04 npx.symm,z04 ndx.symm,z04 npx.symm]at z;exact z
 have fy':H y=none:=by have z:=hy;rw[z04 npy.symm,z04 nxy.symm,z04 npy.symm,z04 ndy.symm,z04 npy.symm]at z;exact z
 refine gv ⟨c1',c2'⟩ d x y _ fd' fx' fy' ⟨⟨dx,z01⟩,?_,?_,?_,nxy⟩ fun b o e hb=>?_
 .rw[z04 npd.symm,z04 ndy,z04 npd.symm,z04 ndx,z04 npd.symm,z01]
 .rw[z04 npx.symm,z04 nxy,z04 npx.symm,z01]
 .rw[z04 npy.symm,z01]
 .have e1:(upd H p (.ins C dx (z3Y "many_letters" (.int n) []))) b=some o:=by rw[z04 hb];exact e
  have nbd:=z09 e1 hd;have e2:(upd (upd (upd H p (.ins C dx (z3Y "many_letters" (.int n) []))) d (.dT [])) p (.ins C dx (z3Y "things" (.ref d) (z3Y "many_letters" (.int n) [])))) b=some o:=by rw[z04 hb,z04 nbd];exact e1
  have nbx:=z09 e2 hx;have nby:b≠y:=z09 (by rw[z04 hb,z04 nbx];exact e2) hy;rw[z04 hb,z04 nby,z04 hb,z04 nbx];exact e2
abbrev nHC:List Str:=["self","kind","name"]
def zp9:z0j nHC ["self","kind","name"] (z05 z2C):={}
def z8y{C Cn Ct:Addr}{bm1 bm2:List Value}{B1 B2 newId1 newId2 initId1 initId2:String}(mC1:mg "BadName"=some (.ref Cn))(xC1:PySem.W.excIn K Cn bm1 newId1=true)(hB1:ExcBaseFacts B1 newId1 initId1 bm1)(mC2:mg "Taken"=some (.ref Ct))(xC2:PySem.W.excIn K Ct bm2 newId2=true)(hB2:ExcBaseFacts B2 newId2 initId2 bm2)(T:TxH K mg C)(F:Fun K "check_new" "House.check_new" z2C f fd){aI:Addr}{dI:FuncData}(I:z0u P w K mg base (CXx P w) 1 aI dI ["text"] z5K)(bI:z0i K dI ["text"] [])(kI:PySem.W.keepIn K (.ref aI)=true)(mI:mg "is_name"=some (.ref aI)):z0u P w K mg base (CXx P w) 2 f fd ["self","kind","name"] (z3t C Cn Ct):=by
 refine F.okx zp9 (fun vs H Q E h=>?_) (fun cdv A outer s H vs Q E hr h=>?_)
 .obtain⟨p,n,d,x,y,th,dn,tb,k,nm,rfl,_⟩:=h;rfl
 obtain⟨p,n,d,x,y,th,dn,tb,k,nm,rfl,S,hnm,g1,g2,g3⟩:=h;have hu:=z71 hr;refine⟨_,z02 (z15 (z6o (z4C (z0t I hr rfl mI kI bI .nil z1t (z00 (pv 2) z03)))) (z07 (z1R mC1 rfl xC1 hB1 z1h)) z0n)
  (z07 (z15 (z0I (zf5 hu (z0A (z00 (pv 1) (z00 (pv 2) z03))) (z50 (pv 0) rfl))) (z07 (z1R mC2 rfl xC2 hB2 z1h)) z0n)),?_⟩
 refine(exA rfl ⟨nm,rfl,hnm,fun H1 s1=>?_⟩);cases hb:z2U nm with
 |false=>exact(exA rfl (z8x fun ea=>g1 hb ea H1 s1))
 |true =>
  refine(exA rfl (z5n ?_));obtain⟨⟨dx,ho⟩,hd,_⟩:=S.same s1;refine(exA rfl (exA rfl ⟨show 2<=sizeLine by decide,fun q hq=>?_⟩));have s2:z08 H1 (upd H1 q (.tup [.str k,.str nm])):=same_up (z08.refl H1) hq;have e2:upd H1 q (.tup [.str k,.str nm]) q=some (.tup ((kH k nm).map kV)):=z01;generalize upd H1 q (.tup [.str k,.str nm])=H2 at s2 e2⊢;refine(exA rfl ⟨p,C,dx,exB rfl ⟨s2 _ _ ho,T.cl,T.nD,ziz _ _ _ _,d,exA rfl ⟨z5k.t (s2 _ _ hd) e2,exA rfl ?_⟩⟩⟩);cases hv:(z2S th (kH k nm)).isSome with
  |true=>exact z8x fun ea=>g2 hb hv ea H2 (s1.trans s2)
  |false=>exact z5n (g3 hb hv H2 (s1.trans s2))
def zfy:z0j ["self","key","thing"] ["self","key","thing"] (z05 zeG):={}
def zdw{C:Addr}(T:TxH K mg C)(F:Fun K "put" "House.put" zeG f fd):z0u P w K mg base CX 1 f fd ["self","key","thing"] (ze9 C):=by
 refine F.okc zfy (fun vs H Q E h=>?_) (fun cdv A outer s H vs Q E hr h=>?_)
 .obtain⟨p,n,d,x,y,th,dn,tb,k,b,v,rfl,_⟩:=h;rfl
 obtain⟨p,n,d,x,y,th,dn,tb,k,b,v,rfl,S,eb,hv,hl,g⟩:=h;have hu:=z71 hr;obtain⟨⟨dx,ho⟩,hd,_⟩:=S;refine⟨_,z07 (z15 (z1c zff (pv 2) zeY (z1C _)) zc6 (z07 (z7B hu (z50 (pv 0) rfl) (pv 1) (pv 2) rfl))),?_⟩;refine(exA rfl ⟨rfl,exA rfl (z1q (fun c=>absurd (y0l c) hv) (fun _=>?_))⟩);exact(exA rfl (exA rfl ⟨p,C,dx,exB rfl ⟨ho,T.cl,T.nD,ziz _ _ _ _,exA rfl ⟨d,exA rfl ⟨zcB.t hd eb hl,g⟩⟩⟩⟩))
abbrev nHK:List Str:=["self","kind","thing","deed","key"]
def zlT:z0j nHK ["self","kind","thing","deed"] (z05 zbq):={}
def zcd{C:Addr}(T:TxH K mg C)(F:Fun K "keep" "House.keep" zbq f fd){aL:Addr}{dL:FuncData}(L:z0u P w K mg base CX 7 aL dL ["deed"] (z7k K))(bL:z0i K dL ["deed"] [])(kL:PySem.W.keepIn K (.ref aL)=true)(mL:mg "line_written"=some (.ref aL)){aP:Addr}{dP:FuncData}(G:z0u P w K mg base CX 1 aP dP ["self","key","thing"] (ze9 C))(bP:z0i K dP ["self","key","thing"] [])(mP:zdM K C "put" aP):z0u P w K mg base CX 8 f fd ["self","kind","thing","deed"] (z9k K C):=by
 refine F.okc zlT (fun vs H Q E h=>?_) (fun cdv A outer s H vs Q E hr h=>?_)
 .obtain⟨p,n,d,x,y,th,dn,tb,k,v,u,name,nm,z0Y,xs,ds,rfl,_⟩:=h;rfl
 obtain⟨p,n,d,x,y,th,dn,tb,k,v,u,name,nm,z0Y,xs,ds,rfl,S,hv,ht,hdn,du,hm,hp,g⟩:=h;have hu:=z71 hr;refine⟨_,z02 (z0k (i:=4) zlT.nd rfl (Or.inl rfl) (z0A (z00 (pv 1) (z00 (z1L z3O (pv 3) z06 (fun _ _=>rfl)) z03))))
  (z02 (z0M (z2A y0A y0C y0D z0H (z50 (pv 0) rfl) (z00 (z0A (z00 (z0t L hr rfl mL kL bL .nil z1t (z00 (pv 3) z03)) (z00 (pv 4) (z00 (zc5 hu (z50 (pv 0) rfl) (pv 4) ⟨rfl,rfl,rfl,rfl⟩) (z00 (pv 2) z03))))) z03)))
  (z02 (z0M (zfu y0A PySem.F.slot_list_clear PySem.F.type_list_clear zbR (z50 (pv 0) rfl)))
  (z07 (z0M (z5J (pv 0) T.cl mP G (hr.mono (by decide)) bP .nil z1t (z00 (pv 4) (z00 (pv 2) z03))))))),?_⟩
 have du':=du;obtain⟨a,us,rfl,ea,dus⟩:∃(a:Addr)(us:List V),u=.ref a/\H a=some (.tup us)/\DrL K H (.str name::.str nm::ds) us:=by simp only[Dr]at du;exact du
 obtain⟨ws,rfl⟩:∃ws,us=.str name::.str nm::ws:=by simp only[DrL,Dr]at dus;obtain⟨_,r,rfl,rfl,_,r2,rfl,rfl,_⟩:=dus;exact⟨r2,rfl⟩
 refine(exA rfl (exA rfl (exD a _ _ (.str nm) rfl rfl (SqT.of ea) (z0S (j:=1) rfl) ⟨show 2<=sizeLine by decide,fun kq hkq=>?_⟩)));have s1:z08 H (upd H kq (.tup [.str k,.str nm])):=same_up (z08.refl H) hkq;have e1:upd H kq (.tup [.str k,.str nm]) kq=some (.tup ((kH k nm).map kV)):=z01;generalize upd H kq (.tup [.str k,.str nm])=H1 at s1 e1⊢;have S1:=S.same s1;obtain⟨⟨dx,ho⟩,hd,hx,hy,xy⟩:=id S1;refine(exA rfl ⟨p,C,dx,exB rfl ⟨ho,T.cl,T.nX,zoT _ _ _ _,.inl ⟨rfl,_,SqL.of hx⟩,exA rfl ⟨_,name,z0Y,xs,exA rfl ⟨du'.mono s1,hm,hp,fun H2 s2=>?_⟩⟩⟩⟩);have S2:=S1.same s2;obtain⟨⟨dx2,ho2⟩,hd2,hx2,hy2,_⟩:=id S2;have e2:=s2 _ _ e1;refine(exA rfl (exA rfl ⟨p,C,dx2,exB rfl ⟨ho2,T.cl,T.nD,ziz _ _ _ _,d,rfl,.inr ⟨_,.inl hd2⟩,exA rfl ⟨_,z5k.t hd2 e2,exA rfl ⟨show 4<=sizeLine by decide,fun q hq=>?_⟩⟩⟩⟩));have s3:z08 H2 (upd H2 q (.tup [.str (Str.join (str " ") (name::xs)),.ref kq,(z2S th (kH k nm)).getD .non,v])):=same_up (z08.refl H2) hq;have e3:upd H2 q (.tup [.str (Str.join (str " ") (name::xs)),.ref kq,(z2S th (kH k nm)).getD .non,v]) q=some (.tup [.str (Str.join (str " ") (name::xs)),.ref kq,(z2S th (kH k nm)).getD .non,v]):=z01;generalize upd H2 q (.tup [.str (Str.join (str " ") (name::xs)),.ref kq,(z2S th (kH k nm)).getD .non,v])=H3 at s3 e3⊢;have s03:=(s1.trans s2).trans s3;obtain⟨⟨dx3,ho3⟩,hd3,hx3,hy3,_⟩:=S.same s03;have k3:=s3 _ _ e2;have npx:p≠x:=fun z=>by rw[z,hx3]at ho3;cases ho3
 have npy:p≠y:=fun z=>by rw[z,hy3]at ho3;cases ho3
 have npd:p≠d:=fun z=>by rw[z,hd3]at ho3;cases ho3
 have ndx:d≠x:=fun z=>by rw[z,hx3]at hd3;cases hd3
 have ndy:d≠y:=fun z=>by rw[z,hy3]at hd3;cases hd3
 have nqx:q≠x:=fun z=>by rw[z,hx3]at e3;cases e3
 have nqy:q≠y:=fun z=>by rw[z,hy3]at e3;cases e3
 have nqd:q≠d:=fun z=>by rw[z,hd3]at e3;cases e3
 have nkx:kq≠x:=fun z=>by rw[z,hx3]at k3;cases k3
 have nky:kq≠y:=fun z=>by rw[z,hy3]at k3;cases k3
 have nkd:kq≠d:=fun z=>by rw[z,hd3]at k3;cases k3
 have hq0:H q=none:=by
  cases c:H q with
  |none=>rfl
  |some o=>rw[s2 _ _ (s1 _ _ c)]at hq;cases hq
 refine⟨x,exC rfl rfl ⟨hx3,hdn,?_⟩⟩;refine(exA rfl ⟨p,C,dx3,exB rfl ⟨(by rw[z04 npx];exact ho3),T.cl,T.nY,zor _ _ _ _,.inl ⟨rfl,_,SqL.of (by rw[z04 xy.symm];exact hy3)⟩,y,tb,rfl,rfl,(by rw[z04 xy.symm];exact hy3),?_⟩⟩);refine⟨_,rfl,p,dx3,_,rfl,(by rw[z04 npy,z04 npx];exact ho3),zcr _ _ _ _ (by decide +kernel) (by decide +kernel) (by decide +kernel) (by decide +kernel),_,rfl,_,rfl,p,n,d,x,y,th,dn++[.ref q],[],kH k nm,kq,v,rfl,
  ⟨⟨dx3,by rw[z04 npy,z04 npx];exact ho3⟩,by rw[z04 ndy,z04 ndx];exact hd3,by rw[z04 xy,z01],z01,xy⟩,by rw[z04 nky,z04 nkx];exact k3,hv,ht,?_⟩
 refine g q kq _ hq0 hkq ⟨⟨dx3,by rw[z04 npd,z04 npy,z04 npx];exact ho3⟩,z01,by rw[z04 ndx.symm,z04 xy,z01],by rw[z04 ndy.symm,z01],xy⟩ (by rw[z04 nqd,z04 nqy,z04 nqx];exact e3) (by rw[z04 nkd,z04 nky,z04 nkx];exact k3) fun b o e h1 h2 h3=>?_;rw[z04 h1,z04 h3,z04 h2];exact s03 _ _ e
abbrev nHS:List Str:=["self","name","rows","guises"]
def zm0:z0j nHS ["self","name","rows"] (z05 zeC):={}
def zlA:z0X nHS (z05 zeC) ["called","self"] [none,some 0] (csc [(".0",.local),("called",.local),("self",.free)]):={}
def zep{C Cn Ct Cb Cm:Addr}{tg:Tok}{Ts:List Tb}(T:TxH K mg C)(F:Fun K "sew" "House.sew" zeC f fd)(mGu:mg "GUISE"=some (.str "guise" tg)){aN:Addr}{dN:FuncData}(N:z0u P w K mg base (CXx P w) 2 aN dN ["self","kind","name"] (z3t C Cn Ct))(bN:z0i K dN ["self","kind","name"] [])(mN:zdM K C "check_new" aN){aC:Addr}{dC:FuncData}(Ck:z0u P w K mg base (CXx P w) 3 aC dC ["letters","rows"] (z5X K Cb))(bC:z0i K dC ["letters","rows"] [])(kC:PySem.W.keepIn K (.ref aC)=true)(mC:mg "check_sewing"=some (.ref aC)){aG:Addr}{dG:FuncData}(G:z0u P w K mg base (CXx P w) 1 aG dG ["rows"] (z5W K))(bG:z0i K dG ["rows"] [])(kG:PySem.W.keepIn K (.ref aG)=true)(mG:mg "names_gone_to"=some (.ref aG)){aS:Addr}{dS:FuncData}(Sw:z0u P w K mg base (CXx P w) 7 aS dS ["rows","guises"] (z9M Ts K Cm))(bS:z0i K dS ["rows","guises"] [])(kS:PySem.W.keepIn K (.ref aS)=true)(mS:mg "sewn"=some (.ref aS)){aK:Addr}{dK:FuncData}(Kp:z0u P w K mg base (CXx P w) 8 aK dK ["self","kind","thing","deed"] (z9k K C))(bK:z0i K dK ["self","kind","thing","deed"] [])(mK:zdM K C "keep" aK):z0u P w K mg base (CXx P w) 9 f fd ["self","name","rows"] (z9s Ts K C Cb):=by
 refine F.okx zm0 (fun vs H Q E h=>?_) (fun cdv A outer s H vs Q E hr h=>?_)
 .obtain⟨p,n,d,x,y,th,dn,tb,nm,a,rs,xs,rfl,_⟩:=h;rfl
 obtain⟨p,n,d,x,y,th,dn,tb,nm,a,rs,xs,rfl,S,hT,hb,hnl,hnew,hra,hpl,hn,hrl,hsm,ht,hdn,g,gx⟩:=h;have hu:=z71 hr;refine⟨_,z02 (z0M (z5J (pv 0) T.cl mN N (hr.mono (by decide)) bN .nil (z6p fun _ _ _ z=>z) (z00 (z1G (v:=.str "guise") rfl mGu ⟨_,rfl⟩) (z00 (pv 1) z03))))
  (z02 (z0M (z0t Ck (hr.mono (by decide)) rfl mC kC bC .nil (z6p fun _ _ _ z=>z) (z00 (z50 (pv 0) rfl) (z00 (pv 2) z03))))
  (z02 (zcE (i:=3) rfl zlA (z1Z (z0t G (hr.mono (by decide)) rfl mG kG bG .nil z1t (z00 (pv 2) z03))) (fun _ _ _ _ _=>z0c (i:=0) zlA.nd rfl (Or.inl rfl)) (fun _ _ _ _ _=>pv 0) (fun _ _ _ _ _=>zci) zm0.nd rfl rfl)
  (z07 (z0M (z5J (pv 0) T.cl mK Kp hr bK .nil z1t (z00 (z1G (v:=.str "guise") rfl mGu ⟨_,rfl⟩) (z00 (z0t Sw (hr.mono (by decide)) rfl mS kS bS .nil (z6p fun _ _ _ z=>z) (z00 (pv 2) (z00 (pv 3) z03))) (z00 (z0A (z00 z1h (z00 (pv 1) (z00 (pv 2) z03)))) z03)))))))),?_⟩
 obtain⟨dx,ho⟩:=S.ob;refine(exA rfl ⟨p,dx,exA rfl ⟨ho,zcr _ _ _ _ (by decide +kernel) (by decide +kernel) (by decide +kernel) (by decide +kernel),exA rfl ⟨p,n,d,x,y,th,dn,tb,str "guise",nm,rfl,S,hnl,fun z=>absurd z (by rw[hb];decide),fun _ z=>absurd z (by rw[hnew];decide),fun _ _ H1 s1=>?_⟩⟩⟩);have S1:=S.same s1;obtain⟨dx1,ho1⟩:=S1.ob;refine(exA rfl ⟨p,C,dx1,exB rfl ⟨ho1,T.cl,T.nN,zov _ _ _ _,exA rfl ⟨n,a,rs,rfl,hra.mono s1,hn,hrl,hsm,fun hM H2 s2=>?_,fun hM ea H2 s2=>gx hM ea H2 (s1.trans s2)⟩⟩⟩);obtain⟨hp,h60,gg⟩:=g hM;have s02:=s1.trans s2;refine(exA rfl ⟨a,rs,rfl,hra.mono s02,hrl,fun r hr=>(hsm r hr).2,fun l H3 s3 hl e3=>?_⟩);rw[hpl.names]at e3;have s03:=s02.trans s3;refine⟨l,rfl,⟨_,SqL.of e3⟩,fun dd hdd=>z95 (xs:=[]) (fun i ys H4=>i=0/\ys=[]/\z08 H3 H4) ⟨rfl,rfl,same_up (z08.refl H3) hdd⟩ (fun i ys H4 _ h=>SqL.of (h.2.2 _ _ e3)) (fun i ys H4 hi=>absurd hi (y2P _)) (fun i z ys H4 hz=>by simp at hz) (fun ys H4 h hy=>?_)⟩;obtain⟨_,rfl,s4⟩:=h;have s04:=s03.trans s4;have S4:=S.same s04;obtain⟨dx4,ho4⟩:=S4.ob;refine(exA rfl ⟨p,dx4,exA rfl ⟨ho4,zcr _ _ _ _ (by decide +kernel) (by decide +kernel) (by decide +kernel) (by decide +kernel),exA rfl (exA rfl ⟨a,dd,rs,[],n,rs.map z2M,exA rfl ⟨z2n.mono hT s04,hra.mono s04,hy,hpl.sews (fun r hr=>(hsm r hr).2),hM.1,hn,fun _ v H5 s5 dv=>?_,fun z=>absurd z (by lia)⟩⟩)⟩⟩);obtain⟨va,vus,rfl,_,_⟩:∃(a:Addr)(us:List V),v=.ref a/\H5 a=some (.tup us)/\DrL K H5 (z0x (shr (rs.map z2M))) us:=by simp only[Dr]at dv;exact dv
 have s05:z1I Ts H H5:=(z08.l s04).trans s5;obtain⟨us,ea,da⟩:=hra;have ea5:H5 a=some (.lst us):=s05.at_ _ _ (fun _ z=>by cases z) ea;refine(exA rfl (exA rfl ⟨show 3<=sizeLine by decide,fun q hq=>?_⟩));have s6:z08 H5 (upd H5 q (.tup [.str (str "sew"),.str nm,.ref a])):=same_up (z08.refl H5) hq;have e6:upd H5 q (.tup [.str (str "sew"),.str nm,.ref a]) q=some (.tup [.str (str "sew"),.str nm,.ref a]):=z01;have s06:z1I Ts H (upd H5 q (.tup [.str (str "sew"),.str nm,.ref a])):=s05.trans (z08.l s6);have hTT:z2n Ts (upd H5 q (.tup [.str (str "sew"),.str nm,.ref a])):=s06.tabs hT;have S6:=S.sameL s06;refine⟨p,n,d,x,y,th,dn,tb,str "guise",.ref va,.ref q,str "sew",nm,[str "name",str "rows"],xs,[.lst (z3k rs)],rfl,S6,(fun z=>by cases z),ht,hdn,?_,by decide +kernel,hp,fun q2 kq H7 _ _ S7 _ _ bt=>?_⟩
 .simp only[Dr,DrL];exact⟨q,exA rfl ⟨e6,exC rfl rfl (exC rfl rfl (exB rfl ⟨⟨a,us,rfl,SqL.of (s6 _ _ ea5),(da.monoL s05).mono s6⟩,rfl⟩))⟩⟩
 .exact gg _ _ _ S7 ⟨fun b o nt e h1 h2 h3=>bt b o (s06.at_ b o nt e) h1 h2 h3,z2n.but hTT S6 bt⟩
def zfl:z0j ["_law_script","_law_at"] ["_law_script","_law_at"] (z05 z9X):={}
def zdK(F:Fun K "_law_cell" "_law_cell" z9X f fd)(ml:mg "len"=none):z0u P w K mg base CX 1 f fd ["_law_script","_law_at"] (z8g K):=by
 refine F.okc zfl (fun vs H Q E h=>?_) (fun cdv A outer s H vs Q E hr h=>?_)
 .obtain⟨a,ns,i,rfl,_⟩:=h;rfl
 obtain⟨a,ns,i,rfl,hS,h63,hi,q⟩:=h;refine⟨_,z02 (z15 (z1c z6k (pv 1) (z0e z0a rfl ml y0y (z00 (pv 0) z03)) (z1C _)) (z07 (z0y (z1L z1F (pv 0) (pv 1) (fun _ _=>rfl)))) z0n)
  (z02 (z15 (z1c zgN (z0e z0a rfl ml y0y (z00 (pv 0) z03)) z06 (z1C _)) (z07 (z0y (z0f z1g (z0f z4V z06 (pv 1)) z06))) z0n)
  (z07 (z0y (z0f z1g (z0f z16 (z1L z1F (pv 0) (z0f z16 (pv 1) (z0e z0a rfl ml y0y (z00 (pv 0) z03))) (fun _ _=>rfl)) z06) (z0f z4V z06 (pv 1)))))),?_⟩
 have hl:(ns.map V.int).length=ns.length:=y00 _;refine(exA rfl (exA rfl ⟨a,exA rfl ⟨.inl hS,exC rfl rfl (exA rfl ?_)⟩⟩));refine z1q (fun c=>?_) (fun c=>?_)
 .have c':(i:Int)<(((ns.map V.int).length:Nat):Int):=y0l c;rw[hl]at c';have hin:i<ns.length:=by lia
  refine(exA rfl (exA rfl ⟨a,_,_,V.int (ns.getD i 0),rfl,rfl,hS,z0S (by simp[hin]),?_⟩));have e:cell ns i=ns.getD i 0:=by unfold cell;rw[if_pos hin]
  rw[e]at q;exact q
 .have c':¬(i:Int)<(((ns.map V.int).length:Nat):Int):=y0L (y0K.mpr c);rw[hl]at c';have hin:¬i<ns.length:=by lia
  refine(exA rfl ⟨a,exA rfl ⟨.inl hS,rfl,exA rfl ?_⟩⟩);refine z1q (fun c=>?_) (fun c=>?_)
  .have c2:=y0l c;rw[hl]at c2;have hz:ns.length=0:=by injection c2 with c2;lia
   refine(exA rfl (exC rfl rfl ⟨.inl ⟨by decide,by decide⟩,exC rfl rfl ?_⟩));have e:cell ns i=29*i+5:=by unfold cell;rw[if_neg hin,if_pos hz]
   rw[e]at q;exact q
  .have c2:=y0L (y0K.mpr c);rw[hl]at c2;have hz:¬ns.length=0:=fun z=>c2 (y1n V.int (by lia));have hpos:(0:Int)<ns.length:=by lia
   have hm:i%ns.length<ns.length:=Nat.mod_lt _ (by lia);have em:(i:Int)%(((ns.map V.int).length:Nat):Int)=((i%ns.length:Nat):Int):=by rw[hl];exact(Int.natCast_emod i ns.length).symm
   refine(exA rfl (exA rfl (exA rfl ⟨a,exA rfl ⟨.inl hS,exC rfl rfl ⟨by rw[hl];exact hpos,a,_,_,V.int (ns.getD (i%ns.length) 0),rfl,rfl,hS,(by rw[em];exact z0S (by simp[hm])),exC rfl rfl ⟨(by show(0:Int)<1000003;decide),exA rfl (exC rfl rfl ⟨.inl ⟨by decide,by decide⟩,exC rfl rfl ?_⟩)⟩⟩⟩⟩)));have e:cell ns i=ns.getD (i%ns.length) 0%1000003+103*i:=by unfold cell;rw[if_neg hin,if_neg hz]
   rw[e]at q;exact q
def za9:z0j ["_law_script","_law_at"] ["_law_script","_law_at"] (z05 z3q):={}
def z8C(F:Fun K "_law_letters" "_law_letters" z3q f fd)(G:z0u P w K mg base CX 1 g gd ["_law_script","_law_at"] (z8g K))(bG:z0i K gd ["_law_script","_law_at"] [])(kG:PySem.W.keepIn K (.ref g)=true)(mG:mg "_law_cell"=some (.ref g)) : z0u P w K mg base CX 2 f fd ["_law_script","_law_at"] (z4s K):=by
 refine F.okc za9 (fun vs H Q E h=>?_) (fun cdv A outer s H vs Q E hr h=>?_)
 .obtain⟨a,ns,i,rfl,_⟩:=h;rfl
 obtain⟨a,ns,i,rfl,hS,h63,hi,q⟩:=h;refine⟨_,z07 (z0y (z0f z1g z06 (z0f z16 (z0t G hr rfl mG kG bG .nil z1t (z00 (pv 0) (z00 (pv 1) z03))) z06))),?_⟩;rw[zcc]at q;exact(exA rfl (exA rfl ⟨a,ns,i,rfl,hS,h63,hi,exC rfl rfl ⟨(by show(0:Int)<4;decide),exC rfl rfl q⟩⟩))
def z28:z0j ["_law_cell_here","_law_many","_law_row","_law_rest","_law_seed"] ["_law_cell_here","_law_many"] (z05 z3n):={}
def z8G(F:Fun K "_law_numbers" "_law_numbers" z3n f fd)(ml:mg "len"=none):z0u P w K mg base CX 1 f fd ["_law_cell_here","_law_many"] (z4t K):=by
 refine F.okc z28 (fun vs H Q E h=>?_) (fun cdv A outer s H vs Q E hr h=>?_)
 .obtain⟨c,m,rfl,_⟩:=h;rfl
 obtain⟨c,m,rfl,hm,q⟩:=h;refine⟨_,z02 (z0k (i:=2) z28.nd rfl (Or.inl rfl) (z1W z03))
  (z02 (z0k (i:=3) z28.nd rfl (Or.inl rfl) (z0f z2O (pv 0) (z0f z9n z06 z06)))
  (z02 (z3e y16 (PW.pt (z8j (z1c zdp (pv 3) z06 (z1C _)) (z5w (z1c z6k (z0e z0a rfl ml y0y (z00 (pv 2) z03)) (pv 1) (z1C _)))))
   (z02 (z0M (z2A y0A y0C y0D z0H (pv 2) (z00 (z0f z16 (pv 3) z06) z03)))
   (z07 (z0k (i:=3) z28.nd rfl (Or.inl rfl) (z0f z2g (pv 3) z06)))))
  (z02 (z0k (i:=4) z28.nd rfl (Or.inl rfl) (z0f z16 (pv 0) z06))
  (z02 (z3e y16 (z1c z6k (z0e z0a rfl ml y0y (z00 (pv 2) z03)) (pv 1) (z1C _))
   (z02 (z0k (i:=4) z28.nd rfl (Or.inl rfl) (z0f z16 (z0f z1g (z0f z1g (z0f z4V (pv 4) z06) z06) (z0e z0a rfl ml y0y (z00 (pv 2) z03))) z06))
   (z07 (z0M (z2A y0A y0C y0D z0H (pv 2) (z00 (z0f z16 (z0f z2g (z0f z16 (z0f z4V (pv 4) z06) z06) z06) z06) z03))))))
  (z07 (z0y (pv 2))))))),?_⟩
 refine⟨by show 0<=sizeLine;decide,fun l hl=>(exA rfl (exC rfl rfl ⟨⟨by decide,by decide,by decide⟩,exC rfl rfl ?_⟩))⟩;show z7K _ _ _ _ _;refine zoV (fun σ' H'=>∃(k:Nat)(r:Int)(ns:List Int),σ'=[some (.int c),some (.int m),some (.ref l),some (.int r),none]/\z08 H H'/\H' l=some (.lst (ns.map V.int))/\k+ns.length=m/\∀x∈ns,0<=x/\x<1009) (fun Ed nx=>?_) (fun σ' H' p=>?_);rotate_left
 .obtain⟨k,r,ns,rfl,s2,e2,hk,hns⟩:=p;refine(exA rfl (exC rfl rfl ⟨zbx,?_⟩));refine⟨fun k σ H2=>∃(v:Int)(ns:List Int),σ=[some (.int c),some (.int m),some (.ref l),some (.int r),some (.int v)]/\z08 H H2/\H2 l=some (.lst (ns.map V.int))/\k+ns.length=m/\∀x∈ns,0<=x/\x<1009,
   ⟨k,_,ns,rfl,s2,e2,hk,hns⟩,?_⟩
  rintro k σ H2 ⟨v,ns,rfl,s2,e2,hk,hns⟩;have hnl:(ns.map V.int).length=ns.length:=y00 _;refine(exA rfl (exG l rfl (.inl (SqL.of e2)) (exA rfl (exC rfl rfl (exA rfl (z1q (fun c2=>?_) (fun c2=>?_)))))))
  .have c2':=y0l c2;rw[hnl]at c2';have hkp:ns.length<m:=by lia
   refine zfI fun N nx2=>?_;refine(exA rfl (exC rfl rfl ⟨.inr ⟨by decide,by decide⟩,exC rfl rfl (exA rfl (exG l rfl (.inl (SqL.of e2)) (exC rfl rfl (exC rfl rfl ⟨zbx,?_⟩))))⟩));refine(exA rfl ⟨.inl ⟨rfl,_,SqL.of e2⟩,exA rfl (exC rfl rfl ⟨.inr ⟨by decide,by decide⟩,exC rfl rfl ⟨zbx,exC rfl rfl ⟨⟨by decide,by decide⟩,exC rfl rfl ⟨zbx,l,exC rfl rfl ⟨e2,by rw[hnl];exact z2o (by lia),?_⟩⟩⟩⟩⟩)⟩);refine nx2 (k-1) _ _ (by lia) ⟨_,ns++[(v*48271+9973+((ns.map V.int).length:Nat))%2147483647*39373%2147483629/11%1009],rfl,z0d s2 hl,?_,?_,z6j hns (z9z _)⟩
   .rw[z01,y04];rfl
   .rw[y06];show k-1+(ns.length+1)=m;lia
  .have c2':=y0L (y0K.mpr c2);rw[hnl]at c2';exact(exA rfl (q l H2 ns s2 e2 ⟨by lia,hns⟩))
 refine⟨fun k σ H2=>∃(r:Int)(ns:List Int),σ=[some (.int c),some (.int m),some (.ref l),some (.int r),none]/\z08 H H2/\H2 l=some (.lst (ns.map V.int))/\k+ns.length=m/\∀x∈ns,0<=x/\x<1009,
  ⟨m,_,[],rfl,same_up (z08.refl H) hl,z01,rfl,fun x hx=>by simp at hx⟩,?_⟩
 rintro k σ H2 ⟨r,ns,rfl,s2,e2,hk,hns⟩;have hnl:(ns.map V.int).length=ns.length:=y00 _;refine(exA rfl (exC rfl rfl (exA rfl (z1q (fun c1=>(exA rfl (exG l rfl (.inl (SqL.of e2)) (exA rfl (exC rfl rfl (exA rfl (z1q (fun c2=>?_) (fun c2=>?_)))))))) (fun c1=>z5n ?_)))))
 .have c2':=y0l c2;rw[hnl]at c2';have hkp:ns.length<m:=by lia
  refine zfI fun N nx2=>?_;refine(exA rfl ⟨.inl ⟨rfl,_,SqL.of e2⟩,exA rfl (exC rfl rfl ⟨zbx,l,exC rfl rfl ⟨e2,by rw[hnl];exact z2o (by lia),?_⟩⟩)⟩);refine(exA rfl (exC rfl rfl ⟨⟨by decide,by decide⟩,nx2 (k-1) _ _ (by lia) ⟨_,ns++[r%1009],rfl,z0d s2 hl,?_,?_,z6j hns (z9z r)⟩⟩))
  .rw[z01,y04];rfl
  .rw[y06];show k-1+(ns.length+1)=m;lia
 all_goals exact nx _ _ ⟨k,r,ns,rfl,s2,e2,hk,hns⟩
def z4T:z0j ["_law_pick","_law_letters_here","_law_left","_law_made","_law_k","_law_many"] ["_law_pick","_law_letters_here"] (z05 zbf):={}
def zer(F:Fun K "_law_rearranged" "_law_rearranged" zbf f fd)(ml:mg "len"=none)(mt:mg "tuple"=none)(mr:mg "range"=none)(mls:mg "list"=none):z0u P w K mg base CX 1 f fd ["_law_pick","_law_letters_here"] (zaA K):=by
 refine F.okc z4T (fun vs H Q E h=>?_) (fun cdv A outer s H vs Q E hr h=>?_)
 .obtain⟨pick,n,rfl,_⟩:=h;rfl
 obtain⟨pick,n,rfl,hn,k⟩:=h;refine⟨_,z02 (z0k (i:=2) z4T.nd rfl (Or.inl rfl) (z0o (z2f rfl) rfl mls y1D (z00 (z0o z3d rfl mr y1x (z00 (pv 1) z03)) z03)))
  (z02 (z0k (i:=3) z4T.nd rfl (Or.inl rfl) (z1W z03))
  (z02 (z2R y16 rfl (z27 rfl mr (z00 (pv 1) z03)) (z0c (i:=4) z4T.nd rfl (Or.inl rfl))
   (z02 (z0k (i:=5) z4T.nd rfl (Or.inl rfl) (z0e z0a rfl ml y0y (z00 (pv 2) z03)))
   (z02 (z0M (z2A y0A y0C y0D z0H (pv 3) (z00 (z2A y0A PySem.F.slot_list_pop PySem.F.type_list_pop zbK (pv 2) (z00 (z0f z16 (pv 0) (pv 5)) z03)) z03)))
   (z07 (z0k (i:=0) z4T.nd rfl (Or.inl rfl) (z0f z2g (pv 0) (pv 5)))))))
  (z07 (z0y (z0o z0K rfl mt y0N (z00 (pv 3) z03)))))),?_⟩
 refine(exA rfl ⟨(n:Int),rfl,by lia,by lia,fun p hp=>⟨p,0,(n:Int),rfl,z01,⟨by decide,by decide,by lia,by lia⟩,by lia,fun l hl=>⟨by show 0<=sizeLine;decide,fun m hm=>?_⟩⟩⟩);have e:((n:Int)-0).toNat=n:=by lia
 rw[e,z2u]at hm⊢;have s1:z08 H (upd H p (.rng 0 n)):=same_up (z08.refl H) hp;have s2:z08 H (upd (upd H p (.rng 0 n)) l (.lst ((z0s n).map V.int))):=same_up s1 hl;have hl0:H l=none:=s1.free hl;have hm0:H m=none:=s2.free hm;have hlm:l≠m:=z09 z01 hm;have s3:z08 H (upd (upd (upd H p (.rng 0 n)) l (.lst ((z0s n).map V.int))) m (.lst [])):=same_up s2 hm;refine⟨_,rfl,(n:Int),rfl,by lia,by lia,zdg (n:=(n:Int).toNat) (fun i σ H2=>∃(u v:Option V)(pk:Int)(left made:List Int),σ=[some (.int pk),some (.int n),some (.ref l),some (.ref m),u,v]/\z08 H H2/\H2 l=some (.lst (left.map V.int))/\H2 m=some (.lst (made.map V.int)) /\
   left.length+i=n/\made.length=i/\zce pick n=made++zdi left.length pk left)
  ⟨none,none,pick,z0s n,[],rfl,s3,(by rw[z04 hlm,z01]),z01,z0N n,rfl,by rw[z0N];rfl⟩ (fun i σ H2 hi h Ed nx3=>?_) (fun σ H2 h=>?_)⟩
 .obtain⟨u,v,pk,left,made,rfl,t2,gl,gm,e1,e2,e3⟩:=h;have hin:i<n:=by simpa using hi
  have hpos:0<left.length:=by lia
  have hL:(left.map V.int).length=left.length:=y00 _;obtain⟨ix,hixe,hix⟩:∃ix:Nat,pk%(((left.map V.int).length:Nat):Int)=(ix:Int)/\ix<left.length:=by rw[hL];have h0:=y1l pk (show(left.length:Int)≠0 by lia);have h1:=y19 pk (show(0:Int)<left.length by lia);exact⟨(pk%(left.length:Int)).toNat,by lia,by lia⟩
  have hsq:PySem.seqIndex? (pk%(((left.map V.int).length:Nat):Int)) (left.map V.int).length=some ix:=by rw[hixe,hL,PySem.seqIndex_of (by lia) (by lia)];simp
  refine(exA rfl (exG l rfl (.inl (SqL.of gl)) (exA rfl ⟨.inl ⟨rfl,_,SqL.of gm⟩,exA rfl ⟨.inl ⟨rfl,_,SqL.of gl⟩,exA rfl (exA rfl (exC rfl rfl ⟨by rw[hL];lia,?_⟩))⟩⟩)));refine⟨l,_,_,ix,V.int (left.getD ix 0),rfl,rfl,gl,by rw[hixe];lia,by rw[hixe];lia,hsq,by simp[hix],m,exC rfl rfl ⟨by rw[z04 (y1h hlm)];exact gm,by rw[y00];exact z2o (by lia),?_⟩⟩;refine(exA rfl (exA rfl (exC rfl rfl ⟨⟨by rw[hL];lia,by rw[hL];lia⟩,?_⟩)));refine nx3 _ _ ⟨_,_,pk/(((left.map V.int).length:Nat):Int),left.eraseIdx ix,made++[left.getD ix 0],rfl,z0d (z0d t2 hl0) hm0,?_,?_,?_,by simp[e2],?_⟩
  .rw[z04 hlm,z01];congr 2;exact z67 V.int left ix
  .rw[z01,y04];rfl
  .rw[y27 hix];lia
  .rw[e3,y14];congr 1;obtain⟨q,hq⟩:∃q,left.length=q+1:=⟨left.length-1,by lia⟩;have e5:(left.eraseIdx ix).length=q:=by rw[y27 hix];lia
   rw[e5,hL];rw[hL]at hixe;have e6:(pk%(left.length:Int)).toNat=ix:=by lia
   have e7:zdi (q+1) pk left=left.getD (pk%(left.length:Int)).toNat 0::zdi q (pk/(left.length:Int)) (left.eraseIdx (pk%(left.length:Int)).toNat):=rfl;rw[hq,e7,e6];rw[hq];rfl
 .obtain⟨u,v,pk,left,made,rfl,t2,gl,gm,e1,e2,e3⟩:=h;refine(exA rfl ⟨m,exA rfl (.inl ⟨SqL.of gm,fun t ht=>?_⟩)⟩);have e9:(n:Int).toNat=n:=by lia
  have e4:left.length=0:=by lia
  rw[e4]at e3;have e5:zce pick n=made:=by rw[e3];unfold zdi;simp
  rw[<-e5];exact k _ _ (same_up t2 ht) (Dr.tup z01 (DrL.ints _))
abbrev zcs:List Str:=["_law_letters_here","_law_cell_here","_law_nums","_law_many","_law_kind","_law_rows_here","_law_at","_law_pick","_law_first","_law_goings"]
def z2a:z0j zcs ["_law_letters_here","_law_cell_here"] (z05 z6s):={}
def za3:z0X zcs (z05 z6s) ["_law_k","_law_many","_law_pick"] [none,some 3,some 7] (csc [(".0",.local),("_law_k",.local),("_law_many",.free),("_law_pick",.free)]):={}
def zak:z0X zcs (z05 z6s) ["_law_to","_law_at","_law_many"] [none,some 6,some 3] (csc [(".0",.local),("_law_to",.local),("min",.globalImplicit),("_law_at",.free),("_law_many",.free)]):={}
def zbc:z0X zcs (z05 z6s) ["_law_k","_law_goings","_law_letters_here","_law_many","_law_pick"] [none,some 9,some 0,some 3,some 7] (csc [(".0",.local),("_law_k",.local),("_law_goings",.free),("_law_letters_here",.free),("_law_many",.free),("_law_pick",.free)]):={}
def zdP{k:Addr}{kd:FuncData}(F:Fun K "_law_rows" "_law_rows" z6s f fd)(mr:mg "range"=none)(mt:mg "tuple"=none)(mm:mg "min"=none)(G:z0u P w K mg base CX 1 g gd ["_law_cell_here","_law_many"] (z4t K))(bG:z0i K gd ["_law_cell_here","_law_many"] [])(kG:PySem.W.keepIn K (.ref g)=true)(mG:mg "_law_numbers"=some (.ref g))(T:z0u P w K mg base CX 1 k kd ["_law_pick","_law_letters_here"] (zaA K))(bT:z0i K kd ["_law_pick","_law_letters_here"] [])(kT:PySem.W.keepIn K (.ref k)=true)(mT:mg "_law_rearranged"=some (.ref k)):z0u P w K mg base CX 2 f fd ["_law_letters_here","_law_cell_here"] (zaY K):=by
 refine F.okc z2a (fun vs H Q E h=>?_) (fun cdv A outer s H vs Q E hr h=>?_)
 .obtain⟨n,c,rfl,_⟩:=h;rfl
 obtain⟨n,c,rfl,hn2,hn5,q⟩:=h;refine⟨_,z02 (z0k (i:=2) z2a.nd rfl (Or.inl rfl) (z0t G hr rfl mG kG bG .nil z1t (z00 (pv 1) (z00 z06 z03))))
  (z02 (z0k (i:=3) z2a.nd rfl (Or.inr rfl) (z0f z1g z06 (z0f z16 (z1L z1F (pv 2) z06 (fun _ _=>rfl)) z06)))
  (z02 (z0k (i:=4) z2a.nd rfl (Or.inl rfl) (z0f z16 (z1L z1F (pv 2) z06 (fun _ _=>rfl)) z06))
  (z02 (z0k (i:=5) z2a.nd rfl (Or.inl rfl) (z1W z03))
  (z02 (z2R y16 rfl (z27 rfl mr (z00 (pv 3) z03)) (z0c (i:=6) z2a.nd rfl (Or.inr rfl))
   (z02 (z0k (i:=7) z2a.nd rfl (Or.inr rfl) (z0Z z7i (pv 2) (z1j (z0f z1g z06 (z0f z4V z06 (pv 6)))) (z1j (z0f z1g z06 (z0f z4V z06 (pv 6))))))
   (z02 (z0k (i:=8) z2a.nd rfl (Or.inl rfl) (z0t T hr rfl mT kT bT .nil z1t (z00 (z1L z1F (pv 7) z06 (fun _ _=>rfl)) (z00 (pv 0) z03))))
   (z02 (z0k (i:=9) z2a.nd rfl (Or.inr rfl) (z1a rfl za3 (z27 rfl mr (z00 (pv 0) z03)) (fun _ _ _ _ _=>z0c (i:=0) za3.nd rfl (Or.inl rfl)) (fun _ _ _ _ _=>z0f z16 (z1L (ixL K rfl) (pv 2) (z0f z1g z06 (pv 0)) (fun _ _=>rfl)) (pv 1))))
   (z02 (PS.weak (tRI K) (z15 (z0I (z17 (pv 4) z06)) (z07 (z0k (i:=9) z2a.nd rfl (Or.inr rfl) (z1a rfl zak (z1Z (pv 9)) (fun _ _ _ _ _=>z0c (i:=0) zak.nd rfl (Or.inl rfl)) (fun _ _ _ _ _=>z0e (z9L rfl) rfl mm PyProof.Rows.boot_min (z00 (z0f z2O (pv 2) z06) (z00 (z0f z1g (z0f z1g (pv 1) z06) (pv 0)) z03)))))) z0n) ?_)
   (z02 (PS.weak (tRI K) (z15 (z0I (z17 (pv 4) z06)) (z07 (z0k (i:=9) z2a.nd rfl (Or.inr rfl) (z1a rfl zbc (z27 rfl mr (z00 (pv 0) z03)) (fun _ _ _ _ _=>z0c (i:=0) zbc.nd rfl (Or.inl rfl)) (fun _ _ _ _ _=>z3g (z0I (z17 (pv 0) (z0f z16 (z0f z2g (z1L (ixL K rfl) (pv 4) z06 (fun _ _=>rfl)) z06) (pv 2)))) (z1L (ixL K rfl) (pv 1) (pv 0) (fun _ _=>rfl)) (z0f z2O (pv 3) z06))))) z0n) ?_)
   (z02 (PS.weak (tRI K) (z15 (PT.weak (zlJ (zfg K)) (PW.pt (z78 (PW.pt (z8j (z3p z3s z3s z06 (pv 4) z06) (z5w (z0I (z17 (pv 6) (z0f z2O (pv 3) z06)))))) (z4D (PW.pt (z8j (z0I (z17 (pv 4) z06)) (z5w (z0I (z17 (z0f z16 (z1L z1F (pv 7) z06 (fun _ _=>rfl)) z06) z06)))))))) ?_)
    (z07 (z0k (i:=8) z2a.nd rfl (Or.inl rfl) (z0o (z2N rfl) rfl mt y0N (z00 (z0o z3d rfl mr y1x (z00 (pv 0) z03)) z03)))) z0n) ?_)
   (z02 (PS.weak (tRI K) (z15 (PT.weak (zlJ (zfg K)) (PW.pt (z8j (z3p z3s z3s z06 (pv 4) z06) (z5w (z0I (z17 (pv 6) (z0f z2O (pv 3) z06)))))) ?_)
    (z07 (z0k (i:=9) z2a.nd rfl (Or.inr rfl) (z0f z9U (z1W (z00 (pv 6) z03)) (pv 0)))) z0n) ?_)
   (z07 (z0M (z2A y0A y0C y0D z0H (pv 5) (z00 (z0A (z00 (pv 8) (z00 (z0o z0K rfl mt y0N (z00 (pv 9) z03)) z03))) z03))))))))))))
  (z07 (z0y (pv 5))))))),?_⟩
 .intro D σ H h;obtain⟨n,m,c,kd,j,ln,lr,lp,ps,H0,rf,ri,nx⟩:=h;obtain⟨b,lg,p,gs,rfl,s0,db,hp,eg,hgl,hgr⟩:=ri.ex;have h5:=rf.n5;have hjm:=rf.jm;refine(exA rfl (exC rfl rfl (exA rfl (z1q (fun _=>?_) (fun _=>nx _ _ ri)))));refine⟨_,rfl,lg,rfl,⟨_,SqL.of eg⟩,fun l hl=>z2v (xs:=gs.map V.int) (GI m H) (GI.nil hl) (fun i ys H2 _ h=>by obtain⟨_,_,_,_,s⟩:=h;exact SqL.of (s _ _ eg)) (by rw[y00];exact z0l (by lia)) (fun i ys H2 h=>h.len) (fun i x ys H2 hx h hy=>?_) (fun ys H2 h hy=>?_)⟩
  .have hil:i<gs.length:=by have:=(y05.mp hx).1;rwa [y00]at this
   have eg':gs[i]?=some gs[i]:=y01 hil;obtain⟨h0,h1⟩:=hgr _ (y0n hil);generalize gs[i]=gi at eg' h0 h1;have ex:x=V.int gi:=by rw[y08,eg']at hx;exact(y0d hx).symm
   subst ex;exact(exA rfl (exC rfl rfl (exA rfl (exC rfl rfl (exA rfl (exC rfl rfl (exB rfl ⟨hy,h.snoc hl ⟨by split<;>lia,by split<;>lia⟩⟩)))))))
  .obtain⟨gs',rfl,el,r',s'⟩:=h;rw[y00]at el;exact nx _ _ ⟨b,l,p,gs',rfl,s0.trans s',db.mono s',hp,hy,by lia,r'⟩
 .intro D σ H h;obtain⟨n,m,c,kd,j,ln,lr,lp,ps,H0,rf,ri,nx⟩:=h;obtain⟨b,lg,p,gs,rfl,s0,db,hp,eg,hgl,hgr⟩:=ri.ex;have h5:=rf.n5;have h2:=rf.n2;have hjm:=rf.jm;have elp:=s0 _ _ rf.lp;have h6:=rf.len;have ep:ps[0]?=some ps[0]:=y01 (by lia);refine(exA rfl (exC rfl rfl (exA rfl (z1q (fun _=>?_) (fun _=>nx _ _ ri)))));refine(exA rfl ⟨(n:Int),rfl,by lia,by lia,fun l hl=>z3C (n:=(n:Int).toNat) (GI m H) (GI.nil hl) (z0l (by lia)) (fun i ys H2 h=>h.len) (fun i ys H2 hi h hy=>?_) (fun ys H2 h hy=>?_)⟩)
  .have e0:(0:Int)+(i:Int)=(i:Int):=by lia
   rw[e0];have hil:i<gs.length:=by lia
   have eg':gs[i]?=some gs[i]:=y01 hil;obtain⟨h0,h1⟩:=hgr _ (y0n hil);generalize gs[i]=gi at eg' h0 h1;obtain⟨_,_,_,_,s2⟩:=id h;refine(exA rfl (exA rfl (exD lp _ _ (V.int ps[0]) rfl rfl (SqL.of (s2 _ _ elp)) (z0S (j:=0) (by rw[y08,ep];rfl)) (exC rfl rfl ⟨⟨by decide,by decide⟩,exA rfl (exC rfl rfl ⟨zbx (by lia),exC rfl rfl (exA rfl (z1q (fun _=>?_) (fun _=>?_)))⟩)⟩))))
   .exact(exA rfl (exA rfl (exD lg _ _ (V.int gi) rfl rfl (SqL.of (s2 _ _ eg)) (z0S (by rw[y08,eg'];rfl)) ⟨hy,h.snoc hl ⟨h0,h1⟩⟩)))
   .exact(exA rfl (exC rfl rfl ⟨hy,h.snoc hl ⟨by lia,by lia⟩⟩))
  .obtain⟨gs',rfl,el,r',s'⟩:=h;exact nx _ _ ⟨b,l,p,gs',rfl,s0.trans s',db.mono s',hp,hy,by lia,r'⟩
 .intro σ H Q h;obtain⟨⟨n,m,c,kd,j,ln,lr,lp,ps,H0,rf,ri⟩,q⟩:=h;obtain⟨b,lg,p,gs,rfl,s0,db,hp,eg,hgl,hgr⟩:=ri.ex;have elp:=s0 _ _ rf.lp;have h6:=rf.len;have ep:ps[0]?=some ps[0]:=y01 (by lia);refine(exA rfl (exC rfl rfl (exA rfl (z1q (fun _=>(exC rfl rfl (exA rfl (z1q (fun _=>(exA rfl (exA rfl (exC rfl rfl (exC rfl rfl (exA rfl (z1q (fun _=>q _) (fun _=>?_)))))))) (fun _=>z5n ?_))))) (fun _=>(exA rfl (z5n (z5n ?_))))))));all_goals exact(exA rfl (exC rfl rfl (exA rfl (z1q (fun _=>(exA rfl (exD lp _ _ (V.int ps[0]) rfl rfl (SqL.of elp) (z0S (j:=0) (by rw[y08,ep];rfl)) (exC rfl rfl ⟨zbx,exC rfl rfl (exA rfl (q _))⟩)))) (fun _=>q _)))))
 .intro D σ H h;obtain⟨n,m,c,kd,j,ln,lr,lp,ps,H0,rf,ri,nx⟩:=h;obtain⟨b,lg,p,gs,rfl,s0,db,hp,eg,hgl,hgr⟩:=ri.ex;have h5:=rf.n5;refine⟨⟨n,m,c,kd,j,ln,lr,lp,ps,H0,rf,ri⟩,fun cc=>z1q (fun _=>?_) (fun _=>nx _ _ ri)⟩;refine(exA rfl ⟨(n:Int),rfl,by lia,by lia,fun r hr0=>⟨r,0,(n:Int),rfl,z01,⟨by decide,by decide,by lia,by lia⟩,by lia,fun l hl=>?_⟩⟩);have e:((n:Int)-0).toNat=n:=by lia
  rw[e,z2u];have s':=same_up (o:=HO.tup ((z0s n).map V.int)) (same_up (o:=HO.rng 0 n) (z08.refl H) hr0) hl;exact nx _ _ ⟨.ref l,lg,z0s n,gs,rfl,s0.trans s',Dr.tup z01 (DrL.ints _),zca n,s' _ _ eg,hgl,hgr⟩
 .intro σ H Q h;obtain⟨⟨n,m,c,kd,j,ln,lr,lp,ps,H0,rf,ri⟩,q⟩:=h;obtain⟨b,lg,p,gs,rfl,s0,db,hp,eg,hgl,hgr⟩:=ri.ex;exact(exA rfl (exC rfl rfl (exA rfl (z1q (fun _=>(exC rfl rfl (exA rfl (z1q (fun _=>(exA rfl (exA rfl (exC rfl rfl (exC rfl rfl (exA rfl (q _))))))) (fun _=>q _))))) (fun _=>(exA rfl (z5n (q _))))))))
 .intro D σ H h;obtain⟨n,m,c,kd,j,ln,lr,lp,ps,H0,rf,ri,nx⟩:=h;obtain⟨b,lg,p,gs,rfl,s0,db,hp,eg,hgl,hgr⟩:=ri.ex;have h5:=rf.n5;have hjm:=rf.jm;refine⟨⟨n,m,c,kd,j,ln,lr,lp,ps,H0,rf,ri⟩,fun cc=>z1q (fun _=>?_) (fun _=>nx _ _ ri)⟩;refine(exA rfl ⟨by show 1<=sizeLine;decide,fun l0 hl0=>(exA rfl ⟨l0,(n:Int),exA rfl ⟨rfl,z01,by lia,by lia,?_,fun l hl=>?_⟩⟩)⟩)
  .show 1*(n:Int).toNat<=sizeLine;exact z0l (by lia)
  have e:((n:Int)).toNat=n:=by lia
  rw[e,zei];have s':=same_up (o:=HO.lst ((List.replicate n (j:Int)).map V.int)) (same_up (o:=HO.lst [V.int (j:Int)]) (z08.refl H) hl0) hl;exact nx _ _ ⟨b,l,p,List.replicate n (j:Int),rfl,s0.trans s',db.mono s',hp,z01,y1F,fun g hg=>by rw[(List.mem_replicate.mp hg).2];lia⟩
 refine(exA rfl ⟨c,64,rfl,by lia,fun ln H1 ns s1 e1 hns=>?_⟩);have hnl:=hns.1;have en0:ns[0]?=some ns[0]:=y01 (by lia);have en1:ns[1]?=some ns[1]:=y01 (by lia);obtain⟨m,hm⟩:=z6H (x:=(1:Int)+ns[0]%8) (by lia);have hm1:1<=m:=by lia
 have hm8:m<=8:=by lia
 refine(exA rfl (exD ln _ _ (V.int ns[0]) rfl rfl (SqL.of e1) (z0S (j:=0) (by rw[y08,en0];rfl)) (exC rfl rfl ⟨zbx,exC rfl rfl ?_⟩)));generalize ns[1]=n1 at en1;refine(exA rfl (exD ln _ _ (V.int n1) rfl rfl (SqL.of e1) (z0S (j:=1) (by rw[y08,en1];rfl)) (exC rfl rfl ⟨zbx,by show 0<=sizeLine;decide,fun lr hlr=>?_⟩)));obtain⟨kd,hkd⟩:∃kd,kd=n1%6:=⟨_,rfl⟩;have s2:=same_up (o:=HO.lst []) (z08.refl H1) hlr;refine⟨_,rfl,(m:Int),(by rw[<-hm]),by lia,by lia,zdg (n:=(m:Int).toNat) (fun i σ H2=>∃(u6 u7 u8 u9:Option V)(us:List V)(rs:List Row),σ=[some (.int n),some (.int c),some (.ref ln),some (.int m),some (.int kd),some (.ref lr),u6,u7,u8,u9]/\z08 H1 H2/\H2 lr=some (.lst us)/\DrL K H2 (z0x rs) us/\rs.length=i/\GR n m rs)
  ⟨_,_,_,_,[],[],(by rw[<-hm,hkd];rfl),s2,z01,DrL.nil,rfl,fun r hr=>by simp at hr⟩ (fun i σ H2 hi h Ed nx3=>?_) (fun σ H2 h=>?_)⟩
 .obtain⟨u6,u7,u8,u9,us,rs,rfl,t2,elr,drs,hrl,gr⟩:=h;have e0:(0:Int)+(i:Int)=(i:Int):=by lia
  rw[e0];have him:i<m:=by lia
  obtain⟨ps,ecut,hp6,hpr⟩:=zoI (i:=i) hns (by lia);have ep:ps[0]?=some ps[0]:=y01 (by lia);refine(exA rfl (exA rfl (exC rfl rfl ⟨.inl ⟨by decide,by decide⟩,exC rfl rfl (exA rfl (exA rfl (exC rfl rfl ⟨.inl ⟨by decide,by decide⟩,exC rfl rfl (exA rfl ⟨ln,exA rfl ⟨SqL.of (t2 _ _ e1),fun lp hlp=>?_⟩⟩)⟩)))⟩)));rw[ecut];have s3:=same_up (o:=HO.lst (ps.map V.int)) (z08.refl H2) hlp;refine(exA rfl (exD lp _ _ (V.int ps[0]) rfl rfl (SqL.of z01) (z0S (j:=0) (by rw[y08,ep];rfl)) (exA rfl ⟨ps[0],n,rfl,by lia,fun b H3 s4 d3=>?_⟩)));have elp3:H3 lp=some (.lst (ps.map V.int)):=s4 _ _ z01;refine(exA rfl ⟨(n:Int),rfl,by lia,by lia,fun lg hlg=>z3C (n:=(n:Int).toNat) (GI m H3) (GI.nil hlg) (z0l (by lia)) (fun i ys H h=>h.len) (fun k ys H4 hk h hy=>?_) (fun ys H4 h hy=>?_)⟩)
  .have ek:(1:Int)+(0+(k:Int))=((1+k:Nat):Int):=by lia
   have ek':ps[1+k]?=some (ps[1+k]'(by lia)):=y01 (by lia);generalize ps[1+k]'(by lia)=pk at ek';obtain⟨_,_,_,_,s5⟩:=id h;refine(exA rfl (exA rfl (exC rfl rfl (exD lp _ _ (V.int pk) rfl rfl (SqL.of (s5 _ _ elp3)) ((by rw[ek];exact z0S (by rw[y08,ek'];rfl))) (exA rfl (exC rfl rfl ⟨zbx (by lia),hy,h.snoc hlg ⟨?_,?_⟩⟩))))))
   .exact y1l _ (by lia)
   .exact y19 _ (by lia)
  obtain⟨gs,rfl,hgl,hgr,s5⟩:=h;have rf:RF n m i ps lp H3:=⟨hn2,hn5,him,hm8,elp3,hp6,hpr⟩;refine⟨n,m,c,kd,i,ln,lr,lp,ps,H3,rf,⟨b,lg,_,gs,rfl,s5,d3.mono s5,z8L _ _,hy,by lia,hgr⟩,fun σ1 H5 r1=>⟨n,m,c,kd,i,ln,lr,lp,ps,H3,rf,r1,fun σ2 H6 r2=>⟨n,m,c,kd,i,ln,lr,lp,ps,H3,rf,r2,fun σ3 H7 r3=>⟨n,m,c,kd,i,ln,lr,lp,ps,H3,rf,r3,fun σ4 H8 r4=>?_⟩⟩⟩⟩;clear hgl hgr hy;obtain⟨b,lg,p,gs,rfl,s0,db,hp,eg,hgl,hgr⟩:=r4.ex;have s28:z08 H2 H8:=(s3.trans s4).trans s0;refine(exA rfl ⟨.inl ⟨rfl,_,SqL.of (s28 _ _ elr)⟩,exA rfl (exA rfl ⟨lg,exA rfl (.inl ⟨SqL.of eg,fun t4 ht4=>⟨by show 2<=sizeLine;decide,fun t5 ht5=>?_⟩⟩)⟩)⟩);have s9:=same_up (o:=HO.tup (gs.map V.int)) (z08.refl H8) ht4;have s10:=same_up (o:=HO.tup [b,.ref t4]) s9 ht5;have elr':=s10 _ _ (s28 _ _ elr);have hul:us.length=i:=by have:=drs.length;unfold z0x at this;rw[y00]at this;lia
  refine⟨lr,us,.ref t5,rfl,rfl,elr',z2o (by lia),?_⟩;obtain⟨b0,rfl,eb⟩:=Dr.its_inv db;have kk:z1m H8 (upd (upd (upd H8 t4 (.tup (gs.map V.int))) t5 (.tup [.ref b0,.ref t4])) lr (.lst (us++[.ref t5]))):=z1m.up (z1m.of s10) elr' (fun _ z=>by cases z);have nt5:t5≠lr:=z4b z01 elr' (by intro z;cases z);have nt4:t4≠t5:=z09 z01 ht5;have nt4f:t4≠lr:=z4b (show upd (upd H8 t4 (.tup (gs.map V.int))) t5 (.tup [.ref b0,.ref t4]) t4=some (.tup (gs.map V.int))by rw[z04 nt4];exact z01) elr' (by intro z;cases z);refine nx3 _ _ ⟨_,_,_,_,us++[.ref t5],rs++[(p,gs)],rfl,z0d (t2.trans (s28.trans s10)) hlr,z01,?_,by rw[y06,hrl];rfl,gr.snoc ⟨hp,hgl,hgr⟩⟩;unfold z0x;rw[y04];refine DrL.append ((drs.mono s28).keyed kk (z1T _)) (DrL.one (z2W (r:=(p,gs)) (b:=b0) (c:=t4) ?_ (kk _ _ eb) ?_))
  .rw[z04 nt5];exact z01
  .rw[z04 nt4f,z04 nt4];exact z01
 .obtain⟨u6,u7,u8,u9,us,rs,rfl,t2,elr,drs,hrl,gr⟩:=h;exact(exA rfl (q lr H2 rs (s1.trans t2) ⟨us,elr,drs⟩ (gr.good (by lia) hm1 (by lia)) (by lia)))
abbrev nBd:List Str:=["_law_letters_here","_law_rows_here","_law_most","_law_first","_law_goings"]
def zi3:z0j nBd ["_law_letters_here","_law_rows_here","_law_most"] (z05 zaK):={}
def zef(F:Fun K "_law_bad" "_law_bad" zaK f fd)(ml:mg "len"=none)(mso:mg "sorted"=none)(mli:mg "list"=none)(mr:mg "range"=none)(mmin:mg "min"=none)(mmax:mg "max"=none):z0u P w K mg base CX 1 f fd ["_law_letters_here","_law_rows_here","_law_most"] (zbb K):=by
 refine F.okc zi3 (fun vs H Q E h=>?_) (fun cdv A outer s H vs Q E hr h=>?_)
 .obtain⟨n,a,rows,m,rfl,_⟩:=h;rfl
 obtain⟨n,a,rows,m,rfl,⟨us,ea,da⟩,hn1,hn,hm,hrl,hsm,g⟩:=h;refine⟨_,z02 (z15 (z6o (z3p z3s z3s z06 (z0e z0a rfl ml y0y (z00 (pv 1) z03)) (pv 2))) (z07 (z0y z8N)) z0n)
  (z02 (z2R y16 rfl (z1Z (pv 1)) (z2k rfl (z0h (z0c (i:=3) zi3.nd rfl (Or.inl rfl)) (z0h (z0c (i:=4) zi3.nd rfl (Or.inl rfl)) z18)))
   (z02 (z15 (PW.pt (z78 (z1c (ze0 K rfl hr.units) (z0e (zfQ K rfl) rfl mso PyProof.Rows.boot_sorted (z00 (pv 3) z03)) (z0o (z2f rfl) rfl mli y1D (z00 (z0o z3d rfl mr y1x (z00 (pv 0) z03)) z03)) (z1C _)) (z4D (z0I (zcO (z0e z0a rfl ml y0y (z00 (pv 4) z03)) (pv 0)))))) (z07 (z0y z8N)) z0n)
   (z07 (z15 (PW.pt (z78 (z1c z6k (z0e (zhd K rfl rfl) rfl mmin PyProof.Rows.boot_min (z00 (pv 4) z03)) z06 (z1C _)) (z4D (z1c zhg (z0e (zgI K rfl rfl) rfl mmax y2D (z00 (pv 4) z03)) (z0e z0a rfl ml y0y (z00 (pv 1) z03)) (z1C _))))) (z07 (z0y z8N)) z0n))))
  (z07 (z0y z8N))),?_⟩
 have hul:us.length=rows.length:=by have:=da.length;unfold z0x at this;rw[y00]at this;exact this.symm
 have bad:¬z1B n rows m->∀(H1:Hp),z08 H H1->Q (.bl true) H1:=fun z H1 s1=>g _ H1 ⟨fun _=>z,fun _=>rfl⟩ s1;refine(exA rfl (exG a rfl (.inl (SqL.of ea)) (exC rfl rfl (exA rfl (z1q (fun c1=>(exA rfl (exC rfl rfl (exA rfl ?_)))) (fun c1=>?_))))));rotate_left
 .have c1':=y0L (y0K.mpr c1);exact(exA rfl (z1q (fun _=>bad (fun z=>c1' (by have:=z.1.some;lia)) H (z08.refl H)) (fun z=>absurd rfl z)))
 have c1':=y0l c1;refine z1q (fun z=>bad (fun y=>by have:=y.2;rw[y0U (show(us.length:Int)<=(m:Int)by lia)]at z;cases z) H (z08.refl H)) (fun z=>?_);have c2':(us.length:Int)<=(m:Int):=by
  by_cases y:(us.length:Int)<=(m:Int)
  .exact y
  .exact absurd (by rw[y0J y];rfl) z
 refine⟨_,rfl,a,rfl,⟨_,SqL.of ea⟩,z7N (xs:=us) (fun i σ H2=>∃(u1 u2:Option V),σ=[some (.int n),some (.ref a),some (.int m),u1,u2]/\z08 H H2/\∀r∈rows.take i,IsP n r.1/\r.2.length=n/\∀g∈r.2,0<=g/\g<(rows.length:Int))
  ⟨_,_,rfl,z08.refl H,fun r hr=>by simp at hr⟩ (fun i σ H2 _ h=>by obtain⟨_,_,_,t2,_⟩:=h;exact SqL.of (t2 _ _ ea)) (fun i x σ H2 hx h=>?_) (fun σ H2 h=>?_)⟩
 .obtain⟨u1,u2,rfl,t2,hgood⟩:=h;have hil:i<us.length:=(y05.mp hx).1;have er:rows[i]?=some rows[i]:=y01 (by lia);have hrm:rows[i]∈rows:=y0n (by lia);obtain⟨x',ex,dx⟩:=z2r da er;rw[hx]at ex;cases ex;generalize rows[i]=ri at er dx hrm;obtain⟨hs1,hs2⟩:=hsm ri hrm;have et:rows.take (i+1)=rows.take i++[ri]:=by rw[y0v,er];rfl
  obtain⟨t,b,c,rfl,et0,eb,ec⟩:=z1H (dx.mono t2);refine(exF t rfl (SqT.of et0) rfl (exB rfl (exC rfl rfl ?_)));refine(exA rfl ⟨b,ri.1,rfl,SqT.of eb,by lia,fun ns' hperm hsort l hl=>?_⟩);refine(exA rfl ⟨(n:Int),rfl,by lia,by lia,fun r hr0=>⟨r,0,(n:Int),rfl,z01,⟨by decide,by decide,by lia,by lia⟩,by lia,fun l2 hl2=>?_⟩⟩);have en:((n:Int)-0).toNat=n:=by lia
  rw[en,z2u];have s1:z08 (upd H2 l (.lst (ns'.map V.int))) (upd (upd (upd H2 l (.lst (ns'.map V.int))) r (.rng 0 n)) l2 (.lst ((z0s n).map V.int))):=same_up (same_up (z08.refl _) hr0) hl2;have s3:z08 H2 (upd (upd (upd H2 l (.lst (ns'.map V.int))) r (.rng 0 n)) l2 (.lst ((z0s n).map V.int))):=(same_up (z08.refl H2) hl).trans s1;refine⟨ns'.map D.int,(z0s n).map D.int,Dr.lst (s1 _ _ z01) (DrL.ints _),Dr.lst z01 (DrL.ints _),z5t _ _,by rw[D.depL_ints];decide,?_⟩;have hk:D.eq (.lst (ns'.map D.int)) (.lst ((z0s n).map D.int))=true↔IsP n ri.1:=⟨fun z=>by
   have e:=D.eq_of z;injection e with e;have e2:ns'=z0s n:=List.map_inj_right (fun _ _ h=>by injection h) |>.mp e;rw[e2]at hperm;exact hperm.symm,fun z=>by
   rw[z4a z hperm hsort];exact D.eq_refl _⟩
  generalize upd (upd (upd H2 l (.lst (ns'.map V.int))) r (.rng 0 n)) l2 (.lst ((z0s n).map V.int))=H3 at s3⊢;have s03:=t2.trans s3;have ec3:=s3 _ _ ec;refine(exA rfl ?_);cases hq:D.eq (.lst (ns'.map D.int)) (.lst ((z0s n).map D.int))with
  |false=>exact z1q (fun _=>z8x (bad (fun z=>by rw[hk.mpr (z.1.perm ri hrm)]at hq;cases hq) H3 s03)) (fun z=>absurd rfl z)
  |true =>
   refine z1q (fun z=>by cases z) (fun _=>?_);have hperm:=hk.mp hq;refine(exA rfl (exG c rfl (.inr (SqT.of ec3)) (exA rfl (exC rfl rfl (exA rfl (z1q (fun z=>?_) (fun z=>?_)))))))
   .refine bad (fun y=>?_) H3 s03;have:=y.1.len ri hrm;rw[y00,this]at z;simp at z
   have hgl:ri.2.length=n:=by
    by_cases y:ri.2.length=n
    .exact y
    .exact absurd (show(!decide ((((ri.2.map V.int).length:Nat):Int)=(n:Int)))=true by rw[y00,y0J (by lia)];rfl) z
   have hgn:ri.2≠[]:=fun z=>by rw[z]at hgl;simp at hgl;lia
   refine(exA rfl ⟨c,ri.2,rfl,SqT.of ec3,hgn,fun M hM hle=>(exC rfl rfl (exA rfl (z1q (fun z=>z8x ?_) (fun z=>?_))))⟩)
   .have z':=y0l z;exact bad (fun y=>by have:=(y.1.go ri hrm M hM).1;lia) H3 s03
   have z':=y0L (y0K.mpr z);refine(exA rfl ⟨c,ri.2,rfl,SqT.of ec3,hgn,fun N hN hge=>(exA rfl (exG a rfl (.inl (SqL.of (s03 _ _ ea))) (exC rfl rfl (exA rfl (z1q (fun y=>?_) (fun y=>?_))))))⟩)
   .have y':=y0l y;exact bad (fun u=>by have:=(u.1.go ri hrm N hN).2;lia) H3 s03
   have y':=y0L (y0K.mpr y);refine(exB rfl ⟨s03,fun r hr=>?_⟩);rw[et]at hr;rcases y0G.mp hr with v|v
   .exact hgood r v
   .rw[y0r.mp v];exact⟨hperm,hgl,fun g hg=>⟨by have:=hle g hg;lia,by have:=hge g hg;lia⟩⟩
 .obtain⟨u1,u2,rfl,t2,hgood⟩:=h;rw[hul,y0V]at hgood;exact g _ _ ⟨fun z=>(by cases z),fun z=>absurd ⟨⟨by lia,by lia,fun r hr=>(hgood r hr).1,fun r hr=>(hgood r hr).2.1,fun r hr=>(hgood r hr).2.2⟩,by lia⟩ z⟩ t2
abbrev nT4:List Str:=["_law_letters_here","_law_rows_here","_law_door","_law_told_here"]
def zgl:z0j nT4 ["_law_letters_here","_law_rows_here","_law_door"] (z05 zaz):={}
def zck{Cb Cg Ch Cr:Addr}{bmB bmB2:List Value}{newId newId2:String}{Ts:List Tb}(mC:mg "BadMachine"=some (.ref Cb))(xC:PySem.W.excIn K Cb bmB newId=true)(hB:bmB.contains (.type "BaseException")=true)(mC2:mg "GuiseError"=some (.ref Cg))(xC2:PySem.W.excIn K Cg bmB2 newId2=true)(hB2:bmB2.contains (.type "BaseException")=true)(hap:z4f K Cg Cb=true)(F:Fun K "_law_told" "_law_told" zaz f fd)(T:TxH K mg Ch)(mH:mg "House"=some (.ref Ch)){fI:Addr}{fdI:FuncData}(M:L2.Mk K Ch fI)(G:z0u P w K mg base (CXx P w) 1 fI fdI ["self","letters"] (z7e Ch Cr))(bI:z0i K fdI ["self","letters"] []){aS:Addr}{dS:FuncData}(Sw:z0u P w K mg base (CXx P w) 9 aS dS ["self","name","rows"] (z9s Ts K Ch Cb))(bS:z0i K dS ["self","name","rows"] [])(mS:zdM K Ch "sew" aS){aW:Addr}{dW:FuncData}(W:z0u P w K mg base (CXx P w) 7 aW dW ["letters","rows"] (z73 Ts K Cb))(bW:z0i K dW ["letters","rows"] [])(kW:PySem.W.keepIn K (.ref aW)=true)(mW:mg "form"=some (.ref aW)):z0u P w K mg base (CXx P w) 10 f fd ["_law_letters_here","_law_rows_here","_law_door"] (z7z Ts K):=by
 refine F.okc zgl (fun vs H Q E h=>?_) (fun cdv A outer s H vs Q E hr h=>?_)
 .obtain⟨n,a,rows,door,rfl,_⟩:=h;rfl
 obtain⟨n,a,rows,door,rfl,hTb,hra,hn2,hn5,hrl,hsm,g0,g1⟩:=h;refine⟨_,z02 (z0k (i:=3) zgl.nd rfl (Or.inl rfl) z1h)
  (z02 (zek rfl rfl mC rfl xC hB mC2 rfl xC2 hB2 hap (fun pn E1 D pass=>(z07 (z15 (z0I (z17 (pv 2) z06)) (z07 (z0M (z0t W (hr.mono (by decide)) rfl mW kW bW .nil pass (z00 (pv 0) (z00 (pv 1) z03))))) (z07 (z0M (z5J (zeh M G (hr.mono (by decide)) rfl mH bI .nil pass (z00 (pv 0) z03)) T.cl mS Sw hr bS .nil pass (z00 z1h (z00 (pv 1) z03)))))))) (fun e=>(z07 (z0k (i:=3) zgl.nd rfl (Or.inl rfl) z1h))) (fun e=>(z07 (z0k (i:=3) zgl.nd rfl (Or.inl rfl) z1h))))
  (z07 (z0y (pv 3)))),?_⟩
 have fin:∀(x:Str)(σ:St),σ.length=4->(σ.set 3 (some (V.str x)))[3]?=some (some (V.str x)):=fun x σ hσ=>by rw[y2q (by lia)]
 refine(exA rfl (exC rfl rfl (exA rfl (z1q (fun z=>?_) (fun z=>?_)))))
 .have hd:door=0:=by have:=y0l z;lia
  obtain⟨k1,k2⟩:=g0 hd;exact(exA rfl (exA rfl ⟨n,a,rows,rfl,hTb,hra,by lia,by lia,hsm,fun hM=>⟨k1 hM,fun v H1 s1 d1=>(exA rfl ((k2 H1 s1).1 hM))⟩,fun hM ea H1 s1=>.inl ⟨rfl,fun σ hσ=>⟨.str "bad",fin _ σ hσ,(k2 H1 s1).2 hM⟩⟩⟩))
 .have hd:door≠0:=fun y=>z (y0U (by lia));obtain⟨k1,k2⟩:=g1 hd;refine(exA rfl (fun p dx hp hdx hne=>?_));refine⟨p,dx,n,rfl,z01,fun _ d x y H1 fd fx fy S1 hk=>⟨rfl,?_⟩,fun y=>absurd (show 2<=(n:Int)/\(n:Int)<=5 by lia) y⟩;have old:∀b o,H b=some o->b≠p/\b≠dx/\(upd (upd H dx (.own p)) p (.ins Ch dx [])) b=some o:=fun b o e=>by
   have h1:b≠p:=fun z=>by rw[z,hp]at e;cases e
   have h2:b≠dx:=fun z=>by rw[z,hdx]at e;cases e
   exact⟨h1,h2,by rw[z04 h1,z04 h2];exact e⟩
  have s1:z08 H H1:=fun b o e=>hk b o (old b o e).2.2 (old b o e).1;have off:∀c,(upd (upd H dx (.own p)) p (.ins Ch dx [])) c=none->∀b o,H b=some o->b≠c:=fun c hc b o e z=>by have:=(old b o e).2.2;rw[z,hc]at this;cases this
  have hbare:=z6Y rows;have hln:(z3L rows).length=rows.length:=y00 ..;obtain⟨dx1,ho1⟩:=S1.ob;obtain⟨xs,hxs⟩:∃xs,z1B n rows 60->z2L [str "name",str "rows"] xs [.str (str "a"),.lst (z0x rows)]:=by
   by_cases hM:z1B n rows 60
   .obtain⟨_,xs,h⟩:=k1 hM;exact⟨xs,fun _=>h⟩
   .exact⟨[],fun z=>absurd z hM⟩
  refine⟨p,dx1,exA rfl ⟨ho1,zcr _ _ _ _ (by decide +kernel) (by decide +kernel) (by decide +kernel) (by decide +kernel),exA rfl ⟨p,n,d,x,y,[],[],[],str "a",a,z3L rows,xs,rfl,S1,z2n.mono hTb s1,by decide +kernel,by decide +kernel,rfl,(hra.mono s1).g,z6n rows,by lia,by lia,fun r hr=>?_,by decide,by decide,fun hM=>?_,fun hM ea H2 s2=>?_⟩⟩⟩
  .obtain⟨r0,h0,rfl⟩:=y0e.mp hr;obtain⟨q1,q2⟩:=hsm r0 h0;exact⟨q1,by rw[y00];exact q2⟩
  .rw[hbare]at hM⊢;rw[z7G];refine⟨hxs hM,(k1 hM).1,fun v q H2 S2 bt=>(exA rfl ((k2 H2 ⟨fun b o nt e=>bt.at_ b o nt (s1 b o e) (off d fd b o e) (off x fx b o e) (off y fy b o e),fun _=>bt.tabs⟩).1 hM))⟩
  .rw[hbare]at hM;exact .inl ⟨rfl,fun σ hσ=>⟨.str "bad",fin _ σ hσ,(k2 H2 (z08.l (s1.trans s2))).2 hM⟩⟩
abbrev nSp:List Str:=["_law_letters_here","_law_rows_here","_law_way","_law_cell_here","_law_made","_law_at","_law_first","_law_goings","_law_k","_law_bad_here","_law_calm"]
def zbS:z0j nSp ["_law_letters_here","_law_rows_here","_law_way","_law_cell_here"] (z05 z3v):={}
def zld:z0X nSp (z05 z3v) ["_law_at","_law_calm","_law_letters_here"] [none,some 10,some 0] (csc [(".0",.local),("_law_at",.local),("_law_calm",.free),("_law_letters_here",.free)]):={}
def z8H(F:Fun K "_law_spoilt" "_law_spoilt" z3v f fd)(ml:mg "len"=none)(mli:mg "list"=none)(mt:mg "tuple"=none)(mr:mg "range"=none):z0u P w K mg base CX 1 f fd ["_law_letters_here","_law_rows_here","_law_way","_law_cell_here"] (z4v K):=by
 refine F.okc zbS (fun vs H Q E h=>?_) (fun cdv A outer s H vs Q E hr h=>?_)
 .obtain⟨n,a,rows,way,cell,rfl,_⟩:=h;rfl
 obtain⟨n,a,rows,way,cell,rfl,⟨us,ea,da⟩,G,h8,hn2,hn5,hw,g⟩:=h;refine⟨_,z02 (z0k (i:=4) zbS.nd rfl (Or.inl rfl) (z0o z3T rfl mli y1D (z00 (pv 1) z03)))
  (z02 (z0k (i:=5) zbS.nd rfl (Or.inl rfl) (z0f z16 (pv 3) (z0e z0a rfl ml y0y (z00 (pv 4) z03))))
  (z02 (z29 (z1L z1F (pv 4) (pv 5) (fun _ _=>rfl)) (z2k rfl (z0h (z0c (i:=6) zbS.nd rfl (Or.inl rfl)) (z0h (z0c (i:=7) zbS.nd rfl (Or.inl rfl)) z18))))
  (z02 (z0k (i:=8) zbS.nd rfl (Or.inl rfl) (z0f z16 (z0f z2g (pv 3) z06) (pv 0)))
  (z02 (z0k (i:=9) zbS.nd rfl (Or.inl rfl) (z1L z3O (z0A (z00 (z0f z2O (z0f z2O z06 z06) (z0f z16 (z0f z2g (pv 3) z06) z06)) (z00 (z0f z1g (z0e z0a rfl ml y0y (z00 (pv 4) z03)) (z0f z16 (z0f z2g (pv 3) z06) z06)) (z00 (z0f z2O (z0f z16 (pv 3) (z0f z9n z06 z06)) (z0f z9n z06 z06)) z03)))) (z0f z16 (z0f z2g (pv 3) z06) z06) (fun _ _=>rfl)))
  (z02 (z15 (z0I (z17 (pv 2) z06)) (z07 (z0y (z1W z03))) z0n)
  (z02 (z15 (PW.pt (z78 (z0I (z17 (pv 2) z06)) (z4D (z0I (z17 (pv 2) z06))))) (z07 (z0y (z0Z z7i (z0f z9U (pv 4) z06) z1u (z1j (z0f z1g z06 (pv 2)))))) z0n)
  (z02 (z15 (PW.pt (z78 (z0I (z17 (pv 2) z06)) (z4D (z0I (z17 (pv 2) z06))))) (z07 (z0y (z0Z z7i (z0f z9U (pv 4) z06) z1u (z1j (z0f z1g (pv 2) z06))))) z0n)
  (z02 (z15 (z0I (z17 (pv 2) z06)) (z07 (z29 (z0A (z00 (z0f z21 (z0f z21 (z0Z z1M (pv 6) z1u (z1j (pv 8))) (z0A (z00 (z1L z3O (pv 6) (z0f z2O (pv 8) z06) (fun _ _=>rfl)) z03))) (z0Z z1M (pv 6) (z1j (z0f z1g (pv 8) z06)) z1u)) (z00 (pv 7) z03))) (z49 (pv 4) (pv 5) z2c))) z0n)
  (z02 (z15 (z0I (z17 (pv 2) z06)) (z07 (z29 (z0A (z00 (z0f z21 (pv 6) (z0A (z00 (z1L z3O (z0A (z00 (pv 0) (z00 (z1L z3O (pv 6) z06 (fun _ _=>rfl)) z03))) (z0f z16 (z0f z2g (pv 3) z06) z06) (fun _ _=>rfl)) z03))) (z00 (pv 7) z03))) (z49 (pv 4) (pv 5) z2c))) z0n)
  (z02 (z15 (z0I (z17 (pv 2) z06)) (z07 (z29 (z0A (z00 (z0Z z1M (pv 6) z1u (z1j (zeR zdh z06))) (z00 (pv 7) z03))) (z49 (pv 4) (pv 5) z2c))) z0n)
  (z02 (z15 (z0I (z17 (pv 2) z06)) (z07 (z29 (z0A (z00 (z0f z21 (z0f z21 (z0Z z1M (pv 6) z1u (z1j (pv 8))) (z0A (z00 (pv 9) z03))) (z0Z z1M (pv 6) (z1j (z0f z1g (pv 8) z06)) z1u)) (z00 (pv 7) z03))) (z49 (pv 4) (pv 5) z2c))) z0n)
  (z02 (z15 (PW.pt (z78 (z0I (z17 (pv 2) z06)) (z4D (z0I (z17 (pv 2) z06))))) (z07 (z29 (z0A (z00 (pv 6) (z00 (z0f z21 (z0f z21 (z0Z z1M (pv 7) z1u (z1j (pv 8))) (z0A (z00 (pv 9) z03))) (z0Z z1M (pv 7) (z1j (z0f z1g (pv 8) z06)) z1u)) z03))) (z49 (pv 4) (pv 5) z2c))) z0n)
  (z02 (z15 (z0I (z17 (pv 2) z06)) (z07 (z29 (z0A (z00 (pv 6) (z00 (z0f z21 (pv 7) (z0A (z00 z06 z03))) z03))) (z49 (pv 4) (pv 5) z2c))) z0n)
  (z02 (z15 (z0I (z17 (pv 2) z06)) (z07 (z29 (z0A (z00 (pv 6) (z00 (z0Z z1M (pv 7) z1u (z1j (zeR zdh z06))) z03))) (z49 (pv 4) (pv 5) z2c))) z0n)
  (z02 (z15 (z0I (z17 (pv 2) z06)) (z02 (z0k (i:=10) zbS.nd rfl (Or.inr rfl) (z0o (z2N rfl) rfl mt y0N (z00 (z0o z3d rfl mr y1x (z00 (pv 0) z03)) z03)))
   (z02 (zaa (i:=4) rfl zld (z27 rfl mr (z00 z06 z03)) (fun _ _ _ _ _=>z0c (i:=0) zld.nd rfl (Or.inl rfl)) (fun _ _ _ _ _=>z0A (z00 (pv 1) (z00 (z0f zbh (z0A (z00 (z0f z1g (pv 0) z06) z03)) (pv 2)) z03))) zbS.nd rfl rfl)
   (z07 (z0M (z2A y0A y0C y0D z0H (pv 4) (z00 (z0A (z00 (z0f z21 (z0Z z1M (pv 10) (z1j z06) z1u) (z0Z z1M (pv 10) z1u (z1j z06))) (z00 (z0f z21 (z0f zbh (z0A (z00 z06 z03)) (z0f z2O (pv 0) z06)) (z0A (z00 (z0f z1g z06 (z0f z16 (pv 3) z06)) z03))) z03))) z03)))))) z0n)
  (z07 (z0y (pv 4)))))))))))))))))),?_⟩
 have hul:us.length=rows.length:=by have:=da.length;unfold z0x at this;rw[y00]at this;exact this.symm
 have h1:=G.some;refine(exA rfl ⟨a,us,rfl,.inl (SqL.of ea),fun l hl=>?_⟩);have s1:z08 H (upd H l (.lst us)):=same_up (z08.refl H) hl;have e1:upd H l (.lst us) l=some (.lst us):=z01;generalize upd H l (.lst us)=H1 at s1 e1⊢;refine(exA rfl (exA rfl (exG l rfl (.inl (SqL.of e1)) (exC rfl rfl ⟨(show(0:Int)<((us.length:Nat):Int)by lia),?_⟩))));have a0:0<=cell%((us.length:Nat):Int):=y1l _ (by lia);have a1:cell%((us.length:Nat):Int)<((us.length:Nat):Int):=y19 _ (by lia);obtain⟨at_,hat⟩:=z6H a0;have hal:at_<rows.length:=by lia
 have er:rows[at_]?=some rows[at_]:=y01 hal;have hrm:rows[at_]∈rows:=y0n hal;obtain⟨x,ex,dx⟩:=z2r da er;generalize rows[at_]=r0 at er hrm dx;obtain⟨t,b,c,rfl,et,eb,ec⟩:=z1H (dx.mono s1);have hix:atI us (cell%((us.length:Nat):Int))=some (.ref t):=by rw[hat];exact z0S ex
 refine(exA rfl (exA rfl ⟨l,_,exC rfl rfl ⟨SqL.of e1,hix,exF t rfl (SqT.of et) rfl (exB rfl (exC rfl rfl ?_))⟩⟩));have hnp:(0:Int)<(n:Int):=by lia
 refine(exA rfl (exC rfl rfl ⟨⟨by decide,by decide⟩,exA rfl (exC rfl rfl ⟨hnp,?_⟩)⟩));obtain⟨k,hk⟩:=z6H (show 0<=cell/11%(n:Int)from y1l _ (by lia));have hkn:k<n:=by have:=y19 (cell/11) hnp;lia
 have h30:(0:Int)<(10:Int)^(30:Int).toNat:=by decide
 refine(exC rfl rfl (exA rfl (exC rfl rfl ⟨⟨by decide,by decide⟩,exC rfl rfl ⟨(show(0:Int)<3 by decide),exC rfl rfl (exA rfl (exG l rfl (.inl (SqL.of e1)) (exA rfl (exC rfl rfl ⟨⟨by decide,by decide⟩,exC rfl rfl ⟨(show(0:Int)<2 by decide),exC rfl rfl (exA rfl (exC rfl rfl ⟨⟨by decide,by decide,by decide⟩,exC rfl rfl ⟨h30,exC rfl rfl ⟨⟨by decide,by decide,by decide⟩,exC rfl rfl ⟨show 3<=sizeLine by decide,fun t5 ht5=>?_⟩⟩⟩⟩))⟩⟩))))⟩⟩)));have s5:z08 H1 (upd H1 t5 (.tup [.int (0-1-cell/67%3),.int (((us.length:Nat):Int)+cell/67%2),.int (cell%(10:Int)^(30:Int).toNat-(10:Int)^(29:Int).toNat)])):=same_up (z08.refl H1) ht5;have e5:upd H1 t5 (.tup [.int (0-1-cell/67%3),.int (((us.length:Nat):Int)+cell/67%2),.int (cell%(10:Int)^(30:Int).toNat-(10:Int)^(29:Int).toNat)]) t5=some (.tup ([0-1-cell/67%3,((us.length:Nat):Int)+cell/67%2,cell%(10:Int)^(30:Int).toNat-(10:Int)^(29:Int).toNat].map V.int)):=z01;generalize upd H1 t5 (.tup [.int (0-1-cell/67%3),.int (((us.length:Nat):Int)+cell/67%2),.int (cell%(10:Int)^(30:Int).toNat-(10:Int)^(29:Int).toNat)])=H2 at s5 e5⊢;obtain⟨bad,hbad⟩:∃bad:Int,atI ([0-1-cell/67%3,((us.length:Nat):Int)+cell/67%2,cell%(10:Int)^(30:Int).toNat-(10:Int)^(29:Int).toNat].map V.int) (cell/5%3)=some (.int bad):=by
  obtain⟨j,hj⟩:=z6H (show 0<=cell/5%3 from y1l _ (by decide));have hj3:j<3:=by have:=y19 (cell/5) (show(0:Int)<3 by decide);lia
  rw[hj];match j,hj3 with
  |0,_=>exact⟨_,z0S (j:=0) rfl⟩
  |1,_=>exact⟨_,z0S (j:=1) rfl⟩
  |2,_=>exact⟨_,z0S (j:=2) rfl⟩
 refine(exA rfl (exC rfl rfl ⟨⟨by decide,by decide⟩,exC rfl rfl ⟨(show(0:Int)<3 by decide),t5,_,_,.int bad,rfl,rfl,SqT.of e5,hbad,?_⟩⟩));have s2:=s1.trans s5;replace e1:=s5 _ _ e1;replace eb:=s5 _ _ eb;replace ec:=s5 _ _ ec;clear hbad e5 ht5 et;refine(exA rfl (exC rfl rfl (exA rfl (z1q (fun z=>?_) (fun z=>?_)))))
 .refine⟨y0t _,fun q hq=>g q [] _ (s2.trans (same_up (z08.refl H2) hq)) ⟨[],z01,?_⟩ (by decide) (fun r hr=>by simp at hr) (z8p (by decide))⟩;unfold z0x;simp only[y0Z,DrL]
 have e1b:=e1;have hs9:∀r∈rows,r.1.length<=60/\r.2.length<=60:=fun r hr=>by have:=(G.perm r hr).len;have:=G.len r hr;lia
 have many:∀(k m:Nat),1<=k->k<=400->rows.length<=m->m<=4000->∀(q:Addr),H2 q=none->∀p:Addr,upd H2 q (.lst (List.replicate k us).flatten) p=none->Q (.ref p) (upd (upd H2 q (.lst (List.replicate k us).flatten)) p (.lst (z4Z (List.replicate k us).flatten none (some ((m:Nat):Int))))):=by
  intro k m hk1 hk hm hm4 q hq p hp;have s3:z08 H (upd (upd H2 q (.lst (List.replicate k us).flatten)) p (.lst (z4Z (List.replicate k us).flatten none (some ((m:Nat):Int))))):=s2.trans ((same_up (z08.refl H2) hq).trans (same_up (z08.refl _) hp));have dd:DrL K H (z0x ((List.replicate k rows).flatten.take m)) ((List.replicate k us).flatten.take m):=by have:=DrL.takeL (DrL.rep da k) m;unfold z0x at this⊢;rw[List.map_take,List.map_flatten,List.map_replicate];exact this
  rw[zb1]at s3⊢;have hmem:∀r∈(List.replicate k rows).flatten.take m,r∈rows:=fun r hr=>by obtain⟨l',h1,h2⟩:=List.mem_flatten.mp (y29 hr);rw[List.eq_of_mem_replicate h1]at h2;exact h2
  refine g p ((List.replicate k rows).flatten.take m) _ s3 ⟨_,z01,dd.mono s3⟩ ?_ (fun r hr=>hs9 r (hmem r hr)) ?_
  .rw[y0k];lia
  .refine zfz (j:=rows.length) h1 (by lia) ?_ fun r hr g hg=>(G.go r (hmem r hr) g hg).2;rw[y0k,z5u];have:1*rows.length<=k*rows.length:=y1v _ hk1;lia
 have hlen2:∀k:Nat,k<=400->us.length*k<=sizeLine:=fun k hk=>z0l (by have:us.length*k<=8*400:=Nat.mul_le_mul (by lia) hk;lia)
 refine(exA rfl (exC rfl rfl (exA rfl (z1q (fun z=>?_) (fun z1=>(exA rfl (exC rfl rfl (exA rfl (z1q (fun z=>?_) (fun z2=>?_))))))))))
 .have hz:=y0l z;obtain rfl:way=1:=by lia
  refine z8x (exA rfl ⟨l,400,us,rfl,rfl,e1,by decide,by decide,hlen2 400 (by decide),fun q hq=>(exA rfl (exC rfl rfl (exA rfl ⟨q,exA rfl ⟨SqL.of z01,fun p hp=>?_⟩⟩)))⟩);exact many 400 400 (by decide) (by decide) (by lia) (by decide) q hq p hp
 .have hz:=y0l z;obtain rfl:way=2:=by lia
  refine(exA rfl ⟨l,400,us,rfl,rfl,e1,by decide,by decide,hlen2 400 (by decide),fun q hq=>(exA rfl (exC rfl rfl (exA rfl ⟨q,exA rfl ⟨SqL.of z01,fun p hp=>?_⟩⟩)))⟩);exact many 400 401 (by decide) (by decide) (by lia) (by decide) q hq p hp
 have w1:way≠1:=fun y=>z1 (y0U (by lia));have w2:way≠2:=fun y=>z2 (y0U (by lia));clear z1 z2;refine(exA rfl (exC rfl rfl (exA rfl (z1q (fun z=>?_) (fun z1=>(exA rfl (exC rfl rfl (exA rfl (z1q (fun z=>?_) (fun z2=>?_))))))))))
 .have hz:=y0l z;obtain rfl:way=11:=by lia
  refine z8x (exA rfl ⟨l,60,us,rfl,rfl,e1,by decide,by decide,hlen2 60 (by decide),fun q hq=>(exA rfl (exC rfl rfl (exA rfl ⟨q,exA rfl ⟨SqL.of z01,fun p hp=>?_⟩⟩)))⟩);exact many 60 60 (by decide) (by decide) (by lia) (by decide) q hq p hp
 .have hz:=y0l z;obtain rfl:way=12:=by lia
  refine(exA rfl ⟨l,60,us,rfl,rfl,e1,by decide,by decide,hlen2 60 (by decide),fun q hq=>(exA rfl (exC rfl rfl (exA rfl ⟨q,exA rfl ⟨SqL.of z01,fun p hp=>?_⟩⟩)))⟩);exact many 60 61 (by decide) (by decide) (by lia) (by decide) q hq p hp
 have w11:way≠11:=fun y=>z1 (y0U (by lia));have w12:way≠12:=fun y=>z2 (y0U (by lia));clear z1 z2 many hlen2;have hp0:=(G.perm r0 hrm).len;have hg0:=G.len r0 hrm;obtain⟨σ0,hσ0⟩:∃σ:St,σ=[some (.int n),some (.ref a),some (.int way),some (.int cell),some (.ref l),some (.int (at_:Int)),some (.ref b),some (.ref c),some (.int (k:Int)),some (.int bad),none]:=⟨_,rfl⟩;have I0:SpI K H l b c r0 rows.length σ0 σ0 H2:=⟨rfl,s2,eb,ec,us,rows,e1,hul,da.mono s2,rfl,hs9⟩;unfold zeT;dsimp only;show zex (zoh _ _ _) _ _ [some (.int n),some (.ref a),some (.int way),some (.int cell),some (.ref l),some (.int (cell%((us.length:Nat):Int))),some (.ref b),some (.ref c),some (.int (cell/11%(n:Int))),some (.int bad),none] H2;rw[hat,hk,<-hσ0];refine zbr (SpI K H l b c r0 rows.length σ0) (fun Ed nx=>?_) fun σ1 H31 I1=>?_
 .clear g;obtain⟨eσ,s3,eb3,ec3,us3,rs3,el3,hul3,dl3,hrl3,hall3⟩:=I0;have I3:SpI K H l b c r0 rows.length σ0 σ0 H2:=⟨rfl,s3,eb3,ec3,us3,rs3,el3,hul3,dl3,hrl3,hall3⟩;have ixj:ixN us3.length ((at_:Nat):Int)=some at_:=z33 (by lia);rw[hσ0];refine(exA rfl (exC rfl rfl (exA rfl (z1q (fun z=>?_) (fun z=>nx _ _ (by rw[<-hσ0];exact I3))))))
  .skip
   obtain⟨q1,hq1,lq1⟩:=z1x r0.1 none (some ((k:Nat):Int));obtain⟨q2,hq2,lq2⟩:=z1x r0.1 (some (((k:Nat):Int)+1)) none;refine(exA rfl (exA rfl (exA rfl ⟨b,exA rfl ⟨eb3,fun p1 H4 s4 e4=>?_⟩⟩)));rw[hq1]at e4;obtain⟨x0,hx0⟩:=zaB (p:=r0.1) (j:=((k:Nat):Int)-1) (by lia) (by lia);refine(exA rfl (exA rfl (exC rfl rfl ⟨b,_,exC rfl rfl ⟨SqT.of (s4 _ _ eb3),hx0,show 1<=sizeLine by decide,fun p2 hp2=>?_⟩⟩)));have s5:=same_up (o:=HO.tup ([x0].map V.int)) s4 hp2;have e5:upd H4 p2 (.tup ([x0].map V.int)) p2=some (.tup ([x0].map V.int)):=z01;have e5':=same_up (o:=HO.tup ([x0].map V.int)) (z08.refl H4) hp2 _ _ e4;refine⟨p1,p2,exC rfl rfl ⟨e5',e5,?_,fun p3 H6 s6 e6=>?_⟩⟩
   .rw[y00,y00,y0p];exact z0l (by lia)
   rw[<-y04]at e6;have s06:=s5.trans s6;refine(exA rfl (exA rfl (exC rfl rfl (exA rfl ⟨b,exA rfl ⟨s06 _ _ eb3,fun p4 H7 s7 e7=>?_⟩⟩))));rw[hq2]at e7;refine⟨p3,p4,exC rfl rfl ⟨s7 _ _ e6,e7,?_,fun p5 H8 s8 e8=>?_⟩⟩
   .rw[y00,y00,y06,y0p];exact z0l (by lia)
   rw[<-y04]at e8;have s08:=s06.trans (s7.trans s8);refine(exA rfl ⟨show 2<=sizeLine by decide,fun p6 hp6=>?_⟩);have s9:=same_up (o:=HO.tup [.ref p5,.ref c]) s08 hp6;have s9':=same_up (o:=HO.tup [.ref p5,.ref c]) (z08.refl H8) hp6;refine(exA rfl (exA rfl ⟨l,us3,_,at_,rfl,rfl,s9 _ _ el3,ixj,nx _ _ ?_⟩));rw[<-hσ0];exact I3.set hl s9 z01 (s9' _ _ e8) (s9 _ _ ec3) (by rw[y06,y06,y0p];lia) (by lia) (s9 _ _ el3) at_
 clear I0;clear e1 e1b eb ec s2;refine zbr (SpI K H l b c r0 rows.length σ0) (fun Ed nx=>?_) fun σ2 H32 I2=>?_
 .clear g;obtain⟨eσ,s3,eb3,ec3,us3,rs3,el3,hul3,dl3,hrl3,hall3⟩:=I1;have I3:SpI K H l b c r0 rows.length σ0 σ0 H31:=⟨rfl,s3,eb3,ec3,us3,rs3,el3,hul3,dl3,hrl3,hall3⟩;have ixj:ixN us3.length ((at_:Nat):Int)=some at_:=z33 (by lia);rw[eσ,hσ0];refine(exA rfl (exC rfl rfl (exA rfl (z1q (fun z=>?_) (fun z=>nx _ _ (by rw[<-hσ0];exact I3))))))
  .skip
   obtain⟨x1,hx1⟩:=zaB (p:=r0.1) (j:=0) (by lia) (by lia);refine(exA rfl (exA rfl (exA rfl ⟨b,_,exC rfl rfl ⟨SqT.of eb3,hx1,show 2<=sizeLine by decide,fun p1 hp1=>?_⟩⟩)));have s4:=same_up (o:=HO.tup ([(n:Int),x1].map V.int)) (z08.refl _) hp1;have e4:upd H31 p1 (.tup ([(n:Int),x1].map V.int)) p1=some (.tup ([(n:Int),x1].map V.int)):=z01;have c2:=y19 (cell/13) (show(0:Int)<2 by decide);have c0:=y1l (cell/13) (show(2:Int)≠0 by decide);obtain⟨x0,hx0⟩:=zaB (p:=[(n:Int),x1]) (j:=cell/13%2) (by simp only[y0m,y2m];lia) (by simp only[y0m,y2m];lia);refine(exA rfl (exC rfl rfl ⟨⟨by decide,by decide⟩,exC rfl rfl ⟨(show(0:Int)<2 by decide),p1,_,exC rfl rfl ⟨SqT.of e4,hx0,show 1<=sizeLine by decide,fun p2 hp2=>?_⟩⟩⟩));have s5:=same_up (o:=HO.tup ([x0].map V.int)) s4 hp2;refine⟨b,p2,_,[x0].map V.int,rfl,rfl,s5 _ _ eb3,z01,?_,fun p5 H8 s6 e8=>?_⟩
   .rw[y00,y00,y0p];exact z0l (by lia)
   rw[<-y04]at e8;have s08:=s5.trans s6;refine(exA rfl ⟨show 2<=sizeLine by decide,fun p6 hp6=>?_⟩);have s9:=same_up (o:=HO.tup [.ref p5,.ref c]) s08 hp6;have s9':=same_up (o:=HO.tup [.ref p5,.ref c]) (z08.refl H8) hp6;refine(exA rfl (exA rfl ⟨l,us3,_,at_,rfl,rfl,s9 _ _ el3,ixj,nx _ _ ?_⟩));rw[<-hσ0];exact I3.set hl s9 z01 (s9' _ _ e8) (s9 _ _ ec3) (by rw[y06,y0p];lia) (by lia) (s9 _ _ el3) at_
 clear I1;refine zbr (SpI K H l b c r0 rows.length σ0) (fun Ed nx=>?_) fun σ3 H33 I3=>?_
 .clear g;obtain⟨eσ,s3,eb3,ec3,us3,rs3,el3,hul3,dl3,hrl3,hall3⟩:=I2;have I3:SpI K H l b c r0 rows.length σ0 σ0 H32:=⟨rfl,s3,eb3,ec3,us3,rs3,el3,hul3,dl3,hrl3,hall3⟩;have ixj:ixN us3.length ((at_:Nat):Int)=some at_:=z33 (by lia);rw[eσ,hσ0];refine(exA rfl (exC rfl rfl (exA rfl (z1q (fun z=>?_) (fun z=>nx _ _ (by rw[<-hσ0];exact I3))))))
  .skip
   obtain⟨q1,hq1,lq1⟩:=z1x r0.1 none (some (-1));refine(exA rfl (exA rfl (exA rfl ⟨b,exA rfl ⟨eb3,fun p5 H8 s08 e8=>?_⟩⟩)));rw[hq1]at e8;refine(exA rfl ⟨show 2<=sizeLine by decide,fun p6 hp6=>?_⟩);have s9:=same_up (o:=HO.tup [.ref p5,.ref c]) s08 hp6;have s9':=same_up (o:=HO.tup [.ref p5,.ref c]) (z08.refl H8) hp6;refine(exA rfl (exA rfl ⟨l,us3,_,at_,rfl,rfl,s9 _ _ el3,ixj,nx _ _ ?_⟩));rw[<-hσ0];exact I3.set hl s9 z01 (s9' _ _ e8) (s9 _ _ ec3) (by lia) (by lia) (s9 _ _ el3) at_
 clear I2;refine zbr (SpI K H l b c r0 rows.length σ0) (fun Ed nx=>?_) fun σ4 H34 I4=>?_
 .clear g;obtain⟨eσ,s3,eb3,ec3,us3,rs3,el3,hul3,dl3,hrl3,hall3⟩:=I3;have I3:SpI K H l b c r0 rows.length σ0 σ0 H33:=⟨rfl,s3,eb3,ec3,us3,rs3,el3,hul3,dl3,hrl3,hall3⟩;have ixj:ixN us3.length ((at_:Nat):Int)=some at_:=z33 (by lia);rw[eσ,hσ0];refine(exA rfl (exC rfl rfl (exA rfl (z1q (fun z=>?_) (fun z=>nx _ _ (by rw[<-hσ0];exact I3))))))
  .skip
   obtain⟨q1,hq1,lq1⟩:=z1x r0.1 none (some ((k:Nat):Int));obtain⟨q2,hq2,lq2⟩:=z1x r0.1 (some (((k:Nat):Int)+1)) none;refine(exA rfl (exA rfl (exA rfl ⟨b,exA rfl ⟨eb3,fun p1 H4 s4 e4=>?_⟩⟩)));rw[hq1]at e4;refine(exA rfl ⟨show 1<=sizeLine by decide,fun p2 hp2=>?_⟩);have s5:=same_up (o:=HO.tup ([bad].map V.int)) s4 hp2;have e5:upd H4 p2 (.tup ([bad].map V.int)) p2=some (.tup ([bad].map V.int)):=z01;have e5':=same_up (o:=HO.tup ([bad].map V.int)) (z08.refl H4) hp2 _ _ e4;refine⟨p1,p2,exC rfl rfl ⟨e5',e5,?_,fun p3 H6 s6 e6=>?_⟩⟩
   .rw[y00,y00,y0p];exact z0l (by lia)
   rw[<-y04]at e6;have s06:=s5.trans s6;refine(exA rfl (exA rfl (exC rfl rfl (exA rfl ⟨b,exA rfl ⟨s06 _ _ eb3,fun p4 H7 s7 e7=>?_⟩⟩))));rw[hq2]at e7;refine⟨p3,p4,exC rfl rfl ⟨s7 _ _ e6,e7,?_,fun p5 H8 s8 e8=>?_⟩⟩
   .rw[y00,y00,y06,y0p];exact z0l (by lia)
   rw[<-y04]at e8;have s08:=s06.trans (s7.trans s8);refine(exA rfl ⟨show 2<=sizeLine by decide,fun p6 hp6=>?_⟩);have s9:=same_up (o:=HO.tup [.ref p5,.ref c]) s08 hp6;have s9':=same_up (o:=HO.tup [.ref p5,.ref c]) (z08.refl H8) hp6;refine(exA rfl (exA rfl ⟨l,us3,_,at_,rfl,rfl,s9 _ _ el3,ixj,nx _ _ ?_⟩));rw[<-hσ0];exact I3.set hl s9 z01 (s9' _ _ e8) (s9 _ _ ec3) (by rw[y06,y06,y0p];lia) (by lia) (s9 _ _ el3) at_
 clear I3;refine zbr (SpI K H l b c r0 rows.length σ0) (fun Ed nx=>?_) fun σ5 H35 I5=>?_
 .clear g;obtain⟨eσ,s3,eb3,ec3,us3,rs3,el3,hul3,dl3,hrl3,hall3⟩:=I4;have I3:SpI K H l b c r0 rows.length σ0 σ0 H34:=⟨rfl,s3,eb3,ec3,us3,rs3,el3,hul3,dl3,hrl3,hall3⟩;have ixj:ixN us3.length ((at_:Nat):Int)=some at_:=z33 (by lia);rw[eσ,hσ0];refine(exA rfl (exC rfl rfl (exA rfl (z1q (fun z=>z8x ?_) (fun z=>(exA rfl (exC rfl rfl (exA rfl (z1q (fun z=>?_) (fun z=>nx _ _ (by rw[<-hσ0];exact I3)))))))))));all_goals
   skip
   obtain⟨q1,hq1,lq1⟩:=z1x r0.2 none (some ((k:Nat):Int));obtain⟨q2,hq2,lq2⟩:=z1x r0.2 (some (((k:Nat):Int)+1)) none;refine(exA rfl (exA rfl (exA rfl (exA rfl ⟨c,exA rfl ⟨ec3,fun p1 H4 s4 e4=>?_⟩⟩))));rw[hq1]at e4;refine(exA rfl ⟨show 1<=sizeLine by decide,fun p2 hp2=>?_⟩);have s5:=same_up (o:=HO.tup ([bad].map V.int)) s4 hp2;have e5:upd H4 p2 (.tup ([bad].map V.int)) p2=some (.tup ([bad].map V.int)):=z01;have e5':=same_up (o:=HO.tup ([bad].map V.int)) (z08.refl H4) hp2 _ _ e4;refine⟨p1,p2,exC rfl rfl ⟨e5',e5,?_,fun p3 H6 s6 e6=>?_⟩⟩
   .rw[y00,y00,y0p];exact z0l (by lia)
   rw[<-y04]at e6;have s06:=s5.trans s6;refine(exA rfl (exA rfl (exC rfl rfl (exA rfl ⟨c,exA rfl ⟨s06 _ _ ec3,fun p4 H7 s7 e7=>?_⟩⟩))));rw[hq2]at e7;refine⟨p3,p4,exC rfl rfl ⟨s7 _ _ e6,e7,?_,fun p5 H8 s8 e8=>?_⟩⟩
   .rw[y00,y00,y06,y0p];exact z0l (by lia)
   rw[<-y04]at e8;have s08:=s06.trans (s7.trans s8);refine⟨show 2<=sizeLine by decide,fun p6 hp6=>?_⟩;have s9:=same_up (o:=HO.tup [.ref b,.ref p5]) s08 hp6;have s9':=same_up (o:=HO.tup [.ref b,.ref p5]) (z08.refl H8) hp6;refine(exA rfl (exA rfl ⟨l,us3,_,at_,rfl,rfl,s9 _ _ el3,ixj,nx _ _ ?_⟩));rw[<-hσ0];exact I3.set hl s9 z01 (s9 _ _ eb3) (s9' _ _ e8) (by lia) (by rw[y06,y06,y0p];lia) (s9 _ _ el3) at_
 clear I4;refine zbr (SpI K H l b c r0 rows.length σ0) (fun Ed nx=>?_) fun σ6 H36 I6=>?_
 .clear g;obtain⟨eσ,s3,eb3,ec3,us3,rs3,el3,hul3,dl3,hrl3,hall3⟩:=I5;have I3:SpI K H l b c r0 rows.length σ0 σ0 H35:=⟨rfl,s3,eb3,ec3,us3,rs3,el3,hul3,dl3,hrl3,hall3⟩;have ixj:ixN us3.length ((at_:Nat):Int)=some at_:=z33 (by lia);rw[eσ,hσ0];refine(exA rfl (exC rfl rfl (exA rfl (z1q (fun z=>?_) (fun z=>nx _ _ (by rw[<-hσ0];exact I3))))))
  .skip
   have s4:=z08.refl H35;refine(exA rfl (exA rfl ⟨show 1<=sizeLine by decide,fun p2 hp2=>?_⟩));have s5:=same_up (o:=HO.tup ([(0:Int)].map V.int)) s4 hp2;refine⟨c,p2,_,[(0:Int)].map V.int,rfl,rfl,s5 _ _ ec3,z01,?_,fun p5 H8 s6 e8=>?_⟩
   .rw[y00,y00,y0p];exact z0l (by lia)
   rw[<-y04]at e8;have s08:=s5.trans s6;refine⟨show 2<=sizeLine by decide,fun p6 hp6=>?_⟩;have s9:=same_up (o:=HO.tup [.ref b,.ref p5]) s08 hp6;have s9':=same_up (o:=HO.tup [.ref b,.ref p5]) (z08.refl H8) hp6;refine(exA rfl (exA rfl ⟨l,us3,_,at_,rfl,rfl,s9 _ _ el3,ixj,nx _ _ ?_⟩));rw[<-hσ0];exact I3.set hl s9 z01 (s9 _ _ eb3) (s9' _ _ e8) (by lia) (by rw[y06,y0p];lia) (s9 _ _ el3) at_
 clear I5;refine zbr (SpI K H l b c r0 rows.length σ0) (fun Ed nx=>?_) fun σ7 H37 I7=>?_
 .clear g;obtain⟨eσ,s3,eb3,ec3,us3,rs3,el3,hul3,dl3,hrl3,hall3⟩:=I6;have I3:SpI K H l b c r0 rows.length σ0 σ0 H36:=⟨rfl,s3,eb3,ec3,us3,rs3,el3,hul3,dl3,hrl3,hall3⟩;have ixj:ixN us3.length ((at_:Nat):Int)=some at_:=z33 (by lia);rw[eσ,hσ0];refine(exA rfl (exC rfl rfl (exA rfl (z1q (fun z=>?_) (fun z=>nx _ _ (by rw[<-hσ0];exact I3))))))
  .skip
   obtain⟨q1,hq1,lq1⟩:=z1x r0.2 none (some (-1));refine(exA rfl (exA rfl (exA rfl (exA rfl ⟨c,exA rfl ⟨ec3,fun p5 H8 s08 e8=>?_⟩⟩))));rw[hq1]at e8;refine⟨show 2<=sizeLine by decide,fun p6 hp6=>?_⟩;have s9:=same_up (o:=HO.tup [.ref b,.ref p5]) s08 hp6;have s9':=same_up (o:=HO.tup [.ref b,.ref p5]) (z08.refl H8) hp6;refine(exA rfl (exA rfl ⟨l,us3,_,at_,rfl,rfl,s9 _ _ el3,ixj,nx _ _ ?_⟩));rw[<-hσ0];exact I3.set hl s9 z01 (s9 _ _ eb3) (s9' _ _ e8) (by lia) (by lia) (s9 _ _ el3) at_
 clear I6;obtain⟨eσ,s3,eb3,ec3,us3,rs3,el3,hul3,dl3,hrl3,hall3⟩:=I7;rw[eσ,hσ0];clear eσ;refine(exA rfl (exC rfl rfl (exA rfl (z1q (fun z=>?_) (fun z=>(exA rfl (g l rs3 _ s3 ⟨us3,el3,dl3⟩ (by lia) hall3 (z8p (by lia)))))))));refine(exA rfl ⟨(n:Int),rfl,by lia,by lia,fun p hp=>⟨p,0,(n:Int),rfl,z01,⟨by decide,by decide,by lia,by lia⟩,by lia,fun c2 hc2=>?_⟩⟩);have e:((n:Int)-0).toNat=n:=by lia
 rw[e,z2u]at *;have s4:=s3.trans (same_up (o:=HO.tup ((z0s n).map V.int)) (same_up (o:=HO.rng 0 (n:Int)) (z08.refl H37) hp) hc2);have e4:upd (upd H37 p (.rng 0 (n:Int))) c2 (.tup ((z0s n).map V.int)) c2=some (.tup ((z0s n).map V.int)):=z01;have hio:(z0s n).length=n:=z0N n;generalize upd (upd H37 p (.rng 0 (n:Int))) c2 (.tup ((z0s n).map V.int))=H4 at s4 e4⊢;refine⟨61,rfl,by decide,by decide,fun l3 hl3=>z3C (n:=61) (fun j ys H5=>ys.length=j/\z08 H4 H5/\∃rs:List Row,DrL K H5 (z0x rs) ys/\rs.length=j/\∀r∈rs,r.1.length<=60/\r.2.length<=60) ⟨rfl,same_up (z08.refl H4) hl3,[],DrL.nil,rfl,fun r hr=>by simp at hr⟩ (by decide) (fun j ys H5 h=>h.1) (fun j ys H5 hj h hy=>?_) (fun ys H5 h hy=>?_)⟩
 .obtain⟨hyl,s5,rs,drs,hrl,hrs⟩:=h;refine(exA rfl (exA rfl (exC rfl rfl ⟨show 1<=sizeLine by decide,fun p1 hp1=>(exA rfl ⟨p1,(n:Int),[.int (0+(j:Int)+1)],rfl,rfl,z01,by lia,by lia,z0l (by rw[y0p];lia),fun p2 H6 s6 e6=>⟨show 2<=sizeLine by decide,fun p3 hp3=>?_⟩⟩)⟩)));rw[y2u,zei]at e6;have s7:=(same_up (o:=HO.tup [.int (0+(j:Int)+1)]) (z08.refl H5) hp1).trans s6;have s8:=same_up (o:=HO.tup [.ref c2,.ref p2]) s7 hp3;have s8':=same_up (o:=HO.tup [.ref c2,.ref p2]) (z08.refl H6) hp3;have e8:upd H6 p3 (.tup [.ref c2,.ref p2]) p3=some (.tup [.ref c2,.ref p2]):=z01;generalize upd H6 p3 (.tup [.ref c2,.ref p2])=H8 at s8 s8' e8⊢;have kk:z1m H8 (upd H8 l3 (.lst (ys++[.ref p3]))):=z1m.up (z1m.refl H8) (s8 _ _ hy) (fun _ z=>by cases z);refine⟨s8 _ _ hy,by rw[y06,hyl];rfl,fun b o eo=>?_,rs++[(z0s n,List.replicate n (0+(j:Int)+1))],?_,by rw[y06,hrl];rfl,fun r hr=>?_⟩
  .have:b≠l3:=fun z=>by rw[z,hl3]at eo;cases eo
   rw[z04 this];exact s8 _ _ (s5 _ _ eo)
  .unfold z0x;rw[y04];exact DrL.append ((drs.mono s8).keyed kk (z1T _)) (DrL.cons (z2W (r:=(z0s n,List.replicate n (0+(j:Int)+1))) (kk _ _ e8) (kk _ _ (s8 _ _ (s5 _ _ e4))) (kk _ _ (s8' _ _ e6))) DrL.nil)
  .rcases y0G.mp hr with q|q
   .exact hrs r q
   .rw[y0r.mp q];exact⟨by show(z0s n).length<=60;lia,by show(List.replicate n _).length<=60;rw[y1F];lia⟩
 .obtain⟨hyl,s5,rs,drs,hrl,hrs⟩:=h;have ec5:=s5 _ _ e4;obtain⟨q1,hq1,lq1⟩:=z1x (z0s n) (some 1) none;obtain⟨q2,hq2,lq2⟩:=z1x (z0s n) none (some 1);refine(exA rfl ⟨.inl ⟨rfl,ys,SqL.of hy⟩,exA rfl ?_⟩);refine(exA rfl ⟨c2,exA rfl ⟨ec5,fun p1 H6 s6 e6=>?_⟩⟩);rw[hq1]at e6;refine(exA rfl (exA rfl ⟨c2,exA rfl ⟨s6 _ _ ec5,fun p2 H7 s7 e7=>?_⟩⟩));rw[hq2]at e7;refine⟨p1,p2,exC rfl rfl ⟨s7 _ _ e6,e7,?_,fun p3 H8 s8 e8=>?_⟩⟩
  .rw[y00,y00];exact z0l (by lia)
  rw[<-y04]at e8;refine⟨show 1<=sizeLine by decide,fun p4 hp4=>(exA rfl (exC rfl rfl ⟨p4,(n:Int)-1,[.int 61],rfl,rfl,z01,by lia,by lia,z0l (by rw[y0p];lia),fun p5 H9 s9 e9=>?_⟩))⟩;rw[zei]at e9;refine(exA rfl (exC rfl rfl ⟨(show(0:Int)<5 by decide),exC rfl rfl ⟨show 1<=sizeLine by decide,fun p6 hp6=>?_⟩⟩));have s10:=same_up (o:=HO.tup ([62+cell%5].map V.int)) (z08.refl H9) hp6;refine⟨p5,p6,_,[62+cell%5].map V.int,rfl,rfl,s10 _ _ e9,z01,?_,fun p7 H11 s11 e11=>?_⟩
  .rw[y00,y00,y1F,y0p];exact z0l (by lia)
  rw[<-y04]at e11;refine⟨show 2<=sizeLine by decide,fun p8 hp8=>?_⟩;have s89:=(same_up (o:=HO.tup [.int 61]) (z08.refl H8) hp4).trans s9;have s12:=same_up (o:=HO.tup [.ref p3,.ref p7]) (z08.refl H11) hp8;have s8c:=s89.trans (s10.trans (s11.trans s12));have s5c:=s6.trans (s7.trans (s8.trans s8c));have e12:upd H11 p8 (.tup [.ref p3,.ref p7]) p8=some (.tup [.ref p3,.ref p7]):=z01;replace e11:=s12 _ _ e11;generalize upd H11 p8 (.tup [.ref p3,.ref p7])=H12 at s12 s8c s5c e12 e11⊢;refine⟨l3,ys,.ref p8,rfl,rfl,s5c _ _ hy,z0l (by lia),?_⟩;have kk:z1m H12 (upd H12 l3 (.lst (ys++[.ref p8]))):=z1m.up (z1m.refl H12) (s5c _ _ hy) (fun _ z=>by cases z);refine(exA rfl (g l3 (rs++[(q1++q2,List.replicate ((n:Int)-1).toNat 61++[62+cell%5])]) _ (fun b o eo=>?_) ⟨_,z01,?_⟩ ?_ (fun r hr=>?_) (fun m hM=>?_)))
  .have eo4:=s4 _ _ eo;have:b≠l3:=fun z=>by rw[z,hl3]at eo4;cases eo4
   rw[z04 this];exact s5c _ _ (s5 _ _ eo4)
  .unfold z0x;rw[y04];exact DrL.append ((drs.mono s5c).keyed kk (z1T _)) (DrL.cons (z2W (r:=(q1++q2,List.replicate ((n:Int)-1).toNat 61++[62+cell%5])) (kk _ _ e12) (kk _ _ (s8c _ _ e8)) (kk _ _ e11)) DrL.nil)
  .rw[y06,y0p];lia
  .rcases y0G.mp hr with q|q
   .exact hrs r q
   .rw[y0r.mp q];refine⟨?_,?_⟩
    .show(q1++q2).length<=60;rw[y06];lia
    .show(List.replicate _ _++_).length<=60;rw[y06,y1F,y0p];lia
  .have hgo:=hM.1.go _ (y0c rs (List.mem_singleton_self _)) (62+cell%5) (y0c _ (List.mem_singleton_self _));rw[y06,hrl,y0p]at hgo;have:=y1l cell (show(5:Int)≠0 by decide);lia
abbrev nL4:List Str:=["_law_script","_law_letters_here","_law_rows_here","_law_door","_law_due","_law_handed"]
def zdn:z0j nL4 ["_law_script"] (z05 za6):={}
def zfd{Ts:List Tb}(F:Fun K "law" "law" za6 f fd)(mli:mg "list"=none)(mr:mg "range"=none){aLt:Addr}{dLt:FuncData}(Lt:z0u P w K mg base (CXx P w) 10 aLt dLt ["_law_script","_law_at"] (z4s K))(bLt:z0i K dLt ["_law_script","_law_at"] [])(kLt:PySem.W.keepIn K (.ref aLt)=true)(mLt:mg "_law_letters"=some (.ref aLt)){aCe:Addr}{dCe:FuncData}(Ce:z0u P w K mg base (CXx P w) 10 aCe dCe ["_law_script","_law_at"] (z8g K))(bCe:z0i K dCe ["_law_script","_law_at"] [])(kCe:PySem.W.keepIn K (.ref aCe)=true)(mCe:mg "_law_cell"=some (.ref aCe)){aRw:Addr}{dRw:FuncData}(Rw:z0u P w K mg base (CXx P w) 10 aRw dRw ["_law_letters_here","_law_cell_here"] (zaY K))(bRw:z0i K dRw ["_law_letters_here","_law_cell_here"] [])(kRw:PySem.W.keepIn K (.ref aRw)=true)(mRw:mg "_law_rows"=some (.ref aRw)){aSp:Addr}{dSp:FuncData}(Sp:z0u P w K mg base (CXx P w) 10 aSp dSp ["_law_letters_here","_law_rows_here","_law_way","_law_cell_here"] (z4v K))(bSp:z0i K dSp ["_law_letters_here","_law_rows_here","_law_way","_law_cell_here"] [])(kSp:PySem.W.keepIn K (.ref aSp)=true)(mSp:mg "_law_spoilt"=some (.ref aSp)){aBd:Addr}{dBd:FuncData}(Bd:z0u P w K mg base (CXx P w) 10 aBd dBd ["_law_letters_here","_law_rows_here","_law_most"] (zbb K))(bBd:z0i K dBd ["_law_letters_here","_law_rows_here","_law_most"] [])(kBd:PySem.W.keepIn K (.ref aBd)=true)(mBd:mg "_law_bad"=some (.ref aBd)){aTd:Addr}{dTd:FuncData}(Td:z0u P w K mg base (CXx P w) 10 aTd dTd ["_law_letters_here","_law_rows_here","_law_door"] (z7z Ts K))(bTd:z0i K dTd ["_law_letters_here","_law_rows_here","_law_door"] [])(kTd:PySem.W.keepIn K (.ref aTd)=true)(mTd:mg "_law_told"=some (.ref aTd)):z0u P w K mg base (CXx P w) 11 f fd ["_law_script"] (z87 Ts K):=by
 refine F.okc zdn (fun vs H Q E h=>?_) (fun cdv A outer s H vs Q E' hr h=>?_)
 .obtain⟨a,ns,rfl,_⟩:=h;rfl
 obtain⟨a,ns,rfl,hS,h63,hTb,q⟩:=h;refine⟨_,z02 (z0k (i:=1) zdn.nd rfl (Or.inl rfl) (z0t Lt hr rfl mLt kLt bLt .nil z1t (z00 (pv 0) (z00 z06 z03))))
  (z02 (z0k (i:=2) zdn.nd rfl (Or.inl rfl) (z0t Rw hr rfl mRw kRw bRw .nil z1t (z00 (pv 1) (z00 (z0t Ce hr rfl mCe kCe bCe .nil z1t (z00 (pv 0) (z00 z06 z03))) z03))))
  (z02 (z0k (i:=2) zdn.nd rfl (Or.inl rfl) (z0t Sp hr rfl mSp kSp bSp .nil z1t (z00 (pv 1) (z00 (pv 2) (z00 (z0f z16 (z0t Ce hr rfl mCe kCe bCe .nil z1t (z00 (pv 0) (z00 z06 z03))) z06) (z00 (z0t Ce hr rfl mCe kCe bCe .nil z1t (z00 (pv 0) (z00 z06 z03))) z03))))))
  (z02 (z2R y16 rfl (z27 rfl mr (z00 z06 z03)) (z0c (i:=3) zdn.nd rfl (Or.inl rfl))
   (z02 (z0k (i:=4) zdn.nd rfl (Or.inl rfl) z1h)
   (z02 (z15 (z4C (z0t Bd hr rfl mBd kBd bBd .nil z1t (z00 (pv 1) (z00 (pv 2) (z00 (z1L z3O (z0A (z00 z06 (z00 z06 z03))) (pv 3) (fun _ _=>rfl)) z03))))) (z07 (z0k (i:=4) zdn.nd rfl (Or.inl rfl) z1h)) z0n)
   (z02 (z0k (i:=5) zdn.nd rfl (Or.inl rfl) (z0o z3T rfl mli y1D (z00 (pv 2) z03)))
   (z07 (z15 (PW.pt (z78 (z1c zkq (z0t Td hr rfl mTd kTd bTd .nil z1t (z00 (pv 1) (z00 (pv 5) (z00 (pv 3) z03)))) (pv 4) (z1C _)) (z4D (z1c (zeE hr.units0) (pv 5) (pv 2) (z1C _))))) (z07 (z0y z8N)) z0n))))))
  (z07 (z0y z8N))))),?_⟩
 have n2:=zdQ ns 0;have n5:=zdv ns 0;generalize hn:zdk ns 0=n at *;refine(exA rfl ⟨a,ns,0,rfl,hS,h63,by lia,?_⟩);rw[hn];refine(exA rfl (exA rfl ⟨a,ns,1,rfl,hS,h63,by lia,n,exA rfl ⟨n2,n5,fun ar H1 rows s1 r1 G1 h8=>?_⟩⟩));obtain⟨way,hway⟩:=z6H (x:=cell ns 2%15) (y1l _ (by decide));have hw15:way<15:=by have:=y19 (cell ns 2) (show(0:Int)<15 by decide);lia
 refine(exA rfl (exA rfl (exA rfl ⟨a,ns,2,rfl,s1.seq hS,h63,by lia,exC rfl rfl ⟨(show(0:Int)<15 by decide),exA rfl ⟨a,ns,3,rfl,s1.seq hS,h63,by lia,n,ar,rows,way,cell ns 3,y1n (fun x=>[V.int n,V.ref ar,V.int x,V.int (cell ns 3)]) hway,r1,G1,h8,n2,n5,hw15,fun l rs H2 s2 r2 hr4 hsm hok=>?_⟩⟩⟩)));have hT2:z2n Ts H2:=z2n.mono hTb (s1.trans s2);clear hS r1 G1 s1 s2;obtain⟨us,el,dl⟩:=r2;have hur:∀v∈us,∃c,v=V.ref c:=by
  have:∀(rs:List Row)(us:List V),DrL K H2 (z0x rs) us->∀v∈us,∃c,v=V.ref c:=by
   intro rs;induction rs with
   |nil=>intro us h v hv;unfold z0x at h;simp only[y0Z,DrL]at h;rw[h]at hv;simp at hv
   |cons r rs ih =>
    intro us h v hv;unfold z0x at h;simp only[y0i,DrL]at h;obtain⟨x,us',rfl,hx,hrest⟩:=h;rcases y0o.mp hv with z|z
    .obtain⟨t,_,_,e,_⟩:=z1H hx;exact⟨t,by rw[z,e]⟩
    .exact ih us' hrest v z
  exact this rs us dl
 refine⟨2,rfl,by decide,by decide,z6P (n:=2) (fun i σ H3=>∃u3 u4 u5:Option V,σ=[some (.ref a),some (.int n),some (.ref l),u3,u4,u5]/\z2n Ts H3/\H3 l=some (.lst us)/\DrL K H3 (z0x rs) us) ⟨_,exB rfl ⟨hT2,el,dl⟩⟩ (fun i σ H3 hi h=>?_) (fun σ H3 h=>?_)⟩
 .obtain⟨u3,u4,u5,rfl,hT3,el3,dl3⟩:=h;have e0:(0:Int)+(i:Int)=(i:Int):=by lia
  rw[e0];obtain⟨m,hm,hm4,hme⟩:∃m:Nat,atI [V.int 400,V.int 60] (i:Int)=some (.int (m:Int))/\m<=400/\(i=0->m=400)/\(i≠0->m=60):=by
   match i,hi with
   |0,_=>exact⟨400,z0S (j:=0) rfl,by decide,fun _=>rfl,fun z=>absurd rfl z⟩
   |1,_=>exact⟨60,z0S (j:=1) rfl,by decide,fun z=>absurd z (by decide),fun _=>rfl⟩
  show zex (zfF (tC (V.str "")) (z9G 4)) _ _ [some (.ref a),some (.int n),some (.ref l),some (.int (i:Int)),u4,u5] H3;refine zbr (fun σ' H'=>σ'=[some (.ref a),some (.int n),some (.ref l),some (.int (i:Int)),some (.str ""),u5]/\H'=H3) (fun Ed nx=>nx _ _ ⟨rfl,rfl⟩) fun σ' H9 h'=>?_;obtain⟨rfl,h9⟩:=h';rw[h9];clear h9;refine zbr (fun σ' H'=>∃due:Str,σ'=[some (.ref a),some (.int n),some (.ref l),some (.int (i:Int)),some (.str due),u5]/\(z1B n rs m->due="")/\(¬z1B n rs m->due="bad")/\z2n Ts H'/\H' l=some (.lst us)/\DrL K H' (z0x rs) us) (fun Ed nx=>?_) fun σ' H4 h'=>?_
  .refine(exA rfl (exA rfl ⟨show 2<=sizeLine by decide,fun t ht=>(exA rfl ⟨t,_,exC rfl rfl ⟨SqT.of z01,hm,n,l,rs,m,rfl,z1D.mono ⟨us,el3,dl3⟩ (same_up (z08.refl H3) ht),by lia,by lia,hm4,hr4,hsm,fun b H4 hb s4=>?_⟩⟩)⟩));have s34:=(same_up (o:=HO.tup [.int 400,.int 60]) (z08.refl H3) ht).trans s4;exact⟨b,rfl,z1q (fun z=>nx _ _ ⟨"bad",rfl,fun y=>absurd y (hb.mp z),fun _=>rfl,z2n.mono hT3 s34,s34 _ _ el3,dl3.mono s34⟩) (fun z=>nx _ _ ⟨"",rfl,fun _=>rfl,fun y=>absurd (hb.mpr y) z,z2n.mono hT3 s34,s34 _ _ el3,dl3.mono s34⟩)⟩
  obtain⟨due,rfl,hd1,hd2,hT4,el4,dl4⟩:=h';clear el3 dl3 hT3;refine(exA rfl ⟨l,us,rfl,.inl (SqL.of el4),fun l5 hl5=>?_⟩);have s5:=same_up (o:=HO.lst us) (z08.refl H4) hl5;have e5:upd H4 l5 (.lst us) l5=some (.lst us):=z01;generalize upd H4 l5 (.lst us)=H5 at s5 e5⊢;have nd:∀x:Str,zjA (V.str x) (V.str due)=true:=fun x=>rfl;have fin:∀(H6:Hp),z1I Ts H5 H6->z2n Ts H6/\H6 l=some (.lst us)/\DrL K H6 (z0x rs) us/\H6 l5=some (.lst us):=fun H6 s6=>⟨s6.tabs (z2n.mono hT4 s5),s6.g (s5 _ _ el4),(dl4.mono s5).monoL s6,s6.g e5⟩;refine(exA rfl (exA rfl (exA rfl ⟨n,l5,rs,i,rfl,z2n.mono hT4 s5,⟨us,e5,dl4.mono s5⟩,n2,n5,hr4,hsm,fun z=>?_,fun z=>?_⟩)))
  .rw[hme.1 z]at hd1 hd2;refine⟨fun hM=>hok 400 hM,fun H6 s6=>⟨fun hM=>?_,fun hM=>?_⟩⟩;all_goals
    obtain⟨f1,f2,f3,f4⟩:=fin H6 s6;first|rw[hd1 hM]|rw[hd2 hM]
    exact(exA rfl ⟨rfl,false,by simp,z5n (exA rfl (exA rfl ⟨l5,l,us,rfl,rfl,SqL.of f4,SqL.of f2,hur,exA rfl (z5n ⟨_,exB rfl ⟨f1,f2,f3⟩⟩)⟩))⟩)
  .rw[hme.2 z]at hd1 hd2;refine⟨fun hM=>⟨hok 60 hM,z9c (by lia) n5 hM (by decide +kernel)⟩,fun H6 s6=>⟨fun hM=>?_,fun hM=>?_⟩⟩;all_goals
    obtain⟨f1,f2,f3,f4⟩:=fin H6 s6;first|rw[hd1 hM]|rw[hd2 hM]
    exact(exA rfl ⟨rfl,false,by simp,z5n (exA rfl (exA rfl ⟨l5,l,us,rfl,rfl,SqL.of f4,SqL.of f2,hur,exA rfl (z5n ⟨_,exB rfl ⟨f1,f2,f3⟩⟩)⟩))⟩)
 .obtain⟨u3,u4,u5,rfl,_⟩:=h;exact q _
end
def ziM{α:Type}{us:List α}(h:us.length=4):∃a b c d,us=[a,b,c,d]:=by
 cases us with
 |nil=>cases h
 |cons a r =>
  obtain⟨b,c,d,rfl⟩:=zl1 (show r.length=3 by simpa using h);exact⟨a,b,c,d,rfl⟩
structure FA(K:yyF)(f:Addr)(x:Str)(st:Stmt):Prop where
 a:PySem.W.nsIn K mainGlobals x=some (some (.ref f))
 l:∃oc od kV dc pm an cd ct sl,K.lookup f=some ⟨oc,od,.func (PySem.W.fnOf x x (z1k st) (z0E st) (z05 st) .none kV dc pm an cd ct),sl⟩/\PySem.W.codeIn K cd x=true
 k:PySem.W.keepIn K (.ref f)=true
def FA.of{K:yyF}{f:Addr}{x:Str}{st:Stmt}{oc kV dc pm cd ct:Value}{od an:Option Addr}{sl:Array (Option Value)}(a:PySem.W.nsIn K mainGlobals x=some (some (.ref f)))(l:K.lookup f=some ⟨oc,od,.func (PySem.W.fnOf x x (z1k st) (z0E st) (z05 st) .none kV dc pm an cd ct),sl⟩)(c:PySem.W.codeIn K cd x=true)(k:PySem.W.keepIn K (.ref f)=true):FA K f x st:=⟨a,⟨_,_,_,_,_,_,_,_,_,l,c⟩,k⟩
def FA.go{K:yyF}{f:Addr}{x:Str}{st:Stmt}{h:Heap}{mg:yyS}(A:FA K f x st)(X:K.In h)(G:h.Ns mainGlobals mg):∃fd,Fun K x x st f fd/\mg x=some (.ref f)/\PySem.W.keepIn K (.ref f)=true:=by obtain⟨a,⟨_,_,_,_,_,_,_,_,_,l,c⟩,k⟩:=A;exact⟨_,z6B l c k,y0F X G a,k⟩
structure MA(K:yyF)(C f:Addr)(x q:Str)(st:Stmt):Prop where
 a:PySem.W.findIn K (.ref C) x=some (some (.ref f))
 i:PySem.W.isFn K (.ref f)=true
 l:∃oc od kV dc pm an cd ct sl,K.lookup f=some ⟨oc,od,.func (PySem.W.fnOf x q (z1k st) (z0E st) (z05 st) .none kV dc pm an cd ct),sl⟩/\PySem.W.codeIn K cd q=true
 k:PySem.W.keepIn K (.ref f)=true
def MA.of{K:yyF}{C f:Addr}{x q:Str}{st:Stmt}{oc kV dc pm cd ct:Value}{od an:Option Addr}{sl:Array (Option Value)}(a:PySem.W.findIn K (.ref C) x=some (some (.ref f)))(i:PySem.W.isFn K (.ref f)=true)(l:K.lookup f=some ⟨oc,od,.func (PySem.W.fnOf x q (z1k st) (z0E st) (z05 st) .none kV dc pm an cd ct),sl⟩)(c:PySem.W.codeIn K cd q=true)(k:PySem.W.keepIn K (.ref f)=true):MA K C f x q st:=⟨a,i,⟨_,_,_,_,_,_,_,_,_,l,c⟩,k⟩
def MA.go{K:yyF}{C f:Addr}{x q:Str}{st:Stmt}(A:MA K C f x q st):∃fd,Fun K x q st f fd/\zdM K C x f:=by obtain⟨a,i,⟨_,_,_,_,_,_,_,_,_,l,c⟩,k⟩:=A;exact⟨_,z6B l c k,⟨a,i,k⟩⟩
abbrev fnY(x q:Str)(st:Stmt)(kV dc pm:Value)(an:Option Addr)(cd ct:Value):=PySem.W.fnOf x q (z1k st) (z0E st) (z05 st) .none kV dc pm an cd ct
section
variable{K:yyF}{x q:Str}{st:Stmt}{f:Addr}{fd:FuncData}
def zcq{a:Str}(F:Fun K x q st f fd)(h:∀(kV dc pm:Value)(an:Option Addr)(cd ct u:Value),bindArgs (fnY x q st kV dc pm an cd ct) ⟨[u],[]⟩=pure [(a,u)]):z0i K fd [a] []:=F.binds fun _ _ _ _ _ _ us hl=>by obtain⟨_,rfl⟩:=ziL hl;exact h _ _ _ _ _ _ _
def z9a{a b:Str}(F:Fun K x q st f fd)(h:∀(kV dc pm:Value)(an:Option Addr)(cd ct u v:Value),bindArgs (fnY x q st kV dc pm an cd ct) ⟨[u,v],[]⟩=pure [(a,u),(b,v)]):z0i K fd [a,b] []:=F.binds fun _ _ _ _ _ _ us hl=>by obtain⟨_,_,rfl⟩:=zgh hl;exact h _ _ _ _ _ _ _ _
def ze1{a b c:Str}(F:Fun K x q st f fd)(h:∀(kV dc pm:Value)(an:Option Addr)(cd ct u v w:Value),bindArgs (fnY x q st kV dc pm an cd ct) ⟨[u,v,w],[]⟩=pure [(a,u),(b,v),(c,w)]):z0i K fd [a,b,c] []:=F.binds fun _ _ _ _ _ _ us hl=>by obtain⟨_,_,_,rfl⟩:=zl1 hl;exact h _ _ _ _ _ _ _ _ _
def zmW{a b c d:Str}(F:Fun K x q st f fd)(h:∀(kV dc pm:Value)(an:Option Addr)(cd ct u v w y:Value),bindArgs (fnY x q st kV dc pm an cd ct) ⟨[u,v,w,y],[]⟩=pure [(a,u),(b,v),(c,w),(d,y)]):z0i K fd [a,b,c,d] []:=F.binds fun _ _ _ _ _ _ us hl=>by obtain⟨_,_,_,_,rfl⟩:=ziM hl;exact h _ _ _ _ _ _ _ _ _ _
end
abbrev zar(P14 P17:Addr):List Tb:=[⟨P14,z6Q (z0E z4A),("form.<locals>."++"<lambda>":Str)⟩,⟨P17,z6Q (z0E z46),("sewn.<locals>."++"<lambda>":Str)⟩]
def all_mk{l:PySem.W.OpenLaw}{w:World}{K:yyF}{h:Heap}{mg:yyS}{fa C f1 f2 f3 f4 f5 f6 f7 f8 f9 f10 f11 f12 f13 f14 f15 f16 f17 f18 f19 f20 f21 f22 f23 f24 f25 f26 f27 f28 f29 f30 f31 f32 f33:Addr}(X:K.In h)(G:h.Ns mainGlobals mg)(hfa:mg "law"=some (.ref fa)){od14 an14 od17 an17 od33 an33:Option Addr}{sl14 sl17 sl33:Array (Option Value)}{tk1 tk2 tk3 tk4 tk5 tk6 tk7 tk8 tk9:Tok}{oc14 kV14 dc14 pm14 ct14 oc17 kV17 dc17 pm17 ct17 oc33 kV33 dc33 pm33 ct33 cd33:Value}{cc14 P14 cc17 P17:Addr}(aC:PySem.W.nsIn K mainGlobals "House"=some (some (.ref C)))(pg:PySem.W.plainGet K C Str.empty=true)(hd:PySem.W.hasDictIn K C=true)(po:PySem.W.plainOver K C=true)(sa:PySem.W.findIn K (.ref C) "__setattr__"=some (some (.builtin "object.__setattr__")))(mk:PySem.W.makesIn K C=true)(kc:PySem.W.keepIn K (.ref C)=true)(at1:PySem.W.findIn K (.ref C) "many_letters"=some none)(at2:PySem.W.findIn K (.ref C) "things"=some none)(at3:PySem.W.findIn K (.ref C) "done"=some none)(at4:PySem.W.findIn K (.ref C) "taken_back"=some none)(h1:FA K f1 "is_name" z3F)(h2:FA K f2 "plainly_written" z38)(h3:FA K f3 "word_written" z3G)(h4:FA K f4 "row_written" z5d)(h5:FA K f5 "rows_written" z3D)(h6:FA K f6 "line_written" z1y)(h7:FA K f7 "rearranges" z68)(h8:FA K f8 "check_machine" z58)(h9:FA K f9 "numbered" z1O)(h10:FA K f10 "kinds_gone_to" z8E)(h11:FA K f11 "kinds_of_rows" z4d)(h12:FA K f12 "rows_come_to" z4K)(h13:FA K f13 "least_form" z62)(a14:PySem.W.nsIn K mainGlobals "form"=some (some (.ref f14)))(l14:K.lookup f14=some ⟨oc14,od14,.func (PySem.W.fnOf "form" "form" (z1k z4A) (z0E z4A) (z05 z4A) .none kV14 dc14 pm14 an14 (.ref cc14) ct14),sl14⟩)(c14:PySem.W.codeIn K (.ref cc14) "form"=true)(k14:PySem.W.keepIn K (.ref f14)=true)(h15:FA K f15 "place_gone_to" z1z)(h16:FA K f16 "row_at" z4S)(a17:PySem.W.nsIn K mainGlobals "sewn"=some (some (.ref f17)))(l17:K.lookup f17=some ⟨oc17,od17,.func (PySem.W.fnOf "sewn" "sewn" (z1k z46) (z0E z46) (z05 z46) .none kV17 dc17 pm17 an17 (.ref cc17) ct17),sl17⟩)(c17:PySem.W.codeIn K (.ref cc17) "sewn"=true)(k17:PySem.W.keepIn K (.ref f17)=true)(h18:FA K f18 "names_gone_to" z1n)(h19:FA K f19 "check_sewing" z1l)(h20:MA K C f20 "__init__" "House.__init__" zal)(h21:MA K C f21 "check_new" "House.check_new" z2C)(h22:MA K C f22 "put" "House.put" zeG)(h23:MA K C f23 "keep" "House.keep" zbq)(h24:MA K C f24 "sew" "House.sew" zeC)(h25:FA K f25 "_law_cell" z9X)(h26:FA K f26 "_law_letters" z3q)(h27:FA K f27 "_law_numbers" z3n)(h28:FA K f28 "_law_rearranged" zbf)(h29:FA K f29 "_law_rows" z6s)(h30:FA K f30 "_law_spoilt" z3v)(h31:FA K f31 "_law_bad" zaK)(h32:FA K f32 "_law_told" zaz)(a33:PySem.W.nsIn K mainGlobals "law"=some (some (.ref f33)))(l33:K.lookup f33=some ⟨oc33,od33,.func (PySem.W.fnOf "law" "law" (z1k za6) (z0E za6) (z05 za6) .none kV33 dc33 pm33 an33 cd33 ct33),sl33⟩)(c33:PySem.W.codeIn K cd33 "law"=true)(k33:PySem.W.keepIn K (.ref f33)=true)(t14:PySem.W.codeHdIn K cc14 P14=true)(u14:K.lookup P14=none)(t17:PySem.W.codeHdIn K cc17 P17=true)(u17:K.lookup P17=none)(nP:([P14,P17]:List Addr).Nodup)(i1:PySem.W.nsIn K mainGlobals "MOST_ROWS"=some (some (.int 400 tk1)))(i2:PySem.W.nsIn K mainGlobals "MOST_FORM_ROWS"=some (some (.int 60 tk2)))(i3:PySem.W.nsIn K mainGlobals "SMALL_LETTERS"=some (some (.str "abcdefghijklmnopqrstuvwxyz" tk3)))(i4:PySem.W.nsIn K mainGlobals "MOST_LETTERS_OF_NAME"=some (some (.int 12 tk4)))(i5:PySem.W.nsIn K mainGlobals "EMPTY"=some (some (.str "-" tk5)))(i6:PySem.W.nsIn K mainGlobals "MOST_SEWN_ROWS"=some (some (.int 60 tk6)))(i7:PySem.W.nsIn K mainGlobals "LEAST_BREADTH"=some (some (.int 2 tk7)))(i8:PySem.W.nsIn K mainGlobals "MOST_BREADTH"=some (some (.int 5 tk8)))(i9:PySem.W.nsIn K mainGlobals "GUISE"=some (some (.str "guise" tk9))){a_DEEDS:Addr}(gDEEDS:PySem.W.nsIn K mainGlobals "DEEDS"=some (some (.ref a_DEEDS)))(wDEEDS:z4I K a_DEEDS=true)(qDEEDS:zaX K a_DEEDS=true){a_WRITERS:Addr}(gWRITERS:PySem.W.nsIn K mainGlobals "WRITERS"=some (some (.ref a_WRITERS)))(wWRITERS:z4I K a_WRITERS=true)(qWRITERS_name:PySem.W.nsIn K a_WRITERS (str "name")=some (some (.ref f2)))(qWRITERS_number:PySem.W.nsIn K a_WRITERS (str "number")=some (some (.ref f2)))(qWRITERS_word:PySem.W.nsIn K a_WRITERS (str "word")=some (some (.ref f3)))(qWRITERS_ring:PySem.W.nsIn K a_WRITERS (str "ring")=some (some (.ref f3)))(qWRITERS_rows:PySem.W.nsIn K a_WRITERS (str "rows")=some (some (.ref f5)))(z1:PySem.W.nsIn K mainGlobals "len"=some none)(z2:PySem.W.nsIn K mainGlobals "tuple"=some none)(z3:PySem.W.nsIn K mainGlobals "list"=some none)(z4:PySem.W.nsIn K mainGlobals "range"=some none)(z5:PySem.W.nsIn K mainGlobals "isinstance"=some none)(z6:PySem.W.nsIn K mainGlobals "int"=some none)(z7:PySem.W.nsIn K mainGlobals "bool"=some none)(z8:PySem.W.nsIn K mainGlobals "str"=some none)(z9:PySem.W.nsIn K mainGlobals "all"=some none)(z10:PySem.W.nsIn K mainGlobals "any"=some none)(z11:PySem.W.nsIn K mainGlobals "sorted"=some none)(z12:PySem.W.nsIn K mainGlobals "zip"=some none)(z13:PySem.W.nsIn K mainGlobals "max"=some none)(z14:PySem.W.nsIn K mainGlobals "min"=some none){CtTooMany:Addr}(yTooMany:PySem.W.nsIn K mainGlobals "TooMany"=some (some (.ref CtTooMany)))(xTooMany:PySem.W.excIn K CtTooMany [.type "ValueError",.type "Exception",.type "BaseException",.type "object"] "ValueError.__new__"=true){CtBadMachine:Addr}(yBadMachine:PySem.W.nsIn K mainGlobals "BadMachine"=some (some (.ref CtBadMachine)))(xBadMachine:PySem.W.excIn K CtBadMachine [.type "ValueError",.type "Exception",.type "BaseException",.type "object"] "ValueError.__new__"=true){CtBadBreadth:Addr}(yBadBreadth:PySem.W.nsIn K mainGlobals "BadBreadth"=some (some (.ref CtBadBreadth)))(xBadBreadth:PySem.W.excIn K CtBadBreadth [.type "ValueError",.type "Exception",.type "BaseException",.type "object"] "ValueError.__new__"=true){CtBadName:Addr}(yBadName:PySem.W.nsIn K mainGlobals "BadName"=some (some (.ref CtBadName)))(xBadName:PySem.W.excIn K CtBadName [.type "ValueError",.type "Exception",.type "BaseException",.type "object"] "ValueError.__new__"=true){CtTaken:Addr}(yTaken:PySem.W.nsIn K mainGlobals "Taken"=some (some (.ref CtTaken)))(xTaken:PySem.W.excIn K CtTaken [.type "ValueError",.type "Exception",.type "BaseException",.type "object"] "ValueError.__new__"=true){CtGuiseError:Addr}(yGuiseError:PySem.W.nsIn K mainGlobals "GuiseError"=some (some (.ref CtGuiseError)))(xGuiseError:PySem.W.excIn K CtGuiseError [.type "ValueError",.type "Exception",.type "BaseException",.type "object"] "ValueError.__new__"=true)(vGuiseErrorBadMachine:z4f K CtGuiseError CtBadMachine=true): ∃fd:FuncData,(∀(s:Shared) (v:Value),BindsTo s fd ⟨[v],[]⟩ [("_law_script",v)])/\(∀T∈(zar P14 P17),K.lookup T.at_=none/\∃c,PySem.W.codeHdIn K c T.at_=true)/\∀base:Heap,K.In base->base.Ns mainGlobals mg->z4L base mg->z0u l.prog w K mg base (CXx l.prog w) 11 fa fd ["_law_script"] (z87 (zar P14 P17) K):=by
 have e:=hfa.symm.trans (y0F X G a33);cases e;obtain⟨d1,F1,m1,k1⟩:=h1.go X G;have b1:z0i K d1 ["text"] []:=zcq F1 fun _ _ _ _ _ _ _=>rfl;obtain⟨d2,F2,m2,k2⟩:=h2.go X G;have b2:z0i K d2 ["part"] []:=zcq F2 fun _ _ _ _ _ _ _=>rfl;obtain⟨d3,F3,m3,k3⟩:=h3.go X G;have b3:z0i K d3 ["word"] []:=zcq F3 fun _ _ _ _ _ _ _=>rfl;obtain⟨d4,F4,m4,k4⟩:=h4.go X G;have b4:z0i K d4 ["row"] []:=zcq F4 fun _ _ _ _ _ _ _=>rfl;obtain⟨d5,F5,m5,k5⟩:=h5.go X G;have b5:z0i K d5 ["rows"] []:=zcq F5 fun _ _ _ _ _ _ _=>rfl;obtain⟨d6,F6,m6,k6⟩:=h6.go X G;have b6:z0i K d6 ["deed"] []:=zcq F6 fun _ _ _ _ _ _ _=>rfl;obtain⟨d7,F7,m7,k7⟩:=h7.go X G;have b7:z0i K d7 ["letters","numbers"] []:=z9a F7 fun _ _ _ _ _ _ _ _=>rfl;obtain⟨d8,F8,m8,k8⟩:=h8.go X G;have b8:z0i K d8 ["letters","rows","most"] []:=ze1 F8 fun _ _ _ _ _ _ _ _ _=>rfl;obtain⟨d9,F9,m9,k9⟩:=h9.go X G;have b9:z0i K d9 ["things"] []:=zcq F9 fun _ _ _ _ _ _ _=>rfl;obtain⟨d10,F10,m10,k10⟩:=h10.go X G;have b10:z0i K d10 ["kinds","goings"] []:=z9a F10 fun _ _ _ _ _ _ _ _=>rfl;obtain⟨d11,F11,m11,k11⟩:=h11.go X G;have b11:z0i K d11 ["rows"] []:=zcq F11 fun _ _ _ _ _ _ _=>rfl;obtain⟨d12,F12,m12,k12⟩:=h12.go X G;have b12:z0i K d12 ["first","row_at"] []:=z9a F12 fun _ _ _ _ _ _ _ _=>rfl;obtain⟨d13,F13,m13,k13⟩:=h13.go X G;have b13:z0i K d13 ["first","row_at"] []:=z9a F13 fun _ _ _ _ _ _ _ _=>rfl;have F14:=z6B (st:=z4A) l14 c14 k14;have b14:=F14.binds (ps:=["letters","rows"]) fun _ _ _ _ _ _ us hl=>by obtain⟨a0,a1,rfl⟩:=zgh hl;rfl
 have m14:=y0F X G a14;obtain⟨d15,F15,m15,k15⟩:=h15.go X G;have b15:z0i K d15 ["name","going"] []:=z9a F15 fun _ _ _ _ _ _ _ _=>rfl;obtain⟨d16,F16,m16,k16⟩:=h16.go X G;have b16:z0i K d16 ["rows","guises","place"] []:=ze1 F16 fun _ _ _ _ _ _ _ _ _=>rfl;have F17:=z6B (st:=z46) l17 c17 k17;have b17:=F17.binds (ps:=["rows","guises"]) fun _ _ _ _ _ _ us hl=>by obtain⟨a0,a1,rfl⟩:=zgh hl;rfl
 have m17:=y0F X G a17;obtain⟨d18,F18,m18,k18⟩:=h18.go X G;have b18:z0i K d18 ["rows"] []:=zcq F18 fun _ _ _ _ _ _ _=>rfl;obtain⟨d19,F19,m19,k19⟩:=h19.go X G;have b19:z0i K d19 ["letters","rows"] []:=z9a F19 fun _ _ _ _ _ _ _ _=>rfl;obtain⟨d20,F20,M20⟩:=h20.go;have b20:z0i K d20 ["self","letters"] []:=z9a F20 fun _ _ _ _ _ _ _ _=>rfl;obtain⟨d21,F21,M21⟩:=h21.go;have b21:z0i K d21 ["self","kind","name"] []:=ze1 F21 fun _ _ _ _ _ _ _ _ _=>rfl;obtain⟨d22,F22,M22⟩:=h22.go;have b22:z0i K d22 ["self","key","thing"] []:=ze1 F22 fun _ _ _ _ _ _ _ _ _=>rfl;obtain⟨d23,F23,M23⟩:=h23.go;have b23:z0i K d23 ["self","kind","thing","deed"] []:=zmW F23 fun _ _ _ _ _ _ _ _ _ _=>rfl;obtain⟨d24,F24,M24⟩:=h24.go;have b24:z0i K d24 ["self","name","rows"] []:=ze1 F24 fun _ _ _ _ _ _ _ _ _=>rfl;obtain⟨d25,F25,m25,k25⟩:=h25.go X G;have b25:z0i K d25 ["_law_script","_law_at"] []:=z9a F25 fun _ _ _ _ _ _ _ _=>rfl;obtain⟨d26,F26,m26,k26⟩:=h26.go X G;have b26:z0i K d26 ["_law_script","_law_at"] []:=z9a F26 fun _ _ _ _ _ _ _ _=>rfl;obtain⟨d27,F27,m27,k27⟩:=h27.go X G;have b27:z0i K d27 ["_law_cell_here","_law_many"] []:=z9a F27 fun _ _ _ _ _ _ _ _=>rfl;obtain⟨d28,F28,m28,k28⟩:=h28.go X G;have b28:z0i K d28 ["_law_pick","_law_letters_here"] []:=z9a F28 fun _ _ _ _ _ _ _ _=>rfl;obtain⟨d29,F29,m29,k29⟩:=h29.go X G;have b29:z0i K d29 ["_law_letters_here","_law_cell_here"] []:=z9a F29 fun _ _ _ _ _ _ _ _=>rfl;obtain⟨d30,F30,m30,k30⟩:=h30.go X G;have b30:z0i K d30 ["_law_letters_here","_law_rows_here","_law_way","_law_cell_here"] []:=zmW F30 fun _ _ _ _ _ _ _ _ _ _=>rfl;obtain⟨d31,F31,m31,k31⟩:=h31.go X G;have b31:z0i K d31 ["_law_letters_here","_law_rows_here","_law_most"] []:=ze1 F31 fun _ _ _ _ _ _ _ _ _=>rfl;obtain⟨d32,F32,m32,k32⟩:=h32.go X G;have b32:z0i K d32 ["_law_letters_here","_law_rows_here","_law_door"] []:=ze1 F32 fun _ _ _ _ _ _ _ _ _=>rfl;have F33:=z6B (st:=za6) l33 c33 k33;have m33:=y0F X G a33;have mTooMany:=y0F X G yTooMany;have mBadMachine:=y0F X G yBadMachine;have mBadBreadth:=y0F X G yBadBreadth;have mBadName:=y0F X G yBadName;have mTaken:=y0F X G yTaken;have mGuiseError:=y0F X G yGuiseError;have j1:=y0F X G i1;have j2:=y0F X G i2;have j3:=y0F X G i3;have j4:=y0F X G i4;have j5:=y0F X G i5;have j6:=y0F X G i6;have j7:=y0F X G i7;have j8:=y0F X G i8;have j9:=y0F X G i9;have m_DEEDS:=y0F X G gDEEDS;have m_WRITERS:=y0F X G gWRITERS;have n_len:=y0M X G z1;have n_tuple:=y0M X G z2;have n_list:=y0M X G z3;have n_range:=y0M X G z4;have n_isinstance:=y0M X G z5;have n_int:=y0M X G z6;have n_bool:=y0M X G z7;have n_str:=y0M X G z8;have n_all:=y0M X G z9;have n_any:=y0M X G z10;have n_sorted:=y0M X G z11;have n_zip:=y0M X G z12;have n_max:=y0M X G z13;have n_min:=y0M X G z14;have B:Blt mg:=⟨n_len,n_tuple,n_list,n_range,n_isinstance,n_int,n_bool,n_str,n_all⟩;have T:TxH K mg C:=⟨⟨pg,hd,po,sa⟩,at1,at2,at3,at4,y0F X G aC⟩;refine⟨PySem.W.fnOf "law" "law" (z1k za6) (z0E za6) (z05 za6) .none kV33 dc33 pm33 an33 cd33 ct33,fun s v=>.of_eq rfl,?_,fun base hK _ hBM=>?_⟩
 .simp only[zar,List.forall_mem_cons];exact⟨⟨u14,cc14,t14⟩,⟨u17,cc17,t17⟩,fun _ h=>absurd h (by simp)⟩
 have O1:z0u l.prog w K mg base (CXx l.prog w) 1 f1 _ ["text"] z5K:=z9f B.len B.all j4 j3 F1;have O2:z0u l.prog w K mg base (CXx l.prog w) 1 f2 _ ["part"] z22:=z8J B.str F2;have O3:z0u l.prog w K mg base (CXx l.prog w) 1 f3 _ ["word"] (z3z K):=zaI B.len B.str j5 F3;have O4:z0u l.prog w K mg base (CXx l.prog w) 2 f4 _ ["row"] (zai K):=zcy F4 O3 b3 k3 m3 O2 b2 k2 m2;have O5:z0u l.prog w K mg base (CXx l.prog w) 3 f5 _ ["rows"] (z5G K):=zb5 F5 O4 b4 k4 m4;have O6:z0u l.prog w K mg base (CXx l.prog w) 7 f6 _ ["deed"] (z7k K):=zco n_zip m_DEEDS wDEEDS (z8w qDEEDS) m_WRITERS wWRITERS (zfP ⟨_,_,_,qWRITERS_name,O2.mono (by decide),b2,k2⟩ ⟨_,_,_,qWRITERS_number,O2.mono (by decide),b2,k2⟩ ⟨_,_,_,qWRITERS_word,O3.mono (by decide),b3,k3⟩ ⟨_,_,_,qWRITERS_ring,O3.mono (by decide),b3,k3⟩ ⟨_,_,_,qWRITERS_rows,O5.mono (by decide),b5,k5⟩) F6;have O7:z0u l.prog w K mg base (CXx l.prog w) 1 f7 _ ["letters","numbers"] (z5m K):=z9w F7 n_sorted B.lst B.rng;have O8:z0u l.prog w K mg base (CXx l.prog w) 2 f8 _ ["letters","rows","most"] (z40 K CtBadMachine):=z9h mBadMachine xBadMachine y10 B.len n_any F8 O7 b7 k7 m7;have O9:z0u l.prog w K mg base (CXx l.prog w) 1 f9 _ ["things"] (z3w K):=z7b F9 B.len;have O10:z0u l.prog w K mg base (CXx l.prog w) 1 f10 _ ["kinds","goings"] (z7S K):=zdx F10 B.tup;have O11:z0u l.prog w K mg base (CXx l.prog w) 2 f11 _ ["rows"] (z5H K CtTooMany):=z9d mTooMany xTooMany y10 F11 n_zip n_max j2 O9 b9 k9 m9 O10 b10 k10 m10;have O12F:z0u l.prog w K mg base (CXx l.prog w) 5 f12 _ ["first","row_at"] (z7o l.prog w K mg base (CXx l.prog w) 4):=zcL F12 B.len B.tup;have O12T:z0u l.prog w K mg base (CXx l.prog w) 5 f12 _ ["first","row_at"] (z7x l.prog w K mg base (CXx l.prog w) 4):=zbO F12 B.len B.tup;have O13F:z0u l.prog w K mg base (CXx l.prog w) 6 f13 _ ["first","row_at"] (z5q l.prog w K mg base (CXx l.prog w) 4 CtTooMany):=((z6C F13 B.len B.tup n_zip (O12F.sub zfH) b12 k12 m12 (O11.mono (by decide)) b11 k11 m11 (O10.mono (by decide)) b10 k10 m10).sub zdu);have O13T:z0u l.prog w K mg base (CXx l.prog w) 6 f13 _ ["first","row_at"] (z5z l.prog w K mg base (CXx l.prog w) 4 CtTooMany):=((z6C F13 B.len B.tup n_zip (O12T.sub zg6) b12 k12 m12 (O11.mono (by decide)) b11 k11 m11 (O10.mono (by decide)) b10 k10 m10).sub zdY);have O14:z0u l.prog w K mg base (CXx l.prog w) 7 f14 _ ["letters","rows"] (z73 (zar P14 P17) K CtBadMachine):=zcn j1 F14 rfl (PySem.W.codeHd_of_K hK t14) hBM y0z (z9i nP y0z) rfl rfl (O8.mono (by decide)) b8 k8 m8 O13F b13 k13 m13;have O15:z0u l.prog w K mg base (CXx l.prog w) 1 f15 _ ["name","going"] (z5r K):=za1 B F15;have O16:z0u l.prog w K mg base (CXx l.prog w) 2 f16 _ ["rows","guises","place"] (z7q K):=zcD B.tup F16 O15 b15 k15 m15;have O17:z0u l.prog w K mg base (CXx l.prog w) 7 f17 _ ["rows","guises"] (z9M (zar P14 P17) K CtTooMany):=zdy F17 rfl (PySem.W.codeHd_of_K hK t17) hBM (y0f _ y0z) (z9i nP (y0f _ y0z)) rfl rfl (O16.mono (by decide)) b16 k16 m16 O13T b13 k13 m13;have O18:z0u l.prog w K mg base (CXx l.prog w) 1 f18 _ ["rows"] (z5W K):=zaf B F18;have O19:z0u l.prog w K mg base (CXx l.prog w) 3 f19 _ ["letters","rows"] (z5X K CtBadMachine):=z9g B B.tup j6 F19 O8 b8 k8 m8;have O20:z0u l.prog w K mg base (CXx l.prog w) 1 f20 _ ["self","letters"] (z7e C CtBadBreadth):=zaR mBadBreadth xBadBreadth y10 j7 j8 F20 T;have O21:z0u l.prog w K mg base (CXx l.prog w) 2 f21 _ ["self","kind","name"] (z3t C CtBadName CtTaken):=z8y mBadName xBadName y10 mTaken xTaken y10 T F21 O1 b1 k1 m1;have O22:z0u l.prog w K mg base (CXx l.prog w) 1 f22 _ ["self","key","thing"] (ze9 C):=zdw T F22;have O23:z0u l.prog w K mg base (CXx l.prog w) 8 f23 _ ["self","kind","thing","deed"] (z9k K C):=zcd T F23 O6 b6 k6 m6 O22 b22 M22;have O24:z0u l.prog w K mg base (CXx l.prog w) 9 f24 _ ["self","name","rows"] (z9s (zar P14 P17) K C CtBadMachine):=zep T F24 j9 O21 b21 M21 O19 b19 k19 m19 O18 b18 k18 m18 O17 b17 k17 m17 O23 b23 M23;have O25:z0u l.prog w K mg base (CXx l.prog w) 1 f25 _ ["_law_script","_law_at"] (z8g K):=zdK F25 B.len;have O26:z0u l.prog w K mg base (CXx l.prog w) 2 f26 _ ["_law_script","_law_at"] (z4s K):=z8C F26 O25 b25 k25 m25;have O27:z0u l.prog w K mg base (CXx l.prog w) 1 f27 _ ["_law_cell_here","_law_many"] (z4t K):=z8G F27 B.len;have O28:z0u l.prog w K mg base (CXx l.prog w) 1 f28 _ ["_law_pick","_law_letters_here"] (zaA K):=zer F28 B.len B.tup B.rng B.lst;have O29:z0u l.prog w K mg base (CXx l.prog w) 2 f29 _ ["_law_letters_here","_law_cell_here"] (zaY K):=zdP F29 B.rng B.tup n_min O27 b27 k27 m27 O28 b28 k28 m28;have O30:z0u l.prog w K mg base (CXx l.prog w) 1 f30 _ ["_law_letters_here","_law_rows_here","_law_way","_law_cell_here"] (z4v K):=z8H F30 B.len B.lst B.tup B.rng;have O31:z0u l.prog w K mg base (CXx l.prog w) 1 f31 _ ["_law_letters_here","_law_rows_here","_law_most"] (zbb K):=zef F31 B.len n_sorted B.lst B.rng n_min n_max;have O32:z0u l.prog w K mg base (CXx l.prog w) 10 f32 _ ["_law_letters_here","_law_rows_here","_law_door"] (z7z (zar P14 P17) K):=zck mBadMachine xBadMachine y10.hasBase mGuiseError xGuiseError y10.hasBase vGuiseErrorBadMachine F32 T (y0F X G aC) ⟨mk,M20.at_,M20.fn,kc⟩ O20 b20 O24 b24 M24 O14 b14 k14 m14;exact zfd F33 B.lst B.rng (O26.mono (by decide)) b26 k26 m26 (O25.mono (by decide)) b25 k25 m25 (O29.mono (by decide)) b29 k29 m29 (O30.mono (by decide)) b30 k30 m30 (O31.mono (by decide)) b31 k31 m31 O32 b32 k32 m32
def walk{l:PySem.W.OpenLaw}{q:Program}{loose:List Str}{XP:(yyS)->Heap->Prop}{YP:World->Heap->Prop}{d:DefRec}{K:Params->yyF}{P14 P17:Addr}(hn:l.most=some 63)(hdf:d.params.defaults=[])(hY:∀(w:World) (h:Heap),YP w h->(K w.params).In h/\∀P∈([P14,P17]:List Addr),h.get? P=some (PySem.W.tabObj #[]))(F:∀(w:World) (mg:yyS) (fa:Addr) (h:Heap),(K w.params).In h->h.Ns mainGlobals mg->mg d.name=some (.ref fa) -> ∃fd:FuncData,(∀(s:Shared) (u:Value),BindsTo s fd ⟨[u],[]⟩ [("_law_script",u)])/\(∀T∈(zar P14 P17),(K w.params).lookup T.at_=none/\∃c,PySem.W.codeHdIn (K w.params) c T.at_=true)/\∀base:Heap,(K w.params).In base->base.Ns mainGlobals mg->z4L base mg->z0u l.prog w (K w.params) mg base (CXx l.prog w) 11 fa fd ["_law_script"] (z87 (zar P14 P17) (K w.params))) : PySem.W.WalkO q loose XP YP l.row.toRowW d [] (fun f vs=>PySem.call f vs) :=
 L2.walk_of2 (Ts:=(zar P14 P17)) (n:=63) (k:=11) (x:="_law_script") (CX:=fun w=>(CXx l.prog w)) (sp:=fun w=>z87 (zar P14 P17) (K w.params)) hn (by decide) hdf ⟨rfl,by decide,by decide⟩ hY F (fun _ _ a ns hl hT hS=>⟨a,ns,rfl,hS,hl,hT,fun _=>rfl⟩) fun _ _ _ _ _ z=>(by obtain⟨_,_,_,_,_,_,_,_,_,h⟩:=z;exact h)
end Gu
open PySem.W PyProof.Rows
set_option maxRecDepth 100000 in
set_option maxHeartbeats 0 in
theorem PySem.Challenge.cw_guisery_k04_machines_refused_holds : PySem.Challenge.rw_guisery_k04_machines_refused.Holds := by
 w_on;o_law;refine holds_open (q:=Gu.viewOf Gu.pY) (loose:=Gu.looseY) (Xt:=fun s=>xlAt (Gu.viewOf Gu.pY) [] s&&recOk (RowW.records Gu.rY.toRowW) s) (XP:=XL (Gu.viewOf Gu.pY) []) (Yf:=Hook.obs Gu.HK) (Ya:=Hook.val Gu.HK) (YP:=Hook.says (PySem.W.kmHook Gu.KH Gu.KA (fun _=>by kernel_rfl) [194,461])) (N:=12180) Gu.left (Hook.of Gu.HK) (Hook.keeps Gu.HK) (fun s e=>xl_of s (Bool.and_eq_true_iff.mp e).1) XL.keeps (by rfl) (by rfl) (by rfl) (fun s e=>recFacts_of (Bool.and_eq_true_iff.mp e).2) (by rfl) (by first|assumption|decide +kernel) (by decide +kernel) ⟨rfl,rfl,rfl,rfl,rfl,by decide +kernel⟩ ?hw ?hc;(case hw=>w_witness2)
 k_fill
 refine Gu.walk (l:=PySem.Challenge.rw_guisery_k04_machines_refused) rfl rfl (fun w h Y=>⟨PySem.W.km_in_of Y,PySem.W.km_tabs_of Y⟩) ?F;case F =>
  intro w mg fa h KX G hmg;refine' Gu.all_mk (K:=Gu.KH w.params) KX G hmg ?aC ?pg ?hd ?po ?sa ?mk ?kc ?at1 ?at2 ?at3 ?at4 ?h1 ?h2 ?h3 ?h4 ?h5 ?h6 ?h7 ?h8 ?h9 ?h10 ?h11 ?h12 ?h13 ?a14 ?l14 ?c14 ?k14 ?h15 ?h16 ?a17 ?l17 ?c17 ?k17 ?h18 ?h19 ?h20 ?h21 ?h22 ?h23 ?h24 ?h25 ?h26 ?h27 ?h28 ?h29 ?h30 ?h31 ?h32 ?a33 ?l33 ?c33 ?k33 ?t14 ?u14 ?t17 ?u17 ?nP ?i1 ?i2 ?i3 ?i4 ?i5 ?i6 ?i7 ?i8 ?i9 ?gDEEDS ?wDEEDS ?qDEEDS ?gWRITERS ?wWRITERS ?qWRITERS_name ?qWRITERS_number ?qWRITERS_word ?qWRITERS_ring ?qWRITERS_rows ?z1 ?z2 ?z3 ?z4 ?z5 ?z6 ?z7 ?z8 ?z9 ?z10 ?z11 ?z12 ?z13 ?z14 ?yTooMany ?xTooMany ?yBadMachine ?xBadMachine ?yBadBreadth ?xBadBreadth ?yBadName ?xBadName ?yTaken ?xTaken ?yGuiseError ?xGuiseError ?vGuiseErrorBadMachine
  (case aC=>k_is)
  (case pg=>k_is)
  (case hd=>k_is)
  (case po=>k_is)
  (case sa=>k_is)
  (case mk=>k_is)
  (case kc=>k_is)
  (case at1=>k_is)
  (case at2=>k_is)
  (case at3=>k_is)
  (case at4=>k_is)
  (case h1=>(refine' Gu.FA.of ?_ ?_ ?_ ?_<;>try k_is))
  (case h2=>(refine' Gu.FA.of ?_ ?_ ?_ ?_<;>try k_is))
  (case h3=>(refine' Gu.FA.of ?_ ?_ ?_ ?_<;>try k_is))
  (case h4=>(refine' Gu.FA.of ?_ ?_ ?_ ?_<;>try k_is))
  (case h5=>(refine' Gu.FA.of ?_ ?_ ?_ ?_<;>try k_is))
  (case h6=>(refine' Gu.FA.of ?_ ?_ ?_ ?_<;>try k_is))
  (case h7=>(refine' Gu.FA.of ?_ ?_ ?_ ?_<;>try k_is))
  (case h8=>(refine' Gu.FA.of ?_ ?_ ?_ ?_<;>try k_is))
  (case h9=>(refine' Gu.FA.of ?_ ?_ ?_ ?_<;>try k_is))
  (case h10=>(refine' Gu.FA.of ?_ ?_ ?_ ?_<;>try k_is))
  (case h11=>(refine' Gu.FA.of ?_ ?_ ?_ ?_<;>try k_is))
  (case h12=>(refine' Gu.FA.of ?_ ?_ ?_ ?_<;>try k_is))
  (case h13=>(refine' Gu.FA.of ?_ ?_ ?_ ?_<;>try k_is))
  (case a14=>k_is)
  (case l14=>k_is)
  (case c14=>k_is)
  (case k14=>k_is)
  (case h15=>(refine' Gu.FA.of ?_ ?_ ?_ ?_<;>try k_is))
  (case h16=>(refine' Gu.FA.of ?_ ?_ ?_ ?_<;>try k_is))
  (case a17=>k_is)
  (case l17=>k_is)
  (case c17=>k_is)
  (case k17=>k_is)
  (case h18=>(refine' Gu.FA.of ?_ ?_ ?_ ?_<;>try k_is))
  (case h19=>(refine' Gu.FA.of ?_ ?_ ?_ ?_<;>try k_is))
  (case h20=>(refine' Gu.MA.of ?_ ?_ ?_ ?_ ?_<;>try k_is))
  (case h21=>(refine' Gu.MA.of ?_ ?_ ?_ ?_ ?_<;>try k_is))
  (case h22=>(refine' Gu.MA.of ?_ ?_ ?_ ?_ ?_<;>try k_is))
  (case h23=>(refine' Gu.MA.of ?_ ?_ ?_ ?_ ?_<;>try k_is))
  (case h24=>(refine' Gu.MA.of ?_ ?_ ?_ ?_ ?_<;>try k_is))
  (case h25=>(refine' Gu.FA.of ?_ ?_ ?_ ?_<;>try k_is))
  (case h26=>(refine' Gu.FA.of ?_ ?_ ?_ ?_<;>try k_is))
  (case h27=>(refine' Gu.FA.of ?_ ?_ ?_ ?_<;>try k_is))
  (case h28=>(refine' Gu.FA.of ?_ ?_ ?_ ?_<;>try k_is))
  (case h29=>(refine' Gu.FA.of ?_ ?_ ?_ ?_<;>try k_is))
  (case h30=>(refine' Gu.FA.of ?_ ?_ ?_ ?_<;>try k_is))
  (case h31=>(refine' Gu.FA.of ?_ ?_ ?_ ?_<;>try k_is))
  (case h32=>(refine' Gu.FA.of ?_ ?_ ?_ ?_<;>try k_is))
  (case a33=>k_is)
  (case l33=>k_is)
  (case c33=>k_is)
  (case k33=>k_is)
  (case t14=>(first|kernel_rfl|k_is))
  (case u14=>(first|kernel_rfl|k_is))
  (case t17=>(first|kernel_rfl|k_is))
  (case u17=>(first|kernel_rfl|k_is))
  (case nP=>decide)
  (case i1=>k_is)
  (case i2=>k_is)
  (case i3=>k_is)
  (case i4=>k_is)
  (case i5=>k_is)
  (case i6=>k_is)
  (case i7=>k_is)
  (case i8=>k_is)
  (case i9=>k_is)
  (case gDEEDS=>k_is)
  (case wDEEDS=>(first|kernel_rfl|k_is|decide))
  (case qDEEDS=>(first|kernel_rfl|k_is|decide))
  (case gWRITERS=>k_is)
  (case wWRITERS=>(first|kernel_rfl|k_is|decide))
  (case qWRITERS_name=>(first|k_is|kernel_rfl|rfl))
  (case qWRITERS_number=>(first|k_is|kernel_rfl|rfl))
  (case qWRITERS_word=>(first|k_is|kernel_rfl|rfl))
  (case qWRITERS_ring=>(first|k_is|kernel_rfl|rfl))
  (case qWRITERS_rows=>(first|k_is|kernel_rfl|rfl))
  (case z1=>k_is)
  (case z2=>k_is)
  (case z3=>k_is)
  (case z4=>k_is)
  (case z5=>k_is)
  (case z6=>k_is)
  (case z7=>k_is)
  (case z8=>k_is)
  (case z9=>k_is)
  (case z10=>k_is)
  (case z11=>k_is)
  (case z12=>k_is)
  (case z13=>k_is)
  (case z14=>k_is)
  (case yTooMany=>k_is)
  (case xTooMany=>k_exc)
  (case yBadMachine=>k_is)
  (case xBadMachine=>k_exc)
  (case yBadBreadth=>k_is)
  (case xBadBreadth=>k_exc)
  (case yBadName=>k_is)
  (case xBadName=>k_exc)
  (case yTaken=>k_is)
  (case xTaken=>k_exc)
  (case yGuiseError=>k_is)
  (case xGuiseError=>k_exc)
  (case vGuiseErrorBadMachine=>(first|kernel_rfl|k_is|decide))
