import PyProof.Rows.All
import Wide.All
import OpenK.AllK
import Wide.FinOn
import Lean
import PyProof.EqAt
import PyProof.EqKinds
import PyProof.TupleCall
import PyProof.ListRange
import PyProof.TupleOfSeq
import PyProof.ConsumeWalk
import PyProof.WalksMore
import PyProof.Draws
import PyProof.EnumMake
import PyProof.ZipIter
import PyProof.Rows.EnumRows
import PyProof.Rows.FactsT2
import PyProof.MeetsSeq3
import PyProof.DictRoadsH
import PyProof.Rows.TupTab
import PyProof.Rows.SortWalk
import PyProof.Rows.SeqCalls
import PyProof.ListMulRoad
import KE.KDictLaws
import OpenK.KRaise
import KE.KLam
import KE.KNestM
import PyProof.Rows.SortRuns
import PyProof.Rows.SetFrom
import KE.KDictList
import PyProof.IsRules
import PyProof.DictCompW
import KE.KSortKey
import KE.KSortTup
import PySem.Challenge.RW_guisery_k27_crews_told
set_option Elab.async false
set_option linter.all false
set_option maxRecDepth 100000
set_option maxHeartbeats 4000000
def y00:=@List.getElem?_eq_getElem
def y01:=@List.length_map
def y02:=@PySem.wpAny_bind
def y03:=@Array.getElem?_eq_getElem
def y04:=@List.getElem?_map
def y05:=@PySem.Heap.get?_push_of_some
def y06:=@Bool.false_eq_true
def y07:=@List.getD_eq_getElem?_getD
def y08:=@PySem.wpAny_pure
def y09:=@List.length_append
def y0a:=@List.getElem?_eq_some_iff
def y0b:=@Option.some.inj
def y0c:=@List.mem_singleton
def y0d:=@Nat.le_refl
def y0e:=@List.mem_cons_of_mem
def y0f:=@List.mem_map
def y0g:=@List.mem_append
def y0h:=@PySem.Heap.get?_push_size
def y0i:=@List.map_append
def y0j:=@PySem.Heap.lt_size
def y0k:=@List.map_cons
def y0l:=@List.getElem_mem
def y0m:=@List.mem_append_left
def y0n:=@PyProof.Rows.wpS_bind
def y0o:=@Array.getElem?_toList
def y0p:=@List.mem_cons_self
def y0q:=@List.append_assoc
def y0r:=@List.size_toArray
def y0s:=@Array.length_toList
def y0t:=@Nat.lt_of_lt_of_le
def y0u:=@List.mem_cons
def y0v:=@PyProof.Rows.wpS_pure
def y0w:=@List.length_take
def y0x:=@List.take_of_length_le
def y0y:=@Nat.ne_of_lt
def y0z:=@List.mem_append_right
def y0A:=@List.getElem?_eq_none
def y0B:=@Nat.zero_le
def y0C:=@Bool.false_ne_true
def y0D:=@List.mem_of_getElem?
def y0E:=@List.mem_iff_getElem
def y0F:=@PySem.boot_len
def y0G:=@List.take_add_one
def y0H:=@List.length_cons
def y0I:=@List.map_map
def y0J:=@PySem.F.plainAttrs_list
def y0K:=@PyProof.Rows.boot_tuple
def y0L:=@List.map_congr_left
def y0M:=@List.pairwise_append
def y0N:=@PySem.W.mg_none_of
def y0O:=@List.take_append_drop
def y0P:=@List.idxOf_lt_length_of_mem
def y0Q:=@PySem.Heap.SameBut.update
def y0R:=@Array.toList_push
def y0S:=@Nat.le_trans
def y0T:=@List.map_nil
def y0U:=@List.mem_of_mem_take
def y0V:=@List.getElem?_zip_eq_some
def y0W:=@if_false
def y0X:=@PySem.F.slot_list_append
def y0Y:=@PySem.F.type_list_append
def y0Z:=@List.getElem?_append_right
def y10:=@Nat.lt_or_ge
def y11:=@PySem.wpAny_newObj_type
def y12:=@PySem.mem_of_lookup
def y13:=@Array.toList_append
def y14:=@List.mem_range
def y15:=@List.lookup_cons
def y16:=@List.getElem?_append_left
def y17:=@List.drop_eq_getElem_cons
def y18:=@List.pairwise_iff_getElem
def y19:=@List.getElem_map
def y1a:=@List.nodup_cons
def y1b:=@Int.toNat_natCast
def y1c:=@of_decide_eq_true
def y1d:=@Array.getD_eq_getD_getElem?
def y1e:=@PySem.PassesOwn.never
def y1f:=@PySem.Heap.get?_update_self
def y1g:=@Array.getElem?_eq_some_iff
def y1h:=@PySem.W.kia_one
def y1i:=@List.eq_nil_of_length_eq_zero
def y1j:=@List.take_length
def y1k:=@Nat.le_of_lt
def y1l:=@PySem.Around.under_plainId
def y1m:=@PyProof.Rows.wpS_forRange
def y1n:=@List.drop_of_length_le
def y1o:=@congrArg
def y1p:=@Int.emod_lt_of_pos
def y1q:=@PySem.Obj.data_mapFields
def y1r:=@List.nil_append
def y1s:=@PySem.wpAny_call_entry
def y1t:=@PySem.wpAny_holding
def y1u:=@List.flatten_cons
def y1v:=@PySem.wpAny_setState_of
def y1w:=@List.reverse_reverse
def y1x:=@Option.map_eq_some_iff
def y1y:=@Array.getElem?_eq_none
def y1z:=@decide_eq_false
def y1A:=@decide_eq_true
def y1B:=@Classical.byContradiction
def y1C:=@PySem.wpAny_mono
def y1D:=@List.take_sublist
def y1E:=@List.pairwise_map
def y1F:=@Bool.eq_false_iff
def y1G:=@Nat.zero_add
def y1H:=@List.ext_getElem?
def y1I:=@List.Perm.append_left
def y1J:=@List.perm_append_comm
def y1K:=@List.length_range
def y1L:=@List.append_nil
def y1M:=@PySem.codeAny_builtin
def y1N:=@Int.emod_nonneg
def y1O:=@Bool.not_true
def y1P:=@PySem.wpAny_callSpecial?_slot
def y1Q:=@List.getElem_idxOf
def y1R:=@of_decide_eq_false
def y1S:=@List.nodup_iff_pairwise_ne
def y1T:=@PySem.wpAny_truthy_bool
def y1U:=@List.reverse_cons
def y1V:=@List.replicate_succ
def y1W:=@List.getElem_take
def y1X:=@List.getElem?_eq_none_iff
def y1Y:=@List.foldl_cons
def y1Z:=@Array.size_push
def y20:=@List.mem_filterMap
def y21:=@List.getElem?_take_of_lt
def y22:=@if_true
def y23:=@PySem.W.hideAll_none
def y24:=@List.mem_of_mem_drop
def y25:=@List.getElem?_of_mem
def y26:=@List.pairwise_singleton
def y27:=@List.find?_cons
def y28:=@List.idxOf_cons
def y29:=@List.length_pos_of_mem
def y2a:=@List.Perm.append_right
def y2b:=@PyProof.Rows.boot_list
def y2c:=@True.intro
def y2d:=@List.ext_getElem
def y2e:=@Nat.lt_irrefl
def y2f:=@PySem.wpAny_Call_Name_kw
def y2g:=@PySem.Obj.isFreed_of_fields
def y2h:=@PySem.Heap.size_push
def y2i:=@Int.le_refl
def y2j:=@List.extract_eq_take_drop
def y2k:=@PySem.wpAny_setField
def y2l:=@PyProof.Rows.wpS_mono
def y2m:=@PySem.wpAny_passesOwn
def y2n:=@PySem.F.plain_list_iadd
def y2o:=@List.foldl_append
def y2p:=@List.length_zip
def y2q:=@PySem.wpAny_ite_split
def y2r:=@PySem.codeAny_mono
def y2s:=@List.filterMap_cons
def y2t:=@List.getElem_of_mem
def y2u:=@Nat.add_sub_cancel_left
def y2v:=@PySem.wpAny_setEntries_of
def y2w:=@List.cons_append
def y2x:=@PySem.wpAny_forIn_list
def y2y:=@List.take_append_of_le_length
def y2z:=@PySem.wpAny_typeNameOfWhole_keyiter
def y2A:=@List.nodup_nil
def y2B:=@PySem.Heap.get?_update_other
def y2C:=@PySem.SetTable.insertAt_perm
def y2D:=@Array.toList_filterMap
def y2E:=@Array.forIn_toList
def y2F:=@List.getElem?_drop
def y2G:=@Array.getElem?_setIfInBounds
def y2H:=@PySem.F.slot_dict_keyiterator_next
def y2I:=@PyProof.Rows.callWith_type1
def y2J:=@Bool.eq_iff_iff
def y2K:=@List.length_replicate
def y2L:=@PySem.wpAny_specialOf
def y2M:=@PySem.F.called_set
def y2N:=@List.Pairwise.nil
def y2O:=@PySem.plainId_quiet
def y2P:=@Nat.add_assoc
def y2Q:=@PySem.F.slot_tuple_hash
def y2R:=@PySem.wpAny_rule
def y2S:=@List.nodup_append
def y2T:=@List.drop_sublist
def y2U:=@PySem.wpAny_attempt
def y2V:=@PyProof.Rows.listUpdate_at
def y2W:=@PySem.W.mg_of
def y2X:=@List.length_eraseIdx_of_lt
def y2Y:=@Ne.symm
def y2Z:=@Array.toList_extract
def y30:=@PySem.wpAny_isInstance
def y31:=@Prod.ext
def y32:=@Nat.add_eq_zero_iff
def y33:=@Nat.ne_of_gt
def y34:=@Option.isSome_iff_exists
def y35:=@Nat.add_zero
def y36:=@List.length_erase_of_mem
def y37:=@List.Pairwise.imp_of_mem
def y38:=@PySem.wpAny_typeNameOf_keyiter
def y39:=@PySem.Calls.spliced_cons
def y3a:=@List.length_nil
def y3b:=@Nat.min_eq_left
def y3c:=@Nat.eq_zero_or_pos
def y3d:=@List.cons.injEq
def y3e:=@PyProof.Rows.F.plain_set_update_loop
def y3f:=@PySem.Calls.callWith_builtin
def y3g:=@PyProof.Rows.boot_bool
def y3h:=@Option.isSome_map
def y3i:=@beq_iff_eq
def y3j:=@Nat.lt_succ_of_lt
def y3k:=@decide_eq_true_eq
def y3l:=@List.getElem_drop
def y3m:=@PySem.Obj.cls_mapFields
def y3n:=@bne_self_eq_false
def y3o:=@Nat.le_of_lt_succ
def y3p:=@PySem.PassesOwn.leaving
def y3q:=@PySem.wpAny_seqItems
def y3r:=@Bool.not_false
def y3s:=@PySem.wpAny_fieldsOf
def y3t:=@List.length_singleton
def y3u:=@PySem.F.entry_proto_collect
def y3v:=@PySem.F.plain_proto_collect
def y3w:=@List.singleton_append
def y3x:=@List.length_drop
def y3y:=@beq_self_eq_true
def y3z:=@Bool.and_eq_true
def y3A:=@List.all_eq_true
def y3B:=@List.not_mem_nil
def y3C:=@PySem.Heap.get?_none_of_le
def y3D:=@Array.mem_toList_iff
def y3E:=@PySem.Calls.evalArgs_plain
def y3F:=@Array.toList_reverse
def y3G:=@PySem.Paired.length
def y3H:=@Nat.mod_lt
def y3I:=@PySem.wpAny_execs_nil
def y3J:=@PySem.sizeLine_eq
def y3K:=@List.of_mem_zip
def y3L:=@Nat.one_ne_zero
def y3M:=@Option.map_some
def y3N:=@Nat.sub_self
def y3O:=@PySem.call_meets
def y3P:=@PyProof.Rows.wpS_modify
def y3Q:=@Nat.not_lt
def y3R:=@PyProof.Rows.wpS_get
abbrev yyF:=PySem.W.Frag
abbrev yyP:=List (PySem.Addr × PySem.Obj)
abbrev yyE:=PySem.Value->PySem.Shared->Prop
abbrev yyS:=PySem.Str->Option PySem.Value
namespace L2
open PySem PySem.Spec PyProof.Rows
abbrev Key:=Sum Int Str
def z9x:Key->Value->Bool
 |.inl k,v=>Value.isInt k v
 |.inr x,v=>Value.isStrOf x v
def zh9(w:World):Key->Int
 |.inl k=>hashInt k
 |.inr x=>hashStr w x
def z0R:∀{k:Key}{v:Value},z9x k v=true->(∃i t,k=Sum.inl i/\v=Value.int i t)\/(∃x t,k=Sum.inr x/\v=Value.str x t)
 |.inl i,v,h=>by
  obtain⟨t,e⟩:=Value.isInt_shape (k:=i) (v:=v) h;exact .inl ⟨i,t,rfl,e⟩
 |.inr x,v,h=>by obtain⟨t,e⟩:=Value.isStrOf_shape (x:=x) (v:=v) h;exact .inr ⟨x,t,rfl,e⟩
def zay(i:Int)(t:Tok):z9x (.inl i) (.int i t)=true:=by simp[z9x,Value.isInt]
def z9M(x:Str)(t:Tok):z9x (.inr x) (.str x t)=true:=by simp[z9x,Value.isStrOf]
def zev(a b:Int):decide ((Sum.inl a:Key)=Sum.inl b)=(a==b):=by
 by_cases e:a=b
 .subst e;simp
 .have h:¬(Sum.inl a:Key)=Sum.inl b:=fun q=>e (Sum.inl.inj q);rw[y1z h];exact(beq_eq_false_iff_ne.mpr e).symm
def zeI(a b:Str):decide ((Sum.inr a:Key)=Sum.inr b)=decide (a=b):=by
 by_cases e:a=b
 .subst e;simp
 .have h:¬(Sum.inr a:Key)=Sum.inr b:=fun q=>e (Sum.inr.inj q);rw[y1z h,y1z e]
def zeX(a:Int)(b:Str):decide ((Sum.inl a:Key)=Sum.inr b)=false:=y1z (fun q=>nomatch q)
def zey(a:Str)(b:Int):decide ((Sum.inr a:Key)=Sum.inl b)=false:=y1z (fun q=>nomatch q)
def z1g(prog:Program)(w:World):PySem.KeyKind prog w Key where
 is:=z9x
 hash:=zh9 w
 inj:=fun v a b ha hb=>by
  rcases z0R ha with⟨i,t,rfl,rfl⟩|⟨x,t,rfl,rfl⟩
  .rcases z0R hb with⟨j,u,rfl,e⟩|⟨y,u,rfl,e⟩
   .injection e with e1 _;rw[e1]
   .exact nomatch e
  .rcases z0R hb with⟨j,u,rfl,e⟩|⟨y,u,rfl,e⟩
   .exact nomatch e
   .injection e with e1 _;rw[e1]
 byValue:=fun k v h=>by rcases z0R h with⟨i,t,rfl,rfl⟩|⟨x,t,rfl,rfl⟩<;>rfl
 pyHash:=fun hv h=>by
  rcases z0R hv with⟨i,t,rfl,rfl⟩|⟨x,t,rfl,rfl⟩
  .exact wpAny_pyHash_int h
  .exact wpAny_pyHash_str h
 eqBool:=fun hu hv h=>by
  rcases z0R hu with⟨i,t,rfl,rfl⟩|⟨x,t,rfl,rfl⟩
  .rcases z0R hv with⟨j,u,rfl,rfl⟩|⟨y,u,rfl,rfl⟩
   .rw[zev]at h;exact wpAny_eqBool_int h
   .rw[zeX]at h;exact SeqAt.EqAt.int_str i t y u _ _ _ _ h
  .rcases z0R hv with⟨j,u,rfl,rfl⟩|⟨y,u,rfl,rfl⟩
   .rw[zey]at h;exact SeqAt.EqAt.str_int x t j u _ _ _ _ h
   .rw[zeI]at h;exact wpAny_eqBool_str h
 «strs»:=fun k x t v h=>by
  rcases z0R h with⟨i,u,rfl,e⟩|⟨y,u,rfl,e⟩
  .exact nomatch e
  .injection e with e1 _;subst e1;cases v<;>rfl
def z7T(prog:Program)(w:World)(i:Int)(t:Tok):(z1g prog w).is (.inl i) (.int i t)=true:=zay i t
def z7A(prog:Program)(w:World)(x:Str)(t:Tok):(z1g prog w).is (.inr x) (.str x t)=true:=z9M x t
inductive V where
 |non|bl (b:Bool)|int (i:Int)|str (x:Str)|byt (b:Array UInt8)|flt (b:UInt64)|ref (a:Addr)|ty (n:String)
 deriving DecidableEq
def z0N:V->Value->Prop
 |.non,u=>u=Value.none
 |.bl b,u=>u=Value.bool b
 |.int i,u=>∃t,u=Value.int i t
 |.str x,u=>∃t,u=Value.str x t
 |.byt b,u=>∃t,u=Value.bytes b t
 |.flt b,u=>∃t,u=Value.float b t
 |.ref a,u=>u=Value.ref a
 |.ty n,u=>u=Value.type n
abbrev z0O:List V->List Value->Prop:=Paired z0N
theorem z0O.length{xs:List V}{us:List Value}(r:z0O xs us):xs.length=us.length:=y3G r
theorem z0O.get:∀{xs:List V}{us:List Value}{i:Nat}{x:V},z0O xs us->xs[i]?=some x->∃u,us[i]?=some u/\z0N x u
 |_,_,_,_,.nil,e=>by simp at e
 |_,_,0,_,.cons r _,e=>by simp at e;subst e;exact⟨_,rfl,r⟩
 |_,_,i+1,x,.cons _ t,e=>by obtain⟨u,h1,h2⟩:=z0O.get (i:=i) (x:=x) t (by simpa using e);exact⟨u,by simpa using h1,h2⟩
theorem z0O.set{x:V}{u:Value}(r:z0N x u):∀{xs:List V}{us:List Value}(i:Nat),z0O xs us->z0O (xs.set i x) (us.set i u)
 |_,_,_,.nil=>.nil
 |_,_,0,.cons _ t=>.cons r t
 |_,_,i+1,.cons q t=>.cons q (z0O.set r i t)
theorem z0O.append:∀{xs ys:List V}{us ws:List Value},z0O xs us->z0O ys ws->z0O (xs++ys) (us++ws)
 |_,_,_,_,.nil,s=>s
 |_,_,_,_,.cons r t,s=>.cons r (z0O.append t s)
theorem z0O.take:∀{xs:List V}{us:List Value}(n:Nat),z0O xs us->z0O (xs.take n) (us.take n)
 |_,_,0,_=>.nil
 |_,_,_+1,.nil=>.nil
 |_,_,n+1,.cons r t=>.cons r (z0O.take n t)
theorem z0O.drop:∀{xs:List V}{us:List Value}(n:Nat),z0O xs us->z0O (xs.drop n) (us.drop n)
 |_,_,0,r=>r
 |_,_,_+1,.nil=>.nil
 |_,_,n+1,.cons _ t=>z0O.drop n t
def z7Z:Option V->Option Value->Prop
 |some v,some u=>z0N v u
 |none,none=>True
 |_,_=>False
def KV{κ:Type}:List (κ × V)->List (κ × Value)->Prop:=Paired fun(p:κ × V)(q:κ × Value)=>p.1=q.1/\z0N p.2 q.2
def kV:Key->V
 |.inl i=>.int i
 |.inr x=>.str x
inductive HO where
  |lst (xs:List V)
  |tup (xs:List V)
  |dK (kvs:List (Key × V))|dT (kvs:List (List Key × V))
  |set (S:Int->Bool) (n:Nat)
  |ins (C dx:Addr) (fs:List (Str × V))
  |own (x:Addr)
  |xd (fs:List (Str × V))
  |met (f x:Addr)
  |rng (lo hi:Int)
  |frz (o:Obj) (u:HO)
  |tbl (ps:Array Value)
  |ext (φ:Heap->Prop)
abbrev Hp:=Addr->Option HO
def upd(H:Hp)(a:Addr)(o:HO):Hp:=fun b=>if b=a then some o else H b
def z03{H:Hp}{a:Addr}{o:HO}:upd H a o a=some o:=by unfold upd;rw[if_pos rfl]
def z06{H:Hp}{a b:Addr}{o:HO}(h:b≠a):upd H a o b=H b:=by unfold upd;rw[if_neg h]
def z3r{H:Hp}{a b:Addr}{o u:HO}(h:H a=some o)(h':H b=some u)(d:o≠u):a≠b:=by intro e;subst e;rw[h]at h';exact d (y0b h')
def z0e{H:Hp}{a b:Addr}{o:HO}(h:H a=some o)(h':H b=none):a≠b:=by intro e;subst e;rw[h]at h';cases h'
section
variable(P:Program)(w:World)
def z19(H:Hp)(h:Heap)(a:Addr):HO->Prop
 |.lst xs=>xs.length<=sizeLine/\∃(its:List Value) (n:Nat),z0O xs its/\h.get? a=some { cls:=.type "list",data:=.seq its.toArray n }
 |.tup xs=>xs.length<=sizeLine/\∃(its:List Value) (n:Nat),z0O xs its/\h.get? a=some { cls:=.type "tuple",data:=.seq its.toArray n }
 |.dK kvs=>kvs.length<=sizeLine/\(a==sysModules)=false/\∃vs,KV kvs vs/\h.DictOf (z1g P w) a vs
 |.dT kvs=>kvs.length<=sizeLine/\(a==sysModules)=false/\∃xs:List (List Key × Addr × Value),
   Paired (fun(p:List Key × V)(q:List Key × Addr × Value)=>p.1=q.1/\H q.2.1=some (.tup (p.1.map kV))/\z0N p.2 q.2.2) kvs xs /\
   ∃o es ep,h.get? a=some o/\o.ExactDict/\o.data=.dict es ep/\es.toList=xs.map (entryOfKey (tupleKind (z1g P w)))/\(xs.map (·.1)).Nodup
 |.set S n=>h.SetOf (intKind P w) a S n
 |.ins C dx fs=>H dx=some (.own a)/\fs.length<=1000/\dx≠a/\h.get? a=some (PySem.W.instObj C dx) /\
   ∃mA,h.Ns1 dx mA/\(∀f,z7Z (fs.lookup f) (mA f))/\PySem.Within mA (fs.map (·.1))
 |.own _=>∃o,h.get? a=some o
 |.xd fs=>∃mA,h.Ns1 a mA/\∀f,z7Z (fs.lookup f) (mA f)
 |.rng lo hi=>∃t u v,h.get? a=some { cls:=.type "range",data:=.fields #[.int lo t,.int hi u,.int 1 v] }
 |.frz o u=>h.get? a=some o/\z19 H h a u
 |.tbl ps=>h.get? a=some { cls:=.none,data:=.fields ps }
 |.met f x=>h.get? a=some (PySem.W.methodObj (.ref f) (.ref x))
 |.ext φ=>φ h/\(∃o,h.get? a=some o)/\∀h1 h2:Heap,φ h1->(∀o,h1.get? a=some o->h2.get? a=some o)->φ h2
def HOk(H:Hp)(h:Heap):Prop:=∀a o,H a=some o->z19 P w H h a o
end
section
variable{P:Program}{w:World}{H H':Hp}{h h':Heap}{a:Addr}{o:HO}
def z19.lt(x:z19 P w H h a o):a<h.objs.size:=by
 cases o with
 |lst xs=>obtain⟨_,_,_,_,e⟩:=x;exact y0j e
 |tup xs=>obtain⟨_,_,_,_,e⟩:=x;exact y0j e
 |dK kvs=>obtain⟨_,_,_,_,o,_,_,e,_⟩:=x;exact y0j e
 |dT kvs=>obtain⟨_,_,_,_,o,_,_,e,_⟩:=x;exact y0j e
 |set S n=>obtain⟨o,_,_,_,e,_⟩:=x;exact y0j e
 |ins C dx fs=>obtain⟨_,_,_,e,_⟩:=x;exact y0j e
 |own y=>obtain⟨_,e⟩:=x;exact y0j e
 |xd fs=>obtain⟨_,⟨_,_,_,e,_⟩,_⟩:=x;exact y0j e
 |rng lo hi=>obtain⟨_,_,_,e⟩:=x;exact y0j e
 |frz ob u=>obtain⟨e,_⟩:=x;exact y0j e
 |tbl ps=>exact y0j (show h.get? a=some _ from x)
 |met f y=>exact y0j (show h.get? a=some _ from x)
 |ext φ=>obtain⟨_,⟨_,e⟩,_⟩:=x;exact y0j e
theorem Paired.mapP{α β:Type}{F G:α->β->Prop}:∀{l₁:List α}{l₂:List β},Paired F l₁ l₂->(∀a b,F a b->G a b)->Paired G l₁ l₂
 |_,_,.nil,_=>.nil
 |_,_,.cons r t,f=>.cons (f _ _ r) (Paired.mapP t f)
def z19.stay(x:z19 P w H h a o)(k:∀b u,(b=a\/H b=some (.own a))->h.get? b=some u->h'.get? b=some u)(ho:∀b,H b=some (.own a)->H' b=some (.own a))(ht:∀b xs,H b=some (.tup xs)->H' b=some (.tup xs)):z19 P w H' h' a o:=by
 induction o with
 |lst xs=>obtain⟨z,its,n,r,e⟩:=x;exact⟨z,its,n,r,k _ _ (.inl rfl) e⟩
 |tup xs=>obtain⟨z,its,n,r,e⟩:=x;exact⟨z,its,n,r,k _ _ (.inl rfl) e⟩
 |dK kvs=>obtain⟨z,y,vs,r,ob,es,ep,e,c⟩:=x;exact⟨z,y,vs,r,ob,es,ep,k _ _ (.inl rfl) e,c⟩
 |dT kvs =>
  obtain⟨z,y,xs,r,ob,es,ep,e,c⟩:=x;exact⟨z,y,xs,Paired.mapP r fun p q z=>⟨z.1,ht _ _ z.2.1,z.2.2⟩,ob,es,ep,k _ _ (.inl rfl) e,c⟩
 |set S n=>obtain⟨ob,es,ep,t,e,c⟩:=x;exact⟨ob,es,ep,t,k _ _ (.inl rfl) e,c⟩
 |ins C dx fs =>
  obtain⟨d,z,ne,e,mA,⟨od,es,ep,e2,c⟩,r⟩:=x;exact⟨ho _ d,z,ne,k _ _ (.inl rfl) e,mA,⟨od,es,ep,k _ _ (.inr d) e2,c⟩,r⟩
 |own y=>obtain⟨ob,e⟩:=x;exact⟨ob,k _ _ (.inl rfl) e⟩
 |xd fs=>obtain⟨mA,⟨od,es,ep,e,c⟩,r⟩:=x;exact⟨mA,⟨od,es,ep,k _ _ (.inl rfl) e,c⟩,r⟩
 |rng lo hi=>obtain⟨t,u,v,e⟩:=x;exact⟨t,u,v,k _ _ (.inl rfl) e⟩
 |frz ob u ih=>obtain⟨e,q⟩:=x;exact⟨k _ _ (.inl rfl) e,ih q⟩
 |tbl ps =>
  have e:h.get? a=some { cls:=.none,data:=.fields ps }:=x;show h'.get? a=some { cls:=.none,data:=.fields ps };exact k a _ (.inl rfl) e
 |met f y =>
  have e:h.get? a=some (PySem.W.methodObj (.ref f) (.ref y)):=x;show h'.get? a=some (PySem.W.methodObj (.ref f) (.ref y));exact k a _ (.inl rfl) e
 |ext φ=>obtain⟨p,⟨o,e⟩,st⟩:=x;exact⟨st _ _ p fun o q=>k _ _ (.inl rfl) q,⟨o,k _ _ (.inl rfl) e⟩,st⟩
theorem HOk.lt(x:HOk P w H h)(e:H a=some o):a<h.objs.size:=(x a o e).lt
def HOk.fresh(x:HOk P w H h)(e:h.objs.size<=a):H a=none:=by
 cases q:H a with
 |none=>rfl
 |some u=>exact absurd (y0t (x.lt q) e) (y2e _)
def HOk.kept(x:HOk P w H h)(k:∀b u,h.get? b=some u->h'.get? b=some u):HOk P w H h':=fun a o e =>
 (x a o e).stay (fun b u _ q=>k b u q) (fun _ q=>q) fun _ _ q=>q
def HOk.laid(x:HOk P w H h)(k:∀b u,h.get? b=some u->h'.get? b=some u)(hp:h.objs.size<=a)(new:z19 P w (upd H a o) h' a o):HOk P w (upd H a o) h':=fun b u e=>by
 have hn:=x.fresh hp;by_cases hb:b=a
 .subst hb;rw[z03]at e;cases e;exact new
 .rw[z06 hb]at e;exact(x b u e).stay (fun c v _ q=>k c v q) (fun c q=>by rw[z06 (z0e q hn)];exact q) fun c xs q=>by rw[z06 (z0e q hn)];exact q
end
def Rd(H:Hp)(a:Addr)(u:HO):Prop:=H a=some u\/∃o,H a=some (.frz o u)
def Rd.ok{P:Program}{w:World}{H:Hp}{h:Heap}{a:Addr}{u:HO}(r:Rd H a u)(x:HOk P w H h):z19 P w H h a u:=by
 rcases r with r|⟨o,r⟩
 .exact x a u r
 .obtain⟨_,q⟩:=x a _ r;exact q
def Mut:Option HO->Prop
 |some (.lst _)=>True
 |some (.dK _)=>True
 |some (.dT _)=>True
 |some (.set _ _)=>True
 |some (.ins _ _ _)=>True
 |some (.ext _)=>True
 |_=>False
section
variable{P:Program}{w:World}{H:Hp}{h h':Heap}{x e:Addr}{o':HO}
def HOk.write(ok:HOk P w H h)(mu:Mut (H x))(he:e=x\/H e=some (.own x))(k:∀b u,b≠e->h.get? b=some u->h'.get? b=some u)(heo:∃u,h'.get? e=some u)(new:z19 P w (upd H x o') h' x o'):HOk P w (upd H x o') h':=fun b u q=>by
 have nown:∀c y,H c=some (.own y)->c≠x:=fun c y r z=>by subst z;rw[r]at mu;exact mu
 have ntup:∀c xs,H c=some (.tup xs)->c≠x:=fun c xs r z=>by subst z;rw[r]at mu;exact mu
 by_cases hb:b=x
 .subst hb;rw[z03]at q;cases q;exact new
 .rw[z06 hb]at q;by_cases hbe:b=e
  .have q':H b=some (.own x):=by
    rcases he with z|z
    .exact absurd (hbe.trans z) hb
    .rw[hbe];exact z
   rw[q]at q';cases q';obtain⟨v,hv⟩:=heo;exact⟨v,by rw[hbe];exact hv⟩
  .refine(ok b u q).stay (fun c v hc r=>k c v ?_ r) (fun c r=>by rw[z06 (nown c b r)];exact r) fun c xs r=>by rw[z06 (ntup c xs r)];exact r
   rcases hc with rfl|hc
   .exact hbe
   .rintro rfl;rcases he with z|z
    .exact nown c b hc z
    .rw[hc]at z;cases z;exact hb rfl
end
structure Un(fs ex:List Addr)(H H':Hp)(h h':Heap):Prop where
 keep:∀b o,h.get? b=some o->H b=none->b∉fs->b∉ex->h'.get? b=some o
 slot:∀b o,h.get? b=some o->H b=none->b∈fs->b∉ex->∃sl,h'.get? b=some { o with slots:=sl }
 free:∀b o,h.get? b=some o->H b=none->b∉ex->H' b=none
 there:∀b o,h.get? b=some o->b∉ex->∃o',h'.get? b=some o'
 tups:∀b xs,H b=some (.tup xs)->H' b=some (.tup xs)
 frzs:∀b o u,H b=some (.frz o u)->H' b=some (.frz o u)
 tbls:∀b ps,H b=some (.tbl ps)->∃more,H' b=some (.tbl (ps++more))
section
variable{fs fs' ex ex':List Addr}{H H1 H2:Hp}{h h1 h2 h':Heap}{a x e:Addr}{o:HO}
def Un.any(u:Un fs ex H H1 h h1){b:Addr}{ob:Obj}(q:h.get? b=some ob)(n:H b=none)(hx:b∉ex):∃sl,h1.get? b=some { ob with slots:=sl }:=by
 by_cases hb:b∈fs
 .exact u.slot b ob q n hb hx
 .exact⟨ob.slots,u.keep b ob q n hb hx⟩
def Un.kept(k:∀b u,h.get? b=some u->h'.get? b=some u):Un fs ex H H h h' :=
 ⟨fun b ob q _ _ _=>k b ob q,fun b ob q _ _ _=>⟨ob.slots,k b ob q⟩,fun _ _ _ n _=>n,fun b ob q _=>⟨ob,k b ob q⟩,fun _ _ q=>q,fun _ _ _ q=>q,fun _ ps q=>⟨#[],by rw[q];simp⟩⟩
def Un.refl:Un fs ex H H h h:=Un.kept fun _ _ q=>q
def Un.laid(k:∀b u,h.get? b=some u->h'.get? b=some u)(hp:h.objs.size<=a)(hn:H a=none):Un fs ex H (upd H a o) h h' where
 keep:=fun b u q _ _ _=>k b u q
 slot:=fun b u q _ _ _=>⟨u.slots,k b u q⟩
 free:=fun b u q n _=>by rw[z06 (y0y (y0t (y0j q) hp))];exact n
 there:=fun b u q _=>⟨u,k b u q⟩
 tups:=fun b xs q=>by rw[z06 (z0e q hn)];exact q
 frzs:=fun b u xs q=>by rw[z06 (z0e q hn)];exact q
 tbls:=fun b ps q=>⟨#[],by rw[z06 (z0e q hn),q];simp⟩
def Un.write(mu:Mut (H x))(he:e=x\/H e=some (.own x))(k:∀b u,b≠e->h.get? b=some u->h'.get? b=some u)(heo:∃u,h'.get? e=some u):Un fs ex H (upd H x o) h h':=by
 have hx:∀b,H b=none->b≠x:=fun b n z=>by subst z;rw[n]at mu;exact mu
 have hb:∀b,H b=none->b≠e:=fun b n z=>by
  subst z;rcases he with r|r
  .exact hx b n r
  .rw[n]at r;cases r
 have hm:∀b u,H b=some u->¬Mut (some u)->b≠x:=fun b u q nm z=>by subst z;rw[q]at mu;exact nm mu
 refine⟨fun b u q n _ _=>k b u (hb b n) q,fun b u q n _ _=>⟨u.slots,k b u (hb b n) q⟩,fun b u q n _=>by rw[z06 (hx b n)];exact n,fun b u q _=>?_,
  fun b xs q=>by rw[z06 (hm b _ q fun z=>z)];exact q,fun b u xs q=>by rw[z06 (hm b _ q fun z=>z)];exact q,fun b ps q=>⟨#[],by rw[z06 (hm b _ q fun z=>z),q];simp⟩⟩
 by_cases hbe:b=e
 .subst hbe;exact heo
 .exact⟨u,k b u hbe q⟩
end
def trk(h:Heap)(H:Hp):List Addr:=(List.range h.objs.size).filter fun a=>(H a).isSome
def zbr(h:Heap)(H:Hp):Heap:=PySem.W.hideAll h (trk h H)
def zax(h:Heap)(H:Hp):(zbr h H).objs.size=h.objs.size:=PySem.W.hideAll_size _ _
def zc3{h:Heap}{H:Hp}{b:Addr}{o:Obj}(e:h.get? b=some o)(n:H b=none):(zbr h H).get? b=some o :=
 PySem.W.hideAll_get _ e fun hm=>by have q:(H b).isSome=true:=(List.mem_filter.mp hm).2;rw[n]at q;simp at q
def zdR{h:Heap}{H:Hp}{b:Addr}{o:Obj}(e:(zbr h H).get? b=some o):h.get? b=some o/\H b=none:=by
 have e':h.get? b=some o:=PySem.W.of_hideAll (trk h H) e;refine⟨e',?_⟩;cases q:H b with
 |none=>rfl
 |some x =>
  have hm:b∈trk h H:=List.mem_filter.mpr ⟨y14.mpr (y0j e'),by simp[q]⟩;have z:(zbr h H).get? b=none:=y23 (trk h H) hm;rw[z]at e;cases e
def zeg(g h:Heap)(L:Addr):yyP:=(List.range h.objs.size).filterMap fun a=>if a=L\/(g.get? a).isSome=true then none else(h.get? a).map fun o=>(a,o)
def z1k(g h:Heap)(L d:Addr):yyP:=(zeg g h L).filter fun p=>decide (p.1≠d)
structure Mod(K:yyF)(mg:yyS)(base:Heap):Prop where
 kin:K.In base
 glob:base.Ns mainGlobals mg
 blt:∃mb,base.Ns builtinsNs mb/\∀x:Str,x≠"__name__"->mb x=bootBuiltins x
 nolimit:base.NoLimit
structure Cx where
 prog:Program
 w:World
 K:yyF
 mg:yyS
 base:Heap
 A:Around
 N:List Str
 s₀:Shared
 H₀:Hp
 env:Env
 outer:List Env
 stack:List Env
 ex:List Addr
 fn:Str->Bool
 calm:Bool
 pn:yyP
 xe:yyE
def frs(l:List Env):List Addr:=l.filterMap (·.frame)
abbrev Cx.fs(X:Cx):List Addr:=frs X.outer
def Vis(sc:Scope)(x:Str):Prop:=sc.names.lookup x=some .local\/sc.names.lookup x=some .cell\/sc.names.lookup x=some .free
def Loc(sc:Scope)(x:Str):Prop:=sc.names.lookup x=some .local\/sc.names.lookup x=some .cell
def zgV(env:Env)(h:Heap)(m:yyS)(x:Str)(u:Value):Prop :=
 (env.kindOf x=some .local/\m x=some u)\/((env.kindOf x=some .cell\/env.kindOf x=some .free)/\∃c,env.cells.lookup x=some c/\h.IsCell c (some u))
structure Cx.Ok(X:Cx):Prop where
 mod:Mod X.K X.mg X.base
 kind:X.env.scope.kind=.function
 glob:X.env.globals=mainGlobals
 blt:X.env.builtins=builtinsNs
 above:X.s₀.heap.objs.size<=X.env.locals
 inj:∀x y c,X.env.cells.lookup x=some c->X.env.cells.lookup y=some c->x=y
 has:∀x,(X.env.kindOf x=some .cell\/X.env.kindOf x=some .free)->∃c,X.env.cells.lookup x=some c
 cab:∀x c,X.fn x=true->X.env.cells.lookup x=some c->X.s₀.heap.objs.size<=c
 hd:X.calm=true->X.A.handled=none
 frames:X.A.frames=some X.stack
 stk:X.stack=X.outer\/(X.stack=X.env::X.outer/\X.env.frame=some X.env.locals)
 exf:∀b∈X.ex,b≠X.env.locals/\∀x c,X.env.cells.lookup x=some c->c≠b
 bs:∀b o,X.base.get? b=some o->X.s₀.heap.get? b=some o/\X.H₀ b=none
 bsz:X.base.objs.size<=X.s₀.heap.objs.size
 noex:∀b o,X.base.get? b=some o->b∉X.ex
 exfs:∀b∈X.ex,b∉X.fs
 funs:X.s₀.heap.FunFrames X.base X.outer
 frf:∀b∈X.fs,X.H₀ b=none
structure Inv(X:Cx)(pins:yyP)(σ:List (Option V))(H:Hp)(s:Shared):Prop where
 ok:X.Ok
 os:s.os=X.s₀.os
 bare:AllBare s.gens
 base:Un X.fs X.ex X.H₀ H X.s₀.heap s.heap
 loc:∃m,s.heap.Ns X.env.locals m/\∀(i:Nat)(x:Str)(v:V),X.N[i]?=some x->σ[i]?=some (some v)->Vis X.env.scope x->∃u,z0N v u/\zgV X.env s.heap m x u
 cell:∀x c,X.env.cells.lookup x=some c->∃v,s.heap.IsCell c v
 free:H X.env.locals=none
 freeC:∀x c,X.env.cells.lookup x=some c->H c=none
 pin:∀p∈X.pn++pins,s.heap.get? p.1=some p.2/\H p.1=none/\p.1≠X.env.locals/\p.1∉X.fs/\∀v,p.2.data≠.cell v
 hok:HOk X.prog X.w H s.heap
 len:σ.length=X.N.length
section
variable{X:Cx}{pins:yyP}{σ:List (Option V)}{H H':Hp}{s:Shared}{h':Heap}
def Cx.Ok.nofr(ok:X.Ok){b:Addr}{o:Obj}(e:X.base.get? b=some o):b∉X.fs:=fun hb=>by have:=(ok.funs.mem hb).1;rw[e]at this;cases this
theorem Inv.bs(I:Inv X pins σ H s):∀b o,X.base.get? b=some o->s.heap.get? b=some o/\H b=none:=fun b o e =>
 ⟨I.base.keep b o (I.ok.bs b o e).1 (I.ok.bs b o e).2 (I.ok.nofr e) (I.ok.noex b o e),I.base.free b o (I.ok.bs b o e).1 (I.ok.bs b o e).2 (I.ok.noex b o e)⟩
def Inv.bk(I:Inv X pins σ H s):∀b o,X.base.get? b=some o->s.heap.get? b=some o:=fun b o e=>(I.bs b o e).1
theorem Inv.mod(I:Inv X pins σ H s):Mod X.K X.mg X.base:=I.ok.mod
def Inv.kIn(I:Inv X pins σ H s):X.K.In s.heap:=I.ok.mod.kin.keeps I.bk
theorem Inv.lt(I:Inv X pins σ H s):X.env.locals<s.heap.objs.size:=let⟨_,hn,_⟩:=I.loc;hn.lt
def Inv.sz(I:Inv X pins σ H s):X.s₀.heap.objs.size<=s.heap.objs.size:=y0S I.ok.above (y1k I.lt)
def Inv.nofs(I:Inv X pins σ H s){a:Addr}(h:s.heap.objs.size<=a):a∉X.fs:=fun hb=>by obtain⟨_,o,ho,_⟩:=I.ok.funs.mem hb;exact absurd (y0t (y0j ho) (y0S I.sz h)) (y2e _)
def Inv.cne(I:Inv X pins σ H s):∀x c,X.env.cells.lookup x=some c->c≠X.env.locals:=fun x c e z=>by obtain⟨v,o,ho,hd⟩:=I.cell x c e;obtain⟨m,⟨o',es,ep,ho',hd',_⟩,_⟩:=I.loc;rw[z,ho']at ho;cases ho;rw[hd']at hd;cases hd
theorem Inv.funs(I:Inv X pins σ H s):s.heap.FunFrames X.base X.outer:=by
 have all:∀(l:List Env),(∀b∈frs l,b∈X.fs)->X.s₀.heap.FunFrames X.base l->s.heap.FunFrames X.base l:=by
  intro l;induction l with
  |nil=>intro _ _;trivial
  |cons env r ih =>
   intro hs hl;obtain⟨hk,⟨L,o,hf,hn,ho,hd⟩,hr⟩:=hl;have hL:L∈X.fs:=hs L (by unfold frs;rw[y2s,hf];exact y0p);obtain⟨sl,e⟩:=I.base.slot L o ho (I.ok.frf L hL) hL fun z=>I.ok.exfs L z hL;exact⟨hk,⟨L,_,hf,hn,e,hd⟩,ih (fun b hb=>hs b (by unfold frs;rw[y2s,hf];exact y0e _ hb)) hr⟩
 exact all X.outer (fun _ hb=>hb) I.ok.funs
theorem Inv.stack(I:Inv X pins σ H s):s.heap.FunFrames X.base X.stack:=by
 rcases I.ok.stk with e|⟨e,hf⟩
 .rw[e];exact I.funs
 .rw[e];obtain⟨m,hn,_⟩:=I.loc;refine .cons (by rw[I.ok.kind];decide) hf hn ?_ I.funs;exact y3C (y0S I.ok.bsz I.ok.above)
def Inv.stkSub(I:Inv X pins σ H s):∀b∈frs X.stack,b∈X.env.locals::X.fs:=fun b hb=>by
 rcases I.ok.stk with e|⟨e,hf⟩
 .rw[e]at hb;exact y0e _ hb
 .rw[e]at hb;unfold frs at hb;rw[y2s,hf]at hb;exact hb
def Inv.stkFree(I:Inv X pins σ H s):∀b∈frs X.stack,H b=none:=fun b hb=>by
 rcases y0u.mp (I.stkSub b hb)with e|hb
 .rw[e];exact I.free
 .obtain⟨_,o,ho,_⟩:=I.ok.funs.mem hb;exact I.base.free b o ho (I.ok.frf b hb) fun z=>I.ok.exfs b z hb
def Inv.step{g':Array GenState}{t':Nat}{d':Drawn}{ch:List Addr}(I:Inv X pins σ H s)(hch:∀b∈ch,(b∈X.ex\/X.s₀.heap.objs.size<=b)/\b≠X.env.locals/\(∀x c,X.env.cells.lookup x=some c->c≠b)/\∀p∈X.pn++pins,p.1≠b)(keep:∀b o,b≠X.env.locals->b∉X.fs->b∉ch->s.heap.get? b=some o->H b=none->h'.get? b=some o)(slot:∀b o,b≠X.env.locals->b∈X.fs->b∉ch->s.heap.get? b=some o->H b=none->∃sl,h'.get? b=some { o with slots:=sl })(free:∀b o,b∉ch->s.heap.get? b=some o->H b=none->H' b=none)(there:∀b o,b∉ch->s.heap.get? b=some o->∃o',h'.get? b=some o')(tups:∀b xs,H b=some (.tup xs)->H' b=some (.tup xs))(frzs:∀b o u,H b=some (.frz o u)->H' b=some (.frz o u))(tbls:∀b ps,H b=some (.tbl ps)->∃more,H' b=some (.tbl (ps++more)))(ns:∀m,s.heap.Ns X.env.locals m->h'.Ns X.env.locals m)(hok:HOk X.prog X.w H' h')(hg:AllBare g') : Inv X pins σ H' { s with heap:=h',gens:=g',drawn:=d',toks:=t' }:=by
 have neL:∀b o,X.s₀.heap.get? b=some o->b≠X.env.locals:=fun b o e=>y0y (y0t (y0j e) I.ok.above);have neC:∀b o,X.s₀.heap.get? b=some o->b∉X.ex->b∉ch:=fun b o e hx hb=>by
  rcases(hch b hb).1 with z|z
  .exact hx z
  .exact absurd (y0t (y0j e) z) (y2e _)
 have cellK:∀x c,X.env.cells.lookup x=some c->∀v,s.heap.IsCell c v->h'.IsCell c v:=fun x c e v ⟨o,ho,hd⟩=>by
  have nch:c∉ch:=fun z=>(hch c z).2.2.1 x c e rfl;by_cases hc:c∈X.fs
  .obtain⟨sl,q⟩:=slot c o (I.cne x c e) hc nch ho (I.freeC x c e);exact⟨_,q,hd⟩
  .exact⟨o,keep c o (I.cne x c e) hc nch ho (I.freeC x c e),hd⟩
 refine⟨I.ok,I.os,hg,⟨fun b o e n hb hx=>?_,fun b o e n hb hx=>?_,fun b o e n hx=>?_,fun b o e hx=>?_,fun b xs e=>tups b xs (I.base.tups b xs e),fun b o xs e=>frzs b o xs (I.base.frzs b o xs e),fun b ps e=>?_⟩,?_,fun x c e=>?_,?_,fun x c e=>?_,fun p hp=>?_,hok,I.len⟩
 .exact keep b o (neL b o e) hb (neC b o e hx) (I.base.keep b o e n hb hx) (I.base.free b o e n hx)
 .obtain⟨sl,e1⟩:=I.base.slot b o e n hb hx;obtain⟨sl',e2⟩:=slot b _ (neL b o e) hb (neC b o e hx) e1 (I.base.free b o e n hx);exact⟨sl',e2⟩
 .obtain⟨o',e1⟩:=I.base.there b o e hx;exact free b o' (neC b o e hx) e1 (I.base.free b o e n hx)
 .obtain⟨o',e1⟩:=I.base.there b o e hx;exact there b o' (neC b o e hx) e1
 .obtain⟨m1,e1⟩:=I.base.tbls b ps e;obtain⟨m2,e2⟩:=tbls b _ e1;exact⟨m1++m2,by rw[e2,Array.append_assoc]⟩
 .obtain⟨m,hn,hl⟩:=I.loc;refine⟨m,ns m hn,fun i x v e1 e2 e3=>?_⟩;obtain⟨u,r,l⟩:=hl i x v e1 e2 e3;refine⟨u,r,?_⟩;rcases l with l|⟨k,c,e,z⟩
  .exact .inl l
  .exact .inr ⟨k,c,e,cellK x c e _ z⟩
 .obtain⟨v,z⟩:=I.cell x c e;exact⟨v,cellK x c e v z⟩
 .obtain⟨m,⟨o,_,_,ho,_⟩,_⟩:=I.loc;exact free _ o (fun z=>(hch _ z).2.1 rfl) ho I.free
 .obtain⟨v,o,ho,hd⟩:=I.cell x c e;exact free c o (fun z=>(hch c z).2.2.1 x c e rfl) ho (I.freeC x c e)
 .obtain⟨e,n,ne,nf,d⟩:=I.pin p hp;have nch:p.1∉ch:=fun z=>(hch p.1 z).2.2.2 p hp rfl;exact⟨keep p.1 p.2 ne nf nch e n,free p.1 p.2 nch e n,ne,nf,d⟩
def Inv.un{t':Nat}(I:Inv X pins σ H s)(u:Un X.fs [] H H' s.heap h')(hok:HOk X.prog X.w H' h'):Inv X pins σ H' { s with heap:=h',toks:=t' }:=by
 obtain⟨m,⟨o,es,ep,ho,r⟩,_⟩:=id I.loc;obtain⟨sl,hL⟩:=u.any ho I.free (by simp);exact I.step (g':=s.gens) (d':=s.drawn) (ch:=[]) (fun _ z=>nomatch z) (fun b o _ hb _ e n=>u.keep b o e n hb (by simp)) (fun b o _ hb _ e n=>u.slot b o e n hb (by simp)) (fun b o _ e n=>u.free b o e n (by simp)) (fun b o _ e=>u.there b o e (by simp)) u.tups u.frzs u.tbls (fun m' hm=>by obtain⟨o',es',ep',ho',r'⟩:=hm;rw[ho]at ho';cases ho';exact⟨_,es',ep',hL,r'⟩) hok I.bare
def Inv.call{g':Array GenState}{t':Nat}{d':Drawn}{ch:List Addr}(I:Inv X pins σ H s)(u:Un (frs X.stack) ch H H' s.heap h')(hok:HOk X.prog X.w H' h')(hg:AllBare g')(hch:∀b∈ch,(b∈X.ex\/X.s₀.heap.objs.size<=b)/\b≠X.env.locals/\(∀x c,X.env.cells.lookup x=some c->c≠b)/\∀p∈X.pn++pins,p.1≠b) : Inv X pins σ H' { s with heap:=h',gens:=g',drawn:=d',toks:=t' }:=by
 obtain⟨m,⟨o,es,ep,ho,r⟩,_⟩:=id I.loc;obtain⟨sl,hL⟩:=u.any ho I.free fun z=>(hch _ z).2.1 rfl;exact I.step (ch:=ch) hch (fun b o hL hb hc e n=>u.keep b o e n (fun z=>(y0u.mp (I.stkSub b z)).elim hL hb) hc) (fun b o _ _ hc e n=>u.any e n hc) (fun b o hc e n=>u.free b o e n hc) (fun b o hc e=>u.there b o e hc) u.tups u.frzs u.tbls (fun m' hm=>by obtain⟨o',es',ep',ho',r'⟩:=hm;rw[ho]at ho';cases ho';exact⟨_,es',ep',hL,r'⟩) hok hg
def Inv.turned{t':Nat}{it:Addr}(I:Inv X pins σ H s)(k:∀b o,b≠it->s.heap.get? b=some o->h'.get? b=some o)(hn:H it=none)(hL:it≠X.env.locals)(h1:it∈X.ex\/X.s₀.heap.objs.size<=it)(h2:∀x c,X.env.cells.lookup x=some c->c≠it)(h3:∀p∈X.pn++pins,p.1≠it):Inv X pins σ H { s with heap:=h',toks:=t' }:=by
 have nit:∀b u,H b=some u->b≠it:=fun b u e z=>by rw[z,hn]at e;cases e
 refine I.step (g':=s.gens) (d':=s.drawn) (ch:=[it]) (fun b hb=>?_) (fun b o _ _ hc e _=>k b o (fun z=>hc (by simp[z])) e) (fun b o _ _ hc e _=>⟨o.slots,k b o (fun z=>hc (by simp[z])) e⟩) (fun _ _ _ _ n=>n)
  (fun b o hc e=>⟨o,k b o (fun z=>hc (by simp[z])) e⟩) (fun _ _ e=>e) (fun _ _ _ e=>e) (fun b ps e=>⟨#[],by rw[e];simp⟩) (fun m hm=>?_) (fun b u e=>?_) I.bare
 .have e:b=it:=by simpa using hb
  subst e;exact⟨h1,hL,h2,h3⟩
 .obtain⟨o,es,ep,ho,r⟩:=hm;exact⟨o,es,ep,k _ o (y2Y hL) ho,r⟩
 .refine(I.hok b u e).stay (fun c v hc q=>k c v ?_ q) (fun _ q=>q) fun _ _ q=>q;rcases hc with z|z
  .rw[z];exact nit b u e
  .exact nit c _ z
def Inv.tok(I:Inv X pins σ H s)(t:Nat):Inv X pins σ H { s with toks:=t }:=I.un (h':=s.heap) (t':=t) Un.refl I.hok
theorem Inv.kept{t':Nat}(I:Inv X pins σ H s)(k:∀b u,s.heap.get? b=some u->h'.get? b=some u):Inv X pins σ H { s with heap:=h',toks:=t' }:=I.un (Un.kept k) (I.hok.kept k)
theorem Inv.laid{a:Addr}{o:HO}{t':Nat}(I:Inv X pins σ H s)(k:∀b u,s.heap.get? b=some u->h'.get? b=some u)(hp:s.heap.objs.size<=a)(new:z19 X.prog X.w (upd H a o) h' a o) : Inv X pins σ (upd H a o) { s with heap:=h',toks:=t' }:=I.un (Un.laid k hp (I.hok.fresh hp)) (I.hok.laid k hp new)
theorem Inv.write{x e:Addr}{o:HO}{t':Nat}(I:Inv X pins σ H s)(mu:Mut (H x))(he:e=x\/H e=some (.own x))(k:∀b u,b≠e->s.heap.get? b=some u->h'.get? b=some u)(heo:∃u,h'.get? e=some u)(new:z19 X.prog X.w (upd H x o) h' x o):Inv X pins σ (upd H x o) { s with heap:=h',toks:=t' }:=I.un (Un.write mu he k heo) (I.hok.write mu he k heo new)
def Inv.pins_of{pins':yyP}(I:Inv X pins σ H s)(h:∀p∈pins',s.heap.get? p.1=some p.2/\H p.1=none/\p.1≠X.env.locals/\p.1∉X.fs/\∀v,p.2.data≠.cell v):Inv X pins' σ H s :=
 ⟨I.ok,I.os,I.bare,I.base,I.loc,I.cell,I.free,I.freeC,fun p hp=>(y0g.mp hp).elim (fun z=>I.pin p (y0m _ z)) (h p),I.hok,I.len⟩
def z5Z{N:List Str}(hN:N.Nodup){i j:Nat}{x:Str}(a:N[i]?=some x)(b:N[j]?=some x):i=j:=by obtain⟨h1,e1⟩:=y0a.mp a;obtain⟨h2,e2⟩:=y0a.mp b;exact(List.getElem_inj hN).mp (e1.trans e2.symm)
def z6W{M:Model}{A:Around}{E:yyE}{i:Nat}{x:Str}{v:V}{u:Value}{Q:Unit->Shared->Prop}(I:Inv X pins σ H s)(hN:X.N.Nodup)(hi:X.N[i]?=some x)(hx:Loc X.env.scope x)(r:z0N v u)(h:∀s',Inv X pins (σ.set i (some v)) H s'->(∃a,Heap.SameBut a s.heap s'.heap/\(a=X.env.locals\/X.env.cells.lookup x=some a))->Q () s')(hf:X.fn x=true\/X.env.scope.names.lookup x=some .local:=by first|exact .inl rfl|exact .inr rfl|assumption):wpAny M A (storeName X.env x u) Q E s:=by
 obtain⟨m,hn,hl⟩:=id I.loc;have hcls:(X.env.scope.kind == .class||(X.env.scope.kind == .module&&X.env.locals != X.env.globals))=false:=by rw[I.ok.kind];rfl
 have hiσ:i<σ.length:=by rw[I.len];exact(y0a.mp hi).1
 have cne:=I.cne;have tracked:∀{a:Addr}{h':Heap},(∃o,s.heap.get? a=some o/\H a=none)->Heap.SameBut a s.heap h'->HOk X.prog X.w H h':=fun{a h'} ha hs b ob e=>by
  obtain⟨_,_,hfree⟩:=ha;refine(I.hok b ob e).stay (fun c w' hc q=>(hs.2 c ?_).trans q) (fun _ q=>q) fun _ _ q=>q;rintro rfl;rcases hc with rfl|hc
  .rw[hfree]at e;cases e
  .rw[hfree]at hc;cases hc
 rcases hx with hk|hk
 .refine wpAny_storeName_local hk hn (fun h' hn' hs=>?_) hcls;obtain⟨oL,_,_,hoL,_⟩:=id hn;refine h _ ⟨I.ok,I.os,I.bare,⟨fun b o e n hb hx=>?_,fun b o e n hb hx=>?_,I.base.free,fun b o e hx=>?_,I.base.tups,I.base.frzs,I.base.tbls⟩,⟨_,hn',fun j y v' e1 e2 e3=>?_⟩,fun y c e=>?_,I.free,I.freeC,fun p hp=>?_,tracked ⟨oL,hoL,I.free⟩ hs,by simpa using I.len⟩ ⟨_,hs,.inl rfl⟩
  .exact(hs.2 b (y0y (y0t (y0j e) I.ok.above))).trans (I.base.keep b o e n hb hx)
  .obtain⟨sl,e1⟩:=I.base.slot b o e n hb hx;exact⟨sl,(hs.2 b (y0y (y0t (y0j e) I.ok.above))).trans e1⟩
  .obtain⟨o',e1⟩:=I.base.there b o e hx;exact⟨o',(hs.2 b (y0y (y0t (y0j e) I.ok.above))).trans e1⟩
  .by_cases hj:j=i
   .subst hj;rw[hi]at e1;cases e1;rw[List.getElem?_set_self hiσ]at e2;cases e2;exact⟨u,r,.inl ⟨hk,by simp⟩⟩
   .rw[List.getElem?_set_ne (y2Y hj)]at e2;obtain⟨u',r',q⟩:=hl j y v' e1 e2 e3;refine⟨u',r',?_⟩;rcases q with⟨k,e⟩|⟨k,c,e,z⟩
    .refine .inl ⟨k,?_⟩;have:y≠x:=fun e=>hj (z5Z hN e1 (e▸hi));simp[this,e]
    .exact .inr ⟨k,c,e,z.sameBut hs (cne y c e)⟩
  .obtain⟨w',z⟩:=I.cell y c e;exact⟨w',z.sameBut hs (cne y c e)⟩
  .obtain⟨e,n,ne,nf,d⟩:=I.pin p hp;exact⟨(hs.2 p.1 ne).trans e,n,ne,nf,d⟩
 .have hfn:X.fn x=true:=by
   rcases hf with z|z
   .exact z
   .rw[z]at hk;cases hk
  obtain⟨c,hc⟩:=I.ok.has x (.inl hk);obtain⟨w',z⟩:=I.cell x c hc;refine wpAny_storeName_cell I.ok.kind hk hc z (fun h' hc' hs=>?_);obtain⟨oc,hoc,hocd⟩:=id z;refine h { s with heap:=h' } ⟨I.ok,I.os,I.bare,⟨fun b o e n hb hx=>?_,fun b o e n hb hx=>?_,I.base.free,fun b o e hx=>?_,I.base.tups,I.base.frzs,I.base.tbls⟩,⟨m,hn.sameBut hs (y2Y (cne x c hc)),fun j y v' e1 e2 e3=>?_⟩,fun y c' e=>?_,I.free,I.freeC,fun p hp=>?_,tracked ⟨oc,hoc,I.freeC x c hc⟩ hs,by simpa using I.len⟩ ⟨c,hs,.inr hc⟩
  .exact(hs.2 b (y0y (y0t (y0j e) (I.ok.cab x c hfn hc)))).trans (I.base.keep b o e n hb hx)
  .obtain⟨sl,e1⟩:=I.base.slot b o e n hb hx;exact⟨sl,(hs.2 b (y0y (y0t (y0j e) (I.ok.cab x c hfn hc)))).trans e1⟩
  .obtain⟨o',e1⟩:=I.base.there b o e hx;exact⟨o',(hs.2 b (y0y (y0t (y0j e) (I.ok.cab x c hfn hc)))).trans e1⟩
  .by_cases hj:j=i
   .subst hj;rw[hi]at e1;cases e1;rw[List.getElem?_set_self hiσ]at e2;cases e2;exact⟨u,r,.inr ⟨.inl hk,c,hc,hc'⟩⟩
   .rw[List.getElem?_set_ne (y2Y hj)]at e2;obtain⟨u',r',q⟩:=hl j y v' e1 e2 e3;refine⟨u',r',?_⟩;rcases q with q|⟨k,c',e,z'⟩
    .exact .inl q
    .refine .inr ⟨k,c',e,z'.sameBut hs ?_⟩;rintro rfl;exact hj (z5Z hN e1 (I.ok.inj _ _ _ e hc▸hi))
  .by_cases hcc:c'=c
   .subst hcc;exact⟨_,hc'⟩
   .obtain⟨w2,z2⟩:=I.cell y c' e;exact⟨w2,z2.sameBut hs hcc⟩
  .obtain⟨e,n,ne,nf,d⟩:=I.pin p hp;refine⟨(hs.2 p.1 ?_).trans e,n,ne,nf,d⟩;intro q;rw[q,hoc]at e;have q':oc=p.2:=y0b e;exact d w' (by rw[<-q'];exact hocd)
def z5H{M:Model}{A:Around}{E:yyE}{i:Nat}{x:Str}{v:V}{u:Value}{Q:Unit->Shared->Prop}(I:Inv X pins σ H s)(hN:X.N.Nodup)(hi:X.N[i]?=some x)(hx:Loc X.env.scope x)(r:z0N v u)(h:∀s',Inv X pins (σ.set i (some v)) H s'->Q () s')(hf:X.fn x=true\/X.env.scope.names.lookup x=some .local:=by first|exact .inl rfl|exact .inr rfl|assumption):wpAny M A (storeName X.env x u) Q E s :=
 z6W I hN hi hx r (fun s' I' _=>h s' I') hf
def Inv.call'{s':Shared}{ch:List Addr}(I:Inv X pins σ H s)(ho:s'.os=s.os)(u:Un (frs X.stack) ch H H' s.heap s'.heap)(hok:HOk X.prog X.w H' s'.heap)(hg:AllBare s'.gens)(hch:∀b∈ch,(b∈X.ex\/X.s₀.heap.objs.size<=b)/\b≠X.env.locals/\(∀x c,X.env.cells.lookup x=some c->c≠b)/\∀p∈X.pn++pins,p.1≠b):Inv X pins σ H' s':=by obtain⟨h',g',d',t',o'⟩:=s';have e:o'=s.os:=ho;subst e;exact I.call (g':=g') (t':=t') (d':=d') u hok hg hch
end
abbrev XK:=Value->Option Addr->Hp->Prop
abbrev St:=List (Option V)
abbrev VK:=V->Hp->Prop
abbrev TE:=St->Hp->VK->Prop
abbrev TT:=St->Hp->(Bool->Hp->Prop)->Prop
abbrev TA:=St->Hp->(List V->Hp->Prop)->Prop
structure z3Y where
 nx:St->Hp->Prop
 rt:VK
 bk:St->Hp->Prop:=fun _ _=>False
 ct:St->Hp->Prop:=fun _ _=>False
abbrev TS:=z3Y->St->Hp->Prop
def EP(X:Cx)(pins:yyP)(σ:St)(Q:VK)(u:Value)(s':Shared):Prop:=∃v H',Inv X pins σ H' s'/\z0N v u/\Q v H'
def TP(X:Cx)(pins:yyP)(σ:St)(Q:Bool->Hp->Prop)(b:Bool)(s':Shared):Prop:=∃H',Inv X pins σ H' s'/\Q b H'
def AP(X:Cx)(pins:yyP)(σ:St)(Q:List V->Hp->Prop)(us:List Value)(s':Shared):Prop:=∃vs H',Inv X pins σ H' s'/\z0O vs us/\Q vs H'
def SP(X:Cx)(pins:yyP)(D:z3Y)(f:Flow)(s':Shared):Prop :=
 match f with
 |.next=>∃σ' H',Inv X pins σ' H' s'/\D.nx σ' H'
 |.brk=>∃σ' H',Inv X pins σ' H' s'/\D.bk σ' H'
 |.cont=>∃σ' H',Inv X pins σ' H' s'/\D.ct σ' H'
 |.ret u=>∃v σ' H',Inv X pins σ' H' s'/\z0N v u/\D.rt v H'
def PE(X:Cx)(e:Expr)(t:TE):Prop :=
 ∀(pins:yyP)(s:Shared)(σ:St)(H:Hp)(Q:VK),Inv X pins σ H s->t σ H Q->wpAny (model X.prog X.w) X.A (eval e X.env) (EP X pins σ Q) X.xe s
def PT(X:Cx)(e:Expr)(t:TT):Prop :=
 ∀(pins:yyP)(s:Shared)(σ:St)(H:Hp)(Q:Bool->Hp->Prop),Inv X pins σ H s->t σ H Q->wpAny (model X.prog X.w) X.A (isTrue e X.env (eval e X.env)) (TP X pins σ Q) X.xe s
def PW(X:Cx)(e:Expr)(t:TT):Prop :=
 ∀(whole:Sem Value)(pins:yyP)(s:Shared)(σ:St)(H:Hp)(Q:Bool->Hp->Prop),Inv X pins σ H s->t σ H Q->wpAny (model X.prog X.w) X.A (isTrue e X.env whole) (TP X pins σ Q) X.xe s
def PW.pt{X:Cx}{e:Expr}{t:TT}(h:PW X e t):PT X e t:=h _
def PA(X:Cx)(es:List Expr)(t:TA):Prop :=
 ∀(pos:Pos)(pins:yyP)(s:Shared)(σ:St)(H:Hp)(Q:List V->Hp->Prop),Inv X pins σ H s->t σ H Q->wpAny (model X.prog X.w) X.A (spliced (backTo pos (starEach es X.env))) (AP X pins σ Q) X.xe s
def PS(X:Cx)(st:Stmt)(t:TS):Prop :=
 ∀(pins:yyP)(s:Shared)(σ:St)(H:Hp)(D:z3Y),Inv X pins σ H s->t D σ H->wpAny (model X.prog X.w) X.A (exec st X.env) (SP X pins D) X.xe s
def PSs(X:Cx)(st:List Stmt)(t:TS):Prop :=
 ∀(pins:yyP)(s:Shared)(σ:St)(H:Hp)(D:z3Y),Inv X pins σ H s->t D σ H->wpAny (model X.prog X.w) X.A (execs st X.env) (SP X pins D) X.xe s
def thn{α:Type}{t:Sem α}{Q Q':α->Shared->Prop}{M:Model}{A:Around}{E:yyE}{s:Shared}(h:wpAny M A t Q E s)(hQ:∀a s,Q a s->Q' a s):wpAny M A t Q' E s:=y1C h hQ fun _ _ x=>x
def exA{α:Sort _}{f g:α->Prop}{a:α}(h:f a)(k:g a):∃x,f x/\g x:=⟨a,h,k⟩
def exB{α β:Sort _}{f g:α->β->Prop}{a:α}{b:β}(h:f a b)(k:g a b):∃x y,f x y/\g x y:=⟨a,b,h,k⟩
def exC{α β:Sort _}{f f' g:α->β->Prop}{a:α}{b:β}(h:f a b)(h':f' a b)(k:g a b):∃x y,f x y/\f' x y/\g x y:=⟨a,b,h,h',k⟩
def exD{α β γ δ:Sort _}{f1 f2 f3 f4 g:α->β->γ->δ->Prop}(a:α)(b:β)(c:γ)(d:δ)(h1:f1 a b c d)(h2:f2 a b c d)(h3:f3 a b c d)(h4:f4 a b c d)(k:g a b c d):∃x y z w,f1 x y z w/\f2 x y z w/\f3 x y z w/\f4 x y z w/\g x y z w:=⟨a,b,c,d,h1,h2,h3,h4,k⟩
def exF{α β:Sort _}{f1 f2 f3 g:α->β->Prop}(a:α){b:β}(h1:f1 a b)(h2:f2 a b)(h3:f3 a b)(k:g a b):∃x y,f1 x y/\f2 x y/\f3 x y/\g x y:=⟨a,b,h1,h2,h3,k⟩
def exG{α β:Sort _}{f1 f2 g:α->β->Prop}(a:α){b:β}(h1:f1 a b)(h2:f2 a b)(k:g a b):∃x y,f1 x y/\f2 x y/\g x y:=⟨a,b,h1,h2,k⟩
def z1H{X:Cx}{pins:yyP}{σ:St}{Q:VK}{t:Sem Value}{R:yyE}{s:Shared}(h:wpAny (model X.prog X.w) X.A t (EP X pins σ Q) X.xe s)(k:∀u s1 x H1,Inv X pins σ H1 s1->z0N x u->Q x H1->R u s1):wpAny (model X.prog X.w) X.A t R X.xe s:=thn h fun u s1 z=>by obtain⟨x,H1,I1,r,q⟩:=z;exact k u s1 x H1 I1 r q
section
variable{X:Cx}
def bin{a b:Expr}{ta tb:TE}(ha:PE X a ta)(hb:PE X b tb){pins:yyP}{s:Shared}{σ:St}{H:Hp}{R:V->V->Hp->Prop}(I:Inv X pins σ H s)(h:ta σ H fun x H1=>tb σ H1 fun y H2=>R x y H2){α:Type}{Q:α->Shared->Prop}{f:Value->Value->Sem α}(hf:∀v u s2 x y H2,Inv X pins σ H2 s2->z0N x v->z0N y u->R x y H2->wpAny (model X.prog X.w) X.A (f v u) Q X.xe s2) : wpAny (model X.prog X.w) X.A (eval a X.env) (fun v s₁=>wpAny (model X.prog X.w) X.A (eval b X.env) (fun u s₂=>wpAny (model X.prog X.w) X.A (f v u) Q X.xe s₂) X.xe s₁) X.xe s:=by refine z1H (ha pins s σ H _ I h) fun v s1 x H1 I1 r1 q1=>?_;refine z1H (hb pins s1 σ H1 _ I1 q1) fun u s2 y H2 I2 r2 q2=>?_;exact hf v u s2 x y H2 I2 r1 r2 q2
def zgF(i:Nat):TE:=fun σ H Q=>∃v,σ[i]?=some (some v)/\Q v H
def tC(v:V):TE:=fun _ H Q=>Q v H
def zd2{i:Nat}{x:Str}{pos:Pos}(hN:X.N[i]?=some x)(hv:Vis X.env.scope x)(hd:(x==("__debug__":Str))=false:=by decide)(hcd:(x==("__classdict__":Str))=false:=by decide):PE X (.Name x pos) (zgF i):=by
 intro pins s σ H Q I h;obtain⟨v,e,h⟩:=h;obtain⟨m,hn,hl⟩:=I.loc;obtain⟨u,r,l⟩:=hl i x v hN e hv;have fin:EP X pins σ Q u s:=⟨v,H,I,r,h⟩;rcases l with⟨hk,hm⟩|⟨hk,c,hc,hcell⟩
 .exact wpAny_Name (wpAny_loadName_local I.ok.kind hk hn hm fin) hd
 .rcases hk with hk|hk
  .exact wpAny_Name (wpAny_loadName_cell I.ok.kind hk hc hcell fin) hd
  .exact wpAny_Name (wpAny_loadName_free I.ok.kind hk hc hcell fin hcd) hd
def z09{i j pos}:PE X (.Constant (.int i) j pos) (tC (.int i)):=fun _ _ _ H _ I h=>wpAny_Constant_int ⟨.int i,H,I.tok _,⟨_,rfl⟩,h⟩
def zbV{b j pos}:PE X (.Constant (.bool b) j pos) (tC (.bl b)):=fun _ _ _ H _ I h=>Constant_bool ⟨.bl b,H,I,rfl,h⟩
def zdd{j pos}:PE X (.Constant .none j pos) (tC .non):=fun _ _ _ H _ I h=>Constant_none ⟨.non,H,I,rfl,h⟩
def zf7{x j pos}:PE X (.Constant (.str x) j pos) (tC (.str x)):=fun _ _ _ H _ I h=>Calls.Constant_str ⟨.str x,H,I.tok _,⟨_,rfl⟩,h⟩
def Gl(X:Cx)(x:Str):Prop:=X.env.kindOf x=some .globalImplicit
def z5L{E:yyE}{pins:yyP}{s:Shared}{σ:St}{H:Hp}{x:Str}{u:Value}{pos:Pos}{Q:yyE}(I:Inv X pins σ H s)(hg:Gl X x)(hm:X.mg x=some u)(h:Q u s)(hd:(x==("__debug__":Str))=false:=by decide):wpAny (model X.prog X.w) X.A (eval (.Name x pos) X.env) Q E s :=
 Calls.Name_function_global I.ok.kind hg (Calls.loadGlobal_global (by rw[I.ok.glob];exact I.mod.glob.keeps I.bk) hm h) hd
def z4V{E:yyE}{pins:yyP}{s:Shared}{σ:St}{H:Hp}{x:Str}{u:Value}{pos:Pos}{Q:yyE}(I:Inv X pins σ H s)(hg:Gl X x)(hm:X.mg x=none)(hv:bootBuiltins x=some u)(h:Q u s)(hn:x≠"__name__":=by decide)(hd:(x==("__debug__":Str))=false:=by decide):wpAny (model X.prog X.w) X.A (eval (.Name x pos) X.env) Q E s:=by obtain⟨mb,h1,h2⟩:=I.mod.blt;exact Calls.Name_function_global I.ok.kind hg (Calls.loadGlobal_builtin (by rw[I.ok.glob];exact I.mod.glob.keeps I.bk) hm (by rw[I.ok.blt];exact h1.keeps I.bk) ((h2 x hn).trans hv) h) hd
def zdL{x:Str}{v:V}{u:Value}{pos:Pos}(hg:Gl X x)(hm:X.mg x=some u)(r:z0N v u)(hd:(x==("__debug__":Str))=false:=by decide):PE X (.Name x pos) (tC v) :=
 fun _ _ _ H _ I h=>z5L I hg hm ⟨v,H,I,r,h⟩ hd
def zdI{x:Str}{v:V}{u:Value}{pos:Pos}(hg:Gl X x)(hm:X.mg x=none)(hv:bootBuiltins x=some u)(r:z0N v u)(hn:x≠"__name__":=by decide)(hd:(x==("__debug__":Str))=false:=by decide):PE X (.Name x pos) (tC v) :=
 fun _ _ _ H _ I h=>z4V I hg hm hv ⟨v,H,I,r,h⟩ hn hd
def t2I(ta tb:TE)(k:Int->Int->Hp->Prop):St->Hp->Prop:=fun σ H=>ta σ H fun x H1=>tb σ H1 fun y H2=>∃i j,x=.int i/\y=.int j/\k i j H2
variable{a b:Expr}{ta tb:TE}{pos:Pos}
def PC(X:Cx)(op:CmpOp)(a b:Expr)(t:TE):Prop :=
 ∀(pins:yyP)(s:Shared)(σ:St)(H:Hp)(Q:VK),Inv X pins σ H s->t σ H Q ->
  wpAny (model X.prog X.w) X.A (eval a X.env) (fun v s₁=>wpAny (model X.prog X.w) X.A (eval b X.env) (fun u s₂=>wpAny (model X.prog X.w) X.A (compareOp op v u) (EP X pins σ Q) X.xe s₂) X.xe s₁) X.xe s
def zbJ(b:Expr){op:CmpOp}(h:op≠.In)(h2:op≠.NotIn):behindInMarks op b=false:=by
 have e1:(op==CmpOp.In)=false:=by cases op<;>first|rfl|exact absurd rfl h
 have e2:(op==CmpOp.NotIn)=false:=by cases op<;>first|rfl|exact absurd rfl h2
 cases b<;>simp[behindInMarks,e1,e2]
def zgj(p:Int->Int->Bool)(ta tb:TE):TE:=fun σ H Q=>t2I ta tb (fun i j H2=>Q (.bl (p i j)) H2) σ H
abbrev zhh:TE->TE->TE:=zgj fun i j=>decide (i=j)
abbrev zgR:TE->TE->TE:=zgj fun i j=>!decide (i=j)
def zcY{op:CmpOp}{p:Int->Int->Bool}(ha:PE X a ta)(hb:PE X b tb)(rule:∀(i j:Int)(t u:Tok)(Q:yyE)(s:Shared),Q (.bool (p i j)) s->wpAny (model X.prog X.w) X.A (compareOp op (.int i t) (.int j u)) Q X.xe s):PC X op a b (zgj p ta tb):=by intro pins s σ H Q I h;refine bin ha hb I h fun v u s2 x y H2 I2 rx ry q=>?_;obtain⟨i,j,rfl,rfl,q⟩:=q;obtain⟨t,rfl⟩:=rx;obtain⟨t',rfl⟩:=ry;exact rule i j t t' _ s2 ⟨.bl _,H2,I2,rfl,q⟩
def z2O(ha:PE X a ta)(hb:PE X b tb):PC X .Eq a b (zhh ta tb):=zcY ha hb fun _ _ _ _ _ _ h=>eq_int (by rw[Bool.beq_eq_decide_eq];exact h)
def zeQ(ha:PE X a ta)(hb:PE X b tb):PC X .NotEq a b (zgR ta tb):=zcY ha hb fun _ _ _ _ _ _ h=>ne_int (by rw[bne,Bool.beq_eq_decide_eq];exact h)
def tB(t:TE):TT:=fun σ H Q=>t σ H fun x H1=>∃c,x=.bl c/\Q c H1
def z1K{op:CmpOp}{t:TE}(h:PC X op a b t)(h1:behindInMarks op b=false:=by first|exact zbJ _ (by decide) (by decide)|rfl):PT X (.Compare a [op] [b] pos) (tB t):=by intro pins s σ H Q I hw;refine wpAny_isTrue_Compare1 (thn (h pins s σ H _ I hw) fun v s1 h1=>thn h1 fun u s2 h2=>thn h2 fun c s3 hz8=>?_) h1;obtain⟨x,H1,I1,r1,q1⟩:=hz8;obtain⟨d,rfl,q⟩:=q1;cases r1;exact y1T ⟨H1,I1,q⟩
def z6k{e:Expr}{t:TE}(h:PE X e t)(he:∀whole,isTrue e X.env whole=(do let v <-whole;standAt e.pos;holding [v] (truthy v)):=by intro _;rfl):PT X e (tB t):=by intro pins s σ H Q I hw;refine isTrue_plain (z1H (h pins s σ H _ I hw) fun v s1 x H1 I1 r1 q1=>?_) (he _);obtain⟨d,rfl,q⟩:=q1;cases r1;exact y1T ⟨H1,I1,q⟩
variable{tA tB':TT}{z1k:List Expr}
def zgX(t u:TT):TT:=fun σ H Q=>t σ H fun c H1=>if c=true then u σ H1 Q else Q false H1
def tOr(t u:TT):TT:=fun σ H Q=>t σ H fun c H1=>if c=true then Q true H1 else u σ H1 Q
def zh8(t:TT):TT:=fun σ H Q=>t σ H fun c H1=>Q (!c) H1
def z5M(ha:PT X a tA):PW X (.BoolOp .And [a] pos) tA:=by
 intro wh pins s σ H Q I h;refine isTrue_and (thn (ha pins s σ H Q I h) fun c s1 e=>?_);cases c with
 |true=>exact isTrue_and_nil e
 |false=>exact e
def zaF(ha:PT X a tA):PW X (.BoolOp .Or [a] pos) tA:=by
 intro wh pins s σ H Q I h;refine isTrue_or (thn (ha pins s σ H Q I h) fun c s1 e=>?_);cases c with
 |false=>exact isTrue_or_nil e
 |true=>exact e
def z89(ha:PT X a tA)(hb:PW X (.BoolOp .And (b::z1k) pos) tB'):PW X (.BoolOp .And (a::b::z1k) pos) (zgX tA tB'):=by
 intro wh pins s σ H Q I h;refine isTrue_and (thn (ha pins s σ H _ I h) fun c s1 hz8=>?_);obtain⟨H1,I1,q1⟩:=hz8;cases c with
 |true=>exact hb wh pins s1 σ H1 Q I1 q1
 |false=>exact⟨H1,I1,q1⟩
def zdn(ha:PT X a tA)(hb:PW X (.BoolOp .Or (b::z1k) pos) tB'):PW X (.BoolOp .Or (a::b::z1k) pos) (tOr tA tB'):=by
 intro wh pins s σ H Q I h;refine isTrue_or (thn (ha pins s σ H _ I h) fun c s1 hz8=>?_);obtain⟨H1,I1,q1⟩:=hz8;cases c with
 |true=>exact⟨H1,I1,q1⟩
 |false=>exact hb wh pins s1 σ H1 Q I1 q1
def zfo(ha:PT X a tA):PT X (.UnaryOp .Not a pos) (zh8 tA):=by intro pins s σ H Q I h;exact isTrue_not (ha pins s σ H (fun c H1=>Q (!c) H1) I h)
def zg6(ta tb:TE):TE:=fun σ H Q=>ta σ H fun x H1=>∃c,x=.bl c/\if c=true then tb σ H1 Q else Q (.bl false) H1
def zfS(ta:TE):TE:=fun σ H Q=>ta σ H fun x H1=>∃c,x=.bl c/\Q (.bl (!c)) H1
def z56{op}{t:TE}(h:PE X a t):PE X (.BoolOp op [a] pos) t:=fun pins s σ H Q I hw=>BoolOp_one (h pins s σ H Q I hw)
def z4c(ha:PE X a ta)(hb:PE X (.BoolOp .And (b::z1k) pos) tb):PE X (.BoolOp .And (a::b::z1k) pos) (zg6 ta tb):=by
 intro pins s σ H Q I h;refine BoolOp_and (z1H (ha pins s σ H _ I h) fun v s1 x H1 I1 r1 q1=>?_);obtain⟨c,rfl,q1⟩:=q1;cases r1;refine y1T ?_;cases c with
 |true=>exact hb pins s1 σ H1 Q I1 q1
 |false=>exact⟨.bl false,H1,I1,rfl,q1⟩
def zeu(ha:PE X a ta):PE X (.UnaryOp .Not a pos) (zfS ta):=by intro pins s σ H Q I h;refine UnaryOp_ (z1H (ha pins s σ H _ I h) fun v s1 x H1 I1 r1 q1=>?_);obtain⟨c,rfl,q1⟩:=q1;cases r1;exact not_of (y1T ⟨.bl (!c),H1,I1,rfl,q1⟩)
def tIf(t:TT)(ta tb:TE):TE:=fun σ H Q=>t σ H fun c H1=>if c=true then ta σ H1 Q else tb σ H1 Q
def zcq{c:Expr}(hc:PT X c tA)(ha:PE X a ta)(hb:PE X b tb):PE X (.IfExp c a b pos) (tIf tA ta tb):=by
 intro pins s σ H Q I h;refine wpAny_IfExp (thn (hc pins s σ H _ I h) fun d s1 hz8=>?_);obtain⟨H1,I1,q1⟩:=hz8;cases d with
 |true=>exact ha pins s1 σ H1 Q I1 q1
 |false=>exact hb pins s1 σ H1 Q I1 q1
end
def SqL(K:yyF)(H:Hp)(a:Addr)(xs:List V):Prop :=
 Rd H a (.lst xs) \/
  ∃(o:Obj) (its:Array Value) (n:Nat),K.lookup a=some o/\o.cls=.type "list"/\o.dict=none/\o.data=.seq its n/\its.size<=sizeLine/\z0O xs its.toList
def SqT(K:yyF)(H:Hp)(a:Addr)(xs:List V):Prop :=
 Rd H a (.tup xs) \/
  ∃(o:Obj) (its:Array Value) (n:Nat),K.lookup a=some o/\o.cls=.type "tuple"/\o.data=.seq its n/\its.size<=sizeLine/\z0O xs its.toList
def zhl:Value->Option V
 |.none=>some .non
 |.bool b=>some (.bl b)
 |.int i _=>some (.int i)
 |.str x _=>some (.str x)
 |.bytes b _=>some (.byt b)
 |.float b _=>some (.flt b)
 |.ref a=>some (.ref a)
 |.type n=>some (.ty n)
 |_=>none
def z0N.abs{x:V}{u:Value}(r:z0N x u):zhl u=some x:=by
 cases x with
 |non=>cases r;rfl
 |bl _=>cases r;rfl
 |int _=>obtain⟨t,rfl⟩:=r;rfl
 |str _=>obtain⟨t,rfl⟩:=r;rfl
 |byt _=>obtain⟨t,rfl⟩:=r;rfl
 |flt _=>obtain⟨t,rfl⟩:=r;rfl
 |ref _=>cases r;rfl
 |ty _=>cases r;rfl
def z0N.inj{x y:V}{u:Value}(r:z0N x u)(q:z0N y u):x=y:=y0b (r.abs.symm.trans q.abs)
theorem z0O.inj:∀{xs ys:List V}{us:List Value},z0O xs us->z0O ys us->xs=ys
 |_,_,_,.nil,.nil=>rfl
 |_,_,_,.cons r t,.cons r' t'=>by rw[r.inj r',z0O.inj t t']
section
variable{X:Cx}{pins:yyP}{σ:St}{H:Hp}{s:Shared}{a:Addr}{xs ys:List V}
def SqL.of{K:yyF}(h:H a=some (.lst xs)):SqL K H a xs:=.inl (.inl h)
def SqT.of{K:yyF}(h:H a=some (.tup xs)):SqT K H a xs:=.inl (.inl h)
def Inv.list(I:Inv X pins σ H s)(h:SqL X.K H a xs):∃its:List Value,z0O xs its/\PlainL s.heap a its.toArray/\xs.length<=sizeLine:=by
 rcases h with h|⟨o,its,n,hk,hc,hd,hs,hz,r⟩
 .obtain⟨z,its,n,r,e⟩:=h.ok I.hok;exact⟨its,r,⟨_,n,e,rfl,rfl,rfl⟩,z⟩
 .refine⟨its.toList,r,⟨o,n,I.kIn a o hk,hc,hd,by simpa using hs⟩,?_⟩;have e:=r.length;simp only[y0s]at e;lia
def Inv.tuple(I:Inv X pins σ H s)(h:SqT X.K H a xs):∃its:List Value,z0O xs its/\IsTup s.heap a its.toArray/\xs.length<=sizeLine:=by
 rcases h with h|⟨o,its,n,hk,hc,hs,hz,r⟩
 .obtain⟨z,its,n,r,e⟩:=h.ok I.hok;exact⟨its,r,⟨_,e,rfl,n,rfl⟩,z⟩
 .refine⟨its.toList,r,⟨o,I.kIn a o hk,hc,n,by simpa using hs⟩,?_⟩;have e:=r.length;simp only[y0s]at e;lia
def Inv.list_inj(I:Inv X pins σ H s)(h:SqL X.K H a xs)(h':SqL X.K H a ys):xs=ys:=by
 obtain⟨its,r,⟨o,n,e,_,_,d⟩,_⟩:=I.list h;obtain⟨its',r',⟨o',n',e',_,_,d'⟩,_⟩:=I.list h';rw[e]at e';cases e';rw[d]at d';injection d' with d1 _;have:its=its':=by simpa using y1o Array.toList d1
 subst this;exact r.inj r'
def Inv.tuple_inj(I:Inv X pins σ H s)(h:SqT X.K H a xs)(h':SqT X.K H a ys):xs=ys:=by
 obtain⟨its,r,⟨o,e,_,n,d⟩,_⟩:=I.tuple h;obtain⟨its',r',⟨o',e',_,n',d'⟩,_⟩:=I.tuple h';rw[e]at e';cases e';rw[d]at d';injection d' with d1 _;have:its=its':=by simpa using y1o Array.toList d1
 subst this;exact r.inj r'
end
abbrev Cx.wish(X:Cx)(E:yyE):Cx:={ X with xe:=E }
abbrev Cx.nox(X:Cx):Cx:=X.wish fun _ _=>False
theorem Cx.Ok.wish{X:Cx}(ok:X.Ok)(E:yyE):(X.wish E).Ok :=
 ⟨ok.mod,ok.kind,ok.glob,ok.blt,ok.above,ok.inj,ok.has,ok.cab,ok.hd,ok.frames,ok.stk,ok.exf,ok.bs,ok.bsz,ok.noex,ok.exfs,ok.funs,ok.frf⟩
def Cx.Ok.unwish{X:Cx}{E:yyE}(ok:(X.wish E).Ok):X.Ok :=
 ⟨ok.mod,ok.kind,ok.glob,ok.blt,ok.above,ok.inj,ok.has,ok.cab,ok.hd,ok.frames,ok.stk,ok.exf,ok.bs,ok.bsz,ok.noex,ok.exfs,ok.funs,ok.frf⟩
section
variable{X:Cx}{pins:yyP}{σ:St}{H:Hp}{s:Shared}{E:yyE}
theorem Inv.wish(I:Inv X pins σ H s)(E:yyE):Inv (X.wish E) pins σ H s:=⟨I.ok.wish E,I.os,I.bare,I.base,I.loc,I.cell,I.free,I.freeC,I.pin,I.hok,I.len⟩
theorem Inv.unwish(I:Inv (X.wish E) pins σ H s):Inv X pins σ H s:=⟨I.ok.unwish,I.os,I.bare,I.base,I.loc,I.cell,I.free,I.freeC,I.pin,I.hok,I.len⟩
theorem SP.unwish{D:z3Y}{f:Flow}{s':Shared}(h:SP (X.wish E) pins D f s'):SP X pins D f s':=by
 cases f with
 |next=>obtain⟨σ',H',I,q⟩:=h;exact⟨σ',H',I.unwish,q⟩
 |brk=>obtain⟨σ',H',I,q⟩:=h;exact⟨σ',H',I.unwish,q⟩
 |cont=>obtain⟨σ',H',I,q⟩:=h;exact⟨σ',H',I.unwish,q⟩
 |ret u=>obtain⟨v,σ',H',I,r,q⟩:=h;exact⟨v,σ',H',I.unwish,r,q⟩
theorem PSs.nox{st:List Stmt}{t:TS}(h:PSs X.nox st t):PSs X st t:=fun pins s σ H D I hw =>
 y1C (h pins s σ H D (I.wish _) hw) (fun _ _ q=>q.unwish) fun _ _ z=>False.elim z
end
section
variable{X:Cx}{st:Stmt}{z1k:List Stmt}{t u:TS}{e:Expr}{te:TE}{pos:Pos}
def zgp:TS:=fun D σ H=>D.nx σ H
def zfl(t u:TS):TS:=fun D σ H=>t { D with nx:=u D } σ H
def z0E:PSs X [] zgp:=fun _ _ σ H _ I h=>y3I ⟨σ,H,I,h⟩
def z04(h1:PS X st t)(h2:PSs X z1k u):PSs X (st::z1k) (zfl t u):=by
 intro pins s σ H D I h;refine wpAny_execs_cons (thn (h1 pins s σ H { D with nx:=u D } I h) fun f s1 q=>?_);cases f with
 |next =>
  obtain⟨σ',H',I',q⟩:=q;exact h2 pins s1 σ' H' D I' q
 |ret v=>exact q
 |brk=>exact q
 |cont=>exact q
def z0a(h1:PS X st t):PSs X [st] t:=by
 intro pins s σ H D I h;refine wpAny_execs_cons (thn (h1 pins s σ H D I h) fun f s1 q=>?_);cases f with
 |next=>exact y3I q
 |ret v=>exact q
 |brk=>exact q
 |cont=>exact q
def Inv.quiet{pins:yyP}{σ:St}{H:Hp}{s:Shared}(I:Inv X pins σ H s):interactive X.env=false:=by simp[interactive,I.ok.kind]
def zg0(te:TE):TS:=fun D σ H=>te σ H fun _ H1=>D.nx σ H1
def z1A(he:PE X e te)(hs:swapsWith e none pos.line X.env=pure false:=by rfl):PS X (.Expr e pos) (zg0 te):=by intro pins s σ H D I h;exact wpAny_Expr_any (z1H (he pins s σ H _ I h) fun v s1 x H1 I1 r1 q1=>⟨σ,H1,I1,q1⟩) I.quiet hs
def zgS(te:TE):TS:=fun D σ H=>te σ H D.rt
def z0I(he:PE X e te):PS X (.Return (some e) pos) (zgS te):=by intro pins s σ H D I h;exact wpAny_Return_some (z1H (he pins s σ H _ I h) fun v s1 x H1 I1 r1 q1=>⟨x,σ,H1,I1,r1,q1⟩)
def zh5(c:TT)(t u:TS):TS:=fun D σ H=>c σ H fun b H1=>if b=true then t D σ H1 else u D σ H1
def z1M{c:Expr}{a b:List Stmt}{tc:TT}(hc:PT X c tc)(ha:PSs X a t)(hb:PSs X b u):PS X (.If c a b pos) (zh5 tc t u):=by
 intro pins s σ H D I h;refine wpAny_If (thn (hc pins s σ H _ I h) fun d s1 hz8=>?_);obtain⟨H1,I1,q1⟩:=hz8;cases d with
 |true=>exact ha pins s1 σ H1 D I1 q1
 |false=>exact hb pins s1 σ H1 D I1 q1
end
abbrev TG:=V->St->Hp->(St->Hp->Prop)->Prop
abbrev TGs:=List V->St->Hp->(St->Hp->Prop)->Prop
def PG(X:Cx)(target:Expr)(t:TG):Prop :=
 ∀(pins:yyP)(s:Shared)(σ:St)(H:Hp)(v:V)(u:Value)(Q:St->Hp->Prop),Inv X pins σ H s->z0N v u->t v σ H Q ->
  wpAny (model X.prog X.w) X.A (assign target X.env u) (fun _ s'=>∃σ' H',Inv X pins σ' H' s'/\Q σ' H') X.xe s
def PGs(X:Cx)(ts:List Expr)(t:TGs):Prop :=
 ∀(pins:yyP)(s:Shared)(σ:St)(H:Hp)(vs:List V)(us:List Value)(Q:St->Hp->Prop),Inv X pins σ H s->z0O vs us->t vs σ H Q ->
  wpAny (model X.prog X.w) X.A (assignInOrder ((assignEach ts X.env).map (·.2)) us) (fun _ s'=>∃σ' H',Inv X pins σ' H' s'/\Q σ' H') X.xe s
abbrev zfY:=V->V->V->Hp->(Hp->Prop)->Prop
def zgI(X:Cx)(t:zfY):Prop :=
 ∀(pins:yyP)(s:Shared)(σ:St)(H:Hp)(o i v:V)(ov iv u:Value)(Q:Hp->Prop),Inv X pins σ H s->z0N o ov->z0N i iv->z0N v u->t o i v H Q ->
  wpAny (model X.prog X.w) X.A (setItem ov iv u) (fun _ s'=>∃H',Inv X pins σ H' s'/\Q H') X.xe s
abbrev TIp:=V->V->Hp->VK->Prop
def PIp(X:Cx)(op:Operator)(t:TIp):Prop :=
 ∀(pins:yyP)(s:Shared)(σ:St)(H:Hp)(x y:V)(v u:Value)(Q:VK),Inv X pins σ H s->z0N x v->z0N y u->t x y H Q ->
  wpAny (model X.prog X.w) X.A (inplaceOp op v u) (EP X pins σ Q) X.xe s
section
variable{X:Cx}{pos:Pos}
def zc7(i:Nat):TG:=fun v σ H Q=>Q (σ.set i (some v)) H
def z0k{i:Nat}{x:Str}(hN:X.N.Nodup)(hi:X.N[i]?=some x)(hx:Loc X.env.scope x)(hf:X.fn x=true\/X.env.scope.names.lookup x=some .local:=by first|exact .inl rfl|exact .inr rfl|assumption):PG X (.Name x pos) (zc7 i):=by intro pins s σ H v u Q I r h;exact wpAny_assign_Name (z5H I hN hi hx r (fun s' I'=>⟨_,H,I',h⟩) hf)
def zgQ:TGs:=fun vs σ H Q=>vs=[]/\Q σ H
def zgi(t:TG)(u:TGs):TGs:=fun vs σ H Q=>∃v r,vs=v::r/\t v σ H fun σ' H'=>u r σ' H' Q
def z3E:PGs X [] zgQ:=by intro pins s σ H vs us Q I r h;obtain⟨e,h⟩:=h;subst e;cases r;exact assignInOrder_nil ⟨σ,H,I,h⟩
def z1e{e:Expr}{es:List Expr}{t:TG}{u:TGs}(h1:PG X e t)(h2:PGs X es u)(hs:(assignEach (e::es) X.env).map (·.2)=assign e X.env::(assignEach es X.env).map (·.2):=by rfl):PGs X (e::es) (zgi t u):=by
 intro pins s σ H vs us Q I r h;obtain⟨v,vr,e1,h⟩:=h;subst e1;cases r with
 |cons r rr =>
  rw[hs];refine assignInOrder_cons (thn (h1 pins s σ H _ _ _ I r h) fun _ s1 hz8=>?_);obtain⟨σ1,H1,I1,q1⟩:=hz8;exact h2 pins s1 σ1 H1 _ _ Q I1 rr q1
def zgw(K:yyF)(n:Nat)(t:TGs):TG:=fun v σ H Q=>∃a xs,v=.ref a/\SqT K H a xs/\xs.length=n/\t xs σ H Q
def z8v{es:List Expr}{k:Nat}{t:TGs}{n:Nat}(hc:X.calm=true)(h:PGs X es t)(hn:(assignEach es X.env).length=n:=by rfl)(hst:(assignEach es X.env).findIdx? (·.1)=none:=by rfl):PG X (.Tuple es k pos) (zgw X.K n t):=by intro pins s σ H v u Q I r hw;obtain⟨a,xs,e1,hq,hl,hw⟩:=hw;subst e1;cases r;obtain⟨its,rv,ht,hz⟩:=I.tuple hq;refine assign_Tuple_tuple (I.ok.hd hc) ht (by simp[hn,<-hl,rv.length]) hst fun h' hx=>?_;have I1:Inv X pins σ H { s with heap:=h' }:=I.kept (t':=s.toks) fun b o e=>hx b o (y0y (y0j e)) e;exact h pins _ σ H xs _ Q I1 (by simpa using rv) hw
def zh7(to ti:TE)(t:zfY):TG:=fun v σ H Q=>to σ H fun o H1=>ti σ H1 fun i H2=>t o i v H2 fun H3=>Q σ H3
def zeR{o i:Expr}{to ti:TE}{t:zfY}(ho:PE X o to)(hi:PE X i ti)(hs:zgI X t)
  (ha:∀v,assign (.Subscript o i pos) X.env v=(do
   let ov <-holding [v] (eval o X.env);let iv <-holding [v,ov] (eval i X.env)
   standAt pos
   holding [v,ov,iv] (setItem ov iv v)
   release [v,ov,iv] []):=by intro _;rfl):PG X (.Subscript o i pos) (zh7 to ti t):=by
 intro pins s σ H v u Q I r h;rw[ha];refine y02 (y1t (z1H (ho pins s σ H _ I h) fun ov s1 x H1 I1 r1 q1=>?_));refine y02 (y1t (z1H (hi pins s1 σ H1 _ I1 q1) fun iv s2 y H2 I2 r2 q2=>?_));refine y02 (wpAny_standAt (y02 (y1t (thn (hs pins s2 σ H2 x y v ov iv u _ I2 r1 r2 r q2) fun _ s3 hz8=>?_))));obtain⟨H3,I3,q3⟩:=hz8;exact wpAny_release ⟨σ,H3,I3,q3⟩
def zfT(te:TE)(g:TG):TS:=fun D σ H=>te σ H fun x H1=>g x σ H1 D.nx
def zd1{tg e:Expr}{te:TE}{g:TG}(he:PE X e te)(hg:PG X tg g)(hs:swapsWithSole [tg] e pos.line X.env=pure false:=by rfl)(hw:swappedStores [tg] e X.env=pure none:=by rfl)(h1:(assignEach [tg] X.env).map (·.2)=[assign tg X.env]:=by rfl):PS X (.Assign [tg] e pos) (zfT te g):=by intro pins s σ H D I h;refine wpAny_Assign_stores (z1H (he pins s σ H _ I h) fun v s1 x H1 I1 r1 q1=>?_) hs hw;rw[h1];exact thn (hg pins s1 σ H1 x v _ I1 r1 q1) fun _ s2 q=>q
def z0g{i:Nat}{x:Str}{e:Expr}{te:TE}{pos':Pos}(hN:X.N.Nodup)(hi:X.N[i]?=some x)(hx:Loc X.env.scope x)(he:PE X e te)(hs:swapsWith e (some (.Name x pos')) pos.line X.env=pure false:=by rfl)(hf:X.fn x=true\/X.env.scope.names.lookup x=some .local:=by first|exact .inl rfl|exact .inr rfl|assumption) : PS X (.Assign [.Name x pos'] e pos) (zfT te (zc7 i)):=by intro pins s σ H D I h;refine wpAny_Assign_Name (z1H (he pins s σ H _ I h) fun v s1 y H1 I1 r1 q1=>?_) hs;exact z5H I1 hN hi hx r1 (fun s2 I2=>⟨_,H1,I2,q1⟩) hf
def zh4(i:Nat)(te:TE)(ti:TIp):TS:=fun D σ H=>∃x,σ[i]?=some (some x)/\te σ H fun y H1=>ti x y H1 fun z H2=>D.nx (σ.set i (some z)) H2
def zf3{i:Nat}{x:Str}{e:Expr}{te:TE}{op:Operator}{ti:TIp}{pos':Pos}(hN:X.N.Nodup)(hi:X.N[i]?=some x)(hx:Loc X.env.scope x)(he:PE X e te)(ho:PIp X op ti)(hf:X.fn x=true\/X.env.scope.names.lookup x=some .local:=by first|exact .inl rfl|exact .inr rfl|assumption) : PS X (.AugAssign (.Name x pos') op e pos) (zh4 i te ti):=by
 intro pins s σ H D I h;obtain⟨v,e1,h⟩:=h;obtain⟨m,hn,hl⟩:=I.loc;have vis:Vis X.env.scope x:=by rcases hx with k|k;exact .inl k;exact .inr (.inl k)
 obtain⟨u,r,l⟩:=hl i x v hi e1 vis;refine wpAny_AugAssign_Name ?_;have go:wpAny (model X.prog X.w) X.A (eval e X.env) (fun w s₂=>wpAny (model X.prog X.w) X.A (inplaceOp op u w) (fun r s₃=>wpAny (model X.prog X.w) X.A (storeName X.env x r) (fun _=>SP X pins D .next) X.xe s₃) X.xe s₂) X.xe s:=by refine z1H (he pins s σ H _ I h) fun w s1 y H1 I1 r1 q1=>?_;refine z1H (ho pins s1 σ H1 v y u w _ I1 r r1 q1) fun z s2 zv H2 I2 r2 q2=>?_;exact z5H I2 hN hi hx r2 (fun s3 I3=>⟨_,H2,I3,q2⟩) hf
 rcases l with⟨hk,hm⟩|⟨hk,c,hc,hcell⟩
 .exact wpAny_loadName_local I.ok.kind hk hn hm go
 .rcases hk with hk|hk
  .exact wpAny_loadName_cell I.ok.kind hk hc hcell go
  .rcases hx with k|k
   .have:X.env.scope.names.lookup x=some .free:=hk;rw[k]at this;cases this
   .have:X.env.scope.names.lookup x=some .free:=hk;rw[k]at this;cases this
def ipI(f:Int->Int->Int):TIp:=fun x y H Q=>∃i j,x=.int i/\y=.int j/\Q (.int (f i j)) H
def zfr:PIp X .Add (ipI fun i j=>i+j):=by intro pins s σ H x y v u Q I r1 r2 h;obtain⟨i,j,e1,e2,q⟩:=h;subst e1;subst e2;obtain⟨t,rfl⟩:=r1;obtain⟨t',rfl⟩:=r2;exact iadd_int ⟨.int _,H,I.tok _,⟨_,rfl⟩,q⟩
end
section
variable{X:Cx}{pos:Pos}
def z6Y(c:TT)(tb:TS):TS:=fun D σ H=>∃W:Nat->St->Hp->Prop,(∃m,W m σ H)/\∀m σ H,W m σ H ->
 c σ H fun b H1=>if b=true then ∃N:St->Hp->Prop,(∀σ' H',N σ' H'->∃m',m'<m/\W m' σ' H')/\tb { D with nx:=N,ct:=N,bk:=D.nx } σ H1 else D.nx σ H1
def z2B{c:Expr}{body:List Stmt}{tc:TT}{tb:TS}(hp:PassesOwn (model X.prog X.w) X.A X.env X.xe)(hc:PT X c tc)(hb:PSs X body tb):PS X (.While c body [] pos) (z6Y tc tb):=by
 intro pins s σ H D I h;obtain⟨W,⟨m0,w0⟩,zby⟩:=h;refine wpAny_While (codeAny_whileLoop (fun n s'=>∃σ' H',Inv X pins σ' H' s'/\W n σ' H') ?_ m0 ⟨σ,H,I,w0⟩);rintro n s1 ⟨σ1,H1,I1,w1⟩;refine y2m hp (thn (hc pins s1 σ1 H1 _ I1 (zby n σ1 H1 w1)) fun b s2 hz8=>?_);obtain⟨H2,I2,q2⟩:=hz8;cases b with
 |true =>
  obtain⟨N,hN,q2⟩:=q2;rw[if_pos rfl];refine y2m hp (thn (hb pins s2 σ1 H2 _ I2 q2) fun f s3 q3=>?_);cases f with
  |next =>
   obtain⟨σ3,H3,I3,n3⟩:=q3;obtain⟨m',hm,w3⟩:=hN σ3 H3 n3;exact⟨m',hm,σ3,H3,I3,w3⟩
  |cont =>
   obtain⟨σ3,H3,I3,n3⟩:=q3;obtain⟨m',hm,w3⟩:=hN σ3 H3 n3;exact⟨m',hm,σ3,H3,I3,w3⟩
  |brk=>exact q3
  |ret v=>exact q3
 |false =>
  rw[if_neg y0C];exact y3I ⟨σ1,H2,I2,q2⟩
end
structure It where
 go:Nat->Hp->Prop
 yld:Nat->Hp->V->Hp->Prop
 stop:Nat->Hp->Prop
def z53(X:Cx)(pins:yyP)(H:Hp)(b:Addr):Prop :=
 H b=none/\b≠X.env.locals/\b∉X.fs/\(b∈X.ex\/X.s₀.heap.objs.size<=b)/\(∀x c,X.env.cells.lookup x=some c->c≠b)/\∀p∈X.pn++pins,p.1≠b
def Inv.fpOk{X:Cx}{pins:yyP}{σ:St}{H H':Hp}{s:Shared}{b:Addr}(I:Inv X pins σ H s)(hb:s.heap.objs.size<=b)(hn:H' b=none):z53 X pins H' b:=by
 refine⟨hn,y33 (y0t I.lt hb),I.nofs hb,.inr (y0S I.sz hb),fun x c e z=>?_,fun p hp z=>?_⟩
 .obtain⟨v,q⟩:=I.cell x c e;exact absurd (y0t q.lt (by rw[z];exact hb)) (y2e _)
 .exact absurd (y0t (y0j (I.pin p hp).1) (by rw[z];exact hb)) (y2e _)
structure zep(P:Program)(w:World)(K:yyF)(tg:Expr)(J:It)(fp:List Addr)(it:Addr)(tn:Nat->Heap->Prop):Prop where
 mem:it∈fp
 obj:∀i h,tn i h->∀b∈fp,∃o,h.get? b=some o/\∀v,o.data≠.cell v
 keep:∀i h h',tn i h->(∀b∈fp,∀o,h.get? b=some o->h'.get? b=some o)->tn i h'
 item:∀(X:Cx),X.prog=P->X.w=w->X.K=K->X.calm=true->∀(i:Nat)(pins:yyP)(s:Shared)(σ:St)(H:Hp)(E:yyE),Inv X pins σ H s->(∀b∈fp,z53 X pins H b)->tn i s.heap->J.go i H ->
  wpAny (model P w) X.A (pyNext (.ref it)) (fun r s1=>∃u,r=some u /\
   wpAny (model P w) X.A (letOwnedTupleGo tg (.ref it) u) (fun _ s2=>∃x H',Inv X pins σ H' s2/\z0N x u/\J.yld i H x H'/\tn (i+1) s2.heap/\∀b∈fp,H' b=none) E s1) E s
 done:∀(X:Cx),X.prog=P->X.w=w->X.K=K->X.calm=true->∀(i:Nat)(pins:yyP)(s:Shared)(σ:St)(H:Hp)(E:yyE),Inv X pins σ H s->(∀b∈fp,z53 X pins H b)->tn i s.heap->J.stop i H ->
  wpAny (model P w) X.A (pyNext (.ref it)) (fun r s1=>r=none/\Inv X pins σ H s1) E s
 self:∀(A:Around)(i:Nat)(s:Shared)(Q:yyE)(E:yyE),tn i s.heap->Q (.ref it) s->wpAny (model P w) A (pyIter (.ref it)) Q E s
abbrev TI:=St->Hp->(It->Hp->Prop)->Prop
def PIE(X:Cx)(pins:yyP)(σ:St)(tg:Expr)(R:It->Hp->Prop)(itv:Value)(s2:Shared):Prop :=
 ∃(it:Addr)(fp:List Addr)(tn:Nat->Heap->Prop)(J:It)(H':Hp),itv=.ref it/\Inv X pins σ H' s2/\zep X.prog X.w X.K tg J fp it tn/\tn 0 s2.heap/\(∀b∈fp,z53 X pins H' b)/\R J H'
def PI(X:Cx)(tg iter:Expr)(wi:TI):Prop :=
 ∀(pins:yyP)(s:Shared)(σ:St)(H:Hp)(R:It->Hp->Prop),Inv X pins σ H s->wi σ H R ->
  wpAny (model X.prog X.w) X.A (eval iter X.env) (fun v s1=>wpAny (model X.prog X.w) X.A (pyIter v) (PIE X pins σ tg R) X.xe s1) X.xe s
def zdQ{M:Model}{A:Around}{E:yyE}{s:Shared}{tg:Expr}{it:Addr}{u:Value}{o:Obj}{n:String}{vs:Array Value}{Q:Unit->Shared->Prop}(ho:s.heap.get? it=some o)(hc:o.cls=.type n)(hd:o.data=.fields vs)(hn:["enumerate","zip","dict_itemiterator","dict_reverseitemiterator","odict_iterator","itertools.zip_longest","itertools.pairwise"].contains n=false)(hQ:Q () s):wpAny M A (letOwnedTupleGo tg (.ref it) u) Q E s:=by
 unfold letOwnedTupleGo;cases tg<;>first
  |exact y08 hQ
  | (cases u<;>first
    |exact y08 hQ
    | (refine y02 (wpAny_load ho ?_)
       rw[hc,hd];show wpAny M A (if(["enumerate","zip","dict_itemiterator","dict_reverseitemiterator","odict_iterator","itertools.zip_longest","itertools.pairwise"].contains n&&vs[0]?==some (rawInt _))=true then _ else _) Q E s;rw[if_neg (by intro h;rw[hn,Bool.false_and]at h;cases h)];exact y08 hQ))
def Itl(K:yyF)(a:Addr):It :=
 ⟨fun i H=>∃xs x,SqL K H a xs/\xs[i]?=some x,fun i H x H'=>H'=H/\∀xs,SqL K H a xs->xs[i]?=some x,fun i H=>∃xs,SqL K H a xs/\xs.length<=i⟩
def Itt(K:yyF)(a:Addr):It :=
 ⟨fun i H=>∃xs x,SqT K H a xs/\xs[i]?=some x,fun i H x H'=>H'=H/\∀xs,SqT K H a xs->xs[i]?=some x,fun i H=>∃xs,SqT K H a xs/\xs.length<=i⟩
def Itr(lo:Int)(n:Nat):It:=⟨fun i _=>i<n,fun i H x H'=>H'=H/\x=.int (lo+i),fun i _=>n<=i⟩
def zb6{P:Program}{w:World}{K:yyF}{tg:Expr}(a it:Addr):zep P w K tg (Itl K a) [it] it (fun i h=>h.IsListIter it a i) where
 mem:=by simp
 obj:=fun i h st b hb=>by
  have e:b=it:=by simpa using hb
  subst e;obtain⟨o,e,c,d⟩:=st;exact⟨o,e,fun v z=>by rw[d]at z;cases z⟩
 keep:=fun i h h' st k=>st.at fun o e=>k it (by simp) o e
 item:=by intro X hP hw hK hc i pins s σ H E I hf st hg;subst hP hw hK;obtain⟨xs,x,hq,hx⟩:=hg;obtain⟨its,rv,p,hz⟩:=I.list hq;obtain⟨u,hu,ru⟩:=rv.get hx;obtain⟨f0,f1,f2,f3,f4,f5⟩:=hf it (by simp);refine wpAny_pyNext_list_item st p.isList (x:=u) (by simpa using hu) fun h' st' sb=>?_;have I1:Inv X pins σ H { s with heap:=h' }:=I.turned (t':=s.toks) (fun b o hb e=>(sb.2 b hb).trans e) f0 f1 f3 f4 f5;obtain⟨o,e,c,d⟩:=id st';exact⟨u,rfl,zdQ (s:={ s with heap:=h' }) e c d (by decide) ⟨x,H,I1,ru,⟨rfl,fun ys hy=>by rw[I.list_inj hy hq];exact hx⟩,st',fun b hb=>(hf b hb).1⟩⟩
 done:=by intro X hP hw hK hc i pins s σ H E I hf st hg;subst hP hw hK;obtain⟨xs,hq,hx⟩:=hg;obtain⟨its,rv,p,hz⟩:=I.list hq;obtain⟨f0,f1,f2,f3,f4,f5⟩:=hf it (by simp);have hl:=rv.length;exact wpAny_pyNext_list_end (I.ok.hd hc) st p.isList (by simp;lia) fun h' eb=>⟨rfl,I.turned (t':=s.toks) (fun b o hb e=>eb b o hb e) f0 f1 f3 f4 f5⟩
 self:=fun _ _ _ _ _ st h=>wpAny_pyIter_listiter st h
def z9t{P:Program}{w:World}{K:yyF}{tg:Expr}(a it:Addr):zep P w K tg (Itt K a) [it] it (fun i h=>h.IsTupleIter it a i) where
 mem:=by simp
 obj:=fun i h st b hb=>by
  have e:b=it:=by simpa using hb
  subst e;obtain⟨o,e,c,d⟩:=st;exact⟨o,e,fun v z=>by rw[d]at z;cases z⟩
 keep:=fun i h h' st k=>st.at fun o e=>k it (by simp) o e
 item:=by intro X hP hw hK hc i pins s σ H E I hf st hg;subst hP hw hK;obtain⟨xs,x,hq,hx⟩:=hg;obtain⟨its,rv,p,hz⟩:=I.tuple hq;obtain⟨u,hu,ru⟩:=rv.get hx;obtain⟨f0,f1,f2,f3,f4,f5⟩:=hf it (by simp);refine wpAny_pyNext_tuple_item st (show s.heap.IsTuple a its.toArray from p) (x:=u) (by simpa using hu) fun h' st' sb=>?_;have I1:Inv X pins σ H { s with heap:=h' }:=I.turned (t':=s.toks) (fun b o hb e=>(sb.2 b hb).trans e) f0 f1 f3 f4 f5;obtain⟨o,e,c,d⟩:=id st';exact⟨u,rfl,zdQ (s:={ s with heap:=h' }) e c d (by decide) ⟨x,H,I1,ru,⟨rfl,fun ys hy=>by rw[I.tuple_inj hy hq];exact hx⟩,st',fun b hb=>(hf b hb).1⟩⟩
 done:=by intro X hP hw hK hc i pins s σ H E I hf st hg;subst hP hw hK;obtain⟨xs,hq,hx⟩:=hg;obtain⟨its,rv,p,hz⟩:=I.tuple hq;obtain⟨f0,f1,f2,f3,f4,f5⟩:=hf it (by simp);have hl:=rv.length;exact wpAny_pyNext_tuple_end (I.ok.hd hc) st (show s.heap.IsTuple a its.toArray from p) (by simp;lia) fun h' eb=>⟨rfl,I.turned (t':=s.toks) (fun b o hb e=>eb b o hb e) f0 f1 f3 f4 f5⟩
 self:=fun _ _ _ _ _ st h=>wpAny_pyIter_tupleiter st h
def z9u{P:Program}{w:World}{K:yyF}{tg:Expr}(it:Addr)(lo:Int)(n:Nat):zep P w K tg (Itr lo n) [it] it (fun i h=>IsRangeIter h it (lo+(i:Nat)*1) ((n:Int)-(i:Nat)) 1) where
 mem:=by simp
 obj:=fun i h st b hb=>by
  have e:b=it:=by simpa using hb
  subst e;exact⟨_,st,fun v z=>by have z':Data.fields _=Data.cell v:=z;cases z'⟩
 keep:=fun i h h' st k=>k it (by simp) _ st
 item:=by intro X hP hw hK hc i pins s σ H E I hf st hg;subst hP hw hK;obtain⟨f0,f1,f2,f3,f4,f5⟩:=hf it (by simp);have W:=Walks.range (prog:=X.prog) (w:=X.w) (I.ok.hd hc) it lo 1 n;refine W.item i s _ _ hg st fun v h' tk hv st' kk=>?_;obtain⟨t,rfl⟩:=hv;have I1:Inv X pins σ H { s with heap:=h',toks:=tk }:=I.turned (fun b o hb e=>kk b o (by simpa using hb) e) f0 f1 f3 f4 f5;refine⟨_,rfl,zdQ (s:={ s with heap:=h',toks:=tk }) (n:="range_iterator") st' rfl rfl (by decide) ⟨.int (lo+i),H,I1,⟨t,?_⟩,⟨rfl,rfl⟩,st',fun b hb=>(hf b hb).1⟩⟩;rw[Int.mul_one]
 done:=by intro X hP hw hK hc i pins s σ H E I hf st hg;subst hP hw hK;obtain⟨f0,f1,f2,f3,f4,f5⟩:=hf it (by simp);exact wpAny_pyNext_range_end (I.ok.hd hc) st (by have:n<=i:=hg;lia) fun h' eb=>⟨rfl,I.turned (t':=s.toks) (fun b o hb e=>eb b o hb e) f0 f1 f3 f4 f5⟩
 self:=fun _ _ _ _ _ st h=>wpAny_pyIter_rangeiter st h
section
variable{X:Cx}{tg:Expr}
def zfK(K:yyF)(tl:TE):TI:=fun σ H R=>tl σ H fun x H1=>∃a,x=.ref a/\(∃xs,SqL K H1 a xs)/\R (Itl K a) H1
def zgv(K:yyF)(tl:TE):TI:=fun σ H R=>tl σ H fun x H1=>∃a,x=.ref a/\(∃xs,SqT K H1 a xs)/\R (Itt K a) H1
def z1z{l:Expr}{tl:TE}(hl:PE X l tl):PI X tg l (zfK X.K tl):=by
 intro pins s σ H R I h;refine z1H (hl pins s σ H _ I h) fun v s1 x H1 I1 r1 q1=>?_;obtain⟨a,e,⟨xs,hq⟩,q⟩:=q1;subst e;cases r1;obtain⟨its,rv,p,hz⟩:=I1.list hq;refine wpAny_pyIter_list p.isList ?_;refine⟨s1.heap.objs.size,[s1.heap.objs.size],_,_,H1,rfl,I1.kept (t':=s1.toks) fun b o e=>y05 _ e,zb6 a _,⟨_,y0h _ rfl,rfl,rfl⟩,fun b hb=>?_,q⟩;have e:b=s1.heap.objs.size:=by simpa using hb
 subst e;exact I1.fpOk (y0d _) (I1.hok.fresh (y0d _))
def z54{l:Expr}{tl:TE}(hl:PE X l tl):PI X tg l (zgv X.K tl):=by
 intro pins s σ H R I h;refine z1H (hl pins s σ H _ I h) fun v s1 x H1 I1 r1 q1=>?_;obtain⟨a,e,⟨xs,hq⟩,q⟩:=q1;subst e;cases r1;obtain⟨its,rv,p,hz⟩:=I1.tuple hq;refine wpAny_pyIter_tuple (show s1.heap.IsTuple a its.toArray from p) ?_;refine⟨s1.heap.objs.size,[s1.heap.objs.size],_,_,H1,rfl,I1.kept (t':=s1.toks) fun b o e=>y05 _ e,z9t a _,⟨_,y0h _ rfl,rfl,rfl⟩,fun b hb=>?_,q⟩;have e:b=s1.heap.objs.size:=by simpa using hb
 subst e;exact I1.fpOk (y0d _) (I1.hok.fresh (y0d _))
def zbR{pins:yyP}{σ:St}{H:Hp}{s:Shared}{R:It->Hp->Prop}{E:yyE}{lo hi:Int}{t u v:Tok}{tk:Nat}(I:Inv X pins σ H s)(h1:-(2^62)<=lo)(h2:lo<2^62)(h3:-(2^62)<=hi)(h4:hi<2^62)(q:R (Itr lo (hi-lo).toNat) H):wpAny (model X.prog X.w) X.A (pyIter (.ref s.heap.objs.size)) (PIE X pins σ tg R) E { s with heap:=s.heap.push { cls:=.type "range",data:=.fields #[.int lo t,.int hi u,.int 1 v] },toks:=tk }:=by
 refine wpAny_pyIter_range (IsRange.new ..) (small_one h1 h2 h3 h4) ?_;have I1:Inv X pins σ H { s with heap:=s.heap.push { cls:=.type "range",data:=.fields #[.int lo t,.int hi u,.int 1 v] },toks:=tk }:=I.kept fun b o e=>y05 _ e;refine⟨(s.heap.push { cls:=.type "range",data:=.fields #[.int lo t,.int hi u,.int 1 v] }).objs.size,[(s.heap.push { cls:=.type "range",data:=.fields #[.int lo t,.int hi u,.int 1 v] }).objs.size],_,_,H,rfl,
  I1.kept (t':=tk) fun b o e=>y05 _ e,z9u _ lo (hi-lo).toNat,?_,fun b hb=>?_,q⟩
 .have e1:lo+((0:Nat):Int)*1=lo:=by simp
  have e2:(((hi-lo).toNat:Nat):Int)-((0:Nat):Int)=Builtin.Range.rangeSize lo hi 1:=by rw[rangeSize_one];split<;>lia
  show IsRangeIter _ _ (lo+((0:Nat):Int)*1) ((((hi-lo).toNat:Nat):Int)-((0:Nat):Int)) 1;rw[e1,e2];exact y0h _ rfl
 .have e:b=(s.heap.push { cls:=.type "range",data:=.fields #[.int lo t,.int hi u,.int 1 v] }).objs.size:=by simpa using hb
  subst e;exact I1.fpOk (y0d _) (I1.hok.fresh (y0d _))
def zfU(ta:TA):TI:=fun σ H R=>ta σ H fun vs H1=>∃j:Int,vs=[.int j]/\-(2^62)<=j/\j<2^62/\R (Itr 0 j.toNat) H1
def z1b{a:Expr}{ta:TA}{p pos:Pos}(hg:Gl X "range")(hm:X.mg "range"=none)(ha:PA X [a] ta)(hs:starEach [a] X.env=[(false,eval a X.env)]:=by rfl):PI X tg (.Call (.Name "range" p) [a] [] pos) (zfU ta):=by
 intro pins s σ H R I h;refine Call_ (z4V I hg hm boot_range (y2I (thn (ha pos pins s σ H _ I h) fun us s1 hz8=>?_) hs rfl));obtain⟨vs,H1,I1,r1,q1⟩:=hz8;obtain⟨j,e,q1,q2,q⟩:=q1;subst e;cases r1 with
 |cons r rr =>
  cases rr;obtain⟨t,rfl⟩:=r;exact call_range_1 (zbR I1 (by lia) (by lia) q1 q2 (by simpa using q))
def zhn(wi:TI)(g:TG)(tb:TS):TS:=fun D σ H=>wi σ H fun J H1=>∃W:Nat->Nat->St->Hp->Prop,(∃m,W 0 m σ H1)/\∀i m σ H,W i m σ H ->
 (J.stop i H/\D.nx σ H)\/(J.go i H/\∃N:St->Hp->Prop,(∀σ' H',N σ' H'->∃m',m'<m/\W (i+1) m' σ' H')/\∀x H',J.yld i H x H'->g x σ H' fun σ2 H2=>tb { D with nx:=N,ct:=N,bk:=D.nx } σ2 H2)
def z8B(fp:List Addr)(h:Heap):yyP:=fp.filterMap fun b=>(h.get? b).map fun o=>(b,o)
def z2H{fp:List Addr}{h:Heap}{b:Addr}{o:Obj}(hb:b∈fp)(e:h.get? b=some o):(b,o)∈z8B fp h:=y20.mpr ⟨b,hb,by rw[e];rfl⟩
def z9L{fp:List Addr}{h:Heap}{p:Addr × Obj}(hp:p∈z8B fp h):p.1∈fp/\h.get? p.1=some p.2:=by
 obtain⟨b,hb,e⟩:=y20.mp hp;cases q:h.get? b with
 |none=>rw[q]at e;cases e
 |some o =>
  rw[q]at e;have e':(b,o)=p:=y0b e;subst e';exact⟨hb,q⟩
def Inv.pinned{pins:yyP}{σ:St}{H:Hp}{s:Shared}{fp:List Addr}(I:Inv X pins σ H s)(hf:∀b∈fp,z53 X pins H b)(ho:∀b∈fp,∃o,s.heap.get? b=some o/\∀v,o.data≠.cell v):Inv X (pins++z8B fp s.heap) σ H s :=
 I.pins_of fun p hp=>(y0g.mp hp).elim (fun z=>I.pin p (y0z _ z)) fun z=>by obtain⟨hb,e⟩:=z9L z;obtain⟨f0,f1,f2,_⟩:=hf p.1 hb;obtain⟨o,e',d⟩:=ho p.1 hb;rw[e]at e';cases e';exact⟨e,f0,f1,f2,d⟩
def Inv.unpinned{pins pl:yyP}{σ:St}{H:Hp}{s:Shared}(I:Inv X (pins++pl) σ H s):Inv X pins σ H s:=I.pins_of fun p hp=>I.pin p (y0z _ (y0m _ hp))
def z2g{iter:Expr}{body:List Stmt}{wi:TI}{g:TG}{tb:TS}{pos:Pos}(hp:PassesOwn (model X.prog X.w) X.A X.env X.xe)(hc:X.calm=true)(hi:PI X tg iter wi)(hg:PG X tg g)(hb:PSs X body tb)(hs:∀x,foldedSetIterable iter X.env x=pure x:=by intro _;rfl):PS X (.For tg iter body [] pos) (zhn wi g tb):=by
 intro pins s σ H D I h;refine wpAny_For (thn (hi pins s σ H _ I h) fun v s1 h1=>thn h1 fun itv s2 h2=>?_) hs;obtain⟨it,fp,tn,J,H2,e,I2,T,st2,f2,W,⟨m0,w0⟩,zby⟩:=h2;subst e;have stat:∀{H':Hp},(∀b∈fp,H' b=none)->∀b∈fp,z53 X pins H' b:=fun hn b hb=>⟨hn b hb,(f2 b hb).2⟩;refine codeAny_forLoop_any (fun n s'=>∃i σ' H',Inv X pins σ' H' s'/\tn i s'.heap/\(∀b∈fp,H' b=none)/\W i n σ' H') ?_ m0 ⟨0,σ,H2,I2,st2,fun b hb=>(f2 b hb).1,w0⟩;rintro n s3 ⟨i,σ3,H3,I3,st3,fr3,w3⟩;rcases zby i n σ3 H3 w3 with⟨stop,qn⟩|⟨go,N,hN,step⟩
 .refine y2m hp (thn (T.done X rfl rfl rfl hc i pins s3 σ3 H3 X.xe I3 (stat fr3) st3 stop) fun r s4 hz8=>?_);obtain⟨hr,I4⟩:=hz8;subst hr;exact y3I ⟨σ3,H3,I4,qn⟩
 .refine y2m hp (thn (T.item X rfl rfl rfl hc i pins s3 σ3 H3 X.xe I3 (stat fr3) st3 go) fun r s4 hz8=>?_);obtain⟨u,hr,h4⟩:=hz8;subst hr;refine y2m hp (thn h4 fun _ s5 hz8=>?_);obtain⟨x,H5,I5,r5,y5,st5,fr5⟩:=hz8;have I5':=I5.pinned (stat fr5) (T.obj _ _ st5);refine y2m hp (thn (hg _ s5 σ3 H5 x u _ I5' r5 (step x H5 y5)) fun _ s6 hz8=>?_);obtain⟨σ6,H6,I6,q6⟩:=hz8;refine y2m hp (thn (hb _ s6 σ6 H6 _ I6 q6) fun f s7 q7=>?_);have again:∀{σ7:St}{H7:Hp},Inv X (pins++z8B fp s5.heap) σ7 H7 s7->N σ7 H7->∃m,m<n/\∃i σ' H',Inv X pins σ' H' s7/\tn i s7.heap/\(∀b∈fp,H' b=none)/\W i m σ' H':=fun{σ7 H7} I7 n7=>by
   obtain⟨m',hm,w7⟩:=hN σ7 H7 n7;refine⟨m',hm,i+1,σ7,H7,I7.unpinned,T.keep _ _ _ st5 fun b hb o e=>(I7.pin (b,o) (y0z _ (y0z _ (z2H hb e)))).1,fun b hb=>?_,w7⟩;obtain⟨o,e,d⟩:=T.obj _ _ st5 b hb;exact(I7.pin (b,o) (y0z _ (y0z _ (z2H hb e)))).2.1
  cases f with
  |next=>obtain⟨σ7,H7,I7,n7⟩:=q7;exact again I7 n7
  |cont=>obtain⟨σ7,H7,I7,n7⟩:=q7;exact again I7 n7
  |brk=>obtain⟨σ7,H7,I7,q7⟩:=q7;exact⟨σ7,H7,I7.unpinned,q7⟩
  |ret v=>obtain⟨x7,σ7,H7,I7,r7,q7⟩:=q7;exact⟨x7,σ7,H7,I7.unpinned,r7,q7⟩
end
def zbD{K:yyF}{a:Addr}{xs:List V}{g:TG}{tb:TS}{D:z3Y}{σ:St}{H:Hp}(Pv:Nat->St->Hp->Prop)(h0:Pv 0 σ H)(hl:∀i σ H,i<=xs.length->Pv i σ H->SqL K H a xs)(hs:∀i x σ H,xs[i]?=some x->Pv i σ H->g x σ H fun σ2 H2=>tb { D with nx:=Pv (i+1),ct:=Pv (i+1),bk:=D.nx } σ2 H2)(hd:∀σ H,Pv xs.length σ H->D.nx σ H) : ∃W:Nat->Nat->St->Hp->Prop,(∃m,W 0 m σ H)/\∀i m σ H,W i m σ H -> ((Itl K a).stop i H/\D.nx σ H)\/((Itl K a).go i H/\∃N:St->Hp->Prop,(∀σ' H',N σ' H'->∃m',m'<m/\W (i+1) m' σ' H')/\∀x H',(Itl K a).yld i H x H'->g x σ H' fun σ2 H2=>tb { D with nx:=N,ct:=N,bk:=D.nx } σ2 H2):=by
 refine⟨fun i m σ H=>m=xs.length-i/\i<=xs.length/\Pv i σ H,⟨xs.length,by simp,y0B _,h0⟩,?_⟩;rintro i m σ H ⟨rfl,hi,p⟩;have q:=hl i σ H hi p;by_cases hlt:i<xs.length
 .refine .inr ⟨⟨xs,xs[i],q,by simp[hlt]⟩,Pv (i+1),fun σ' H' p'=>⟨xs.length-(i+1),by lia,rfl,hlt,p'⟩,fun x H' y=>?_⟩;obtain⟨e,y⟩:=y;subst e;exact hs i x σ _ (y xs q) p
 .have e:i=xs.length:=by lia
  subst e;exact .inl ⟨⟨xs,q,y0d _⟩,hd σ H p⟩
def zdj{K:yyF}{a:Addr}{xs:List V}{g:TG}{tb:TS}{D:z3Y}{σ:St}{H:Hp}(Pv:Nat->St->Hp->Prop)(h0:Pv 0 σ H)(hl:∀i σ H,i<=xs.length->Pv i σ H->SqT K H a xs)(hs:∀i x σ H,xs[i]?=some x->Pv i σ H->g x σ H fun σ2 H2=>tb { D with nx:=Pv (i+1),ct:=Pv (i+1),bk:=D.nx } σ2 H2)(hd:∀σ H,Pv xs.length σ H->D.nx σ H) : ∃W:Nat->Nat->St->Hp->Prop,(∃m,W 0 m σ H)/\∀i m σ H,W i m σ H -> ((Itt K a).stop i H/\D.nx σ H)\/((Itt K a).go i H/\∃N:St->Hp->Prop,(∀σ' H',N σ' H'->∃m',m'<m/\W (i+1) m' σ' H')/\∀x H',(Itt K a).yld i H x H'->g x σ H' fun σ2 H2=>tb { D with nx:=N,ct:=N,bk:=D.nx } σ2 H2):=by
 refine⟨fun i m σ H=>m=xs.length-i/\i<=xs.length/\Pv i σ H,⟨xs.length,by simp,y0B _,h0⟩,?_⟩;rintro i m σ H ⟨rfl,hi,p⟩;have q:=hl i σ H hi p;by_cases hlt:i<xs.length
 .refine .inr ⟨⟨xs,xs[i],q,by simp[hlt]⟩,Pv (i+1),fun σ' H' p'=>⟨xs.length-(i+1),by lia,rfl,hlt,p'⟩,fun x H' y=>?_⟩;obtain⟨e,y⟩:=y;subst e;exact hs i x σ _ (y xs q) p
 .have e:i=xs.length:=by lia
  subst e;exact .inl ⟨⟨xs,q,y0d _⟩,hd σ H p⟩
def z6s{lo:Int}{n:Nat}{g:TG}{tb:TS}{D:z3Y}{σ:St}{H:Hp}(Pv:Nat->St->Hp->Prop)(h0:Pv 0 σ H)(hs:∀i σ H,i<n->Pv i σ H->g (.int (lo+i)) σ H fun σ2 H2=>tb { D with nx:=Pv (i+1),ct:=Pv (i+1),bk:=D.nx } σ2 H2)(hd:∀σ H,Pv n σ H->D.nx σ H) : ∃W:Nat->Nat->St->Hp->Prop,(∃m,W 0 m σ H)/\∀i m σ H,W i m σ H -> ((Itr lo n).stop i H/\D.nx σ H)\/((Itr lo n).go i H/\∃N:St->Hp->Prop,(∀σ' H',N σ' H'->∃m',m'<m/\W (i+1) m' σ' H')/\∀x H',(Itr lo n).yld i H x H'->g x σ H' fun σ2 H2=>tb { D with nx:=N,ct:=N,bk:=D.nx } σ2 H2):=by
 refine⟨fun i m σ H=>m=n-i/\i<=n/\Pv i σ H,⟨n,by simp,y0B _,h0⟩,?_⟩;rintro i m σ H ⟨rfl,hi,p⟩;by_cases hlt:i<n
 .refine .inr ⟨hlt,Pv (i+1),fun σ' H' p'=>⟨n-(i+1),by lia,rfl,hlt,p'⟩,fun x H' y=>?_⟩;obtain⟨e,y⟩:=y;subst e y;exact hs i σ _ hlt p
 .have e:i=n:=by lia
  subst e;exact .inl ⟨y0d _,hd σ H p⟩
abbrev R2:=V->V->Hp->VK->Prop
def OpR(X:Cx)(f:Value->Value->Sem Value)(r:R2):Prop :=
 ∀(pins:yyP)(s:Shared)(σ:St)(H:Hp)(x y:V)(v u:Value)(Q:VK),Inv X pins σ H s->z0N x v->z0N y u->r x y H Q ->
  wpAny (model X.prog X.w) X.A (f v u) (EP X pins σ Q) X.xe s
def z2j(X:Cx)(f:Value)(r:List V->Hp->VK->Prop):Prop :=
 ∀(pins:yyP)(s:Shared)(σ:St)(H:Hp)(xs:List V)(us:List Value)(Q:VK),Inv X pins σ H s->z0O xs us->r xs H Q ->
  wpAny (model X.prog X.w) X.A (call f us) (EP X pins σ Q) X.xe s
def tOp(r:R2)(ta tb:TE):TE:=fun σ H Q=>ta σ H fun x H1=>tb σ H1 fun y H2=>r x y H2 Q
def rI(C:Int->Int->Prop)(g:Int->Int->V):R2:=fun x y H Q=>∃i j,x=.int i/\y=.int j/\C i j/\Q (g i j) H
def rI0(g:Int->Int->V):R2:=fun x y H Q=>∃i j,x=.int i/\y=.int j/\Q (g i j) H
section
variable{X:Cx}{a b c:Expr}{ta tb tc:TE}{pos:Pos}
def zgl(ha:PE X a ta)(hb:PE X b tb){pins:yyP}{s:Shared}{σ:St}{H:Hp}{R:V->V->Hp->Prop}(I:Inv X pins σ H s)(h:ta σ H fun x H1=>tb σ H1 fun y H2=>R x y H2){Q:yyE}{f:Value->Value->Sem Value}(hf:∀v u s2 x y H2,Inv X pins σ H2 s2->z0N x v->z0N y u->R x y H2->wpAny (model X.prog X.w) X.A (f v u) Q X.xe s2) : wpAny (model X.prog X.w) X.A (eval a X.env) (fun v s₁=>wpAny (model X.prog X.w) X.A (eval b X.env) (fun u s₂=>wpAny (model X.prog X.w) X.A (f v u) Q X.xe s₂) X.xe s₁) X.xe s:=by refine z1H (ha pins s σ H _ I h) fun v s1 x H1 I1 r1 q1=>?_;refine z1H (hb pins s1 σ H1 _ I1 q1) fun u s2 y H2 I2 r2 q2=>?_;exact hf v u s2 x y H2 I2 r1 r2 q2
def z0o{op:Operator}{r:R2}(ho:OpR X (binaryOp op) r)(ha:PE X a ta)(hb:PE X b tb):PE X (.BinOp a op b pos) (tOp r ta tb):=by intro pins s σ H Q I h;exact wpAny_BinOp (zgl ha hb I h fun v u s2 x y H2 I2 rx ry q=>ho pins s2 σ H2 x y v u Q I2 rx ry q)
def opI{f:Value->Value->Sem Value}{C:Int->Int->Prop}{g:Int->Int->Int}(rule:∀(i j:Int)(t u:Tok)(s:Shared)(Q:yyE)(E:yyE),C i j->Q (.int (g i j) s.toks) { s with toks:=s.toks+1 }->wpAny (model X.prog X.w) X.A (f (.int i t) (.int j u)) Q E s) : OpR X f (rI C fun i j=>.int (g i j)):=by intro pins s σ H x y v u Q I rx ry h;obtain⟨i,j,rfl,rfl,hc,q⟩:=h;obtain⟨t,rfl⟩:=rx;obtain⟨t',rfl⟩:=ry;exact rule i j t t' s _ _ hc ⟨.int (g i j),H,I.tok _,⟨_,rfl⟩,q⟩
def zgy{f:Value->Value->Sem Value}{g:Int->Int->Int}(rule:∀(i j:Int)(t u:Tok)(s:Shared)(Q:yyE)(E:yyE),Q (.int (g i j) s.toks) { s with toks:=s.toks+1 }->wpAny (model X.prog X.w) X.A (f (.int i t) (.int j u)) Q E s) : OpR X f (rI0 fun i j=>.int (g i j)):=by intro pins s σ H x y v u Q I rx ry h;obtain⟨i,j,rfl,rfl,q⟩:=h;obtain⟨t,rfl⟩:=rx;obtain⟨t',rfl⟩:=ry;exact rule i j t t' s _ _ ⟨.int (g i j),H,I.tok _,⟨_,rfl⟩,q⟩
def zfL{f:Value->Value->Sem Value}{g:Int->Int->Bool}(rule:∀(i j:Int)(t u:Tok)(s:Shared)(Q:yyE)(E:yyE),Q (.bool (g i j)) s->wpAny (model X.prog X.w) X.A (f (.int i t) (.int j u)) Q E s) : OpR X f (rI0 fun i j=>.bl (g i j)):=by intro pins s σ H x y v u Q I rx ry h;obtain⟨i,j,rfl,rfl,q⟩:=h;obtain⟨t,rfl⟩:=rx;obtain⟨t',rfl⟩:=ry;exact rule i j t t' s _ _ ⟨.bl (g i j),H,I,rfl,q⟩
def zh6(i j:Int):Prop:=0<j/\j<1073741824
def zhd(i j:Int):Prop:=0<=j/\j<=1000000/\i.natAbs<2^64
def zgm(i j:Int):Prop:=(-(2^64)<i/\i<2^64)\/(-(2^64)<j/\j<2^64)
def zgm.ok{i j:Int}(h:zgm i j):IntMulOk i j:=by
 rcases h with⟨h1,h2⟩|⟨h1,h2⟩
 .exact .of_left (intBits_le_64 h1 h2)
 .exact .of_right (intBits_le_64 h1 h2)
def z1c:OpR X (binaryOp .Add) (rI0 fun i j=>.int (i+j)):=zgy fun _ _ _ _ _ _ _ q=>add_int q
def z6G:OpR X (binaryOp .Sub) (rI0 fun i j=>.int (i-j)):=zgy fun _ _ _ _ _ _ _ q=>sub_int q
def z38:OpR X (binaryOp .Mult) (rI zgm fun i j=>.int (i*j)):=opI fun _ _ _ _ _ _ _ hc q=>mul_int q hc.ok
def z5y:OpR X (binaryOp .FloorDiv) (rI zh6 fun i j=>.int (i/j)):=opI fun i j _ _ _ _ _ hc q=>by have h1:(0:Int)<j:=hc.1;have h2:j<1073741824:=hc.2;exact floordiv_int (by lia) (by rw[Int.fdiv_eq_ediv_of_nonneg i (by lia)];exact q) (.inl (PyProof.noPylong_small (by lia)))
def z0U:OpR X (binaryOp .Mod) (rI (fun _ j=>0<j) fun i j=>.int (i%j)):=opI fun i j _ _ _ _ _ hc q=>by have h1:(0:Int)<j:=hc;exact mod_int' (by lia) (by rw[Int.fmod_eq_emod_of_nonneg i (by lia)];exact q)
def zfA:OpR X (binaryOp .Pow) (rI zhd fun i j=>.int (i^j.toNat)):=opI fun _ _ _ _ _ _ _ hc q=>pow_int_small hc.1 hc.2.1 hc.2.2 q
end
def zgK:V->V->Bool
 |.non,.non=>true|.non,.int _=>true|.int _,.non=>true|.non,.bl _=>true|.bl _,.non=>true|.non,.str _=>true|.str _,.non=>true
 |.int _,.int _=>true|.bl _,.bl _=>true|.str _,.str _=>true|.byt _,.byt _=>true
 |.int _,.str _=>true|.str _,.int _=>true|.bl _,.str _=>true|.str _,.bl _=>true
 |_,_=>false
def rEq:R2:=fun x y H Q=>zgK x y=true/\Q (.bl (decide (x=y))) H
def rNe:R2:=fun x y H Q=>zgK x y=true/\Q (.bl (!decide (x=y))) H
def zah{i j:Int}:decide (V.int i=V.int j)=(i==j):=by rw[y2J];simp
def zcW{i j:Bool}:decide (V.bl i=V.bl j)=(i==j):=by rw[y2J];simp
def z9S{i j:Str}:decide (V.str i=V.str j)=(i==j):=by rw[y2J];simp
def zai{i j:Array UInt8}:decide (V.byt i=V.byt j)=(i.toList==j.toList):=by rw[y2J];cases i;cases j;simp
section
variable{X:Cx}{a b c:Expr}{ta tb tc:TE}{pos:Pos}
def z0D{pins:yyP}{σ:St}{H:Hp}{s:Shared}{Q:VK}{k k':Bool}(I:Inv X pins σ H s)(q:Q (.bl k) H)(e:k=k'):EP X pins σ Q (.bool k') s:=by subst e;exact⟨.bl k,H,I,rfl,q⟩
def zav:OpR X (compareOp .Eq) rEq:=by
 intro pins s σ H x y v u Q I rx ry h;obtain⟨hs,q⟩:=h;cases x with
 |non =>
  cases rx;cases y with
  |non=>cases ry;exact PySem.EqNone.eq_none_none (z0D I q (by simp))
  |bl j=>cases ry;exact PySem.EqNone.eq_none_bool (z0D I q (by simp))
  |int j=>obtain⟨t',rfl⟩:=ry;exact PySem.EqNone.eq_none_int (z0D I q (by simp))
  |str j=>obtain⟨t',rfl⟩:=ry;exact PySem.EqNone.eq_none_str (z0D I q (by simp))
  |_=>exact absurd (show false=true from hs) y0C
 |bl i =>
  cases rx;cases y with
  |non=>cases ry;exact PySem.EqNone.eq_bool_none (z0D I q (by simp))
  |bl j=>cases ry;exact eq_bool (z0D I q zcW)
  |str j=>obtain⟨t',rfl⟩:=ry;exact PySem.EqMixed.eq_bool_str (z0D I q (by simp))
  |_=>exact absurd (show false=true from hs) y0C
 |int i =>
  obtain⟨t,rfl⟩:=rx;cases y with
  |non=>cases ry;exact PySem.EqNone.eq_int_none (z0D I q (by simp))
  |int j=>obtain⟨t',rfl⟩:=ry;exact eq_int (z0D I q zah)
  |str j=>obtain⟨t',rfl⟩:=ry;exact PySem.EqMixed.eq_int_str (z0D I q (by simp))
  |_=>exact absurd (show false=true from hs) y0C
 |str i =>
  obtain⟨t,rfl⟩:=rx;cases y with
  |non=>cases ry;exact PySem.EqNone.eq_str_none (z0D I q (by simp))
  |bl j=>cases ry;exact PySem.EqMixed.eq_str_bool (z0D I q (by simp))
  |int j=>obtain⟨t',rfl⟩:=ry;exact PySem.EqMixed.eq_str_int (z0D I q (by simp))
  |str j=>obtain⟨t',rfl⟩:=ry;exact eq_str (z0D I q z9S)
  |_=>exact absurd (show false=true from hs) y0C
 |byt i =>
  obtain⟨t,rfl⟩:=rx;cases y with
  |byt j=>obtain⟨t',rfl⟩:=ry;exact PySem.W.eq_bytes (z0D I q zai)
  |_=>exact absurd (show false=true from hs) y0C
 |_=>cases y<;>exact absurd (show false=true from hs) y0C
def zfv:OpR X (compareOp .NotEq) rNe:=by
 intro pins s σ H x y v u Q I rx ry h;obtain⟨hs,q⟩:=h;cases x with
 |non =>
  cases rx;cases y with
  |non=>cases ry;exact PySem.EqNone.ne_none_none (z0D I q (by simp))
  |bl j=>cases ry;exact PySem.EqNone.ne_none_bool (z0D I q (by simp))
  |int j=>obtain⟨t',rfl⟩:=ry;exact PySem.EqNone.ne_none_int (z0D I q (by simp))
  |str j=>obtain⟨t',rfl⟩:=ry;exact PySem.EqNone.ne_none_str (z0D I q (by simp))
  |_=>exact absurd (show false=true from hs) y0C
 |bl i =>
  cases rx;cases y with
  |non=>cases ry;exact PySem.EqNone.ne_bool_none (z0D I q (by simp))
  |bl j=>cases ry;exact ne_bool (z0D I q (y1o not zcW))
  |str j=>obtain⟨t',rfl⟩:=ry;exact PySem.EqMixed.ne_bool_str (z0D I q (by simp))
  |_=>exact absurd (show false=true from hs) y0C
 |int i =>
  obtain⟨t,rfl⟩:=rx;cases y with
  |non=>cases ry;exact PySem.EqNone.ne_int_none (z0D I q (by simp))
  |int j=>obtain⟨t',rfl⟩:=ry;exact ne_int (z0D I q (y1o not zah))
  |str j=>obtain⟨t',rfl⟩:=ry;exact PySem.EqMixed.ne_int_str (z0D I q (by simp))
  |_=>exact absurd (show false=true from hs) y0C
 |str i =>
  obtain⟨t,rfl⟩:=rx;cases y with
  |non=>cases ry;exact PySem.EqNone.ne_str_none (z0D I q (by simp))
  |bl j=>cases ry;exact PySem.EqMixed.ne_str_bool (z0D I q (by simp))
  |int j=>obtain⟨t',rfl⟩:=ry;exact PySem.EqMixed.ne_str_int (z0D I q (by simp))
  |str j=>obtain⟨t',rfl⟩:=ry;exact ne_str (z0D I q (y1o not z9S))
  |_=>exact absurd (show false=true from hs) y0C
 |byt i =>
  obtain⟨t,rfl⟩:=rx;cases y with
  |byt j=>obtain⟨t',rfl⟩:=ry;exact PySem.W.ne_bytes (z0D I q (y1o not zai))
  |_=>exact absurd (show false=true from hs) y0C
 |_=>cases y<;>exact absurd (show false=true from hs) y0C
def z7p:OpR X (compareOp .Lt) (rI0 fun i j=>.bl (decide (i<j))):=zfL fun _ _ _ _ _ _ _ q=>lt_int q
def zbx:OpR X (compareOp .LtE) (rI0 fun i j=>.bl (decide (i<=j))):=zfL fun _ _ _ _ _ _ _ q=>le_int q
def zde:OpR X (compareOp .Gt) (rI0 fun i j=>.bl (decide (j<i))):=zfL fun _ _ _ _ _ _ _ q=>gt_int q
def zcU:OpR X (compareOp .Is) (fun x y H Q=>y=.non/\Q (.bl (decide (x=.non))) H):=by
 intro pins s σ H x y v u Q I rx ry h;obtain⟨rfl,q⟩:=h;cases ry;refine is_none_gen (z0D I q ?_);cases x<;>first
  | (cases rx;rfl)
  | (obtain⟨t,rfl⟩:=rx;rfl)
def z1j(b:Expr){op:CmpOp}(h:op≠.In:=by decide)(h2:op≠.NotIn:=by decide):behindInMarks op b=false:=by
 have e1:(op==CmpOp.In)=false:=by cases op<;>first|rfl|exact absurd rfl h
 have e2:(op==CmpOp.NotIn)=false:=by cases op<;>first|rfl|exact absurd rfl h2
 cases b<;>simp[behindInMarks,e1,e2]
def z3m{op:CmpOp}{r:R2}(ho:OpR X (compareOp op) r)(ha:PE X a ta)(hb:PE X b tb)(hm:behindInMarks op b=false):PE X (.Compare a [op] [b] pos) (tOp r ta tb):=by intro pins s σ H Q I h;exact wpAny_Compare1 (zgl ha hb I h fun v u s2 x y H2 I2 rx ry q=>ho pins s2 σ H2 x y v u Q I2 rx ry q) hm
def zeG(t:TE):TT:=fun σ H Q=>t σ H fun x H'=>∃k,x=.bl k/\Q k H'
def z1p{op:CmpOp}{r:R2}(ho:OpR X (compareOp op) r)(ha:PE X a ta)(hb:PE X b tb)(hm:behindInMarks op b=false):PT X (.Compare a [op] [b] pos) (zeG (tOp r ta tb)):=by
 intro pins s σ H Q I h;refine wpAny_isTrue_Compare1 (z1H (ha pins s σ H _ I h) fun v s1 x H1 I1 r1 q1=>z1H (hb pins s1 σ H1 _ I1 q1) fun u s2 y H2 I2 r2 q2 =>
  thn (ho pins s2 σ H2 x y v u _ I2 r1 r2 q2) fun c s3 ⟨z,H3,I3,r3,k,e,q3⟩=>?_) hm
 subst e;cases r3;exact y1T ⟨H3,I3,q3⟩
def zf0(r r':R2)(ta tb tc:TE):TE:=fun σ H Q=>ta σ H fun x H1=>tb σ H1 fun y H2=>r x y H2 fun z H3=>∃k,z=.bl k /\
 (if k=true then tc σ H3 fun w' H4=>r' y w' H4 Q else Q (.bl false) H3)
def z8r{op op':CmpOp}{r r':R2}(ho:OpR X (compareOp op) r)(ho':OpR X (compareOp op') r')(ha:PE X a ta)(hb:PE X b tb)(hc:PE X c tc)(hm:lastMarks [op,op'] [b,c]=false:=by with_unfolding_all rfl):PT X (.Compare a [op,op'] [b,c] pos) (zeG (zf0 r r' ta tb tc)):=by
 intro pins s σ H Q I h;refine isTrue_chain (z1H (ha pins s σ H _ I h) fun v s1 x H1 I1 r1 q1=>test_link (z1H (hb pins s1 σ H1 _ I1 q1) fun u s2 y H2 I2 r2 q2 =>
  thn (ho pins s2 σ H2 x y v u _ I2 r1 r2 q2) fun d s3 ⟨z,H3,I3,r3,k,e,q3⟩=>?_)) hm
 subst e;cases r3;refine y1T ?_;cases k with
 |false =>
  obtain⟨k',e',q'⟩:=q3;cases e';exact ite_ff ⟨H3,I3,q'⟩
 |true =>
  refine ite_tt (test_last (z1H (hc pins s3 σ H3 _ I3 q3) fun w' s4 z' H4 I4 r4 q4=>z1H (ho' pins s4 σ H4 y z' u w' _ I4 r2 r4 q4) fun d' s5 z2 H5 I5 r5 hz9=>?_));obtain⟨k2,e2,q5⟩:=hz9;subst e2;cases r5;exact y1T ⟨H5,I5,q5⟩
def z74:(sizeLine:Nat)<2^63:=by rw[y3J];decide
def z3U{x:V}{us:List Value}(r:z0O [x] us):∃u,us=[u]/\z0N x u:=by
 cases r with
 |cons r1 r2=>cases r2;exact⟨_,rfl,r1⟩
def zbF{x y:V}{us:List Value}(r:z0O [x,y] us):∃u w',us=[u,w']/\z0N x u/\z0N y w':=by
 cases r with
 |cons r1 r2 =>
  cases r2 with
  |cons r3 r4=>cases r4;exact⟨_,_,rfl,r1,r3⟩
def za5(hc:X.calm=true):z2j X (.builtin "min") (fun xs H Q=>∃i j,xs=[.int i,.int j]/\Q (.int (if j<i then j else i)) H):=by
 intro pins s σ H xs us Q I r h;obtain⟨i,j,rfl,q⟩:=h;obtain⟨u,w',rfl,⟨t,rfl⟩,⟨t',rfl⟩⟩:=zbF r;refine min_two_ints (I.ok.hd hc) fun h' tk k=>⟨_,H,I.kept k,?_,q⟩;by_cases hj:j<i
 .rw[if_pos hj,if_pos hj];exact⟨_,rfl⟩
 .rw[if_neg hj,if_neg hj];exact⟨_,rfl⟩
end
structure zfR(h:Heap)(x dx C:Addr)(mA:yyS):Prop where
 obj:h.get? x=some (PySem.W.instObj C dx)
 ns:h.Ns1 dx mA
 ne:dx≠x
def z9R{h:Heap}{dx:Addr}{mA:yyS}(n:h.Ns1 dx mA):∃od,h.get? dx=some od/\∀name,PySem.W.lookIn name od=some (mA name):=by
 obtain⟨o,es,ep,ho,hd,hk,_,hm⟩:=n;refine⟨o,ho,fun name=>?_⟩;have e:=hm name;unfold nsFind findBy at e;rw[<-Array.find?_toList]at e;unfold PySem.W.lookIn;rw[hd];dsimp only;split
 .rename_i y q;rw[q]at e;exact y1o some e
 .rename_i q;rw[q]at e;have a:es.toList.any (·.refKey)=false:=by
   rw[List.any_eq_false];intro y hy;obtain⟨z,t,hkey⟩:=hk y (y3D.mp hy);simp[DictEntry.refKey,hkey]
  have a':¬es.toList.any (·.refKey)=true:=by rw[a];exact y0C
  rw[if_neg a'];exact y1o some e
def zfR.look{h:Heap}{x dx C:Addr}{mA:yyS}(I:zfR h x dx C mA):∃od,PySem.W.InstAt h x (PySem.W.instObj C dx) C (some od)/\∀name,PySem.W.lookIn name od=some (mA name) :=
 let⟨od,ho,hl⟩:=z9R I.ns
 ⟨od,⟨I.obj,rfl,rfl,ho⟩,hl⟩
section
variable{prog:Program}{w:World}{A:Around}{E:yyE}{s:Shared}{K:yyF}{x dx C f:Addr}{mA:yyS}{name:Str}{v:Value}
end
def z7Z.some_of{v:V}{o:Option Value}(r:z7Z (some v) o):∃u,o=some u/\z0N v u:=by
 cases o with
 |none=>exact(show False from r).elim
 |some u=>exact⟨u,rfl,r⟩
section
variable{P:Program}{w:World}{H H':Hp}{h h':Heap}{a C dx:Addr}{fs fs':List (Str × V)}
def zdX(hok:HOk P w H h)(e:H a=some (.ins C dx fs)):∃mA,zfR h a dx C mA/\(∀f,z7Z (fs.lookup f) (mA f))/\PySem.Within mA (fs.map (·.1))/\fs.length<=1000/\H dx=some (.own a):=by obtain⟨d,z,ne,ob,mA,n,r,q⟩:=(show z19 P w H h a (.ins C dx fs)from hok a _ e);exact⟨mA,⟨ob,n,ne⟩,r,q,z,d⟩
end
structure Cls(K:yyF)(C:Addr):Prop where
 pg:PySem.W.plainGet K C Str.empty=true
 hd:PySem.W.hasDictIn K C=true
 po:PySem.W.plainOver K C=true
 sa:PySem.W.findIn K (.ref C) "__setattr__"=some (some (.builtin "object.__setattr__"))
def Cls.get{K:yyF}{C:Addr}(c:Cls K C)(f:Str):PySem.W.plainGet K C f=true:=c.pg
section
variable{X:Cx}{pins:yyP}{σ:St}{H:Hp}{s:Shared}{a C dx:Addr}{fs:List (Str × V)}{f:Str}{v:V}{A:Around}{E:yyE}
end
section
variable{X:Cx}{o e value:Expr}{f:Str}{pos pos' tpos:Pos}{ta tv:TE}
end
section
variable{X:Cx}{pins:yyP}{σ:St}{H:Hp}{s:Shared}{A:Around}{E:yyE}{Q:yyE}{c:Value}{b:Bool}
inductive z8U(K:yyF)(H:Hp):V->Value->Prop where
 |non:z8U K H .non (.type "NoneType")
 |bl (x:Bool):z8U K H (.bl x) (.type "bool")
 |int (i:Int):z8U K H (.int i) (.type "int")
 |str (x:Str):z8U K H (.str x) (.type "str")
 |flt (x:UInt64):z8U K H (.flt x) (.type "float")
 |lst {a:Addr} {xs:List V} (e:H a=some (.lst xs)):z8U K H (.ref a) (.type "list")
 |frz {a:Addr} {o:Obj} {xs:List V} (e:H a=some (.frz o (.lst xs))):z8U K H (.ref a) (.type "list")
 |tup {a:Addr} {xs:List V} (e:H a=some (.tup xs)):z8U K H (.ref a) (.type "tuple")
 |dK {a:Addr} {kvs:List (Key × V)} (e:H a=some (.dK kvs)):z8U K H (.ref a) (.type "dict")
 |dT {a:Addr} {kvs:List (List Key × V)} (e:H a=some (.dT kvs)):z8U K H (.ref a) (.type "dict")
 |ins {a C dx:Addr} {fs:List (Str × V)} (e:H a=some (.ins C dx fs)) (cl:Cls K C) (ha:PySem.W.findIn K (.ref C) "__class__"=some (some (.builtin "object.__class__")))
   (hn:PySem.W.specialIn K (.builtin "object.__class__") "__get__"=some (some (.builtin "getset_descriptor.__get__"))) (htk:PySem.W.takesIn K (.builtin "object.__class__")=some true)
   (hm:PySem.W.mroIn K C (.type "object")=some true):z8U K H (.ref a) (.ref C)
def zat{x:V}{u t:Value}(I:Inv X pins σ H s)(rx:z0N x u)(ty:z8U X.K H x t)(e:PySem.W.kitOne X.K t c=some b)(h:∀tk,Q (.bool b) { s with toks:=tk }) : wpAny (model X.prog X.w) A (call (.builtin "isinstance") [u,c]) Q E s:=by
 cases ty with
 |non=>cases(show u=Value.none from rx);exact y1h PySem.W.kitx_none I.kIn y2c e (fun z=>nomatch z) h
 |bl y=>cases(show u=Value.bool y from rx);exact y1h PySem.W.kitx_bool I.kIn y2c e (fun z=>nomatch z) h
 |int i=>obtain⟨t,q⟩:=(show ∃t,u=Value.int i t from rx);cases q;exact y1h PySem.W.kitx_int I.kIn y2c e (fun z=>nomatch z) h
 |str y=>obtain⟨t,q⟩:=(show ∃t,u=Value.str y t from rx);cases q;exact y1h PySem.W.kitx_str I.kIn y2c e (fun z=>nomatch z) h
 |flt y=>obtain⟨t,q⟩:=(show ∃t,u=Value.float y t from rx);cases q;exact y1h PySem.W.kitx_float I.kIn y2c e (fun z=>nomatch z) h
 |@lst a xs ea =>
  cases(show u=Value.ref a from rx);obtain⟨_,_,n,_,h1⟩:=(show z19 X.prog X.w H s.heap a (.lst xs)from I.hok a _ ea);exact y1h PySem.W.kitx_list I.kIn ⟨_,h1,rfl⟩ e (fun z=>nomatch z) h
 |@frz a ob xs ea =>
  cases(show u=Value.ref a from rx);obtain⟨_,_,_,n,_,h1⟩:=(show z19 X.prog X.w H s.heap a (.frz ob (.lst xs))from I.hok a _ ea);exact y1h PySem.W.kitx_list I.kIn ⟨_,h1,rfl⟩ e (fun z=>nomatch z) h
 |@tup a xs ea =>
  cases(show u=Value.ref a from rx);obtain⟨_,_,n,_,h1⟩:=(show z19 X.prog X.w H s.heap a (.tup xs)from I.hok a _ ea);exact y1h PySem.W.kitx_tuple I.kIn ⟨_,h1,rfl⟩ e (fun z=>nomatch z) h
 |@dK a kvs ea =>
  cases(show u=Value.ref a from rx);obtain⟨_,_,vs,_,p⟩:=(show z19 X.prog X.w H s.heap a (.dK kvs)from I.hok a _ ea);obtain⟨o,es,ep,h1,h2,_⟩:=p;exact y1h PySem.W.kitx_dict I.kIn ⟨o,h1,h2.1⟩ e (fun z=>nomatch z) h
 |@dT a kvs ea =>
  cases(show u=Value.ref a from rx);obtain⟨_,_,xs,_,o,es,ep,h1,h2,_⟩:=(show z19 X.prog X.w H s.heap a (.dT kvs)from I.hok a _ ea);exact y1h PySem.W.kitx_dict I.kIn ⟨o,h1,h2.1⟩ e (fun z=>nomatch z) h
 |@ins a C dx fs ea cl ha hn htk hm =>
  cases(show u=Value.ref a from rx);obtain⟨mA,O,_⟩:=zdX I.hok ea;obtain⟨od,J,_⟩:=O.look;exact y1h (PySem.W.kitx_own (cl.get _) cl.hd ha hn htk hm) I.kIn J e (fun z=>nomatch z) h
end
structure z2q(k:Nat)(A:Around):Prop where
 hd:A.handled=none
 dp:A.depth+3*k+5<recursionLimit
 un:A.units+16*k+200<cLine
def z2q.mono{j k:Nat}{A:Around}(r:z2q k A)(h:j<=k):z2q j A:=⟨r.hd,by have:=r.dp;lia,by have:=r.un;lia⟩
theorem z2q.deeper{k:Nat}{A:Around}(r:z2q (k+1) A)(env:Env):z2q k (A.deeper env) :=
 ⟨r.hd,by have:=r.dp;show A.depth+1+3*k+5<_;lia,by have:=r.un;show A.units+3+16*k+200<_;lia⟩
theorem z2q.in1{k:Nat}{A:Around}(r:z2q (k+1) A):z2q k A.in1 :=
 ⟨r.hd,by have:=r.dp;show A.depth+3*k+5<_;lia,by have:=r.un;show A.units+1+16*k+200<_;lia⟩
theorem z2q.depth{k:Nat}{A:Around}(r:z2q k A):A.depth<recursionLimit:=by have:=r.dp;lia
theorem z2q.units{k:Nat}{A:Around}(r:z2q k A):A.units+64<cLine:=by have:=r.un;lia
def zg7:TA:=fun _ H Q=>Q [] H
def zbg(ta:TE)(tr:TA):TA:=fun σ H Q=>ta σ H fun x H1=>tr σ H1 fun xs H2=>Q (x::xs) H2
section
variable{X:Cx}{e:Expr}{es:List Expr}{te:TE}{t:TA}{pos:Pos}
def z05:PA X [] zg7:=fun _ _ _ _ H Q I h=>Calls.spliced_nil ⟨[],H,I,.nil,h⟩
def z02(ha:PE X e te)(hr:PA X es t)(hs:starEach (e::es) X.env=(false,eval e X.env)::starEach es X.env:=by rfl):PA X (e::es) (zbg te t):=by intro pos pins s σ H Q I h;rw[hs];show wpAny _ _ (spliced ((false,eval e X.env)::backTo pos (starEach es X.env))) _ _ s;refine y39 (z1H (ha pins s σ H _ I h) fun u s1 x H1 I1 r1 q1=>?_);exact thn (hr pos pins s1 σ H1 _ I1 q1) fun us s2 ⟨xs,H2,I2,r2,q2⟩=>⟨x::xs,H2,I2,.cons r1 r2,q2⟩
def zh1(t:TA):TE:=fun σ H Q=>t σ H fun xs H1=>xs.length<=sizeLine/\∀p,H1 p=none->Q (.ref p) (upd H1 p (.tup xs))
def zgZ(t:TA):TE:=fun σ H Q=>t σ H fun xs H1=>xs.length<=sizeLine/\∀p,H1 p=none->Q (.ref p) (upd H1 p (.lst xs))
def z3c{x1}(h:PA X es t):PE X (.Tuple es x1 pos) (zh1 t):=by intro pins s σ H Q I hq;refine wpAny_Tuple_spliced (thn (h pos pins s σ H _ I hq) fun us s1 ⟨xs,H1,I1,r,z,q⟩=>⟨by rw[<-r.length];exact z,?_⟩);have hf:H1 s1.heap.objs.size=none:=I1.hok.fresh (y0d _);refine⟨.ref s1.heap.objs.size,upd H1 s1.heap.objs.size (.tup xs),I1.laid (t':=s1.toks) (fun b u e=>y05 _ e) (y0d _) ?_,rfl,q _ hf⟩;exact⟨z,us,0,r,y0h _ rfl⟩
def z1Q(h:PA X es t):PE X (.List es pos) (zgZ t):=by intro pins s σ H Q I hq;refine wpAny_List_spliced (thn (h pos pins s σ H _ I hq) fun us s1 ⟨xs,H1,I1,r,z,q⟩=>⟨by rw[<-r.length];exact z,?_⟩);have hf:H1 s1.heap.objs.size=none:=I1.hok.fresh (y0d _);refine⟨.ref s1.heap.objs.size,upd H1 s1.heap.objs.size (.lst xs),I1.laid (t':=s1.toks) (fun b u e=>y05 _ e) (y0d _) ?_,rfl,q _ hf⟩;exact⟨z,us,0,r,y0h _ rfl⟩
end
abbrev Sp:=List V->Hp->VK->XK->Prop
abbrev CXT:=List Env->Hp->Shared->XK->yyE
structure z9C(P:Program)(w:World)(K:yyF)(mg:yyS)(base:Heap)(A:Around)(outer:List Env)(s:Shared)(H:Hp):Prop where
 frames:A.frames=some outer
 mod:Mod K mg base
 bs:∀b o,base.get? b=some o->s.heap.get? b=some o/\H b=none
 bsz:base.objs.size<=s.heap.objs.size
 funs:s.heap.FunFrames base outer
 frf:∀b∈frs outer,H b=none
 hok:HOk P w H s.heap
 bare:AllBare s.gens
def CE(outer:List Env)(P:Program)(w:World)(H:Hp)(s:Shared)(Q:VK)(u:Value)(s':Shared):Prop :=
 ∃v H',s'.os=s.os/\AllBare s'.gens/\Un (frs outer) [] H H' s.heap s'.heap/\HOk P w H' s'.heap/\z0N v u/\Q v H'
def CR(CX:CXT)(outer:List Env)(P:Program)(w:World)(H:Hp)(s:Shared)(Q:VK)(E:XK)(r:Result)(s':Shared):Prop :=
 match r with
 |.ok (.ret u)=>CE outer P w H s Q u s'
 |.ok _=>False
 |.error e=>CX outer H s E e s'
structure z0K(P:Program)(w:World)(K:yyF)(mg:yyS)(base:Heap)(CX:CXT)(k:Nat)(f:Addr)(fd:FuncData)(ps:List Str)(sp:Sp):Prop where
 len:∀vs H Q E,sp vs H Q E->vs.length=ps.length
 run:∀(A:Around)(outer:List Env)(s:Shared)(H:Hp)(args:Args)(us:List Value)(vs:List V)(Q:VK)(E:XK),z2q k A->z9C P w K mg base A outer s H->BindsTo s fd args (ps.zip us)->z0O vs us->sp vs H Q E ->
  codeAny (model P w) A (.call (.ref f) args) (CR CX outer P w H s Q E) s
theorem z0K.mono{P:Program}{w:World}{K:yyF}{mg:yyS}{base:Heap}{CX:CXT}{j k:Nat}{f:Addr}{fd:FuncData}{ps:List Str}{sp:Sp}(F:z0K P w K mg base CX j f fd ps sp)(h:j<=k) : z0K P w K mg base CX k f fd ps sp:=⟨F.len,fun A outer s H args us vs Q E hr=>F.run A outer s H args us vs Q E (hr.mono h)⟩
theorem z9C.in1{P:Program}{w:World}{K:yyF}{mg:yyS}{base:Heap}{A:Around}{outer:List Env}{s:Shared}{H:Hp}(e:z9C P w K mg base A outer s H) : z9C P w K mg base A.in1 outer s H:=⟨e.frames,e.mod,e.bs,e.bsz,e.funs,e.frf,e.hok,e.bare⟩
section
variable{X:Cx}{pins:yyP}{σ:St}{H:Hp}{s s':Shared}
def Inv.env0(I:Inv X pins σ H s):z9C X.prog X.w X.K X.mg X.base X.A X.stack s H :=
 ⟨I.ok.frames,I.ok.mod,I.bs,y0S I.ok.bsz I.sz,I.stack,I.stkFree,I.hok,I.bare⟩
def Inv.after{Q:VK}{u:Value}(I:Inv X pins σ H s)(h:CE X.stack X.prog X.w H s Q u s'):EP X pins σ Q u s':=by obtain⟨v,H',os,bare,un,hok,r,q⟩:=h;obtain⟨hh,g,d,t,os'⟩:=s';obtain rfl:os'=s.os:=os;exact⟨v,H',I.call (h':=hh) (g':=g) (d':=d) (t':=t) (ch:=[]) un hok bare (fun b z=>absurd z (by simp)),r,q⟩
end
def zg5(sp:Sp)(dvs:List V)(E:XK)(t:TA):TE:=fun σ H Q=>t σ H fun vs H1=>sp (vs++dvs) H1 Q E
def z0u(K:yyF)(fd:FuncData)(ps:List Str)(ds:List Value):Prop :=
 ∀(s:Shared)(us:List Value),K.In s.heap->(us++ds).length=ps.length->BindsTo s fd ⟨us,[]⟩ (ps.zip (us++ds))
def z0u.all{K:yyF}{fd:FuncData}{ps:List Str}(h:∀us:List Value,us.length=ps.length->bindArgs fd ⟨us,[]⟩=pure (ps.zip us)):z0u K fd ps []:=fun s us _ hl=>by rw[y1L]at hl⊢;exact .of_eq (h us hl)
def z75(CX:CXT)(X:Cx)(E:XK):Prop:=∀(pins:yyP)(σ:St)(H:Hp)(s:Shared)(e:Value)(s':Shared),Inv X pins σ H s->CX X.stack H s E e s'->X.xe e s'
section
variable{X:Cx}{CX:CXT}{k:Nat}{f C:Addr}{fd:FuncData}{ps:List Str}{sp:Sp}{dvs:List V}{ds:List Value}{E:XK}{x m:Str}{p pos apos:Pos}{e o:Expr}{es:List Expr}{ta:TE}{t:TA}
def zfi{pins:yyP}{σ:St}{H:Hp}{s:Shared}{Q:VK}{us:List Value}{vs:List V}(F:z0K X.prog X.w X.K X.mg X.base CX k f fd ps sp)(hr:z2q k X.A)(hb:z0u X.K fd ps ds)(hd:z0O dvs ds)(hx:z75 CX X E)(I:Inv X pins σ H s)(r:z0O vs us)(h:sp (vs++dvs) H Q E):wpAny (model X.prog X.w) X.A (call (.ref f) us) (EP X pins σ Q) X.xe s:=by
 have r2:z0O (vs++dvs) (us++ds):=r.append hd;have hl:(us++ds).length=ps.length:=by rw[<-r2.length];exact F.len _ _ _ _ h
 refine wpAny_call (y2r (F.run X.A X.stack s H ⟨us,[]⟩ (us++ds) (vs++dvs) Q E hr I.env0 (hb s us I.kIn hl) r2 h) fun r s' hq=>?_);cases r with
 |error e=>exact hx pins σ H s e s' I hq
 |ok fl =>
  cases fl with
  |ret u=>exact I.after hq
  |next=>exact False.elim hq
  |brk=>exact False.elim hq
  |cont=>exact False.elim hq
def z0i(F:z0K X.prog X.w X.K X.mg X.base CX k f fd ps sp)(hr:z2q k X.A)(hg:Gl X x)(hm:X.mg x=some (.ref f))(hk:PySem.W.keepIn X.K (.ref f)=true)(hb:z0u X.K fd ps ds)(hd:z0O dvs ds)(hx:z75 CX X E)(ha:PA X (e::es) t)(hdb:(x==("__debug__":Str))=false:=by decide)(he:starEach (e::es) X.env=(false,eval e X.env)::starEach es X.env:=by rfl)(hpl:(backTo pos (starEach es X.env)).any (·.1)=false:=by rfl) : PE X (.Call (.Name x p) (e::es) [] pos) (zg5 sp dvs E t):=by intro pins s σ H Q I h;refine y2f (z5L I hg hm ?_ hdb);refine PySem.W.callWith_K (h₀:=X.base) I.ok.mod.kin hk (thn (ha pos pins s σ H _ I h) fun us s1 ⟨vs,H1,I1,r,q⟩=>⟨I1.kIn,?_⟩) he hpl;exact zfi F hr hb hd hx I1 r q
end
section
variable{X:Cx}{CX:CXT}{k:Nat}{f C:Addr}{fd:FuncData}{ps ks:List Str}{sp:Sp}{E:XK}{x m:Str}{p pos apos kpos:Pos}{e o:Expr}{es:List Expr}{kws:List Keyword}{te ta:TE}{t tk:TA}{nm:Option Str}
variable{g:List Value->List Value->List Value}{gV:List V->List V->List V}
end
structure z0z(N P:List Str)(sc:Scope):Prop where
 kind:sc.kind=.function:=by rfl
 co:sc.isCoroutine=false:=by rfl
 gen:sc.isGenerator=false:=by rfl
 nd:N.Nodup:=by decide +kernel
 pre:N.take P.length=P:=by rfl
 par:∀x∈P,sc.names.lookup x=some .local\/sc.names.lookup x=some .cell:=by decide +kernel
 nofree:∀y∈sc.names,y.2≠.free:=by decide +kernel
theorem z7g{kindOf:Str->Option NameKind}{x:Str}:∀{binds:List (Str × Value)}{m:yyS},(∀v,(x,v)∉binds)->bindL kindOf binds m x=m x
 |[],_,_=>rfl
 | (n,v)::r,m,h=>by
  unfold bindL;rw[z7g fun w hw=>h w (y0e _ hw)];split
  .have:x≠n:=by rintro rfl;exact h v y0p
   simp[this]
  .rfl
theorem z7e{kindOf:Str->Option NameKind}{x:Str}:∀{binds:List (Str × Value)}{m:yyS},(∀v,(x,v)∉binds)->bindC kindOf binds m x=m x
 |[],_,_=>rfl
 | (n,v)::r,m,h=>by
  unfold bindC;rw[z7e fun w hw=>h w (y0e _ hw)];split
  .rfl
  .have:x≠n:=by rintro rfl;exact h v y0p
   simp[this]
theorem z6r{kindOf:Str->Option NameKind}{x:Str}{v:Value}:∀{P:List Str}{vs:List Value}{i:Nat}{m:yyS},P.Nodup->P[i]?=some x->vs[i]?=some v->kindOf x=some .local ->
  bindL kindOf (P.zip vs) m x=some v
 |[],_,_,_,_,h,_,_=>by simp at h
 |_::_,[],_,_,_,_,h,_=>by simp at h
 |p::P,w::vs,0,m,nd,h1,h2,hk=>by
  simp at h1 h2;subst h1;subst h2;show bindL kindOf ((p,w)::P.zip vs) m p=_;unfold bindL;rw[z7g fun v hv=>(y1a.mp nd).1 (y3K hv).1,if_pos hk];simp
 |p::P,w::vs,i+1,m,nd,h1,h2,hk=>by show bindL kindOf ((p,w)::P.zip vs) m x=_;unfold bindL;exact z6r (i:=i) (y1a.mp nd).2 (by simpa using h1) (by simpa using h2) hk
theorem z6N{kindOf:Str->Option NameKind}{x:Str}{v:Value}:∀{P:List Str}{vs:List Value}{i:Nat}{m:yyS},P.Nodup->P[i]?=some x->vs[i]?=some v->kindOf x≠some .local ->
  bindC kindOf (P.zip vs) m x=some v
 |[],_,_,_,_,h,_,_=>by simp at h
 |_::_,[],_,_,_,_,h,_=>by simp at h
 |p::P,w::vs,0,m,nd,h1,h2,hk=>by
  simp at h1 h2;subst h1;subst h2;show bindC kindOf ((p,w)::P.zip vs) m p=_;unfold bindC;rw[z7e fun v hv=>(y1a.mp nd).1 (y3K hv).1,if_neg hk];simp
 |p::P,w::vs,i+1,m,nd,h1,h2,hk=>by show bindC kindOf ((p,w)::P.zip vs) m x=_;unfold bindC;exact z6N (i:=i) (y1a.mp nd).2 (by simpa using h1) (by simpa using h2) hk
def z4R(N:List Str)(vs:List V):St:=vs.map some++List.replicate (N.length-vs.length) none
def z6g(CX:CXT)(P:Program)(w:World)(K:yyF)(mg:yyS)(base:Heap)(N:List Str)(qual:Str)(scope:Scope)(f:Addr)(cd:Value)(A:Around)(outer:List Env)(s:Shared)(H:Hp)(E:XK):Cx where
 prog:=P
 w:=w
 K:=K
 mg:=mg
 base:=base
 A:=A.deeper (envOfC qual scope s.heap.objs.size f cd)
 N:=N
 s₀:=s
 H₀:=H
 env:=envOfC qual scope s.heap.objs.size f cd
 outer:=outer
 stack:=envOfC qual scope s.heap.objs.size f cd::outer
 ex:=[]
 calm:=true
 fn:=fun _=>true
 pn:=[]
 xe:=fun e s'=>wpAny (model P w) (A.deeper (envOfC qual scope s.heap.objs.size f cd)) (leaving (envOfC qual scope s.heap.objs.size f cd) e) (fun _ s''=>CX outer H s E e s'') (fun e' s''=>CX outer H s E e' s'') s'
def z8u{sc:Scope}{n:Nat}{x:Str}(h:sc.names.lookup x=some .cell):∃c,(cellsFrom n sc.names []).lookup x=some c:=by have q:=PySem.W.cellsFrom_some sc.names n [] (.inl h);exact y34.mp q
def zb7{CX:CXT}{P:Program}{w:World}{K:yyF}{mg:yyS}{base:Heap}{N ps:List Str}{qual:Str}{scope:Scope}{f:Addr}{cd:Value}{A:Around}{outer:List Env}{s s1:Shared}{H:Hp}{E:XK}{us:List Value}{vs:List V}(S:z0z N ps scope)(hd:A.handled=none)(e0:z9C P w K mg base A outer s H)(hl:vs.length=ps.length)(r:z0O vs us)(x:InCallC s s.heap.objs.size (bindL (envOfC qual scope s.heap.objs.size f cd).kindOf (ps.zip us) fun _=>none) (cellsFrom (s.heap.objs.size+1) scope.names []) (bindC (envOfC qual scope s.heap.objs.size f cd).kindOf (ps.zip us) fun _=>none) s1) : Inv (z6g CX P w K mg base N qual scope f cd A outer s H E) [] (z4R N vs) H s1:=by
 have hpl:ps.length<=N.length:=by have:=y1o List.length S.pre;rw[y0w]at this;lia
 obtain⟨h1,tk,rfl,hk⟩:=x.done;have noA:∀b:Addr,b∉(z6g CX P w K mg base N qual scope f cd A outer s H E).ex:=fun b z=>absurd (show b∈([]:List Addr)from z) (by simp);refine⟨⟨e0.mod,S.kind,rfl,rfl,y0d _,fun y z c h1 h2=>?_,fun y hy=>?_,fun y c _ h=>?_,fun _=>hd,Around.frames_deeper e0.frames,.inr ⟨rfl,rfl⟩,fun b z=>absurd z (noA b),e0.bs,e0.bsz,fun b _ _=>noA b,fun b z=>absurd z (noA b),e0.funs,e0.frf⟩,
  rfl,e0.bare,Un.kept hk,⟨_,x.toInCall.ns,fun i y v h1 h2 h3=>?_⟩,fun y c h=>⟨_,x.cell y c h⟩,e0.hok.fresh (y0d _),fun y c h=>?_,fun p hp=>absurd (show p∈([]:yyP)from hp) (by simp),e0.hok.kept hk,?_⟩
 .exact name_of_addr x.apart (y12 h1) (y12 h2)
 .have hy:scope.names.lookup y=some .cell\/scope.names.lookup y=some .free:=hy;rcases hy with hy|hy
  .exact z8u hy
  .exact absurd rfl (S.nofree _ (y12 hy))
 .exact y1k (x.above y c (y12 h))
 .have hi:i<vs.length:=by
   unfold z4R at h2;by_cases hi:i<vs.length
   .exact hi
   .rw[y0Z (by simpa using hi)]at h2;rw[List.getElem?_replicate]at h2;split at h2<;>cases h2
  have ha:vs[i]?=some v:=by
   unfold z4R at h2;rw[y16 (by simpa using hi),y04]at h2;cases e:vs[i]? with
   |none=>rw[e]at h2;cases h2
   |some a=>rw[e]at h2;cases h2;rfl
  obtain⟨u,hu,rv⟩:=r.get ha;have hp:ps[i]?=some y:=by rw[<-S.pre,y21 (by lia)];exact h1
  have ndP:ps.Nodup:=by rw[<-S.pre];exact S.nd.sublist (y1D _ _)
  refine⟨u,rv,?_⟩;rcases S.par y (y0D hp)with k|k
  .exact .inl ⟨k,z6r ndP hp hu k⟩
  .obtain⟨c,e⟩:=z8u (n:=s.heap.objs.size+1) k;refine .inr ⟨.inl k,c,e,?_⟩;have q:=x.cell y c e;rw[z6N ndP hp hu (by show scope.names.lookup y≠_;rw[k];decide)]at q;exact q
 .exact e0.hok.fresh (y1k (x.above y c (y12 h)))
 .unfold z4R;show _=N.length;rw[y09,y01,y2K];lia
def zdl{CX:CXT}{P:Program}{w:World}{K:yyF}{mg:yyS}{base:Heap}{k:Nat}{f:Addr}{name qual:Str}{params:Arguments}{body:List Stmt}{scope:Scope}{dV kV doc pm cdv ct oc:Value}{an od:Option Addr}{osl:Array (Option Value)}{N ps:List Str}{sp:Sp}(lk:K.lookup f=some ⟨oc,od,.func (PySem.W.fnOf name qual params body scope dV kV doc pm an cdv ct),osl⟩)(hcd:PySem.W.codeIn K cdv qual=true)(S:z0z N ps scope)(len:∀vs H Q E,sp vs H Q E->vs.length=ps.length)(hbody:∀(A:Around)(outer:List Env)(s:Shared)(H:Hp)(vs:List V)(Q:VK)(E:XK),z2q k (A.deeper (envOfC qual scope s.heap.objs.size f cdv))->sp vs H Q E -> ∃t,PSs (z6g CX P w K mg base N qual scope f cdv A outer s H E) body t/\t { nx:=fun _ H'=>Q .non H',rt:=Q } (z4R N vs) H) : z0K P w K mg base CX (k+1) f (PySem.W.fnOf name qual params body scope dV kV doc pm an cdv ct) ps sp:=by
 refine⟨len,fun A outer s H args us vs Q E hr e0 hb r hsp=>?_⟩;have hl:=len _ _ _ _ hsp;have KX:K.In s.heap:=e0.mod.kin.keeps fun b o e=>(e0.bs b o e).1;have lim:s.heap.NoLimit:=e0.mod.nolimit.keeps fun b o e=>(e0.bs b o e).1;have hkind:∀y∈ps.zip us,scope.names.lookup y.1=some .local\/(scope.names.lookup y.1=some .cell/\((cellsFrom (s.heap.objs.size+1) scope.names []).lookup y.1).isSome=true):=fun⟨n,v⟩ hy=>by
  rcases S.par n (y3K hy).1 with q|q
  .exact .inl q
  .exact .inr ⟨q,PySem.W.cellsFrom_some _ _ _ (.inl q)⟩
 refine codeAny_call_function hr.depth (KX _ _ lk) rfl S.co S.gen rfl (PySem.W.codeRec_of KX hcd) (hb _ _ _ _ ?_);refine wpAny_newFunctionEnv_cells S.kind hkind fun env he s1 x=>?_;subst he;refine⟨lim.keeps x.toInCall.keep,codeAny_func ?_⟩;obtain⟨t,ht,hq⟩:=hbody A outer s H vs Q E (hr.deeper _) hsp;have I:Inv (z6g CX P w K mg base N qual scope f cdv A outer s H E) [] (z4R N vs) H s1:=zb7 S hr.hd e0 hl r x;refine y1C (ht [] s1 (z4R N vs) H _ I hq) (fun fl s' hs=>?_) fun e s' hs=>hs;have fin:∀{σ':St}{H':Hp}{v:V}{u:Value},Inv (z6g CX P w K mg base N qual scope f cdv A outer s H E) [] σ' H' s'->z0N v u->Q v H'->CE outer P w H s Q u s' :=
  fun{σ' H' v u} J rv q=>⟨v,H',J.os,J.bare,J.base,J.hok,rv,q⟩
 cases fl with
 |ret u =>
  obtain⟨v,σ',H',J,rv,q⟩:=hs;exact fin J rv q
 |next =>
  obtain⟨σ',H',J,q⟩:=hs;exact fin (v:=V.non) (u:=Value.none) J rfl q
 |brk =>
  obtain⟨_,_,_,q⟩:=hs;exact False.elim q
 |cont =>
  obtain⟨_,_,_,q⟩:=hs;exact False.elim q
section
variable{X:Cx}{x:Str}{p pos:Pos}{e:Expr}{es:List Expr}{t:TA}{id T:String}{r:List V->Hp->VK->Prop}
def tCB(r:List V->Hp->VK->Prop)(t:TA):TE:=fun σ H Q=>t σ H fun vs H1=>r vs H1 Q
def z0h(hc:z2j X (.builtin id) r)(hg:Gl X x)(hm:X.mg x=none)(hv:bootBuiltins x=some (.builtin id))(ha:PA X (e::es) t)(hn:x≠"__name__":=by decide)(hdb:(x==("__debug__":Str))=false:=by decide)(he:starEach (e::es) X.env=(false,eval e X.env)::starEach es X.env:=by rfl)(hpl:(backTo pos (starEach es X.env)).any (·.1)=false:=by rfl):PE X (.Call (.Name x p) (e::es) [] pos) (tCB r t):=by intro pins s σ H Q I h;refine y2f (z4V I hg hm hv ?_ hn hdb);exact PyProof.Rows.callWith_builtin1 (thn (ha pos pins s σ H _ I h) fun us s1 ⟨vs,H1,I1,r1,q1⟩=>hc pins s1 σ H1 vs us Q I1 r1 q1) he hpl
def z0w(hc:z2j X (.type T) r)(hg:Gl X x)(hm:X.mg x=none)(hv:bootBuiltins x=some (.type T))(ha:PA X (e::es) t)(hn:x≠"__name__":=by decide)(hdb:(x==("__debug__":Str))=false:=by decide)(he:starEach (e::es) X.env=(false,eval e X.env)::starEach es X.env:=by rfl)(hpl:(backTo pos (starEach es X.env)).any (·.1)=false:=by rfl):PE X (.Call (.Name x p) (e::es) [] pos) (tCB r t):=by intro pins s σ H Q I h;refine y2f (z4V I hg hm hv ?_ hn hdb);exact y2I (thn (ha pos pins s σ H _ I h) fun us s1 ⟨vs,H1,I1,r1,q1⟩=>hc pins s1 σ H1 vs us Q I1 r1 q1) he hpl
end
end L2
namespace HT
open PySem PyProof.Rows
section
open PySem.SeqAt
open PySem.AutoSeq1 (wpAny_loadPart')
open PySem.MeetsSeq PySem.MeetsSeq2 PySem.MeetsSeq3
end
section
variable{prog:Program}{w:World}{A:Around}{E:yyE}{s:Shared}
def sIx(n d:Nat):Option Int->Nat
 |none=>d
 |some v=>if v<0 then(v+(n:Int)).toNat else min v.toNat n
def sIx_none(n d:Nat):sIx n d none=d:=rfl
def sIx_nat(n d k:Nat):sIx n d (some (k:Int))=min k n:=by show(if(k:Int)<0 then((k:Int)+(n:Int)).toNat else min (k:Int).toNat n)=min k n;rw[if_neg (by lia),y1b]
end
end HT
namespace L2
open PySem PySem.Spec PyProof.Rows
abbrev TO:=St->Hp->(Option Int->Hp->Prop)->Prop
def PO(X:Cx)(e:Option Expr)(t:TO):Prop :=
 ∀(pins:yyP)(s:Shared)(σ:St)(H:Hp)(Q:Option Int->Hp->Prop),Inv X pins σ H s->t σ H Q ->
  wpAny (model X.prog X.w) X.A (evalPart e X.env) (fun u s'=>∃o H',Inv X pins σ H' s'/\IsPart u o/\Q o H') X.xe s
def zdJ:TO:=fun _ H Q=>Q none H
def zfZ(t:TE):TO:=fun σ H Q=>t σ H fun x H1=>∃i,x=.int i/\Q (some i) H1
section
variable{X:Cx}{e:Expr}{te:TE}{lo hi:Option Expr}{tl th:TO}{pos p2:Pos}
def zaW:PO X none zdJ:=by intro pins s σ H Q I h;rw[evalPart_none];exact y08 ⟨none,H,I,.none,h⟩
def z5U(h:PE X e te):PO X (some e) (zfZ te):=by intro pins s σ H Q I hw;rw[evalPart_some];refine z1H (h pins s σ H _ I hw) fun u s1 x H1 I1 r1 q1=>?_;obtain⟨i,rfl,q⟩:=q1;obtain⟨t,rfl⟩:=r1;exact⟨some i,H1,I1,.int i t,q⟩
def SlR(X:Cx)(r:V->Option Int->Option Int->Hp->VK->Prop):Prop :=
 ∀(pins:yyP)(s:Shared)(σ:St)(H:Hp)(x:V)(v vl vu:Value)(lo hi:Option Int)(sl:Addr)(Q:VK),Inv X pins σ H s->z0N x v->s.heap.IsSliceOf sl vl vu .none->IsPart vl lo->IsPart vu hi->r x lo hi H Q ->
  ∃T id,typeLookup (.type T) "__getitem__"=pure (some (.builtin id))/\s.TypeIs v T/\wpAny (model X.prog X.w) X.A (getItem v (.ref sl)) (EP X pins σ Q) X.xe s
def tSl(r:V->Option Int->Option Int->Hp->VK->Prop)(te:TE)(tl th:TO):TE:=fun σ H Q=>te σ H fun x H1=>tl σ H1 fun l H2=>th σ H2 fun u H3=>r x l u H3 Q
def z62{r:V->Option Int->Option Int->Hp->VK->Prop}(hr:SlR X r)(he:PE X e te)(hl:PO X lo tl)(hu:PO X hi th):PE X (.Subscript e (.Slice lo hi none p2) pos) (tSl r te tl th):=by intro pins s σ H Q I h;refine Subscript_ (z1H (he pins s σ H _ I h) fun v s1 x H1 I1 r1 q1=>?_);refine wpAny_Slice (thn (hl pins s1 σ H1 _ I1 q1) fun vl s2 ⟨l,H2,I2,pl,q2⟩=>thn (hu pins s2 σ H2 _ I2 q2) fun vu s3 hz8=>?_);obtain⟨u,H3,I3,pu,q3⟩:=hz8;rw[evalPart_none];refine y08 ?_;have I4:Inv X pins σ H3 { s3 with heap:=s3.heap.push { cls:=.type "slice",data:=.fields #[vl,vu,.none] } }:=I3.kept (t':=s3.toks) fun b ob q=>y05 _ q;obtain⟨T,id,hT,ht,hg⟩:=hr pins { s3 with heap:=s3.heap.push { cls:=.type "slice",data:=.fields #[vl,vu,.none] } } σ H3 x v vl vu l u s3.heap.objs.size Q I4 r1 (Heap.IsSliceOf.new ..) pl pu q3;show wpAny (model X.prog X.w) X.A (subscriptTail e (.Slice lo hi none p2) v (.ref s3.heap.objs.size)) (EP X pins σ Q) X.xe { s3 with heap:=s3.heap.push { cls:=.type "slice",data:=.fields #[vl,vu,.none] } };exact tail_any (ops:=[.ref s3.heap.objs.size,v]) ht hT hg (by with_unfolding_all rfl)
def zbt(xs:List V)(lo hi:Option Int):List V:=(xs.drop (HT.sIx xs.length 0 lo)).take (HT.sIx xs.length xs.length hi-HT.sIx xs.length 0 lo)
def z7L(xs:List V)(lo hi:Option Int):(zbt xs lo hi).length<=xs.length:=by unfold zbt;rw[y0w,y3x];lia
end
def ixN(n:Nat)(i:Int):Option Nat:=if 0<=i then(if i<n then some i.toNat else none)else if -(n:Int)<=i then some (i+n).toNat else none
def atI{α:Type}(xs:List α)(i:Int):Option α:=(ixN xs.length i).bind fun j=>xs[j]?
def zaQ{n:Nat}{i:Int}{j:Nat}(h:ixN n i=some j):seqIndex? i n=some j/\j<n/\-(n:Int)<=i/\i<n:=by
 unfold ixN at h;by_cases h0:0<=i
 .rw[if_pos h0]at h;by_cases h1:i<n
  .rw[if_pos h1]at h;have e:i.toNat=j:=y0b h;exact⟨by rw[seqIndex_of h0 h1,e],by lia,by lia,h1⟩
  .rw[if_neg h1]at h;cases h
 .rw[if_neg h0]at h;by_cases h1:-(n:Int)<=i
  .rw[if_pos h1]at h;have e:(i+n).toNat=j:=y0b h;exact⟨by rw[seqIndex_neg (by lia) h1,e],by lia,h1,by lia⟩
  .rw[if_neg h1]at h;cases h
def zal{α:Type}{xs:List α}{i:Int}{v:α}(h:atI xs i=some v):∃j,seqIndex? i xs.length=some j/\xs[j]?=some v/\j<xs.length/\-(xs.length:Int)<=i/\i<xs.length:=by
 unfold atI at h;cases e:ixN xs.length i with
 |none=>rw[e]at h;cases h
 |some j =>
  rw[e]at h;obtain⟨h1,h2,h3,h4⟩:=zaQ e;exact⟨j,h1,h,h2,h3,h4⟩
def z0v{α:Type}{xs:List α}{j:Nat}{v:α}(h:xs[j]?=some v):atI xs (j:Int)=some v:=by
 have hj:j<xs.length:=(y0a.mp h).1;have e:ixN xs.length (j:Int)=some j:=by unfold ixN;rw[if_pos (by lia),if_pos (by lia)];simp
 unfold atI;rw[e];exact h
def zdx(b:Expr):Prop:=∀o i,subscripted b false o i=operate [o,i] (getItem o i)
def IxR(X:Cx)(r:R2):Prop :=
 ∀(value slice:Expr)(pins:yyP)(s:Shared)(σ:St)(H:Hp)(x y:V)(v u:Value)(Q:VK),Inv X pins σ H s->z0N x v->z0N y u->r x y H Q ->
  subscripted slice false v u=operate [v,u] (getItem v u)->wpAny (model X.prog X.w) X.A (subscriptTail value slice v u) (EP X pins σ Q) X.xe s
def MtR(X:Cx)(id:String)(r:V->List V->Hp->VK->Prop):Prop :=
 ∀(pins:yyP)(s:Shared)(σ:St)(H:Hp)(x:V)(xs:List V)(v:Value)(us:List Value)(Q:VK),Inv X pins σ H s->z0N x v->z0O xs us->r x xs H Q ->
  wpAny (model X.prog X.w) X.A (call (.builtin id) (v::us)) (EP X pins σ Q) X.xe s
section
variable{X:Cx}{a b:Expr}{ta tb:TE}{pos:Pos}
def IxR.or{r r':R2}(h:IxR X r)(h':IxR X r'):IxR X (fun x y H Q=>r x y H Q\/r' x y H Q):=by
 intro value slice pins s σ H x y v u Q I rx ry q hs;rcases q with q|q
 .exact h value slice pins s σ H x y v u Q I rx ry q hs
 .exact h' value slice pins s σ H x y v u Q I rx ry q hs
def z0W{r:R2}(hr:IxR X r)(ha:PE X a ta)(hb:PE X b tb)(hs:zdx b):PE X (.Subscript a b pos) (tOp r ta tb):=by intro pins s σ H Q I h;exact Subscript_ (zgl ha hb I h fun v u s2 x y H2 I2 rx ry q=>hr a b pins s2 σ H2 x y v u Q I2 rx ry q (hs _ _))
def zgs(K:yyF):R2:=fun x y H Q=>∃p xs i v,x=.ref p/\y=.int i/\SqL K H p xs/\atI xs i=some v/\Q v H
def zgD(K:yyF):R2:=fun x y H Q=>∃p xs i v,x=.ref p/\y=.int i/\SqT K H p xs/\atI xs i=some v/\Q v H
def z1t:IxR X (zgs X.K):=by
 intro value slice pins s σ H x y v u Q I rx ry h hs;obtain⟨p,xs,i,z,rfl,rfl,hq,he,q⟩:=h;cases rx;obtain⟨t,rfl⟩:=ry;obtain⟨its,r,pl,hz⟩:=I.list hq;obtain⟨j,h1,h2,h3,h4,h5⟩:=zal he;obtain⟨w,ew,rw'⟩:=r.get h2;have hl:=r.length;have hn:=z74;have fin:EP X pins σ Q w s:=⟨z,H,I,rw',q⟩;by_cases h0:0<=i
 .have hj:i.toNat=j:=by
   rw[seqIndex_of h0 h5]at h1;exact y0b h1
  exact item_listR pl.isList h0 (by lia) (by rw[hj];simpa using ew) fin hs
 .have hj:(i+(its.toArray.size:Int)).toNat=j:=by
   rw[seqIndex_neg (by lia) h4]at h1;rw[y0r,<-hl];exact y0b h1
  exact subscriptTail_builtinR (x:=w) pl.isList.typeIs slot_list_getitem.lookup
   (wpAny_getItem_list_neg (Q:=fun r s'=>r=w/\EP X pins σ Q r s') pl.isList (by lia) (by rw[y0r]<;>lia) (by lia) (by rw[hj];simpa using ew) ⟨rfl,fin⟩) hs
def z2N:IxR X (zgD X.K):=by
 intro value slice pins s σ H x y v u Q I rx ry h hs;obtain⟨p,xs,i,z,rfl,rfl,hq,he,q⟩:=h;cases rx;obtain⟨t,rfl⟩:=ry;obtain⟨its,r,pl,hz⟩:=I.tuple hq;obtain⟨j,h1,h2,h3,h4,h5⟩:=zal he;obtain⟨w,ew,rw'⟩:=r.get h2;have hl:=r.length;have hn:=z74;have fin:EP X pins σ Q w s:=⟨z,H,I,rw',q⟩;exact subscriptTail_builtinR (x:=w) pl.typeIs slot_tuple_getitem.lookup
  (getItem_tuple (j:=j) (Q:=fun r s'=>r=w/\EP X pins σ Q r s') pl (by lia) (by lia) (by rw[y0r,<-hl];exact h1) (by simpa using ew) ⟨rfl,fin⟩) hs
def z9g(its:List Value)(n j:Nat)(u:Value):Obj.mapSeq (·.setIfInBounds j u) { cls:=.type "list",data:=.seq its.toArray n }={ cls:=.type "list",data:=.seq (its.set j u).toArray n }:=by simp[Obj.mapSeq]
theorem Inv.lst{pins:yyP}{σ:St}{H:Hp}{s:Shared}{p:Addr}{xs:List V}(I:Inv X pins σ H s)(h:H p=some (.lst xs)) : ∃(its:List Value) (n:Nat),z0O xs its/\s.heap.get? p=some { cls:=.type "list",data:=.seq its.toArray n }/\xs.length<=sizeLine:=by obtain⟨z,its,n,r,e⟩:=I.hok p _ h;exact⟨its,n,r,e,z⟩
def Inv.lstUpd{pins:yyP}{σ:St}{H:Hp}{s:Shared}{p:Addr}{xs ys:List V}{its its':List Value}{n n':Nat}{f:Obj->Obj}(I:Inv X pins σ H s)(h:H p=some (.lst xs))(ho:s.heap.get? p=some { cls:=.type "list",data:=.seq its.toArray n })(hf:f { cls:=.type "list",data:=.seq its.toArray n }={ cls:=.type "list",data:=.seq its'.toArray n' })(r:z0O ys its')(hz:ys.length<=sizeLine)(t:Nat) : Inv X pins σ (upd H p (.lst ys)) { s with heap:=s.heap.update p f,toks:=t }:=by
 have e:(s.heap.update p f).get? p=some { cls:=.type "list",data:=.seq its'.toArray n' }:=by rw[y1f f ho (by rw[hf]<;>rfl),hf]
 refine I.write (x:=p) (e:=p) (by rw[h];trivial) (.inl rfl) (fun b u hb q=>(y2B _ _ (y2Y hb)).trans q) ⟨_,e⟩ ?_;exact⟨hz,its',n',r,e⟩
def zgc:V->V->V->Hp->(Hp->Prop)->Prop:=fun o i v H Q=>∃p xs k j,o=.ref p/\i=.int k/\H p=some (.lst xs)/\ixN xs.length k=some j/\Q (upd H p (.lst (xs.set j v)))
def zbz:zgI X zgc:=by
 intro pins s σ H o i v ov iv u Q I ro ri rv h;obtain⟨p,xs,k,j,rfl,rfl,hp,hj,q⟩:=h;cases ro;obtain⟨t,rfl⟩:=ri;obtain⟨its,n,r,ho,hz⟩:=I.lst hp;obtain⟨h1,h2,h3,h4⟩:=zaQ hj;have hl:=r.length;have hn:=z74;have I':Inv X pins σ (upd H p (.lst (xs.set j v))) { s with heap:=s.heap.update p (Obj.mapSeq (·.setIfInBounds j u)) } :=
  I.lstUpd hp ho (z9g its n j u) (r.set rv j) (by rw[List.length_set];exact hz) s.toks
 by_cases h0:0<=k
 .have hk:k.toNat=j:=by
   rw[seqIndex_of h0 h4]at h1;exact y0b h1
  exact PySem.W.ki_setAt ho h0 (by lia) (by rw[y0r,<-hl];exact h4) (by rw[hk];exact⟨_,I',q⟩)
 .have hk:(k+(its.toArray.size:Int)).toNat=j:=by
   rw[seqIndex_neg (by lia) h3]at h1;rw[y0r,<-hl];exact y0b h1
  exact PySem.W.ki_setBack ho (by lia) (by rw[y0r,<-hl];exact h3) (by lia) (by rw[hk];exact⟨_,I',q⟩)
def z6L(lo hi:Option Int)(n:Nat):(sliceBounds lo hi none n).1=((HT.sIx n 0 lo:Nat):Int)/\(sliceBounds lo hi none n).2.1=((HT.sIx n n hi:Nat):Int)/\(sliceBounds lo hi none n).2.2=1:=by
 refine⟨?_,?_,rfl⟩
 .cases lo with
  |none=>simp[sliceBounds,HT.sIx]
  |some i =>
   simp only[sliceBounds,HT.sIx,Option.getD_none,show(1:Int)>0 by decide,y22];by_cases h:i<0
   .simp only[h,y22]<;>lia
   .simp only[h,y0W]<;>lia
 .cases hi with
  |none=>simp[sliceBounds,HT.sIx]
  |some i =>
   simp only[sliceBounds,HT.sIx,Option.getD_none,show(1:Int)>0 by decide,y22];by_cases h:i<0
   .simp only[h,y22]<;>lia
   .simp only[h,y0W]<;>lia
def z5J(its:List Value)(lo hi:Option Int):slicePick its.toArray lo hi none=((its.drop (HT.sIx its.length 0 lo)).take (HT.sIx its.length its.length hi-HT.sIx its.length 0 lo)).toArray:=by obtain⟨h1,h2,h3⟩:=z6L lo hi its.toArray.size;unfold slicePick;rw[h1,h2,h3];simp only[sliceRange_one,pick_run,y0r]<;>rfl
def zhe(K:yyF):V->Option Int->Option Int->Hp->VK->Prop:=fun x lo hi H Q=>∃a xs,x=.ref a/\SqL K H a xs/\∀p,H p=none->Q (.ref p) (upd H p (.lst (zbt xs lo hi)))
def z7q:SlR X (zhe X.K):=by intro pins s σ H x v vl vu lo hi sl Q I rx hs pl pu h;obtain⟨a,xs,rfl,hx,q⟩:=h;cases rx;obtain⟨its,r,ht,hz⟩:=I.list hx;have hlen:=r.length;refine⟨"list",_,slot_list_getitem.lookup,ht.isList.typeIs,?_⟩;refine wpAny_getItem_list_slice ht.isList hs pl pu .none (by simp) ?_ (by rw[y0r]<;>lia);rw[z5J,<-hlen];refine⟨.ref s.heap.objs.size,_,I.laid (t':=s.toks) (o:=.lst (zbt xs lo hi)) (fun b ob q=>y05 _ q) (y0d _) ?_,rfl,q _ (I.hok.fresh (y0d _))⟩;exact⟨y0S (z7L xs lo hi) hz,_,0,(r.drop (HT.sIx xs.length 0 lo)).take (HT.sIx xs.length xs.length hi-HT.sIx xs.length 0 lo),y0h _ rfl⟩
def z0f:z2j X (.builtin "len") (fun xs H Q=>∃p ys,xs=[.ref p]/\(SqL X.K H p ys\/SqT X.K H p ys)/\Q (.int ys.length) H):=by
 intro pins s σ H xs us Q I r h;obtain⟨p,ys,rfl,hq,q⟩:=h;obtain⟨u,rfl,rx⟩:=z3U r;cases rx;have hn:=z74;rcases hq with hq|hq
 .obtain⟨its,r',pl,hz⟩:=I.list hq;have hlen:=r'.length;exact Calls.call_len_list pl.isList (by simp only[y0r]<;>lia) ⟨.int ys.length,H,I.tok _,⟨s.toks+1,by rw[y0r,hlen]⟩,q⟩
 .obtain⟨its,r',pl,hz⟩:=I.tuple hq;have hlen:=r'.length;exact len_tuple pl (by simp only[y0r]<;>lia) ⟨.int ys.length,H,I.tok _,⟨s.toks+1,by rw[y0r,hlen]⟩,q⟩
def z3K:z2j X (.type "list") (fun xs H Q=>∃p ys,xs=[.ref p]/\(SqL X.K H p ys\/SqT X.K H p ys)/\∀l,H l=none->Q (.ref l) (upd H l (.lst ys))):=by
 intro pins s σ H xs us Q I r h;obtain⟨p,ys,rfl,hq,q⟩:=h;obtain⟨u,rfl,rx⟩:=z3U r;cases rx;have fin:∀(its:List Value),z0O ys its->ys.length<=sizeLine->∀(h':Heap)(c':Nat),(∀b o',s.heap.get? b=some o'->h'.get? b=some o') ->
   h'.get? s.heap.objs.size=some { cls:=.type "list",dict:=none,data:=.seq its.toArray c',slots:=#[] }->EP X pins σ Q (.ref s.heap.objs.size) { s with heap:=h' }:=fun its r' hz h' c' kp e =>
  ⟨.ref s.heap.objs.size,_,I.laid (t':=s.toks) kp (y0d _) (show z19 X.prog X.w _ h' _ (.lst ys)from⟨hz,its,c',r',e⟩),rfl,q _ (I.hok.fresh (y0d _))⟩
 rcases hq with hq|hq
 .obtain⟨its,r',pl,hz⟩:=I.list hq;have hlen:=r'.length;obtain⟨o,ho,hc,n,hd⟩:=pl.isList;exact call_list_seq p (.inl rfl) ho hc hd (fun h' c' kp e=>fin its r' hz h' c' kp e) (by simp only[y0r]<;>lia)
 .obtain⟨its,r',pl,hz⟩:=I.tuple hq;have hlen:=r'.length;obtain⟨o,ho,hc,n,hd⟩:=pl;exact call_list_seq p (.inr rfl) ho hc hd (fun h' c' kp e=>fin its r' hz h' c' kp e) (by simp only[y0r]<;>lia)
def z0B:z2j X (.type "tuple") (fun xs H Q=>∃p ys,xs=[.ref p]/\((SqL X.K H p ys/\∀l,H l=none->Q (.ref l) (upd H l (.tup ys)))\/(SqT X.K H p ys/\Q (.ref p) H))):=by
 intro pins s σ H xs us Q I r h;obtain⟨p,ys,rfl,h⟩:=h;obtain⟨u,rfl,rx⟩:=z3U r;cases rx;rcases h with⟨hq,q⟩|⟨hq,q⟩
 .obtain⟨its,r',pl,hz⟩:=I.list hq;have hlen:=r'.length;refine call_tuple_list pl.isList (fun h' kp=>?_) (by simp only[y0r]<;>lia);have I1:Inv X pins σ H { s with heap:=h' }:=I.kept (t':=s.toks) kp;have I2:Inv X pins σ (upd H h'.objs.size (.tup ys)) { s with heap:=h'.push { cls:=.type "tuple",data:=.seq its.toArray } } :=
   I1.laid (t':=s.toks) (fun b o e=>y05 _ e) (y0d _) (show z19 X.prog X.w _ _ _ (.tup ys)from⟨hz,its,0,r',y0h _ rfl⟩)
  exact⟨.ref h'.objs.size,_,I2,rfl,q _ (I1.hok.fresh (y0d _))⟩
 .obtain⟨its,r',pl,hz⟩:=I.tuple hq;exact call_tuple_same pl ⟨.ref p,H,I,rfl,q⟩
def tyV(K:yyF)(T:String)(x:V)(H:Hp):Prop:=match x with
 |.str _=>T="str"
 |.int _=>T="int"
 |.ref p=>(T="list"/\∃xs,SqL K H p xs)\/(T="tuple"/\((∃o,K.lookup p=some o/\o.cls=.type "tuple"/\o.dict=none)\/∃xs,H p=some (.tup xs))) \/
   (T="dict"/\((∃kvs,H p=some (.dK kvs))\/∃kvs,H p=some (.dT kvs)))\/(T="set"/\∃S n,H p=some (.set S n))
 |_=>False
def zcV{pins:yyP}{σ:St}{H:Hp}{s:Shared}{T:String}{x:V}{v:Value}(I:Inv X pins σ H s)(r:z0N x v)(ty:tyV X.K T x H) : s.TypeIs v T/\∀a,v=.ref a->∃ob,s.heap.get? a=some ob/\ob.dict=none:=by
 cases x with
 |str z =>
  obtain⟨t,rfl⟩:=r;cases(show T="str" from ty);exact⟨typeIs_str s z t,fun _ e=>nomatch e⟩
 |int i =>
  obtain⟨t,rfl⟩:=r;cases(show T="int" from ty);exact⟨typeIs_int s i t,fun _ e=>nomatch e⟩
 |ref p =>
  cases r;rcases ty with⟨rfl,xs,hq⟩|⟨rfl,⟨o,hk,hc,hd⟩|⟨xs,hq⟩⟩|⟨rfl,hk⟩|⟨rfl,S,n,hk⟩
  .obtain⟨its,_,pl,_⟩:=I.list hq;refine⟨pl.isList.typeIs,fun a e=>?_⟩;cases e;obtain⟨o,n,e,c,hd,_⟩:=pl;exact⟨o,e,hd⟩
  .refine⟨⟨o,I.kIn p o hk,hc⟩,fun a e=>?_⟩;cases e;exact⟨o,I.kIn _ o hk,hd⟩
  .obtain⟨_,its,n,_,h1⟩:=(show z19 X.prog X.w H s.heap p (.tup xs)from I.hok p _ hq);refine⟨⟨_,h1,rfl⟩,fun a e=>?_⟩;cases e;exact⟨_,h1,rfl⟩
  .have z:∃o,s.heap.get? p=some o/\o.ExactDict:=by
    rcases hk with⟨kvs,hk⟩|⟨kvs,hk⟩
    .obtain⟨_,_,_,_,o,_,_,e,ex,_⟩:=I.hok p _ hk;exact⟨o,e,ex⟩
    .obtain⟨_,_,_,_,o,_,_,e,ex,_⟩:=I.hok p _ hk;exact⟨o,e,ex⟩
   obtain⟨o,e,ex⟩:=z;refine⟨⟨o,e,ex.1⟩,fun a e2=>?_⟩;cases e2;exact⟨o,e,ex.2.1⟩
  .obtain⟨o,_,_,_,e,ex,_⟩:=I.hok p _ hk;refine⟨⟨o,e,ex.1⟩,fun a e2=>?_⟩;cases e2;exact⟨o,e,ex.2.1⟩
 |_=>exact False.elim ty
def zhk(K:yyF)(T:String)(r:V->List V->Hp->VK->Prop)(to:TE):TE:=fun σ H Q=>to σ H fun x H1=>tyV K T x H1/\r x [] H1 Q
def tBM(K:yyF)(T:String)(r:V->List V->Hp->VK->Prop)(to:TE)(t:TA):TE:=fun σ H Q=>to σ H fun x H1=>tyV K T x H1/\t σ H1 fun xs H2=>r x xs H2 Q
variable{o e:Expr}{es:List Expr}{to:TE}{t:TA}{name:Str}{apos cpos:Pos}{T id:String}{r:V->List V->Hp->VK->Prop}
def zfm(pa:PlainAttrs T)(slot:Slot T name id)(hty:typeOf (.builtin id)=pure (.type "method_descriptor"))(hm:MtR X id r)(ho:PE X o to)(hbase:attributeBase o name X.env (eval o X.env)=eval o X.env:=by rfl)(hline:(apos.endLine==cpos.line)=true:=by rfl):PE X (.Call (.Attribute o name apos) [] [] cpos) (zhk X.K T r to):=by intro pins s σ H Q I h;refine wpAny_Call_method0_late hbase hline (z1H (ho pins s σ H _ I h) fun v s1 x H1 I1 r1 hz9=>?_);obtain⟨ty,q1⟩:=hz9;obtain⟨h1,h2⟩:=zcV I1 r1 ty;exact⟨T,id,pa,slot,hty,h1,h2,y3f rfl (PySem.evalArgs_none (hm pins s1 σ H1 x [] v [] Q I1 r1 .nil q1))⟩
def z3V(pa:PlainAttrs T)(slot:Slot T name id)(hty:typeOf (.builtin id)=pure (.type "method_descriptor"))(hm:MtR X id r)(ho:PE X o to)(ha:PA X (e::es) t)(hbase:attributeBase o name X.env (eval o X.env)=eval o X.env:=by rfl)(hfew:((backTo cpos (starEach (e::es) X.env)).all (fun x=>!x.1)&&(backToKw cpos (keywordEach [] X.env)).all (fun x=>x.1.isSome)&&decide ((e::es).length+([]:List Keyword).length+(if([]:List Keyword).isEmpty then 0 else 1)<30))=true:=by rfl)(hline:(apos.endLine==cpos.line)=true:=by rfl)(hs:starEach (e::es) X.env=(false,eval e X.env)::starEach es X.env:=by rfl)(hplain:(backTo cpos (starEach es X.env)).any (·.1)=false:=by rfl) : PE X (.Call (.Attribute o name apos) (e::es) [] cpos) (tBM X.K T r to t):=by intro pins s σ H Q I h;refine wpAny_Call_method_late hbase hfew hline rfl (z1H (ho pins s σ H _ I h) fun v s1 x H1 I1 r1 hz9=>?_);obtain⟨ty,q1⟩:=hz9;obtain⟨h1,h2⟩:=zcV I1 r1 ty;refine⟨T,id,pa,slot,hty,h1,h2,?_⟩;have hA:=ha cpos pins s1 σ H1 _ I1 q1;rw[hs]at hA⊢;refine y3f (by show(false||(backTo cpos (starEach es X.env)).any (·.1))=false;rw[hplain]<;>rfl) (y3E ?_);exact thn hA fun us s2 ⟨vs,H2,I2,r2,q2⟩=>hm pins s2 σ H2 x vs v us Q I2 r1 r2 q2
end
def MtM(X:Cx)(id:String)(r:V->List V->Hp->VK->Prop):Prop :=
 ∀(pins:yyP)(s:Shared)(σ:St)(H:Hp)(x:V)(xs:List V)(v:Value)(us:List Value)(Q:VK),Inv X pins σ H s->z0N x v->z0O xs us->r x xs H Q ->
  wpAny (model X.prog X.w) X.A (call (.builtin id) (v::us)) (EP X pins σ Q) X.xe s
def z0O.one:∀{x:V}{us:List Value},z0O [x] us->∃u,us=[u]/\z0N x u
 |_,_,.cons r .nil=>⟨_,rfl,r⟩
def z0O.zero:∀{us:List Value},z0O [] us->us=[]
 |_,.nil=>rfl
theorem z0O.eraseIdx:∀{xs:List V}{us:List Value}(i:Nat),z0O xs us->z0O (xs.eraseIdx i) (us.eraseIdx i)
 |_,_,_,.nil=>.nil
 |_,_,0,.cons _ t=>t
 |_,_,i+1,.cons r t=>.cons r (z0O.eraseIdx i t)
theorem z0O.reverse{xs:List V}{us:List Value}(h:z0O xs us):z0O xs.reverse us.reverse:=by
 induction h with
 |nil=>exact .nil
 |cons r t ih=>rw[y1U,y1U];exact z0O.append ih (.cons r .nil)
theorem z0O.rep{xs:List V}{us:List Value}(h:z0O xs us):∀k:Nat,z0O (List.replicate k xs).flatten (List.replicate k us).flatten
 |0=>.nil
 |k+1=>by rw[y1V,y1V,y1u,y1u];exact z0O.append h (z0O.rep h k)
theorem z6B{α:Type}:∀(l:List α)(i:Nat),(l.eraseIdx i).length<=l.length
 |[],_=>y0d _
 |_::_,0=>Nat.le_succ _
 |_::r,i+1=>Nat.succ_le_succ (z6B r i)
theorem z6H(its:List Value):∀(k:Nat)(acc:List Value),
  List.foldl (fun x1 x2=>x1++x2) acc.toArray (List.replicate k its.toArray)=(acc++(List.replicate k its).flatten).toArray
 |0,acc=>by simp
 |k+1,acc=>by
  have e:acc.toArray++its.toArray=(acc++its).toArray:=by simp
  have e2:(acc++its)++(List.replicate k its).flatten=acc++(List.replicate (k+1) its).flatten:=by rw[y1V,y1u,y0q]
  rw[<-e2,<-z6H its k (acc++its),<-e,y1V,y1Y]
section
variable{X:Cx}{pins:yyP}{σ:St}{H:Hp}{s:Shared}{l b:Addr}{xs ys zs:List V}
def Inv.lset{its its':List Value}{n:Nat}{f:Array Value->Array Value}{t':Nat}(I:Inv X pins σ H s)(hH:H l=some (.lst xs))(e:s.heap.get? l=some { cls:=.type "list",data:=.seq its.toArray n })(hf:f its.toArray=its'.toArray)(hv:z0O ys its')(hz:ys.length<=sizeLine) : Inv X pins σ (upd H l (.lst ys)) { s with heap:=s.heap.update l (Obj.mapSeq f),toks:=t' }:=by have q:=PySem.IsL.update e f;rw[hf]at q;refine I.write (x:=l) (e:=l) (by rw[hH];exact trivial) (.inl rfl) (fun b' u hb hu=>(y2B s.heap (Obj.mapSeq f) (y2Y hb)).trans hu) ⟨_,q⟩ ?_;exact⟨hz,its',_,hv,q⟩
def Inv.lnew{its:List Value}{t':Nat}(I:Inv X pins σ H s)(hv:z0O ys its)(hz:ys.length<=sizeLine) : Inv X pins σ (upd H s.heap.objs.size (.lst ys)) { s with heap:=s.heap.push { cls:=.type "list",data:=.seq its.toArray },toks:=t' } :=
 I.laid (fun _ _ q=>y05 _ q) (y0d _) ⟨hz,its,0,hv,y0h _ rfl⟩
theorem Inv.fresh(I:Inv X pins σ H s):H s.heap.objs.size=none:=I.hok.fresh (y0d _)
def Inv.lstM(I:Inv X pins σ H s)(hH:H l=some (.lst xs)):xs.length<=sizeLine/\∃(its:List Value) (n:Nat),z0O xs its/\xs.length=its.length/\s.heap.get? l=some { cls:=.type "list",data:=.seq its.toArray n }:=by obtain⟨z,its,n,r,e⟩:=I.hok l _ hH;exact⟨z,its,n,r,r.length,e⟩
def z8b{n:Nat}(h:n<=sizeLine):Builtin.List.listTooLong n=false:=by unfold Builtin.List.listTooLong;exact y1z (by lia)
end
section
variable{X:Cx}
def zdB:V->List V->Hp->VK->Prop:=fun x vs H Q=>∃l xs y,x=.ref l/\vs=[y]/\H l=some (.lst xs)/\xs.length<sizeLine/\Q .non (upd H l (.lst (xs++[y])))
def z0V:MtM X "list.append" zdB:=by intro pins s σ H x vs v us Q I rx rv h;obtain⟨l,xs,y,rfl,rfl,hH,hz,q⟩:=h;cases rx;obtain⟨u,rfl,ru⟩:=rv.one;obtain⟨z,its,n,r,hl,e⟩:=I.lstM hH;refine y3O F.slot_list_append ⟨_,e,rfl⟩ F.entry_list_append (F.args_list_append_2 _ _) (PySem.list_append l its.toArray n u (by rw[y0r];lia)) ⟨e,?_⟩;refine⟨.non,_,I.lset (its':=its++[u]) hH e (by simp) (r.append (.cons ru .nil)) ?_,rfl,q⟩;rw[y09,y3t];lia
def zdN:V->List V->Hp->VK->Prop:=fun x vs H Q=>∃l b xs zs,x=.ref l/\vs=[.ref b]/\H l=some (.lst xs)/\H b=some (.lst zs)/\xs.length+zs.length<=sizeLine/\Q .non (upd H l (.lst (xs++zs)))
def zaS:MtM X "list.extend" zdN:=by
 intro pins s σ H x vs v us Q I rx rv h;obtain⟨l,b,xs,zs,rfl,rfl,hH,hB,hz,q⟩:=h;cases rx;obtain⟨u,rfl,ru⟩:=rv.one;cases ru;obtain⟨z,its,n,r,hl,e⟩:=I.lstM hH;obtain⟨z2,its2,n2,r2,hl2,e2⟩:=I.lstM hB;have hsz:its.toArray.size+its2.toArray.size<=sizeLine:=by rw[y0r,y0r];lia
 have hlong:¬(!its.toArray.isEmpty&&Builtin.List.listTooLong (its.toArray.size+its2.toArray.size))=true:=by rw[z8b hsz,Bool.and_false];exact y0C
 refine y3O F.slot_list_extend ⟨_,e,rfl⟩ F.entry_list_extend (F.args_list_extend_2 _ _)
  (AutoSeq1.list_extend_list_list_0 l its.toArray n b its2.toArray n2 hlong (by rw[y0r];lia) (by lia)) ⟨e,e2,?_⟩
 refine⟨.non,_,I.lset (its':=its++its2) hH e (by simp) (r.append r2) ?_,rfl,q⟩;rw[y09];lia
def zex:V->List V->Hp->VK->Prop:=fun x vs H Q=>∃l xs i k y,x=.ref l/\vs=[.int i]/\H l=some (.lst xs)/\-(2^63)<=i/\i<2^63/\seqIndex? i xs.length=some k/\xs[k]?=some y/\Q y (upd H l (.lst (xs.eraseIdx k)))
def zbE:MtM X "list.pop" zex:=by
 intro pins s σ H x vs v us Q I rx rv h;obtain⟨l,xs,i,k,y,rfl,rfl,hH,h1,h2,hk,hy,q⟩:=h;cases rx;obtain⟨u,rfl,ru⟩:=rv.one;obtain⟨t,rfl⟩:=ru;obtain⟨z,its,n,r,hl,e⟩:=I.lstM hH;obtain⟨w,hw,rw'⟩:=r.get hy;refine y3O F.slot_list_pop ⟨_,e,rfl⟩ F.entry_list_pop (F.args_list_pop_2 _ _)
  (MeetsSeq.list_pop_at l its.toArray n i t k w (fitsIndex_both h1 h2) (by rw[y0r,<-hl];exact hk) (by rw[<-y0o];exact hw) (by rw[y0r];lia)) ⟨e,?_⟩
 refine⟨y,_,I.lset (its':=its.eraseIdx k) hH e ?_ (r.eraseIdx k) ?_,rw',q⟩
 .show its.toArray.eraseIdxIfInBounds k=(its.eraseIdx k).toArray;rw[List.eraseIdxIfInBounds_toArray]
 .have:=z6B xs k;lia
def zco:V->List V->Hp->VK->Prop:=fun x vs H Q=>∃l xs,x=.ref l/\vs=[]/\H l=some (.lst xs)/\Q .non (upd H l (.lst xs.reverse))
def z9v:MtM X "list.reverse" zco:=by intro pins s σ H x vs v us Q I rx rv h;obtain⟨l,xs,rfl,rfl,hH,q⟩:=h;cases rx;have hus:=rv.zero;subst hus;obtain⟨z,its,n,r,hl,e⟩:=I.lstM hH;refine y3O F.slot_list_reverse ⟨_,e,rfl⟩ F.entry_list_reverse (F.args_list_reverse_1 _) (AutoSeq1.list_reverse_list_0 l its.toArray n (by rw[y0r];lia)) ⟨e,?_⟩;refine⟨.non,_,I.lset (its':=its.reverse) hH e (by simp) r.reverse ?_,rfl,q⟩;rw[List.length_reverse];lia
def zgU:R2:=fun x y H Q=>∃l b xs zs,x=.ref l/\y=.ref b/\H l=some (.lst xs)/\H b=some (.lst zs)/\xs.length+zs.length<=sizeLine/\∀p,H p=none->Q (.ref p) (upd H p (.lst (xs++zs)))
def zcN:OpR X (binaryOp .Add) zgU:=by
 intro pins s σ H x y v u Q I rx ry h;obtain⟨l,b,xs,zs,rfl,rfl,hH,hB,hz,q⟩:=h;cases rx;cases ry;obtain⟨z,its,n,r,hl,e⟩:=I.lstM hH;obtain⟨z2,its2,n2,r2,hl2,e2⟩:=I.lstM hB;refine PySem.P.add_list e e2 ?_ (by rw[y0r,y0r];lia);have ea:its.toArray++its2.toArray=(its++its2).toArray:=by simp
 rw[ea];exact⟨.ref _,_,I.lnew (t':=s.toks) (r.append r2) (by rw[y09];lia),rfl,q _ I.fresh⟩
def zhc:R2:=fun x y H Q=>∃l k xs,x=.ref l/\y=.int k/\H l=some (.lst xs)/\-(2^63)<=k/\k<2^63/\xs.length*k.toNat<=sizeLine /\
 ∀p,H p=none->Q (.ref p) (upd H p (.lst (List.replicate k.toNat xs).flatten))
def ze4{α:Type}(xs:List α)(k:Nat):(List.replicate k xs).flatten.length=k*xs.length:=by
 induction k with
 |zero=>simp
 |succ k ih=>rw[y1V,y1u,y09,ih,Nat.succ_mul,Nat.add_comm]
def zeA:OpR X (binaryOp .Mult) zhc:=by
 intro pins s σ H x y v u Q I rx ry h;obtain⟨l,k,xs,rfl,rfl,hH,h1,h2,hz,q⟩:=h;cases rx;obtain⟨t,rfl⟩:=ry;obtain⟨z,its,n,r,hl,e⟩:=I.lstM hH;have hlen:its.toArray.size*k.toNat<=sizeLine:=by rw[y0r,<-hl];exact hz
 have hcap:¬its.toArray.size*k.toNat>(2^63-1)/8:=by
  have:(sizeLine:Nat)<=(2^63-1)/8:=by decide
  lia
 have hfit:¬(!Builtin.List.listFitsIndex k)=true:=by rw[fitsIndex_both h1 h2];exact y0C
 have hlong:¬Builtin.List.listTooLong (its.toArray.size*k.toNat)=true:=by rw[z8b hlen];exact y0C
 have hnew:List.foldl (fun x1 x2=>x1++x2) #[] (List.replicate (if its.toArray.isEmpty=true then 0 else k.toNat) its.toArray)=(List.replicate k.toNat its).flatten.toArray:=by
  have f0:∀m:Nat,List.foldl (fun x1 x2=>x1++x2) #[] (List.replicate m its.toArray)=(List.replicate m its).flatten.toArray:=fun m=>by have:=z6H its m [];rw[y1r]at this;exact this
  rw[f0];cases its with
  |nil=>simp
  |cons a r'=>rw[if_neg (by simp)]
 refine wpAny_binaryOp_repeat_ref (T:="list") (U:="int") (by decide) ⟨_,e,rfl⟩ (fun s'=>typeIs_int s' k t) noFill_list_mul F.fills_int_mul F.slot_int_rmul repeat_list F.slot_int_index.lookup
  (y3O F.slot_int_rmul (typeIs_int s k t) F.entry_int_rmul (F.args_int_rmul_2 _ _) (int___rmul___int_list k t l its.toArray n)
   ⟨e,rfl,⟨_,e,rfl⟩,y3O F.slot_list_mul ⟨_,e,rfl⟩ F.entry_list_mul (F.args_list_mul_2 _ _) (AutoListH.list___mul___list_int_3 l its.toArray n k t hfit hcap hlong) ⟨e,?_⟩⟩)
 rw[hnew];exact⟨.ref _,_,I.lnew (t':=s.toks) (r.rep k.toNat) (by rw[ze4,Nat.mul_comm];exact hz),rfl,q _ I.fresh⟩
end
section
variable{prog:Program}{w:World}{A:Around}{E:yyE}{s:Shared}
end
section
variable{X:Cx}
end
section
variable{κ:Type}[DecidableEq κ]
def z2C(kvs:List (κ × V))(k:κ):Option V:=(kvs.find? fun kv=>decide (kv.1=k)).map (·.2)
def z2L(kvs:List (κ × V))(k:κ)(v:V):List (κ × V) :=
 if(kvs.any fun kv=>decide (kv.1=k))=true then kvs.map (fun kv=>if kv.1=k then(kv.1,v)else kv)else kvs++[(k,v)]
def z2G{p:κ × V}{r:List (κ × V)}{k:κ}(e:p.1=k):z2C (p::r) k=some p.2:=by simp[z2C,y27,e]
def z28{p:κ × V}{r:List (κ × V)}{k:κ}(e:¬p.1=k):z2C (p::r) k=z2C r k:=by simp[z2C,y27,e]
theorem z2E(k:κ):∀kvs:List (κ × V),(kvs.any fun kv=>decide (kv.1=k))=(z2C kvs k).isSome
 |[]=>rfl
 |p::r=>by
  rw[List.any_cons];by_cases e:p.1=k
  .simp only[z2G e,y1A e,Bool.true_or,Option.isSome_some]
  .rw[z28 e,y1z e,Bool.false_or];exact z2E k r
def z29(kvs:List (κ × V))(k:κ)(v:V):(z2L kvs k v).length<=kvs.length+1:=by
 unfold z2L;split
 .rw[y01];lia
 .rw[y09,y0H,y3a];lia
def z5A{kvs:List (κ × V)}{k:κ}(v:V)(h:z2C kvs k=none):z2L kvs k v=kvs++[(k,v)]:=by unfold z2L;rw[z2E,h];exact if_neg (by decide)
def z7Z.isSome_eq{o:Option V}{u:Option Value}(r:z7Z o u):o.isSome=u.isSome:=by
 cases o with
 |none=>cases u with
  |none=>rfl
  |some _=>exact(show False from r).elim
 |some _=>cases u with
  |none=>exact(show False from r).elim
  |some _=>rfl
theorem z7Z.getD{o:Option V}{u:Option Value}{d:V}{d':Value}(r:z7Z o u)(rd:z0N d d'):z0N (o.getD d) (u.getD d'):=by
 cases o with
 |none=>cases u with
  |none=>exact rd
  |some _=>exact(show False from r).elim
 |some _=>cases u with
  |none=>exact(show False from r).elim
  |some _=>exact r
def KV.val{kvs:List (κ × V)}{vs:List (κ × Value)}(r:KV kvs vs)(k:κ):z7Z (z2C kvs k) (valueAt vs k):=by
 unfold KV at r;induction r with
 |nil=>exact y2c
 |@cons p q ps qs h t ih =>
  obtain⟨h1,h2⟩:=h;by_cases e:p.1=k
  .have e':q.1=k:=h1.symm.trans e;have b:valueAt (q::qs) k=some q.2:=by simp[valueAt,y27,e']
   rw[z2G e,b];exact h2
  .have e':¬q.1=k:=fun z=>e (h1.trans z);have b:valueAt (q::qs) k=valueAt qs k:=by simp[valueAt,y27,e']
   rw[z28 e,b];exact ih
theorem KV.any{kvs:List (κ × V)}{vs:List (κ × Value)}(r:KV kvs vs)(k:κ):(kvs.any fun kv=>decide (kv.1=k))=vs.any fun kv=>decide (kv.1=k):=by
 unfold KV at r;induction r with
 |nil=>rfl
 |cons h t ih=>rw[List.any_cons,List.any_cons,ih,h.1]
def KV.repl{kvs:List (κ × V)}{vs:List (κ × Value)}(r:KV kvs vs)(k:κ){y:V}{u:Value}(ry:z0N y u) : KV (kvs.map fun kv=>if kv.1=k then(kv.1,y)else kv) (vs.map fun kv=>if kv.1=k then(kv.1,u)else kv):=by
 unfold KV at r⊢;induction r with
 |nil=>exact .nil
 |@cons p q ps qs h t ih =>
  rw[y0k,y0k];refine .cons ?_ ih;obtain⟨h1,h2⟩:=h;by_cases e:p.1=k
  .rw[if_pos e,if_pos (h1.symm.trans e)];exact⟨h1,ry⟩
  .rw[if_neg e,if_neg (fun z=>e (h1.trans z))];exact⟨h1,h2⟩
def KV.put{kvs:List (κ × V)}{vs:List (κ × Value)}(r:KV kvs vs)(k:κ){y:V}{u:Value}(ry:z0N y u):KV (z2L kvs k y) (stored vs k u):=by
 unfold z2L stored;rw[r.any k];by_cases e:(vs.any fun kv=>decide (kv.1=k))=true
 .rw[if_pos e,if_pos e];exact r.repl k ry
 .rw[if_neg e,if_neg e];exact Paired.snoc r ⟨rfl,ry⟩
theorem KV.length{kvs:List (κ × V)}{vs:List (κ × Value)}(r:KV kvs vs):kvs.length=vs.length:=y3G r
end
def za4{P:Program}{w:World}{k:Key}{u:Value}(r:z0N (kV k) u):(z1g P w).is k u=true:=by
 cases k with
 |inl i=>obtain⟨t,e⟩:=(show ∃t,u=Value.int i t from r);subst e;exact z7T P w i t
 |inr x=>obtain⟨t,e⟩:=(show ∃t,u=Value.str x t from r);subst e;exact z7A P w x t
theorem z6J{P:Program}{w:World}:∀{ks:List Key}{us:List Value},z0O (ks.map kV) us->ItemsAre (z1g P w) ks us
 |[],_,r=>by rw[y0T]at r;cases r;exact .nil
 |k::ks,_,r=>by
  rw[y0k]at r;cases r with
  |cons h t=>exact .cons (za4 h) (z6J t)
abbrev KT(H:Hp):List (List Key × V)->List (List Key × Addr × Value)->Prop:=Paired fun p q=>p.1=q.1/\H q.2.1=some (.tup (p.1.map kV))/\z0N p.2 q.2.2
def KT.val{H:Hp}{kvs:List (List Key × V)}{xs:List (List Key × Addr × Value)}(r:KT H kvs xs)(k:List Key):z7Z (z2C kvs k) ((atKey xs k).map (·.2)):=by
 induction r with
 |nil=>exact y2c
 |@cons p q ps qs h t ih =>
  obtain⟨h1,_,h2⟩:=h;by_cases e:p.1=k
  .have e':q.1=k:=h1.symm.trans e;have b:atKey (q::qs) k=some q.2:=by simp[atKey,y27,e']
   rw[z2G e,b];exact h2
  .have e':¬q.1=k:=fun z=>e (h1.trans z);have b:atKey (q::qs) k=atKey qs k:=by simp[atKey,y27,e']
   rw[z28 e,b];exact ih
def KT.repl{H:Hp}{kvs:List (List Key × V)}{xs:List (List Key × Addr × Value)}(r:KT H kvs xs)(k:List Key){y:V}{u:Value}(ry:z0N y u) : KT H (kvs.map fun kv=>if kv.1=k then(kv.1,y)else kv) (xs.map (putAt k u)):=by
 induction r with
 |nil=>exact .nil
 |@cons p q ps qs h t ih =>
  rw[y0k,y0k];refine .cons ?_ ih;obtain⟨h1,h2,h3⟩:=h;unfold putAt;by_cases e:p.1=k
  .rw[if_pos e,if_pos (h1.symm.trans e)];exact⟨h1,h2,ry⟩
  .rw[if_neg e,if_neg (fun z=>e (h1.trans z))];exact⟨h1,h2,h3⟩
def KT.put{H:Hp}{kvs:List (List Key × V)}{xs:List (List Key × Addr × Value)}(r:KT H kvs xs)(k:List Key){b:Addr}{y:V}{u:Value}(hb:H b=some (.tup (k.map kV)))(ry:z0N y u) : KT H (z2L kvs k y) (storedH xs k b u):=by
 have e:(kvs.any fun kv=>decide (kv.1=k))=(atKey xs k).isSome:=by rw[z2E,(r.val k).isSome_eq,y3h]
 unfold z2L storedH;rw[e];by_cases q:(atKey xs k).isSome=true
 .rw[if_pos q,if_pos q];exact r.repl k ry
 .rw[if_neg q,if_neg q];exact Paired.snoc r ⟨rfl,hb,ry⟩
def KT.keeps{H H':Hp}{kvs:List (List Key × V)}{xs:List (List Key × Addr × Value)}(r:KT H kvs xs)(ht:∀b ys,H b=some (.tup ys)->H' b=some (.tup ys)):KT H' kvs xs :=
 Paired.mapP r fun _ _ z=>⟨z.1,ht _ _ z.2.1,z.2.2⟩
section
variable{P:Program}{w:World}{H:Hp}{h:Heap}{a:Addr}
def zez{u:HO}(ok:HOk P w H h)(e:Rd H a u):z19 P w H h a u:=e.ok ok
def zbX{kvs:List (Key × V)}(ok:HOk P w H h)(e:Rd H a (.dK kvs)):kvs.length<=sizeLine/\(a==sysModules)=false/\∃vs,KV kvs vs/\h.DictOf (z1g P w) a vs :=
 show z19 P w H h a (.dK kvs)from zez ok e
def zeW{kvs:List (Key × V)}(ok:HOk P w H h)(e:H a=some (.dK kvs)):kvs.length<=sizeLine/\(a==sysModules)=false/\∃vs,KV kvs vs/\h.DictOf (z1g P w) a vs:=zbX ok (.inl e)
def z8A{ks:List Key}(ok:HOk P w H h)(e:H a=some (.tup (ks.map kV))):(tupleKind (z1g P w)).is h ks a:=by obtain⟨_,its,n,r,h1⟩:=(show z19 P w H h a (.tup (ks.map kV))from ok a _ e);exact⟨_,its.toArray,n,h1,rfl,rfl,by simpa using z6J r⟩
def zbZ{kvs:List (List Key × V)}(ok:HOk P w H h)(e:Rd H a (.dT kvs)):kvs.length<=sizeLine/\(a==sysModules)=false /\ ∃xs,KT H kvs xs/\h.DictOfH (tupleKind (z1g P w)) a xs:=by
 obtain⟨z,y,xs,r,o,es,ep,h1,h2,h3,h4,h5⟩:=(show z19 P w H h a (.dT kvs)from zez ok e);refine⟨z,y,xs,r,o,es,ep,h1,h2,h3,h4,fun x hx=>?_,h5⟩;have all:∀{l:List (List Key × V)}{m:List (List Key × Addr × Value)},KT H l m->∀x∈m,(tupleKind (z1g P w)).is h x.1 x.2.1:=by
  intro l m q;induction q with
  |nil=>intro x hx;exact nomatch hx
  |@cons p q ps qs hq t ih =>
   intro x hx;rcases y0u.mp hx with e|hx
   .subst e;exact z8A ok (by rw[<-hq.1];exact hq.2.1)
   .exact ih x hx
 exact all r x hx
def zg2{kvs:List (List Key × V)}(ok:HOk P w H h)(e:H a=some (.dT kvs)):kvs.length<=sizeLine/\(a==sysModules)=false /\ ∃xs,KT H kvs xs/\h.DictOfH (tupleKind (z1g P w)) a xs:=zbZ ok (.inl e)
end
def z4Y(H:Hp)(a:Addr)(y:V)(r:Option V):Prop :=
 (∃kvs k,Rd H a (.dK kvs)/\y=kV k/\r=z2C kvs k)\/∃kvs k b,Rd H a (.dT kvs)/\y=.ref b/\H b=some (.tup (k.map kV))/\r=z2C kvs k
def zcZ(H:Hp)(a:Addr)(y v:V)(H':Hp):Prop :=
 (∃kvs k,H a=some (.dK kvs)/\y=kV k/\kvs.length<sizeLine/\H'=upd H a (.dK (z2L kvs k v))) \/
 ∃kvs k b,H a=some (.dT kvs)/\y=.ref b/\H b=some (.tup (k.map kV))/\kvs.length<sizeLine/\H'=upd H a (.dT (z2L kvs k v))
theorem z4Y.k{H:Hp}{a:Addr}{kvs:List (Key × V)}{k:Key}(e:H a=some (.dK kvs)):z4Y H a (kV k) (z2C kvs k):=.inl ⟨kvs,k,.inl e,rfl,rfl⟩
theorem zcZ.k{H:Hp}{a:Addr}{kvs:List (Key × V)}{k:Key}{v:V}(e:H a=some (.dK kvs))(hl:kvs.length<sizeLine):zcZ H a (kV k) v (upd H a (.dK (z2L kvs k v))):=.inl ⟨kvs,k,e,rfl,hl,rfl⟩
section
variable{X:Cx}{pins:yyP}{σ:St}{H:Hp}{s:Shared}{a:Addr}{y v:V}{u r:Value}{o:Option V}{A:Around}{E:yyE}
def Inv.big(I:Inv X pins σ H s):sysModules<s.heap.objs.size:=by have h:mainGlobals<s.heap.objs.size:=(I.mod.glob.keeps I.bk).lt;exact Nat.lt_trans (by decide) h
def z9X{Q:yyE}(hu:A.units+1<cLine)(I:Inv X pins σ H s)(g:z4Y H a y (some v))(ry:z0N y u)(h:∀w' s',Inv X pins σ H s'->z0N v w'->Q w' s') : wpAny (model X.prog X.w) A (getItem (.ref a) u) Q E s:=by
 rcases g with⟨kvs,k,e,ey,l⟩|⟨kvs,k,b,e,ey,eb,l⟩
 .subst ey;obtain⟨z,hd,vs,rel,dd⟩:=zbX I.hok e;obtain⟨w',hw,rw'⟩:=z7Z.some_of (v:=v) (o:=valueAt vs k) (by rw[l];exact rel.val k);exact wpAny_getItem_of (za4 ry) dd.mapOf hw (h w' _ (I.tok _) rw')
 .subst ey;cases(show u=Value.ref b from ry);obtain⟨z,hd,xs,rel,dd⟩:=zbZ I.hok e;obtain⟨w',hw,rw'⟩:=z7Z.some_of (v:=v) (o:=(atKey xs k).map (·.2)) (by rw[l];exact rel.val k);obtain⟨p,hp,hp2⟩:=y1x.mp hw;refine wpAny_getItem_heap (tupleKind_room_in1 hu) (z8A I.hok eb) dd hp ?_;rw[hp2];exact h w' _ (I.tok _) rw'
def zeh{Q:yyE}(hu:A.units+1<cLine)(I:Inv X pins σ H s)(g:z4Y H a y o)(ry:z0N y u)(h:∀s',Inv X pins σ H s'->Q (.bool (!o.isSome)) s') : wpAny (model X.prog X.w) A (compareOp .NotIn u (.ref a)) Q E s:=by
 rcases g with⟨kvs,k,e,ey,l⟩|⟨kvs,k,b,e,ey,eb,l⟩
 .subst ey;obtain⟨z,hd,vs,rel,dd⟩:=zbX I.hok e;refine wpAny_notIn_of (za4 ry) hd dd.mapOf ?_;rw[<-(rel.val k).isSome_eq,<-l];exact h _ (I.tok _)
 .subst ey;cases(show u=Value.ref b from ry);obtain⟨z,hd,xs,rel,dd⟩:=zbZ I.hok e;refine wpAny_notIn_heap (tupleKind_room_in1 hu) (z8A I.hok eb) hd dd ?_;have q:=(rel.val k).isSome_eq;rw[y3h]at q;rw[<-q,<-l];exact h _ (I.tok _)
def z5R{h':Heap}{t':Nat}{ob:HO}(I:Inv X pins σ H s)(mu:Mut (H a))(hs:Heap.SameBut a s.heap h')(he:∃q,h'.get? a=some q)(new:z19 X.prog X.w (upd H a ob) h' a ob) : Inv X pins σ (upd H a ob) { s with heap:=h',toks:=t' } :=
 I.write (x:=a) (e:=a) mu (.inl rfl) (fun b q hb z=>(hs.2 b hb).trans z) he new
def zdc{P:Program}{w:World}{H':Hp}{h':Heap}{kvs:List (Key × V)}{vs:List (Key × Value)}(z:kvs.length<=sizeLine)(hd:(a==sysModules)=false)(rel:KV kvs vs)(dd:h'.DictOf (z1g P w) a vs) : z19 P w H' h' a (.dK kvs):=⟨z,hd,vs,rel,dd⟩
def zbf{H':Hp}{Q:Unit->Shared->Prop}(hu:A.units+1<cLine)(I:Inv X pins σ H s)(g:zcZ H a y v H')(ry:z0N y u)(rv:z0N v r)(h:∀s',Inv X pins σ H' s'->Q () s') : wpAny (model X.prog X.w) A (setItem (.ref a) u r) Q E s:=by
 rcases g with⟨kvs,k,e,ey,l,eH⟩|⟨kvs,k,b,e,ey,eb,l,eH⟩
 .subst ey eH;obtain⟨z,hd,vs,rel,dd⟩:=zeW I.hok e;have hz:vs.length<=sizeLine:=by rw[<-rel.length];exact z
  have hl:(z2L kvs k v).length<=sizeLine:=by have:=z29 kvs k v;lia
  refine wpAny_setItem_pairs (hsz:=hz) (za4 ry) dd fun h' dd' hs=>h _ ?_;have he:∃q,h'.get? a=some q:=let⟨q,_,_,hq,_⟩:=dd';⟨q,hq⟩;exact z5R I (by rw[e];exact y2c) hs he (zdc hl hd (rel.put k rv) dd')
 .subst ey eH;cases(show u=Value.ref b from ry);obtain⟨z,hd,xs,rel,dd⟩:=zg2 I.hok e;have hz:xs.length<=sizeLine:=by rw[<-y3G rel];exact z
  have hl:(z2L kvs k v).length<=sizeLine:=by have:=z29 kvs k v;lia
  refine wpAny_setItem_heap (hsz:=hz) (tupleKind_room_in1 hu) (z8A I.hok eb) dd fun h' dd' hs=>h _ ?_;obtain⟨q,es,ep,hq,h2,h3,h4,_,h5⟩:=dd';refine z5R I (by rw[e];exact y2c) hs ⟨q,hq⟩ ⟨hl,hd,_,(rel.put k eb rv).keeps fun c ys ec=>?_,q,es,ep,hq,h2,h3,h4,h5⟩;rw[z06 (z3r ec e (fun z=>nomatch z))];exact ec
end
section
variable{X:Cx}{pins:yyP}{σ:St}{H:Hp}{s:Shared}{a:Addr}{kvs:List (Key × V)}{k:Key}{u:Value}{A:Around}{E:yyE}
end
def zfJ(i:Expr):Prop:=∀ov iv,subscripted i false ov iv=operate [ov,iv] (getItem ov iv)
def zbq{prog:Program}{w:World}{A:Around}{E:yyE}{s:Shared}{env:Env}{value slice:Expr}{pos:Pos}{T id:String}{Q:yyE}(hl:typeLookup (.type T) "__getitem__"=pure (some (.builtin id)))(hs:zfJ slice)(h:wpAny (model prog w) A (eval value env) (fun o s₁=>wpAny (model prog w) A (eval slice env) (fun i s₂=>s₂.TypeIs o T/\wpAny (model prog w) A (getItem o i) Q E s₂) E s₁) E s) : wpAny (model prog w) A (eval (.Subscript value slice pos) env) Q E s:=by
 refine Subscript_ (y1C h (fun o s₁ h₁=>y1C h₁ (fun i s₂ h₂=>?_) fun _ _ x=>x) fun _ _ x=>x);obtain⟨hT,h₂⟩:=h₂;unfold subscriptTail;refine y02 ?_;rw[getitemInPython_of_ne hT.not_modules];refine y02 (y2L hT hl ?_);have fin:wpAny (model prog w) A (subscripted slice false o i) (fun r s₃=>wpAny (model prog w) A (letTemporaryGo value o r>>=fun _=>pure r) Q E s₃) E s₂:=by rw[hs o i];exact wpAny_operating (y1C h₂ (fun r s₃ h₃=>y02 (wpAny_letTemporaryGo (y08 h₃))) fun _ _ x=>x)
 first
  |exact y08 (y02 fin)
  |exact y02 (y08 (y02 fin))
  |exact y02 fin
def z7E{X:Cx}{pins:yyP}{σ:St}{H:Hp}{s:Shared}{a:Addr}{y:V}{o:Option V}(I:Inv X pins σ H s)(g:z4Y H a y o):s.TypeIs (.ref a) "dict":=by
 rcases g with⟨kvs,k,e,_,_⟩|⟨kvs,k,b,e,_,_,_⟩
 .obtain⟨_,_,vs,_,dd⟩:=zbX I.hok e;exact dd.typeIs
 .obtain⟨_,_,xs,_,dd⟩:=zbZ I.hok e;exact dd.typeIs
def zfP(td ty:TE):TE:=fun σ H Q=>td σ H fun x H1=>ty σ H1 fun y H2=>∃a v,x=.ref a/\z4Y H2 a y (some v)/\Q v H2
def zef(ty td:TE):TE:=fun σ H Q=>ty σ H fun y H1=>td σ H1 fun x H2=>∃a o,x=.ref a/\z4Y H2 a y o/\Q (.bl (!o.isSome)) H2
def zfQ(td ty tv:TE):TS:=fun D σ H=>tv σ H fun v H1=>td σ H1 fun x H2=>ty σ H2 fun y H3=>∃a H4,x=.ref a/\zcZ H3 a y v H4/\D.nx σ H4
section
variable{X:Cx}{o i e value:Expr}{pos pos' tpos:Pos}{td ty tv:TE}
def z2R(hu:X.A.units+1<cLine)(ho:PE X o td)(hi:PE X i ty)(hs:zfJ i):PE X (.Subscript o i pos) (zfP td ty):=by intro pins s σ H Q I h;refine zbq PySem.F.slot_dict_getitem.lookup hs (z1H (ho pins s σ H _ I h) fun u s1 x H1 I1 rx q1=>z1H (hi pins s1 σ H1 _ I1 q1) fun iv s2 y H2 I2 ry hz9=>?_);obtain⟨a,v,ex,g,q2⟩:=hz9;subst ex;obtain rfl:u=Value.ref a:=rx;exact⟨z7E I2 g,z9X hu I2 g ry fun w' s3 I3 rw'=>⟨v,H2,I3,rw',q2⟩⟩
def z4A(hu:X.A.units+1<cLine)(hi:PE X i ty)(ho:PE X o td):PC X .NotIn i o (zef ty td):=by intro pins s σ H Q I h;refine z1H (hi pins s σ H _ I h) fun iv s1 y H1 I1 ry q1=>z1H (ho pins s1 σ H1 _ I1 q1) fun u s2 x H2 I2 rx hz9=>?_;obtain⟨a,ov,ex,g,q2⟩:=hz9;subst ex;obtain rfl:u=Value.ref a:=rx;exact zeh hu I2 g ry fun s3 I3=>⟨.bl (!ov.isSome),H2,I3,rfl,q2⟩
def z5C(hu:X.A.units+1<cLine)(ho:PE X o td)(hi:PE X i ty)(hv:PE X value tv)(hs:swapsWith value (some (.Subscript o i pos')) pos.line X.env=pure false) : PS X (.Assign [.Subscript o i pos'] value pos) (zfQ td ty tv):=by intro pins s σ H D I h;refine wpAny_Assign_Subscript (z1H (hv pins s σ H _ I h) fun r s1 v H1 I1 rv q1=>z1H (ho pins s1 σ H1 _ I1 q1) fun u s2 x H2 I2 rx q2=>z1H (hi pins s2 σ H2 _ I2 q2) fun iv s3 y H3 I3 ry hz9=>?_) hs;obtain⟨a,H4,ex,g,q3⟩:=hz9;subst ex;obtain rfl:u=Value.ref a:=rx;exact zbf hu I3 g ry rv fun s4 I4=>⟨σ,H4,I4,q3⟩
end
def z8O{P:Program}{w:World}{H:Hp}(h:Heap)(hb:sysModules<h.objs.size):z19 P w H (h.push { cls:=.type "dict",data:=.dict #[] }) h.objs.size (.dK []) :=
 ⟨y0B _,beq_eq_false_iff_ne.mpr (y2Y (y0y hb)),[],.nil,Heap.DictOf.new h⟩
def zeD:TE:=fun _ H Q=>∀p,H p=none->Q (.ref p) (upd H p (.dK []))
section
variable{X:Cx}{pos:Pos}
def z8g:PE X (.Dict [] [] pos) zeD:=fun pins s σ H Q I h =>
 wpAny_Dict_empty ⟨.ref s.heap.objs.size,_,I.laid (a:=s.heap.objs.size) (o:=.dK []) (t':=s.toks) (fun _ _ q=>y05 _ q) (y0d _) (z8O s.heap I.big),rfl,h _ (I.hok.fresh (y0d _))⟩
end
def zab:List (TE × TE)->St->Hp->(List (V × V)->Hp->Prop)->Prop
 |[],_,H,Q=>Q [] H
 | (tk,tv)::r,σ,H,Q=>tk σ H fun x H1=>tv σ H1 fun y H2=>zab r σ H2 fun ps H3=>Q ((x,y)::ps) H3
abbrev VV:List (V × V)->List (Value × Value)->Prop:=Paired fun p q=>z0N p.1 q.1/\z0N p.2 q.2
def PPs(X:Cx)(pos:Pos)(keys:List (Option Expr))(values:List Expr)(trs:List (TE × TE)):Prop :=
 ∀(pins:yyP)(s:Shared)(σ:St)(H:Hp)(Q:List (V × V)->Hp->Prop),Inv X pins σ H s->zab trs σ H Q ->
  wpAny (model X.prog X.w) X.A (evalPairs (pairTrees keys values X.env pos)) (fun vs s'=>∃ps H',Inv X pins σ H' s'/\VV ps vs/\Q ps H') X.xe s
def zam{X:Cx}{pos:Pos}:PPs X pos [] [] []:=fun pins s σ H Q I h=>pairTrees_nil_walk ⟨[],H,I,.nil,h⟩
def z8k{X:Cx}{pos:Pos}{k v:Expr}{ks:List (Option Expr)}{vs:List Expr}{tk tv:TE}{trs:List (TE × TE)}(hk:PE X k tk)(hv:PE X v tv)(hr:PPs X pos ks vs trs) : PPs X pos (some k::ks) (v::vs) ((tk,tv)::trs):=fun pins s σ H Q I h =>
 pairTrees_cons_walk (thn (hk pins s σ H _ I h) fun u s1 ⟨x,H1,I1,rx,q1⟩=>thn (hv pins s1 σ H1 _ I1 q1) fun w2 s2 ⟨y,H2,I2,ry,q2⟩ =>
  thn (hr pins s2 σ H2 _ I2 q2) fun ws s3 ⟨ps,H3,I3,rel,q3⟩=>⟨(x,y)::ps,H3,I3,.cons ⟨rx,ry⟩ rel,q3⟩)
def z3S(kvs more:List (Key × V)):List (Key × V):=more.foldl (fun acc kv=>z2L acc kv.1 kv.2) kvs
def KV.merge:∀{more:List (Key × V)}{rs:List (Key × Value)}{kvs:List (Key × V)}{vs:List (Key × Value)},KV more rs->KV kvs vs->KV (z3S kvs more) (merged vs rs):=by
 intro more rs kvs vs r;unfold KV at r;induction r generalizing kvs vs with
 |nil=>intro q;exact q
 |@cons p q ps qs h t ih =>
  intro r0;have e:KV (z2L kvs p.1 p.2) (stored vs q.1 q.2):=by have:=r0.put p.1 h.2;rw[<-h.1];exact this
  exact ih e
theorem z3g:∀(more kvs:List (Key × V)),(z3S kvs more).length<=kvs.length+more.length
 |[],kvs=>by show kvs.length<=kvs.length+0;lia
 |p::r,kvs=>by have h1:=z3g r (z2L kvs p.1 p.2);have h2:=z29 kvs p.1 p.2;show(z3S (z2L kvs p.1 p.2) r).length<=_;rw[y0H];lia
theorem z4W{P:Program}{w:World}:∀{kvs:List (Key × V)}{ws:List (Value × Value)},VV (kvs.map fun kv=>(kV kv.1,kv.2)) ws->∃rs,Carries (z1g P w) ws rs/\KV kvs rs
 |[],_,r=>by rw[y0T]at r;cases r;exact⟨[],y2c,.nil⟩
 |p::kvs,_,r=>by
  rw[y0k]at r;cases r with
  |@cons a b as bs h t =>
   obtain⟨rs,c,q⟩:=z4W (P:=P) (w:=w) t;obtain⟨b1,b2⟩:=b;exact⟨(p.1,b2)::rs,⟨za4 h.1,rfl,c⟩,.cons ⟨rfl,h.2⟩ q⟩
def zg4(trs:List (TE × TE)):TE:=fun σ H Q=>∀p,H p=none->zab trs σ (upd H p (.dK [])) fun ps H2=>H2 p=some (.dK [])/\∃kvs:List (Key × V),ps=kvs.map (fun kv=>(kV kv.1,kv.2))/\kvs.length<=15/\Q (.ref p) (upd H2 p (.dK (z3S [] kvs)))
def z9W{X:Cx}{pos:Pos}{keys:List (Option Expr)}{values:List Expr}{trs:List (TE × TE)}(h:PPs X pos keys values trs)(hall:keys.all (·.isSome)=true)(hl:keys.length=values.length)(h0:keys≠[])(h15:keys.length<=15):PE X (.Dict keys values pos) (zg4 trs):=by
 intro pins s σ H Q I q;have hn:=I.hok.fresh (y0d s.heap.objs.size);have I1:=I.laid (a:=s.heap.objs.size) (o:=.dK []) (h':=s.heap.push { cls:=.type "dict",data:=.dict #[] }) (t':=s.toks) (fun _ _ q=>y05 _ q) (y0d _) (z8O s.heap I.big);refine wpAny_Dict_walk (knd:=z1g X.prog X.w) hall hl h0 h15 (thn (h pins _ σ _ _ I1 (q _ hn)) fun ws s2 hz8=>?_);obtain⟨ps,H2,I2,rel,e,kvs,ep,lk,q2⟩:=hz8;subst ep;obtain⟨rs,c,rk⟩:=z4W (P:=X.prog) (w:=X.w) rel;obtain⟨z,hd,vs0,r0,dd⟩:=zeW I2.hok e;cases r0;refine⟨rs,c,dd,fun h' dd' hs=>⟨.ref s.heap.objs.size,_,?_,rfl,q2⟩⟩;have hz:(z3S [] kvs).length<=sizeLine:=by have h1:=z3g kvs [];rw[y3a]at h1;rw[y3J];lia
 have he:∃q,h'.get? s.heap.objs.size=some q:=let⟨q,_,_,hq,_⟩:=dd';⟨q,hq⟩;exact z5R I2 (by rw[e];exact y2c) hs he (zdc hz hd (rk.merge .nil) dd')
structure M1(X:Cx)(o:Expr)(m:Str)(apos:Pos)(e:Expr)(cpos:Pos):Prop where
 base:attributeBase o m X.env (eval o X.env)=eval o X.env
 few:((backTo cpos (starEach [e] X.env)).all (fun x=>!x.1)&&(backToKw cpos (keywordEach [] X.env)).all (fun x=>x.1.isSome)
  && decide (([e]:List Expr).length+([]:List Keyword).length+(if([]:List Keyword).isEmpty then 0 else 1)<30))=true
 line:(apos.endLine==cpos.line)=true
 trees:backTo cpos (starEach [e] X.env)=[(false,eval e X.env)]
structure M2(X:Cx)(o:Expr)(m:Str)(apos:Pos)(e f:Expr)(cpos:Pos):Prop where
 base:attributeBase o m X.env (eval o X.env)=eval o X.env
 few:((backTo cpos (starEach [e,f] X.env)).all (fun x=>!x.1)&&(backToKw cpos (keywordEach [] X.env)).all (fun x=>x.1.isSome)
  && decide (([e,f]:List Expr).length+([]:List Keyword).length+(if([]:List Keyword).isEmpty then 0 else 1)<30))=true
 line:(apos.endLine==cpos.line)=true
 trees:backTo cpos (starEach [e,f] X.env)=[(false,eval e X.env),(false,eval f X.env)]
section
variable{X:Cx}{pins:yyP}{σ:St}{H:Hp}{s:Shared}{a:Addr}{y d:V}{u r:Value}{o:Option V}{A:Around}{E:yyE}
end
section
variable{X:Cx}{o e f:Expr}{apos cpos:Pos}{td ty tx:TE}
end
section
variable{X:Cx}{pins:yyP}{σ:St}{H:Hp}{s:Shared}{a:Addr}{kvs:List (Key × V)}{A:Around}{E:yyE}
end
section
variable{X:Cx}{pins:yyP}{σ:St}{H:Hp}{s:Shared}{a:Addr}{y:V}{u:Value}{A:Around}{E:yyE}
end
end L2
namespace Att
open PySem PySem.W PySem.Calls PyProof.Rows
def z4z{P:Params}{h:Heap}:∀(ns:List Int)(vs:List Value),WellAll P h vs (ns.map WData.int)->IntsAre vs ns:=by
 intro ns;induction ns with
 |nil =>
  intro vs w;rw[y0T]at w;cases w;exact .nil
 |cons n ns ih =>
  intro vs w;rw[y0k]at w;cases w with
  |cons a b =>
   cases a;exact .cons _ _ (ih _ b)
def zaZ{l:OpenLaw}{n:Nat}(hn:l.most=some n){P:Params}{h:Heap}{args:List WData}{vals:List Value}(hpre:l.row.toRowW.claim.pre args=true)(hwl:WellAll P h vals args) : ∃a vs ns,vals=[Value.ref a]/\args=[WData.list (ns.map WData.int)]/\h.get? a=some { cls:=.type "list",data:=.seq vs.toArray }/\IntsAre vs ns/\ns.length<=n:=by
 have hsh:WShape.hasAll [] args [.list .int]=true:=(pre_splitW hpre).1;have hc:l.pre.holds [] { args:=args }=true:=(pre_splitW hpre).2;obtain⟨d,r,rfl,h1,h2⟩:=hasAllW_cons hsh;obtain rfl:=hasAllW_nil h2;obtain⟨xs,rfl,h3⟩:=hasW_list h1;obtain⟨ns,rfl⟩:=items_int h3;have hlen:ns.length<=n:=by
  unfold OpenLaw.pre at hc;have h4:(WTm.not (.lt (.lit (.int (n:Int))) (.len (.arg 0)))).holds [] { args:=[.list (ns.map .int)] }=true:=by have h4:=(holds_andW hc).1;rw[hn]at h4;exact h4
  have h5:=condW_of h4 (w_not (w_lt w_lit (w_len_list (w_arg rfl))));rw[y01]at h5;refine Nat.le_of_not_lt fun q=>?_;have q':(n:Int)<((ns.length:Nat):Int):=by lia
  first
   | (rw[y1A q']at h5;exact absurd h5 (by decide))
   | (simp at h5;lia)
 cases hwl with
 |cons w1 w2 =>
  cases w2;cases w1 with
  |list ho hall=>exact⟨_,_,ns,rfl,rfl,ho,z4z ns _ hall,hlen⟩
def zb0(l:OpenLaw)(args:List WData):l.row.toRowW.claim.post args (.bool true) args=true :=
 postW_of (r:=l.row.toRowW) (X:=(true==true))
  (show WShape.has [] (.bool true) .bool=true by first|rfl|decide|simp[WShape.has,WShape.arms,WShape.armsAll])
  (show(WTm.eq .res (.lit (.bool true))).value [] { args:=args,res:=some (.bool true),after:=args }=some (.bool (true==true))from w_eq_bool (w_res rfl) w_lit) rfl
def attach_call{l:OpenLaw}{n:Nat}{q:Program}{loose:List Str}{XP:(yyS)->Heap->Prop}{YP:World->Heap->Prop}{d:DefRec}(hn:l.most=some n)(hdf:d.params.defaults=[])(call:∀(w:World) (s₀ s₁:Shared) (mg mb:yyS) (fa:Addr) (o:Obj) (pm cd doc:Value) (a:Addr) (vs:List Value) (ns:List Int), Ground q loose [] XP w s₀ mg mb s₁.heap->YP w s₁.heap -> s₁.heap.get? fa=some o->o.data=.func (docDef d.name d.params d.body d.scope pm cd doc)->s₁.heap.CodeRec cd d.name->mg d.name=some (.ref fa) -> s₁.heap.get? a=some { cls:=.type "list",data:=.seq vs.toArray }->IntsAre vs ns->ns.length<=n->s₁.gens=#[] -> codeAny (model l.prog w) callerA (.call (.ref fa) ⟨[.ref a],[]⟩) (fun r s'=>r=.ok (.ret (.bool true))/\OldK s₁.heap s'.heap/\s'.os=s₁.os/\AllBare s'.gens) s₁) : WalkO q loose XP YP l.row.toRowW d [] (fun f vs=>PySem.call f vs):=by intro w s₀ s₁ mg mb G Y fa o pm cd doc dV kV ho hd hcd hD hmg hg args vals as hpre hlay hrd hwl hlo;obtain rfl:dV=.none:=Dflts.none hD hdf;obtain rfl:kV=.none:=Dflts.noKw hD;obtain⟨a,vs,ns,rfl,rfl,hobj,hints,hlen⟩:=zaZ hn hpre hwl;refine enter_call (y2r (call w s₀ s₁ mg mb fa o pm cd doc a vs ns G Y ho (fd_plain hd) hcd hmg hobj hints hlen hg) fun r s' hq=>?_);obtain⟨rfl,h2,h3,h4⟩:=hq;exact⟨.inl ⟨.bool true,.bool true,[],rfl,fun _=>rfl,.bool true,zb0 l _,fun _=>⟨y2N,fun _ hm=>(nomatch hm)⟩⟩,h2,h3,h4⟩
section
variable{prog:Program}{w:World}{A:Around}{E:yyE}{s:Shared}{K:Frag}
def zgz(h:Heap)(L d:Addr):yyP:=(List.range h.objs.size).filterMap fun a=>if a=L\/a=d then none else(h.get? a).map fun o=>(a,o)
end
end Att
namespace L2
open PySem PySem.Spec PyProof.Rows
theorem z6T:∀{vs:List Value}{ns:List Int},IntsAre vs ns->z0O (ns.map V.int) vs
 |_,_,.nil=>.nil
 |_,_,.cons n t h=>.cons ⟨t,rfl⟩ (z6T h)
def z1B(s:Stmt):Arguments:=match s with
 |.FunctionDef _ a _ _ _ _ _ _ _ _=>a
 |_=>{ posonlyargs:=[],args:=[],vararg:=none,kwonlyargs:=[],kw_defaults:=[],kwarg:=none,defaults:=[] }
def z0Q(s:Stmt):List Stmt:=match s with
 |.FunctionDef _ _ b _ _ _ _ _ _ _=>b
 |_=>[]
def z08(s:Stmt):Scope:=match s with
 |.FunctionDef _ _ _ _ _ _ sc _ _ _=>sc
 |_=>{ kind:=.function,names:=[],isGenerator:=false,isCoroutine:=false }
abbrev E0:XK:=fun _ _ _=>False
structure Fun(K:yyF)(x qual:Str)(st:Stmt)(f:Addr)(fd:FuncData):Prop where
 ex:∃(oc:Value)(od:Option Addr)(kV doc pm:Value)(an:Option Addr)(cdv ct:Value)(osl:Array (Option Value)),
  fd=PySem.W.fnOf x qual (z1B st) (z0Q st) (z08 st) .none kV doc pm an cdv ct/\K.lookup f=some ⟨oc,od,.func fd,osl⟩/\PySem.W.codeIn K cdv qual=true
 kp:PySem.W.keepIn K (.ref f)=true
section
variable{P:Program}{w:World}{K:yyF}{mg:yyS}{base:Heap}
def Fun.binds{x qual:Str}{st:Stmt}{f:Addr}{fd:FuncData}{ps:List Str}(F:Fun K x qual st f fd)(h:∀(kV doc pm:Value)(an:Option Addr)(cdv ct:Value)(us:List Value),us.length=ps.length->bindArgs (PySem.W.fnOf x qual (z1B st) (z0Q st) (z08 st) .none kV doc pm an cdv ct) ⟨us,[]⟩=pure (ps.zip us)):z0u K fd ps []:=by obtain⟨oc,od,kV,doc,pm,an,cdv,ct,osl,rfl,lk,hcd⟩:=F.ex;exact .all (h kV doc pm an cdv ct)
def z86{x qual:Str}{st:Stmt}{f:Addr}{oc:Value}{od an:Option Addr}{osl:Array (Option Value)}{kV doc pm cdv ct:Value}(l:K.lookup f=some ⟨oc,od,.func (PySem.W.fnOf x qual (z1B st) (z0Q st) (z08 st) .none kV doc pm an cdv ct),osl⟩)(c:PySem.W.codeIn K cdv qual=true)(k:PySem.W.keepIn K (.ref f)=true):Fun K x qual st f (PySem.W.fnOf x qual (z1B st) (z0Q st) (z08 st) .none kV doc pm an cdv ct):=⟨⟨oc,od,kV,doc,pm,an,cdv,ct,osl,rfl,l,c⟩,k⟩
end
def zea{A:Around}{k:Nat}(hr:z2q k A):A.units+1<cLine:=Nat.lt_of_le_of_lt (Nat.add_le_add_left (by decide:1<=64) _) hr.units
def z22{n:Nat}(h:n<=1000):n<sizeLine:=Nat.lt_of_le_of_lt h (by decide)
section
variable{X:Cx}
def pv(i:Nat){x:Str}{pos:Pos}(hN:X.N[i]?=some x:=by rfl)(hv:Vis X.env.scope x:=by first|exact Or.inl rfl|exact Or.inr (Or.inl rfl)|exact Or.inr (Or.inr rfl))(hd:(x==("__debug__":Str))=false:=by decide)(hcd:(x==("__classdict__":Str))=false:=by decide):PE X (.Name x pos) (zgF i):=zd2 hN hv hd hcd
end
def z36{A B:Prop}(h:B):if false=true then A else B:=by rw[if_neg y0C];exact h
def z7n{A B:Prop}(h:A):if true=true then A else B:=by rw[if_pos rfl];exact h
def z3H{c A B:Prop}[Decidable c](h1:c->A)(h2:¬c->B):if c then A else B:=by
 by_cases h:c
 .rw[if_pos h];exact h1 h
 .rw[if_neg h];exact h2 h
def z0d(H H':Hp):Prop:=∀b o,H b=some o->H' b=some o
def z0d.refl(H:Hp):z0d H H:=fun _ _ h=>h
def z0d.trans{H H1 H2:Hp}(a:z0d H H1)(b:z0d H1 H2):z0d H H2:=fun c o h=>b c o (a c o h)
def z0d.free{H H':Hp}(e:z0d H H'){l:Addr}(h:H' l=Option.none):H l=Option.none:=by
 cases q:H l with
 |none=>rfl
 |some o =>
  rw[e l o q]at h;cases h
def z0d.seq{K:yyF}{H H':Hp}{a:Addr}{xs:List V}(e:z0d H H')(h:SqL K H a xs):SqL K H' a xs:=by
 rcases h with(h|⟨o,h⟩)|h
 .exact .inl (.inl (e _ _ h))
 .exact .inl (.inr ⟨o,e _ _ h⟩)
 .exact .inr h
section
variable{κ:Type}[DecidableEq κ]
def zee{kvs:List (κ × V)}{k:κ}{v:V}(h:z2C kvs k=some v):k∈kvs.map (·.1):=by
 have q:(kvs.any fun kv=>decide (kv.1=k))=true:=by rw[z2E,h];all_goals rfl
 obtain⟨p,hp,e⟩:=List.any_eq_true.mp q;exact y0f.mpr ⟨p,hp,y1c e⟩
theorem z9N:∀{l:List κ}{k:κ},l.Nodup->¬k∈l->(l++[k]).Nodup
 |[],k,_,_=>by simp
 |a::r,k,h,hk=>by
  obtain⟨h1,h2⟩:=y1a.mp h;show(a::(r++[k])).Nodup;refine y1a.mpr ⟨fun m=>?_,z9N h2 fun m=>hk (y0u.mpr (Or.inr m))⟩;rcases y0g.mp m with q|q
  .exact h1 q
  .exact hk (y0u.mpr (Or.inl (y0c.mp q).symm))
end
end L2
namespace Gu
open PySem L2
def top(i:Nat):Stmt:=PySem.Challenge.pw_guisery_k27_crews_told.main.body.getD i (.Pass ⟨0,0,0,0⟩)
abbrev z4P:Stmt:=top 5
abbrev z8m:Stmt:=top 6
abbrev zbk:Stmt:=top 7
abbrev z5j:Stmt:=top 8
abbrev zar:Stmt:=top 9
abbrev z1Z:Stmt:=top 10
abbrev z2n:Stmt:=top 12
abbrev z4M:Stmt:=top 13
abbrev zbO:Stmt:=top 15
abbrev z48:Stmt:=top 16
abbrev z4p:Stmt:=top 17
abbrev z3t:Stmt:=top 18
abbrev z40:Stmt:=top 19
abbrev zc9:Stmt:=top 20
abbrev z7r:Stmt:=top 21
abbrev z8L:Stmt:=top 22
abbrev z8E:Stmt:=top 23
abbrev z9y:Stmt:=top 24
abbrev z73:Stmt:=top 25
abbrev z8n:Stmt:=top 26
open PySem.W PyProof.Rows
section
variable(tb:String->Option Builtin)(p:Program)(w:World)(m:Nat)(an:Option Value)
def zeT:Nat->SharedT->Thread->Option SharedT
 |0,_,_=>none
 |n+1,x,y=>match through y,stepOk m an y with
  |true,_=>some x
  |false,false=>none
  |false,true=>match stepT (denote tb) p w x y with
   |some z=>zeT n z.1 z.2
   |none=>none
end
section
variable{tb:String->Option Builtin}{p:Program}{w:World}{m:Nat}{an:Option Value}
theorem zb3:∀(n:Nat)(x r:SharedT)(y:Thread),zeT tb p w m an n x y=some r->topRun tb p w m an n x.abs y=some r.abs
 |0,_,_,_,h=>by cases h
 |n+1,x,r,y,h=>by
  unfold zeT at h;unfold topRun;cases ht:through y<;>cases hk:stepOk m an y<;>rw[ht,hk]at h<;>dsimp only at h⊢
  .cases h
  .cases hs:stepT (denote tb) p w x y with
   |none=>rw[hs]at h;cases h
   |some z =>
    rw[hs]at h;rw[stepT_spec (s':=z.1) (t':=z.2) hs];exact zb3 n _ _ _ h
  .cases h;rfl
  .cases h;rfl
end
noncomputable def zdW(P:Params):BT:=(.node (boot_o_0 P) (.node (boot_o_1 P) (.node (boot_o_3 P) (.node (boot_o_7 P) .nil .nil) .nil) (.node (boot_o_5 P) (.node (boot_o_9 P) .nil .nil) .nil)) (.node (boot_o_2 P) (.node (boot_o_4 P) (.node (boot_o_8 P) .nil .nil) .nil) (.node (boot_o_6 P) (.node (boot_o_10 P) .nil .nil) .nil)))
noncomputable def z3n(w:World)(os:OsState):SharedT:=⟨zdW w.params,11,(boot_heap w.params).life,Array.mk [],boot_drawn,boot_toks,os⟩
def zbI(P:Params):absHeap (zdW P) 11 (boot_heap P).life=boot_heap P:=by kernel_rfl
def zdK{p q:Program}{Xt:Shared->Bool}{α:Type}{Yf:Shared->α}{Ya:World->α}{N:Nat}(e:opening p=plainProg p.main.scope.names)(hN:Nat.ble 600 N=true)(f:∀s,fenceModules? p s=some s)
  (h:∀w os,(zeT treeTable p w 11 (some (.ref 6)) N (z3n w os) (topStub p)).bind (fun r=>match staticsOk (importedModules p.main.body) (z3n w os).abs.heap r.abs.heap&&namesBound p r.abs.heap&&gensDone r.abs&&laidKept (z3n w os).abs.heap r.abs.heap with
   |true=>some (openSeen q [] (importedModules p.main.body) Xt true r.abs,Yf r.abs)
   |false=>none)=some (openGood q [],Ya w)):LeftO p q [] Xt Yf Ya N:=fun w=>by
 obtain⟨s,hs,hv⟩:=y1x.mp (boot_open e hN f w);have es:s=(z3n w s.os).abs:=by
  obtain⟨h1,g1,d1,t1,o1⟩:=s;obtain⟨a,b,c,d⟩:h1=boot_heap w.params/\g1=Array.mk []/\d1=boot_drawn/\t1=boot_toks:=by simpa[Prod.ext_iff]using hv
  subst a b c d;show _=(⟨absHeap (zdW w.params) 11 (boot_heap w.params).life,_,_,_,_⟩:Shared);rw[zbI];rfl
 have k:=h w s.os;obtain⟨r,hr,k⟩:=Option.bind_eq_some_iff.mp k;unfold openEnds;rw[hs];show(topFrom treeTable p w N s).map _=_;unfold topFrom;rw[es];have z1:((z3n w s.os).abs.heap.isNs mainGlobals&&(z3n w s.os).abs.gens.size==0)=true:=by kernel_rfl
 have z2:(z3n w s.os).abs.heap.objs.size=11:=by kernel_rfl
 have z3:(z3n w s.os).abs.heap.nsMap mainGlobals "__annotations__"=some (.ref 6):=by kernel_rfl
 rw[z1,z2,z3];dsimp only;rw[zb3 _ _ _ _ hr];show Option.map _ (match _ with|true=>_|false=>_)=_
 cases c:staticsOk (importedModules p.main.body) (z3n w s.os).abs.heap r.abs.heap&&namesBound p r.abs.heap&&gensDone r.abs&&laidKept (z3n w s.os).abs.heap r.abs.heap with
 |false=>rw[c]at k;cases k
 |true =>
  rw[c]at k;exact k
def kE(P:Params)(x:Str)(t:Tok)(v:Value):DictEntry:={ hash:=PyData.keyHash P x,key:=Value.str x t,val:=v }
def kF(s:Stmt)(x:Str)(kV dc pm:Value)(an:Option Addr)(cd ct:Value):Obj:=⟨.type "function",none,.func (PySem.W.fnOf x x (z1B s) (z0Q s) (z08 s) .none kV dc pm an cd ct),#[]⟩
abbrev vN:Value:=.none
abbrev vR(a:Addr):Value:=.ref a
def kR(P:Params)(x:Str)(t:Tok)(a:Addr):DictEntry:=kE P x t (.ref a)
def kG(s:Stmt)(x m:Str)(t:Tok)(c:Addr):Obj:=kF s x .none .none (.str m t) none (.ref c) .none
def kC(x:Str)(a b c d:Tok)(vs:Array Value):Obj:={ cls:=.type "code",data:=.fields (#[Value.str x a,Value.str x b,Value.str "/claim/cut.py" c]++vs++#[Value.str "/claim/cut.py" d]) }
def kD(x:Str)(a b c d:Tok)(ln ar:Int)(A:Addr)(fl:Int)(B:Addr)(X Y Z:Value)(u:Int):Obj:=kC x a b c d #[.int ln 0,.int ar 0,.int 0 0,.int 0 0,.int 3 0,.ref A,.bool true,.int fl 0,.ref B,.none,X,Y,Z,.int u 0,.int ln 0]
def KH(P:Params):PySem.W.Frag:=(nat_lit 2,{ cls:=Value.none,data:=Data.dict #[] }) ::
 (nat_lit 3,{ cls:=Value.type "dict",data:=Data.dict #[kE P "__name__" 165 (Value.str "law_guisery_k27_crews_told" 292),kE P "__doc__" 166 (Value.none),kE P "__package__" 167 (Value.none),kE P "__loader__" 168 (Value.builtin "__main__.__loader__#opaque"),kE P "__spec__" 169 (Value.none),kR P "__annotations__" 170 6,kR P "__builtins__" 171 4,kE P "__file__" 173 (Value.str "/claim/cut.py" 172),kE P "__cached__" 174 (Value.none),kR P "GuiseError" 206 24,kR P "TooMany" 222 37,kE P "MOST_FORM_ROWS" 226 (Value.int 60 225),kR P "section_at" 235 46,kR P "least_form" 249 53,kR P "rows_come_to" 255 58,kR P "kinds_of_rows" 261 63,kR P "kinds_gone_to" 267 68,kR P "numbered" 273 73,kR P "sections" 281 78,kR P "crew" 291 85,kR P "_law_cell" 301 92,kR P "_law_letters" 309 99,kR P "_law_in_line" 315 104,kR P "_law_shrunk" 321 109,kR P "_law_numbers" 332 116,kR P "_law_rearranged" 344 123,kR P "_law_rows" 350 128,kR P "_law_guise" 358 135,kR P "_law_whole" 365 142,kR P "_law_like" 371 147,kR P "_law_ample" 377 152,kR P "law" 383 157] 32 }) ::
 (nat_lit 23,{ cls:=Value.type "dict",data:=Data.dict #[kE P "__module__" 196 (Value.str "guisery.errors" 187),kE P "__firstlineno__" 200 (Value.int 2 199),kR P "__static_attributes__" 201 22,kR P "__weakref__" 203 25,kE P "__doc__" 204 (Value.none)] 3 }) ::
 (nat_lit 24,{ cls:=Value.type "type",data:=Data.cls { name:="GuiseError",bases:=[Value.type "ValueError"],mro:=[Value.ref 24,Value.type "ValueError",Value.type "Exception",Value.type "BaseException",Value.type "object"],ns:=23,qualname:="GuiseError",subclasses:=[Value.ref 37] },slots:=#[some (Value.ref 15),none,some (Value.str "GuiseError" 189),some (Value.str "GuiseError" 197),some (Value.builtin "ValueError.__new__"),some (Value.bool true)] }) ::
 (nat_lit 25,{ cls:=Value.type "getset_descriptor",data:=Data.fields #[Value.str "__weakref__" 202,Value.ref 24,Value.builtin "ExceptionGroup.__weakref__",Value.none] }) ::
 (nat_lit 36,{ cls:=Value.type "dict",data:=Data.dict #[kE P "__module__" 214 (Value.str "guisery.errors" 187),kE P "__firstlineno__" 218 (Value.int 4 217),kR P "__static_attributes__" 219 35,kE P "__doc__" 220 (Value.none)] 2 }) ::
 (nat_lit 37,{ cls:=Value.type "type",data:=Data.cls { name:="TooMany",bases:=[Value.ref 24],mro:=[Value.ref 37,Value.ref 24,Value.type "ValueError",Value.type "Exception",Value.type "BaseException",Value.type "object"],ns:=36,qualname:="TooMany" },slots:=#[some (Value.ref 28),none,some (Value.str "TooMany" 207),some (Value.str "TooMany" 215),some (Value.builtin "ValueError.__new__"),some (Value.bool true)] }) ::
 (nat_lit 45,kD "section_at" 227 228 229 234 8 2 40 181 41 (vR 42) (vR 43) (vR 44) 233) ::
 (nat_lit 46,kG z4P "section_at" "guisery.machines" 223 45) ::
 (nat_lit 52,kD "least_form" 236 237 238 248 10 2 47 181 48 (vR 49) (vR 50) (vR 51) 247) ::
 (nat_lit 53,kG z8m "least_form" "guisery.machines" 223 52) ::
 (nat_lit 57,kD "rows_come_to" 250 251 252 254 18 2 54 181 55 vN vN (vR 56) 253) ::
 (nat_lit 58,kG zbk "rows_come_to" "guisery.machines" 223 57) ::
 (nat_lit 62,kD "kinds_of_rows" 256 257 258 260 30 1 59 181 60 vN vN (vR 61) 259) ::
 (nat_lit 63,kG z5j "kinds_of_rows" "guisery.machines" 223 62) ::
 (nat_lit 67,kD "kinds_gone_to" 262 263 264 266 39 2 64 181 65 vN vN (vR 66) 265) ::
 (nat_lit 68,kG zar "kinds_gone_to" "guisery.machines" 223 67) ::
 (nat_lit 72,kD "numbered" 268 269 270 272 41 1 69 181 70 vN vN (vR 71) 271) ::
 (nat_lit 73,kG z1Z "numbered" "guisery.machines" 223 72) ::
 (nat_lit 77,kD "sections" 276 277 278 280 48 1 74 181 75 vN vN (vR 76) 279) ::
 (nat_lit 78,kG z2n "sections" "guisery.crews" 274 77) ::
 (nat_lit 84,kD "crew" 282 283 284 290 50 1 79 181 80 (vR 81) (vR 82) (vR 83) 289) ::
 (nat_lit 85,kG z4M "crew" "guisery.crews" 274 84) ::
 (nat_lit 91,kD "_law_cell" 294 295 296 300 57 2 86 181 87 (vR 88) (vR 89) (vR 90) 299) ::
 (nat_lit 92,kG zbO "_law_cell" "law_guisery_k27_crews_told" 292 91) ::
 (nat_lit 98,kD "_law_letters" 302 303 304 308 63 2 93 181 94 (vR 95) (vR 96) (vR 97) 307) ::
 (nat_lit 99,kG z48 "_law_letters" "law_guisery_k27_crews_told" 292 98) ::
 (nat_lit 103,kD "_law_in_line" 310 311 312 314 65 3 100 181 101 vN vN (vR 102) 313) ::
 (nat_lit 104,kG z4p "_law_in_line" "law_guisery_k27_crews_told" 292 103) ::
 (nat_lit 108,kD "_law_shrunk" 316 317 318 320 73 2 105 181 106 vN vN (vR 107) 319) ::
 (nat_lit 109,kG z3t "_law_shrunk" "law_guisery_k27_crews_told" 292 108) ::
 (nat_lit 115,kD "_law_numbers" 322 323 324 331 96 2 110 181 111 (vR 112) (vR 113) (vR 114) 330) ::
 (nat_lit 116,kG z40 "_law_numbers" "law_guisery_k27_crews_told" 292 115) ::
 (nat_lit 122,kD "_law_rearranged" 333 334 335 343 107 2 117 181 118 (vR 119) (vR 120) (vR 121) 342) ::
 (nat_lit 123,kG zc9 "_law_rearranged" "law_guisery_k27_crews_told" 292 122) ::
 (nat_lit 127,kD "_law_rows" 345 346 347 349 115 2 124 181 125 vN vN (vR 126) 348) ::
 (nat_lit 128,kG z7r "_law_rows" "law_guisery_k27_crews_told" 292 127) ::
 (nat_lit 134,kD "_law_guise" 351 352 353 357 134 2 129 181 130 (vR 131) (vR 132) (vR 133) 356) ::
 (nat_lit 135,kG z8L "_law_guise" "law_guisery_k27_crews_told" 292 134) ::
 (nat_lit 141,kD "_law_whole" 359 360 361 364 136 1 136 181 137 (vR 138) (vR 139) (vR 140) 363) ::
 (nat_lit 142,kG z8E "_law_whole" "law_guisery_k27_crews_told" 292 141) ::
 (nat_lit 146,kD "_law_like" 366 367 368 370 138 2 143 181 144 vN vN (vR 145) 369) ::
 (nat_lit 147,kG z9y "_law_like" "law_guisery_k27_crews_told" 292 146) ::
 (nat_lit 151,kD "_law_ample" 372 373 374 376 150 2 148 181 149 vN vN (vR 150) 375) ::
 (nat_lit 152,kG z73 "_law_ample" "law_guisery_k27_crews_told" 292 151) ::
 (nat_lit 156,kD "law" 378 379 380 382 161 1 153 181 154 vN vN (vR 155) 381) ::
 (nat_lit 157,kG z8n "law" "law_guisery_k27_crews_told" 292 156)::[]
def KA:List Addr:=nat_lit 2::nat_lit 3::nat_lit 23::nat_lit 24::nat_lit 25::nat_lit 36::nat_lit 37::nat_lit 45::nat_lit 46::nat_lit 52::nat_lit 53::nat_lit 57::nat_lit 58::nat_lit 62::nat_lit 63::nat_lit 67::nat_lit 68::nat_lit 72::nat_lit 73::nat_lit 77::nat_lit 78::nat_lit 84::nat_lit 85::nat_lit 91::nat_lit 92::nat_lit 98::nat_lit 99::nat_lit 103::nat_lit 104::nat_lit 108::nat_lit 109::nat_lit 115::nat_lit 116::nat_lit 122::nat_lit 123::nat_lit 127::nat_lit 128::nat_lit 134::nat_lit 135::nat_lit 141::nat_lit 142::nat_lit 146::nat_lit 147::nat_lit 151::nat_lit 152::nat_lit 156::nat_lit 157::[]
end Gu
lay_quick PySem.Challenge.pw_guisery_k27_crews_told
namespace Gu
open PySem PySem.W PyProof.Rows PySem.W.Fast
noncomputable abbrev pY:Program:=PySem.Challenge.pw_guisery_k27_crews_told
noncomputable abbrev pQ:Program:=tw6864547620325109367
noncomputable abbrev rY:OpenRow:=PySem.Challenge.rw_guisery_k27_crews_told.row
noncomputable def viewOf(p:Program):Program:={ p with main:={ p.main with body:=[1,2,4,5,6,7,8,9,10,12,13,15,16,17,18,19,20,21,22,23,24,25,26].map fun i=>p.main.body.getD i (.Pass ⟨0,0,0,0⟩) } }
noncomputable abbrev HK:Hook:=PySem.W.kmHook Gu.KH Gu.KA (fun _=>by kernel_rfl) [41,80]
def pqe:pY=pQ:=te6864547620325109367
set_option maxHeartbeats 0 in
def zfV:∀w os,(zeT tw14364793385576792824 pQ w 11 (some (.ref 6)) 2156 (z3n w os) (topStub pQ)).bind (fun r=>match staticsOk (tw5923862056798008813 pQ.main.body) (z3n w os).abs.heap r.abs.heap&&namesBound pQ r.abs.heap&&gensDone r.abs&&laidKept (z3n w os).abs.heap r.abs.heap with
 |true=>some (tw4187177175401517315 (viewOf pQ) [] (tw5923862056798008813 pQ.main.body) (fun s=>xlAt (viewOf pQ) [] s&&recOk [] s) true r.abs,HK.obs r.abs)
 |false=>none)=some (openGood (viewOf pQ) [],HK.val w):=fun w os=>by kernel_rfl
def left:LeftO rY.prog (viewOf pY) [] (fun s=>xlAt (viewOf pY) [] s&&recOk (RowW.records rY.toRowW) s) HK.obs HK.val 2156:=by have h:=zfV;rw[<-te14364793385576792824,<-te4187177175401517315,<-te5923862056798008813,<-pqe]at h;exact zdK (by kernel_rfl) (by rfl) (fun _=>rfl) h
end Gu
namespace L2
open PySem PySem.Spec PyProof.Rows
def z0y(cells:List (Str × Addr)):List (Str × NameKind)->List (Str × Addr)->List (Str × Addr)
 |[],cs=>cs
 | (n,k)::r,cs=>z0y cells r (if k=.free then(n,(cells.lookup n).getD 0)::cs else cs)
theorem z1G{cells:List (Str × Addr)}:∀(l:List (Str × NameKind))(cs:List (Str × Addr))(x:Str),(∀y,(y,NameKind.free)∈l->∃c,cells.lookup y=some c)->((x,NameKind.free)∈l\/cs.lookup x=cells.lookup x)->(z0y cells l cs).lookup x=cells.lookup x
 |[],cs,x,_,h=>by
  rcases h with h|h
  .cases h
  .exact h
 | (n,k)::r,cs,x,hc,h=>by
  refine z1G r _ x (fun y hy=>hc y (y0e _ hy)) ?_;by_cases hk:k=.free
  .subst hk;rw[if_pos rfl];by_cases e:x=n
   .subst e;obtain⟨c,hcx⟩:=hc x y0p;right;rw[y15,hcx];simp
   .rcases h with h|h
    .rcases y0u.mp h with h|h
     .exact absurd (y1o Prod.fst h) e
     .exact .inl h
    .right;have:(x==n)=false:=by simpa using e
     rw[y15,this];exact h
  .rw[if_neg hk];rcases h with h|h
   .rcases y0u.mp h with h|h
    .exact absurd (y1o Prod.snd h).symm hk
    .exact .inl h
   .exact .inr h
theorem z2D{cells:List (Str × Addr)}:∀(l:List (Str × NameKind))(cs:List (Str × Addr))(x:Str),(x,NameKind.free)∉l->(z0y cells l cs).lookup x=cs.lookup x
 |[],cs,x,_=>rfl
 | (n,k)::r,cs,x,h=>by
  refine(z2D r _ x (fun hy=>h (y0e _ hy))).trans ?_;by_cases hk:k=.free
  .subst hk;rw[if_pos rfl];have e:x≠n:=fun e=>h (by subst e;exact y0p);have:(x==n)=false:=by simpa using e
   rw[y15,this]
  .rw[if_neg hk]
def z1T{scope:Scope}{env:Env}(h:∀y,(y,NameKind.free)∈scope.names->∃c,env.cells.lookup y=some c):closureFor scope env=pure (z0y env.cells scope.names []):=by
 have key:∀(l:List (Str × NameKind))(cs:List (Str × Addr)),(∀y,(y,NameKind.free)∈l->∃c,env.cells.lookup y=some c) ->
   (forIn l cs (fun(x:Str × NameKind)(r:List (Str × Addr))=>if(x.2==NameKind.free)=true then(do let c <-cellOf env x.1;pure (ForInStep.yield ((x.1,c)::r)):Sem _)else pure (ForInStep.yield r)):Sem (List (Str × Addr)))=pure (z0y env.cells l cs):=by
  intro l;induction l with
  |nil=>intro cs _;rfl
  |cons x r ih =>
   intro cs hc;obtain⟨n,k⟩:=x;rw[List.forIn_cons];by_cases hk:k=.free
   .subst hk;obtain⟨c,e⟩:=hc n y0p;have e1:cellOf env n=pure c:=by unfold cellOf;rw[e]
    have e2:z0y env.cells ((n,NameKind.free)::r) cs=z0y env.cells r ((n,c)::cs):=by show z0y env.cells r (if NameKind.free=NameKind.free then(n,(env.cells.lookup n).getD 0)::cs else cs)=_;rw[if_pos rfl,e];all_goals rfl
    rw[e2,<-ih _ (fun y hy=>hc y (y0e _ hy))];simp only[y3y,y22,e1];rfl
   .have hb:(k==NameKind.free)=false:=by simpa using hk
    have e2:z0y env.cells ((n,k)::r) cs=z0y env.cells r cs:=by show z0y env.cells r (if k=NameKind.free then _ else cs)=_;rw[if_neg hk]
    rw[e2,<-ih _ (fun y hy=>hc y (y0e _ hy))];simp only[hb,y06,y0W];rfl
 have:=key scope.names [] h;unfold closureFor;simp only[]at this⊢;exact(y1o (fun m=>m>>=pure) this).trans rfl
def noE:yyE:=fun _ _=>False
section
variable{prog:Program}{w:World}{A:Around}{R:Result->Shared->Prop}{s:Shared}
def z9p{elt tg iter:Expr}{scope:Scope}{pos:Pos}{it acc:Value}{env:Env}(I:Nat->Shared->Prop)
  (zby:∀n s,I n s->wpAny (model prog w) A (pyNext it) (fun r s1=>match r with
   |none=>R (.ok .next) s1
   |some v=>wpAny (model prog w) A (letOwnedTupleGo tg it v) (fun _ s2=>wpAny (model prog w) A (assign tg env v) (fun _ s3=>wpAny (model prog w) A (eval elt env) (fun x s4 =>
     wpAny (model prog w) A (call (.builtin "list.append") [acc,x]) (fun _ s5=>∃m,m<n/\I m s5) noE s4) noE s3) noE s2) noE s1) noE s)
  (n:Nat) (h:I n s):codeAny (model prog w) A (.compLoop (.ListComp elt [⟨tg,iter,[],0⟩] scope pos) 0 it acc env) R s:=by
 have no:∀(P:yyE)(a:Value)(b:Shared),noE a b->P a b:=fun _ _ _ z=>False.elim z;refine codeAny_loop rfl I (fun n s hI=>?_) n h;show wpAny _ _ ((compTurn (.ListComp elt [⟨tg,iter,[],0⟩] scope pos) 0 it acc env).onRaise
  (fun x=>do noteFrame x env;theTreesLotGoes x)) _ _ s
 refine wpAny_noted ?_;rw[compTurn_list1];refine y02 (wpAny_standAt (y02 (y1C (zby n s hI) (fun r s1 h1=>?_) (no _))));cases r with
 |none=>exact y08 h1
 |some v =>
  refine y02 (y1C h1 (fun _ s2 h2=>?_) (no _));refine y02 (y1C h2 (fun _ s3 h3=>?_) (no _));refine y02 (y02 (y1C h3 (fun x s4 h4=>?_) (no _)));exact y02 (y1C h4 (fun _ s5 h5=>y08 (y08 ⟨rfl,h5⟩)) (no _))
end
def zen(env:Env)(p:Str × NameKind):Str × NameKind:=if(p.2==NameKind.free&&env.scope.kind == .function&&env.kindOf p.1==some .cell)=true then(p.1,NameKind.cell)else p
def z8R{env:Env}{p:Str × NameKind}(h:(p.2==NameKind.free&&env.scope.kind == .function&&env.kindOf p.1==some .cell)=true):zen env p=(p.1,NameKind.cell):=if_pos h
def z8N{env:Env}{p:Str × NameKind}(h:¬(p.2==NameKind.free&&env.scope.kind == .function&&env.kindOf p.1==some .cell)=true):zen env p=p:=if_neg h
theorem z1R{env:Env}{x:Str}:∀{l:List (Str × NameKind)},l.lookup x=some .free->(l.map (zen env)).lookup x=some .cell\/(l.map (zen env)).lookup x=some .free
 |[],h=>by simp at h
 | (n,k)::r,h=>by
  rw[y0k];by_cases hc:(k==NameKind.free&&env.scope.kind == .function&&env.kindOf n==some .cell)=true
  .rw[z8R (p:=(n,k)) hc];cases hx:x==n with
   |true=>left;rw[y15,hx]
   |false =>
    rw[y15,hx]at h;rw[y15,hx];exact z1R h
  .rw[z8N (p:=(n,k)) hc];cases hx:x==n with
   |true=>right;rw[y15,hx]at h;rw[y15,hx];exact h
   |false =>
    rw[y15,hx]at h;rw[y15,hx];exact z1R h
theorem z2t{env:Env}{x:Str}{kd:NameKind}(hkd:kd=.cell\/kd=.free):∀{l:List (Str × NameKind)},(∀y∈l,y.2≠.cell)->(l.map (zen env)).lookup x=some kd->(x,NameKind.free)∈l
 |[],_,h=>by simp at h
 | (n,k)::r,hn,h=>by
  rw[y0k]at h;have hk:k≠.cell:=hn (n,k) y0p;have up:(r.map (zen env)).lookup x=some kd->(x,NameKind.free)∈(n,k)::r:=fun h2=>y0e _ (z2t hkd (fun y hy=>hn y (y0e _ hy)) h2);by_cases hc:(k==NameKind.free&&env.scope.kind == .function&&env.kindOf n==some .cell)=true
  .rw[z8R (p:=(n,k)) hc]at h;cases hx:x==n with
   |true =>
    have hxn:x=n:=by simpa using hx
    subst hxn;have z:=hc;simp only[y3z,y3i]at z;rw[z.1.1];exact y0p
   |false=>rw[y15,hx]at h;exact up h
  .rw[z8N (p:=(n,k)) hc]at h;cases hx:x==n with
   |true =>
    have hxn:x=n:=by simpa using hx
    subst hxn;rw[y15,hx]at h;have e:k=kd:=y0b h;rcases hkd with z|z
    .exact absurd (e.trans z) hk
    .rw[e,z];exact y0p
   |false=>rw[y15,hx]at h;exact up h
def z1I(X:Cx)(N:List Str)(scope:Scope)(cl:List (Str × Addr))(C:Addr)(ex:List Addr)(s:Shared)(H:Hp):Cx where
 prog:=X.prog
 w:=X.w
 K:=X.K
 mg:=X.mg
 base:=X.base
 A:=X.A
 N:=N
 s₀:=s
 H₀:=H
 env:=compEnvC scope cl C X.env
 outer:=X.stack
 stack:=X.stack
 ex:=ex
 fn:=fun _=>false
 calm:=X.calm
 pn:=[]
 xe:=noE
structure z1a(XN:List Str)(xsc:Scope)(N:List Str)(ix:List (Option Nat))(scope:Scope):Prop where
 kind:scope.kind=.function:=by rfl
 nocell:∀y∈scope.names,y.2≠.cell:=by decide +kernel
 names:∀y∈scope.names,y.2=.local->scope.names.lookup y.1=some .local:=by decide +kernel
 frees:∀y∈scope.names,y.2=.free->xsc.names.lookup y.1=some .cell\/xsc.names.lookup y.1=some .free:=by decide +kernel
 len:ix.length=N.length:=by rfl
 has:((ix.zip N).all fun p=>match p.1 with|none=>true|some j=>XN[j]?==some p.2&&scope.names.lookup p.2==some .free)=true:=by decide +kernel
 nd:N.Nodup:=by decide +kernel
def z1r(ix:List (Option Nat))(σ:St):St:=ix.map fun o=>o.bind fun j=>(σ[j]?).join
def z1a.at_{XN:List Str}{xsc:Scope}{N:List Str}{ix:List (Option Nat)}{scope:Scope}(S:z1a XN xsc N ix scope){i:Nat}{x:Str}{v:V}{σ:St}(hi:N[i]?=some x)(hv:(z1r ix σ)[i]?=some (some v)) : ∃j:Nat,XN[j]?=some x/\scope.names.lookup x=some .free/\σ[j]?=some (some v):=by
 unfold z1r at hv;rw[y04]at hv;cases e:ix[i]? with
 |none=>rw[e]at hv;cases hv
 |some o =>
  rw[e]at hv;cases o with
  |none=>cases hv
  |some j =>
   have hv':(σ[j]?).join=some v:=y0b hv;have hm:((some j:Option Nat),x)∈ix.zip N:=by
    have:(ix.zip N)[i]?=some (some j,x):=by rw[y0V];exact⟨e,hi⟩
    exact y0D this
   have q:=y3A.mp S.has _ hm;simp only[y3z,y3i]at q;refine⟨j,q.1,q.2,?_⟩;cases z:σ[j]? with
   |none=>rw[z]at hv';cases hv'
   |some u=>rw[z]at hv';exact y1o some hv'
section
variable{X:Cx}{pins:yyP}{σ:St}{H:Hp}{s s1:Shared}{N:List Str}{ix:List (Option Nat)}{scope:Scope}{fp:List Addr}{C:Addr}
def z0P(I:Inv X pins σ H s)(S:z1a X.N X.env.scope N ix scope):∀y,(y,NameKind.free)∈scope.names->∃c,X.env.cells.lookup y=some c:=fun y hy=>I.ok.has y (S.frees _ hy rfl)
def z1L(I:Inv X pins σ H s)(S:z1a X.N X.env.scope N ix scope){x:Str}{c:Addr}(h:(z0y X.env.cells scope.names []).lookup x=some c):X.env.cells.lookup x=some c:=by
 by_cases hm:(x,NameKind.free)∈scope.names
 .rw[<-z1G scope.names [] x (z0P I S) (.inl hm)];exact h
 .rw[z2D scope.names [] x hm]at h;cases h
def zcF(I:Inv X pins σ H s)(S:z1a X.N X.env.scope N ix scope)(hC:C=s.heap.objs.size)(hf:∀b∈fp,z53 X pins H b)(hfl:∀b∈fp,b<s.heap.objs.size){h1:Heap}{m:yyS}{tk:Nat}(hn:h1.Ns C m)(hk:∀b o,s.heap.get? b=some o->h1.get? b=some o) : Inv (z1I X N scope (z0y X.env.cells scope.names []) C fp s H) [] (z1r ix σ) H { s with heap:=h1,toks:=tk }:=by
 have hne:∀{b:Addr}{o:Obj},X.base.get? b=some o->b∉fp:=fun{b o} e hb=>by
  obtain⟨_,_,_,hx,_⟩:=hf b hb;rcases hx with hx|hx
  .exact I.ok.noex b o e hx
  .exact absurd (y0t (y0j (I.ok.bs b o e).1) hx) (y2e _)
 refine⟨⟨I.ok.mod,S.kind,I.ok.glob,I.ok.blt,Nat.le_of_eq hC.symm,?_,?_,?_,I.ok.hd,I.ok.frames,.inl rfl,?_,I.bs,y0S I.ok.bsz I.sz,fun b o e=>hne e,?_,I.stack,I.stkFree⟩,
  rfl,I.bare,Un.kept hk,⟨m,hn,?_⟩,?_,I.hok.fresh (Nat.le_of_eq hC.symm),?_,fun p hp=>absurd (show p∈([]:yyP)from hp) (by simp),I.hok.kept hk,?_⟩
 .intro x y c h1 h2;exact I.ok.inj x y c (z1L I S h1) (z1L I S h2)
 .intro x hx;have hm:(x,NameKind.free)∈scope.names:=by
   rcases hx with hx|hx
   .exact z2t (.inl rfl) S.nocell hx
   .exact z2t (.inr rfl) S.nocell hx
  obtain⟨c,e⟩:=z0P I S x hm;exact⟨c,(z1G scope.names [] x (z0P I S) (.inl hm)).trans e⟩
 .intro x c hx;cases hx
 .intro b hb;obtain⟨_,_,_,_,f4,_⟩:=hf b hb;refine⟨fun e=>?_,fun x c e=>f4 x c (z1L I S e)⟩;have z:=hfl b hb;have e':b=C:=e;rw[e',hC]at z;exact y2e _ z
 .intro b hb hb2;obtain⟨_,f1,f2,_⟩:=hf b hb;exact(y0u.mp (I.stkSub b hb2)).elim f1 f2
 .intro i x v e1 e2 e3;obtain⟨j,g1,g2,g3⟩:=S.at_ e1 e2;have hm:(x,NameKind.free)∈scope.names:=y12 g2;have hk2:=S.frees _ hm rfl;obtain⟨m0,hn0,hl0⟩:=id I.loc;obtain⟨u,r,l⟩:=hl0 j x v g1 g3 (hk2.elim (fun z=>.inr (.inl z)) (fun z=>.inr (.inr z)));refine⟨u,r,.inr ⟨z1R g2,?_⟩⟩;rcases l with⟨k,_⟩|⟨k,c,e,z⟩
  .have k':X.env.scope.names.lookup x=some .local:=k;rcases hk2 with z|z<;>(rw[k']at z;cases z)
  .refine⟨c,(z1G scope.names [] x (z0P I S) (.inl hm)).trans e,?_⟩;obtain⟨o,ho,hd⟩:=z;exact⟨o,hk _ _ ho,hd⟩
 .intro x c e;obtain⟨v,o,ho,hd⟩:=I.cell x c (z1L I S e);exact⟨v,o,hk _ _ ho,hd⟩
 .intro x c e;exact I.freeC x c (z1L I S e)
 .unfold z1r;rw[y01];exact S.len
end
def z7P(ix:List (Option Nat))(J:It)(g:TG)(te:TE)(σ:St)(l:Addr)(H0:Hp)(Qe:Hp->Prop):Prop :=
 ∃W:Nat->Nat->List V->Hp->Prop,(∃m,W 0 m [] H0)/\∀i m ys H,W i m ys H->H l=some (.lst ys) ->
  (J.stop i H/\Qe H)\/(J.go i H/\ys.length<sizeLine/\∃N:List V->Hp->Prop,(∀zs H',N zs H'->∃m',m'<m/\W (i+1) m' zs H')/\∀x H',J.yld i H x H'->g x (z1r ix σ) H' fun σ2 H2=>te σ2 H2 fun v H3 =>
   H3 l=some (.lst ys)/\N (ys++[v]) (upd H3 l (.lst (ys++[v]))))
def zfj(ix:List (Option Nat))(wi:TI)(g:TG)(te:TE):TE:=fun σ H Q=>wi σ H fun J H1=>∀l,H1 l=none->z7P ix J g te σ l (upd H1 l (.lst [])) fun H'=>Q (.ref l) H'
section
variable{X:Cx}{pins:yyP}{σ:St}{H:Hp}{s:Shared}{N:List Str}{ix:List (Option Nat)}{scope:Scope}{elt iter tg:Expr}{pos:Pos}{g:TG}{te:TE}{E:yyE}
def z90{C:Addr}{fp:List Addr}{pins':yyP}{σ':St}{Hc:Hp}{s':Shared}(I:Inv X pins σ H s)(S:z1a X.N X.env.scope N ix scope)(J:Inv (z1I X N scope (z0y X.env.cells scope.names []) C fp s H) pins' σ' Hc s'):Inv (z1I X N scope (z0y X.env.cells scope.names []) C fp s H) [] (z1r ix σ) Hc s':=by
 obtain⟨m,hn,_⟩:=J.loc;refine⟨J.ok,J.os,J.bare,J.base,⟨m,hn,?_⟩,J.cell,J.free,J.freeC,fun p hp=>absurd (show p∈([]:yyP)from hp) (by simp),J.hok,?_⟩
 .intro i x v e1 e2 e3;obtain⟨j,g1,g2,g3⟩:=S.at_ e1 e2;have hm:(x,NameKind.free)∈scope.names:=y12 g2;have hk2:=S.frees _ hm rfl;obtain⟨m0,hn0,hl0⟩:=id I.loc;obtain⟨u,r,l⟩:=hl0 j x v g1 g3 (hk2.elim (fun z=>.inr (.inl z)) (fun z=>.inr (.inr z)));refine⟨u,r,.inr ⟨z1R g2,?_⟩⟩;rcases l with⟨k,_⟩|⟨k,c,e,z⟩
  .have k':X.env.scope.names.lookup x=some .local:=k;rcases hk2 with z|z<;>(rw[k']at z;cases z)
  .have ec:(z0y X.env.cells scope.names []).lookup x=some c:=(z1G scope.names [] x (z0P I S) (.inl hm)).trans e;refine⟨c,ec,?_⟩;obtain⟨o,ho,hd⟩:=z;obtain⟨sl,q⟩:=J.base.any ho (I.freeC x c e) (fun hx=>(J.ok.exf c hx).2 x c ec rfl);exact⟨_,q,hd⟩
 .unfold z1r;rw[y01];exact S.len
def z5u{it:Addr}{fp:List Addr}{tn:Nat->Heap->Prop}{J:It}{Qe:Addr->Hp->Prop}{RR:Value->Addr->Result->Shared->Prop}(hc:X.calm=true)(S:z1a X.N X.env.scope N ix scope)(hg:∀cl C ex s H,PG (z1I X N scope cl C ex s H) tg g)(he:∀cl C ex s H,PE (z1I X N scope cl C ex s H) elt te)(I:Inv X pins σ H s)(T:zep X.prog X.w X.K tg J fp it tn)(st:tn 0 s.heap)(hf:∀b∈fp,z53 X pins H b)(hw:∀l,H l=none->z7P ix J g te σ l (upd H l (.lst [])) (Qe l))(hRR:∀l C s' H' m,s'.heap.Ns C m->Inv X pins σ H' s'->z53 X pins H' C->Qe l H'->RR (.ref l) C (.ok .next) s') : wpAny (model X.prog X.w) X.A (newList []) (fun acc s3=>wpAny (model X.prog X.w) X.A (newFunctionEnv scope X.env.globals (z0y X.env.cells scope.names []) [] X.env.qual none .none (some X.env)) (fun cenv s4 => codeAny (model X.prog X.w) X.A (.compStart (.ListComp elt [⟨tg,iter,[],0⟩] scope pos) 0 (.ref it) acc { cenv with scope:=relabel scope X.env }) (RR acc cenv.locals) s4) E s3) E s:=by
 have hlt:∀b∈fp,b<s.heap.objs.size:=fun b hb=>by obtain⟨o,e,_⟩:=T.obj 0 s.heap st b hb;exact y0j e
 have hl0:H s.heap.objs.size=none:=I.fresh;obtain⟨W,⟨m0,w0⟩,zby⟩:=hw s.heap.objs.size hl0;refine y11 ?_;generalize hs3:({ s with heap:=s.heap.push { cls:=.type "list",dict:=none,data:=.seq ([]:List Value).toArray } }:Shared)=s3;have I3:Inv X pins σ (upd H s.heap.objs.size (.lst [])) s3:=by rw[<-hs3];exact I.lnew (its:=[]) (t':=s.toks) .nil (y0B _)
 have k3:∀b o,s.heap.get? b=some o->s3.heap.get? b=some o:=fun b o e=>by rw[<-hs3];exact y05 _ e
 have sz3:s3.heap.objs.size=s.heap.objs.size+1:=by rw[<-hs3];exact y2h ..
 have lnfp:s.heap.objs.size∉fp:=fun hb=>y2e _ (hlt _ hb);have st3:tn 0 s3.heap:=T.keep 0 _ _ st fun b _ o e=>k3 b o e;have hf3:∀b∈fp,z53 X pins (upd H s.heap.objs.size (.lst [])) b:=fun b hb=>by obtain⟨f0,f⟩:=hf b hb;have nb:b≠s.heap.objs.size:=fun e=>lnfp (by rw[<-e];exact hb);exact⟨by rw[z06 nb];exact f0,f⟩
 have hlt3:∀b∈fp,b<s3.heap.objs.size:=fun b hb=>by rw[sz3];exact y3j (hlt b hb)
 clear hs3;refine wpAny_newFunctionEnv S.nocell (by intro y hy;simp at hy) (fun h1 hn1 hb1=>?_) S.kind;have hk1:∀b o,s3.heap.get? b=some o->h1.get? b=some o:=fun b o e =>
  (hb1.2 b (y0y (y0j e))).trans (y05 _ e)
 have J0:Inv (z1I X N scope (z0y X.env.cells scope.names []) s3.heap.objs.size fp s3 (upd H s.heap.objs.size (.lst []))) [] (z1r ix σ) (upd H s.heap.objs.size (.lst [])) { s3 with heap:=h1,toks:=s3.toks+([]:List (Str × Value)).length } :=
  zcF I3 S rfl hf3 hlt3 hn1 hk1
 have st1:tn 0 h1:=T.keep 0 _ _ st3 fun b _ o e=>hk1 b o e;have fpY:∀{Hc:Hp},(∀b∈fp,Hc b=none)->∀b∈fp,z53 (z1I X N scope (z0y X.env.cells scope.names []) s3.heap.objs.size fp s3 (upd H s.heap.objs.size (.lst []))) [] Hc b:=fun{Hc} hn b hb=>by obtain⟨_,f1,f2,_,f4,_⟩:=hf3 b hb;refine⟨hn b hb,y0y (hlt3 b hb),fun hb2=>(y0u.mp (I3.stkSub b hb2)).elim f1 f2,.inl hb,fun x c e=>f4 x c (z1L I3 S e),fun p hp=>absurd (show p∈([]:yyP)from hp) (by simp)⟩
 have loop:∀s4:Shared,s4=({ s3 with heap:=h1,toks:=s3.toks+([]:List (Str × Value)).length }:Shared)->codeAny (model X.prog X.w) X.A (.compLoop (.ListComp elt [⟨tg,iter,[],0⟩] scope pos) 0 (.ref it) (.ref s.heap.objs.size)
   (compEnvC scope (z0y X.env.cells scope.names []) s3.heap.objs.size X.env)) (RR (.ref s.heap.objs.size) s3.heap.objs.size) s4:=by
  intro s4 hs4;subst hs4;refine z9p (fun n s'=>∃i ys Hc,Inv (z1I X N scope (z0y X.env.cells scope.names []) s3.heap.objs.size fp s3 (upd H s.heap.objs.size (.lst []))) [] (z1r ix σ) Hc s'/\tn i s'.heap/\(∀b∈fp,Hc b=none)/\Hc s.heap.objs.size=some (.lst ys)/\W i n ys Hc) ?_ m0 ⟨0,[],_,J0,st1,fun b hb=>(hf3 b hb).1,z03,w0⟩;rintro n s5 ⟨i,ys,Hc,J5,st5,fr5,hl5,w5⟩;rcases zby i n ys Hc w5 hl5 with⟨stop,qe⟩|⟨go,hz,NN,hNN,step⟩
  .refine thn (T.done (z1I X N scope (z0y X.env.cells scope.names []) s3.heap.objs.size fp s3 (upd H s.heap.objs.size (.lst []))) rfl rfl rfl hc i [] s5 _ Hc noE J5 (fpY fr5) st5 stop) fun r s6 hz8=>?_;obtain⟨hr,J6⟩:=hz8;subst hr;have I6:Inv X pins σ Hc s6:=I3.call' (ch:=fp) J6.os J6.base J6.hok J6.bare fun b hb=>by
    obtain⟨_,f1,f2,f3,f4,f5⟩:=hf3 b hb;exact⟨f3,f1,f4,f5⟩
   obtain⟨m6,hn6,_⟩:=J6.loc;exact hRR _ _ s6 Hc m6 hn6 I6 (I3.fpOk (y0d _) J6.free) qe
  .refine thn (T.item (z1I X N scope (z0y X.env.cells scope.names []) s3.heap.objs.size fp s3 (upd H s.heap.objs.size (.lst []))) rfl rfl rfl hc i [] s5 _ Hc noE J5 (fpY fr5) st5 go) fun r s6 hz8=>?_;obtain⟨u,hr,h6⟩:=hz8;subst hr;refine thn h6 fun _ s7 hz8=>?_;obtain⟨x,H7,J7,r7,y7,st7,fr7⟩:=hz8;have J7':=J7.pinned (fpY fr7) (T.obj _ _ st7);refine thn (hg _ _ _ _ _ _ s7 _ H7 x u _ J7' r7 (step x H7 y7)) fun _ s8 hz8=>?_;obtain⟨σ8,H8,J8,q8⟩:=hz8;refine z1H (he _ _ _ _ _ _ s8 σ8 H8 _ J8 q8) fun y s9 v H9 J9 r9 hz9=>?_;obtain⟨hl9,n9⟩:=hz9;obtain⟨m',hm',w9⟩:=hNN _ _ n9;refine thn (z0V (X:=z1I X N scope (z0y X.env.cells scope.names []) s3.heap.objs.size fp s3 (upd H s.heap.objs.size (.lst []))) _ s9 σ8 H9 (.ref s.heap.objs.size) [v] (.ref s.heap.objs.size) [y]
    (fun z Hz=>z=.non/\Hz=upd H9 s.heap.objs.size (.lst (ys++[v]))) J9 rfl (.cons r9 .nil) ⟨_,ys,v,rfl,rfl,hl9,hz,rfl,rfl⟩) fun _ s10 ⟨_,H10,J10,_,_,e10⟩=>?_
   subst e10;have len8:(z1r ix σ).length=σ8.length:=by rw[J10.len];unfold z1r;rw[y01];exact S.len
   refine⟨m',hm',i+1,ys++[v],_,?_,T.keep _ _ _ st7 fun b hb o e=>(J10.pin (b,o) (y0z _ (y0z _ (z2H hb e)))).1,fun b hb=>?_,z03,w9⟩
   .exact z90 I3 S J10
   .obtain⟨o,e,d⟩:=T.obj _ _ st7 b hb;exact(J10.pin (b,o) (y0z _ (y0z _ (z2H hb e)))).2.1
 exact codeAny_compStart_list (loop _ rfl) (T.self _ 0 _ _ _ st1 (loop _ rfl))
def z1h{wi:TI}(hc:X.calm=true)(S:z1a X.N X.env.scope N ix scope)(hi:PI X tg iter wi)(hg:∀cl C ex s H,PG (z1I X N scope cl C ex s H) tg g)(he:∀cl C ex s H,PE (z1I X N scope cl C ex s H) elt te)(hs:∀x,foldedSetIterable iter X.env x=pure x:=by intro _;rfl):PE X (.ListComp elt [⟨tg,iter,[],0⟩] scope pos) (zfj ix wi g te):=by intro pins s σ H Q I h;rw[eval_ListComp];refine wpAny_comprehension_free (use:=none) rfl hs (z1T (z0P I S)) S.kind S.names (thn (hi pins s σ H _ I h) fun v s1 h1=>thn h1 fun itv s2 h2=>?_);obtain⟨it,fp,tn,J,H2,e,I2,T,st2,f2,hw⟩:=h2;subst e;refine z5u (RR:=fun acc C=>compPost (model X.prog X.w) X.A X.xe none (EP X pins σ Q) acc C) hc S hg he I2 T st2 f2 hw fun l C s' H' m hn I' fC q=>⟨m,hn,fun h' hs'=>?_⟩;obtain⟨c0,c1,_,c3,c4,c5⟩:=fC;exact⟨.ref l,H',I'.turned (t':=s'.toks) (fun b o hb e=>(hs'.2 b hb).trans e) c0 c1 c3 c4 c5,rfl,q⟩
def z7v{wi:TI}{i:Nat}{x:Str}{spos pos':Pos}(hc:X.calm=true)(S:z1a X.N X.env.scope N ix scope)(hi:PI X tg iter wi)(hg:∀cl C ex s H,PG (z1I X N scope cl C ex s H) tg g)(he:∀cl C ex s H,PE (z1I X N scope cl C ex s H) elt te)(hN:X.N.Nodup)(hx:X.N[i]?=some x)(hl:X.env.scope.names.lookup x=some .local)(hsw:swapsWith (.ListComp elt [⟨tg,iter,[],0⟩] scope pos) (some (.Name x pos')) spos.line X.env=pure true:=by rfl)(hs:∀x,foldedSetIterable iter X.env x=pure x:=by intro _;rfl):PS X (.Assign [.Name x pos'] (.ListComp elt [⟨tg,iter,[],0⟩] scope pos) spos) (zfT (zfj ix wi g te) (zc7 i)):=by
 intro pins s σ H D I h;rw[exec_Assign_Name_used _ _ _ _ hsw];refine y02 (wpAny_standAt (y02 ?_));show wpAny _ _ (comprehension (.ListComp elt [⟨tg,iter,[],0⟩] scope pos) scope X.env _ (newList []) false (eval iter X.env) (some (assign (.Name x pos') X.env))>>=fun _=>pure ()) _ _ s;refine y02 (y1C (wpAny_comprehension_free (use:=some (assign (.Name x pos') X.env)) (Q:=fun _ s'=>SP X pins D .next s') rfl hs (z1T (z0P I S)) S.kind S.names
  (thn (hi pins s σ H _ I h) fun v s1 h1=>thn h1 fun itv s2 h2=>?_)) (fun _ s' q=>y08 (y08 q)) fun _ _ e=>e)
 obtain⟨it,fp,tn,J,H2,e,I2,T,st2,f2,hw⟩:=h2;subst e;refine z5u (RR:=fun acc C=>compPost (model X.prog X.w) X.A X.xe (some (assign (.Name x pos') X.env)) (fun _ s'=>SP X pins D .next s') acc C) hc S hg he I2 T st2 f2 hw fun l C s' H' m hn I' fC q=>?_;obtain⟨c0,c1,c2,c3,c4,c5⟩:=fC;show wpAny _ _ (assign (.Name x pos') X.env (.ref l)) _ _ _;refine wpAny_assign_Name (z6W I' hN hx (.inl hl) (v:=.ref l) rfl (fun s'' I'' hz8=>?_) (.inr hl));obtain⟨a,sb,ha⟩:=hz8;have haC:C≠a:=by
  rcases ha with ha|ha
  .rw[ha];exact c1
  .exact fun z=>c4 x a ha z.symm
 refine⟨m,hn.sameBut sb haC,fun h' hs'=>?_⟩;exact⟨_,H',I''.turned (t':=s''.toks) (fun b o hb e=>(hs'.2 b hb).trans e) c0 c1 c3 c4 c5,q⟩
end
def z5B{J:It}{n:Nat}{l:Addr}{ix:List (Option Nat)}{g:TG}{te:TE}{σ:St}{H0:Hp}{Qe:Hp->Prop}(Pv:Nat->List V->Hp->Prop)(h0:Pv 0 [] H0)(hs:∀i ys H,i<n->Pv i ys H->H l=some (.lst ys)->J.go i H/\ys.length<sizeLine/\∀x H',J.yld i H x H'->g x (z1r ix σ) H' fun σ2 H2=>te σ2 H2 fun v H3=>H3 l=some (.lst ys)/\Pv (i+1) (ys++[v]) (upd H3 l (.lst (ys++[v]))))(hd:∀ys H,Pv n ys H->H l=some (.lst ys)->J.stop n H/\Qe H):z7P ix J g te σ l H0 Qe:=by
 refine⟨fun i m ys H=>m=n-i/\i<=n/\Pv i ys H,⟨n,by simp,y0B _,h0⟩,?_⟩;rintro i m ys H ⟨rfl,hi,p⟩ hl;by_cases hlt:i<n
 .obtain⟨h1,h2,h3⟩:=hs i ys H hlt p hl;exact .inr ⟨h1,h2,Pv (i+1),fun zs H' q=>⟨n-(i+1),by lia,rfl,hlt,q⟩,h3⟩
 .have e:i=n:=by lia
  subst e;exact .inl (hd ys H p hl)
def z21{K:yyF}{a l:Addr}{xs:List V}{ix:List (Option Nat)}{g:TG}{te:TE}{σ:St}{H0:Hp}{Qe:Hp->Prop}(Pv:Nat->List V->Hp->Prop)(h0:Pv 0 [] H0)(hl:∀i ys H,i<=xs.length->Pv i ys H->SqL K H a xs)(hz:xs.length<=sizeLine)(hn:∀i ys H,Pv i ys H->ys.length=i)(hs:∀i x ys H,xs[i]?=some x->Pv i ys H->H l=some (.lst ys)->g x (z1r ix σ) H fun σ2 H2=>te σ2 H2 fun v H3=>H3 l=some (.lst ys)/\Pv (i+1) (ys++[v]) (upd H3 l (.lst (ys++[v]))))(hd:∀ys H,Pv xs.length ys H->H l=some (.lst ys)->Qe H):z7P ix (Itl K a) g te σ l H0 Qe:=by refine z5B (n:=xs.length) Pv h0 (fun i ys H hi p hy=>?_) fun ys H p hy=>⟨⟨xs,hl _ ys H (y0d _) p,y0d _⟩,hd ys H p hy⟩;have q:=hl i ys H (y1k hi) p;refine⟨⟨xs,xs[i],q,by simp[hi]⟩,by rw[hn i ys H p];exact y0t hi hz,fun x H' y=>?_⟩;obtain⟨e,y⟩:=y;subst e;exact hs i x ys _ (y xs q) p hy
def z49{K:yyF}{a l:Addr}{xs:List V}{ix:List (Option Nat)}{g:TG}{te:TE}{σ:St}{H0:Hp}{Qe:Hp->Prop}(Pv:Nat->List V->Hp->Prop)(h0:Pv 0 [] H0)(hl:∀i ys H,i<=xs.length->Pv i ys H->SqT K H a xs)(hz:xs.length<=sizeLine)(hn:∀i ys H,Pv i ys H->ys.length=i)(hs:∀i x ys H,xs[i]?=some x->Pv i ys H->H l=some (.lst ys)->g x (z1r ix σ) H fun σ2 H2=>te σ2 H2 fun v H3=>H3 l=some (.lst ys)/\Pv (i+1) (ys++[v]) (upd H3 l (.lst (ys++[v]))))(hd:∀ys H,Pv xs.length ys H->H l=some (.lst ys)->Qe H):z7P ix (Itt K a) g te σ l H0 Qe:=by refine z5B (n:=xs.length) Pv h0 (fun i ys H hi p hy=>?_) fun ys H p hy=>⟨⟨xs,hl _ ys H (y0d _) p,y0d _⟩,hd ys H p hy⟩;have q:=hl i ys H (y1k hi) p;refine⟨⟨xs,xs[i],q,by simp[hi]⟩,by rw[hn i ys H p];exact y0t hi hz,fun x H' y=>?_⟩;obtain⟨e,y⟩:=y;subst e;exact hs i x ys _ (y xs q) p hy
def z1i{lo:Int}{n:Nat}{l:Addr}{ix:List (Option Nat)}{g:TG}{te:TE}{σ:St}{H0:Hp}{Qe:Hp->Prop}(Pv:Nat->List V->Hp->Prop)(h0:Pv 0 [] H0)(hz:n<=sizeLine)(hn:∀i ys H,Pv i ys H->ys.length=i)(hs:∀i ys H,i<n->Pv i ys H->H l=some (.lst ys)->g (.int (lo+i)) (z1r ix σ) H fun σ2 H2=>te σ2 H2 fun v H3=>H3 l=some (.lst ys)/\Pv (i+1) (ys++[v]) (upd H3 l (.lst (ys++[v]))))(hd:∀ys H,Pv n ys H->H l=some (.lst ys)->Qe H):z7P ix (Itr lo n) g te σ l H0 Qe:=by refine z5B (n:=n) Pv h0 (fun i ys H hi p hy=>⟨hi,by rw[hn i ys H p];exact y0t hi hz,fun x H' y=>?_⟩) fun ys H p hy=>⟨y0d _,hd ys H p hy⟩;obtain⟨e,y⟩:=y;subst e y;exact hs i ys _ hi p hy
open PySem.AutoSeq1 (wpAny_loadPart')
def zbs(lo:Int)(n:Nat):List V:=(List.range n).map fun i=>V.int (lo+(i:Nat))
def z4G(lo:Int)(n:Nat):(zbs lo n).length=n:=by unfold zbs;simp
def z3i{lo c:Int}{acc:Array Value}{n:Nat}(hc:c=1)(h:ItemsOf (fun i v=>∃t,v=.int (lo+i*c) t) acc n):z0O (zbs lo n) acc.toList:=by
 subst hc;obtain⟨hs,hi⟩:=h;have key:∀(k:Nat)(i:Nat),i+k=n->z0O (((List.range n).drop i).map fun j=>V.int (lo+(j:Nat))) (acc.toList.drop i):=by
  intro k;induction k with
  |zero =>
   intro i hk;rw[y1n (by simp;lia),y1n (by simp;lia)];exact .nil
  |succ k ih =>
   intro i hk;have h1:i<acc.size:=by lia
   have e1:(List.range n).drop i=i::(List.range n).drop (i+1):=by rw[y17 (by simp;lia)];simp
   have e2:acc.toList.drop i=acc[i]::acc.toList.drop (i+1):=by rw[y17 (by simpa using h1)];simp
   rw[e1,e2,y0k];refine .cons ?_ (ih (i+1) (by lia));obtain⟨t,e⟩:=hi i acc[i] (by simp[h1]);exact⟨t,by rw[e,Int.mul_one]⟩
 have:=key n 0 (by lia);simpa[zbs]using this
section
variable{X:Cx}
def z8p:z2j X (.type "range") (fun xs H Q=>∃j:Int,xs=[.int j]/\-(2^62)<=j/\j<2^62/\∀p,H p=none->Q (.ref p) (upd H p (.rng 0 j))):=by intro pins s σ H xs us Q I r h;obtain⟨j,rfl,h1,h2,q⟩:=h;obtain⟨u,rfl,ru⟩:=z3U r;obtain⟨t,rfl⟩:=ru;refine call_range_1 ?_;exact⟨.ref s.heap.objs.size,upd H s.heap.objs.size (.rng 0 j),I.laid (o:=.rng 0 j) (fun b u e=>y05 _ e) (y0d _) ⟨_,_,_,y0h _ rfl⟩,rfl,q _ I.fresh⟩
theorem Inv.rng{pins:yyP}{σ:St}{H:Hp}{s:Shared}{p:Addr}{lo hi:Int}(I:Inv X pins σ H s)(h:H p=some (.rng lo hi)):∃t u v,IsRange s.heap p lo hi 1 t u v:=by obtain⟨t,u,v,e⟩:=I.hok p _ h;exact⟨t,u,v,e⟩
def z8w{lo hi:Int}:Builtin.Range.rangeSize lo hi 1=(((hi-lo).toNat:Nat):Int):=by rw[rangeSize_one];split<;>lia
def z5Q(hc:X.calm=true):z2j X (.type "list") (fun xs H Q=>∃p lo hi,xs=[.ref p]/\H p=some (.rng lo hi)/\(-(2^62)<=lo/\lo<2^62/\-(2^62)<=hi/\hi<2^62)/\(hi-lo).toNat<=2^24 /\ ∀l,H l=none->Q (.ref l) (upd H l (.lst (zbs lo (hi-lo).toNat)))):=by intro pins s σ H xs us Q I r h;obtain⟨p,lo,hi,rfl,hp,⟨b1,b2,b3,b4⟩,hn,q⟩:=h;obtain⟨u,rfl,ru⟩:=z3U r;cases ru;obtain⟨t,u,v,hr⟩:=I.rng hp;refine call_list_range (I.ok.hd hc) hr (small_one b1 b2 b3 b4) z8w hn fun h' tk acc c' hk hl hacc=>?_;have hv:=z3i rfl hacc;exact⟨.ref _,_,I.laid (o:=.lst (zbs lo (hi-lo).toNat)) (fun b u e=>hk b u e) (y0d _) ⟨by rw[z4G,y3J];lia,acc.toList,c',hv,by simpa using hl⟩,rfl,q _ I.fresh⟩
end
section
variable{prog:Program}{w:World}{A:Around}{E:yyE}{s:Shared}
def z7K{Q:List Value->Shared->Prop}{r:Addr}{a b c:Int}{t u v:Tok}{n:Nat}(hh:A.handled=none)(hr:IsRange s.heap r a b c t u v)(hsmall:Builtin.Range.small a b c=true)(hn:Builtin.Range.rangeSize a b c=n)(hlen:n<=2^24)(hQ:∀h' tk acc,(∀b o,s.heap.get? b=some o->h'.get? b=some o)->s.heap.objs.size<=h'.objs.size->ItemsOf (fun i v=>∃t,v=.int (a+i*c) t) acc n->Q acc.toList { s with heap:=h',toks:=tk }) : wpAny (model prog w) A (collect (.ref r)) Q E s:=by
 unfold collect;refine y02 (wpAny_runValue (y1M y3u ?_));rw[y1l y3v _];show wpAny _ A.in1 (newList []>>=fun l =>
  again (.builtin "list.__iadd__" ⟨[l,.ref r],[]⟩)) _ _ s
 refine y02 (y11 ?_);refine y08 ⟨y2O y2n _,y1M F.entry_list_iadd ?_⟩;rw[y1l y2n _];show wpAny _ A.in1 (Builtin.List.listExtendWith (.ref s.heap.objs.size) (.ref r)
  (.ref s.heap.objs.size)) _ _ _
 have hS:(s.heap.push { cls:=.type "list",data:=.seq ([]:List Value).toArray }).get? s.heap.objs.size=some
  { cls:=.type "list",data:=.seq #[] 0 }:=y0h _ rfl
 have fin':∀(h':Heap) (tk:Nat) (acc:Array Value) (c':Nat),(∀b o,b≠s.heap.objs.size->(s.heap.push { cls:=.type "list",data:=.seq ([]:List Value).toArray }).get? b=some o->h'.get? b=some o) ->
   h'.get? s.heap.objs.size=some { cls:=.type "list",dict:=none,data:=.seq acc c',slots:=#[] }->ItemsOf (fun i v=>∃t,v=.int (a+i*c) t) acc n ->
   wpAny (model prog w) A (match Value.ref s.heap.objs.size with
    |Value.ref a=>do
     match (<-load a).data with
      |Data.seq xs _=>pure xs.toList
      |_=>unsupported "internal:collect"
    |_=>unsupported "internal:collect") Q E { s with heap:=h',toks:=tk }:=fun h' tk acc c' hk hS' hacc=>by
  show wpAny _ A (load s.heap.objs.size>>=_) _ _ _;refine y02 (wpAny_load hS' (y08 ?_));exact hQ h' tk acc (fun b o e=>hk b o (y0y (y0j e)) (y05 _ e)) (y1k (y0j hS')) hacc
 refine y1C (wpAny_extend_range (A:=A) (R:=fun r s'=>r=.ok (.ret (.ref s.heap.objs.size))/\wpAny (model prog w) A (match Value.ref s.heap.objs.size with
    |Value.ref a=>do
     match (<-load a).data with
      |Data.seq xs _=>pure xs.toList
      |_=>unsupported "internal:collect"
    |_=>unsupported "internal:collect") Q E s') (s:={ s with heap:=s.heap.push { cls:=.type "list",data:=.seq ([]:List Value).toArray } }) hh (y05 _ hr) hsmall hn hlen _ (.ref s.heap.objs.size) 0 hS
  fun h' tk acc c' hk hS' hacc=>⟨rfl,fin' h' tk acc c' hk hS' hacc⟩) (fun fin s' h=>?_) (fun e s' h=>?_)
 .cases fin with
  |done f =>
   obtain⟨e,h⟩:=h;cases e;exact h
  |again c'=>exact⟨h.1,y2r h.2 fun r s'' hr=>by obtain⟨rfl,h2⟩:=hr;exact h2⟩
 .exact absurd h.1 (by simp)
end
def z4d(r:Addr){a b c:Int}{t u v:Tok}{n:Nat}(hsmall:Builtin.Range.small a b c=true)(hn:Builtin.Range.rangeSize a b c=n)(hlen:n<=2^24) : Meets (Builtin.«tuple.__new__» ⟨[.type "tuple",.ref r],[]⟩) (fun A R s=>A.handled=none/\IsRange s.heap r a b c t u v/\∀(h':Heap) (tk:Nat) (acc:Array Value),(∀b o,s.heap.get? b=some o->h'.get? b=some o)->s.heap.objs.size<=h'.objs.size->ItemsOf (fun i v=>∃t,v=.int (a+i*c) t) acc n -> R (.ok (.ret (.ref h'.objs.size))) { s with heap:=h'.push { cls:=.type "tuple",data:=.seq acc },toks:=tk }) :=
 .of_wp fun prog w A R s h=>by
  obtain⟨hh,hr,h⟩:=h;have hsub:=sub_tuple_self;have hinit:=init_tuple_lookup;have hmh:=madeHere_tuple;have hT:s.TypeIs (.ref r) "range":=⟨_,hr,rfl⟩;have hh1:A.in1.handled=none:=hh
  wp_walk using wpAny_typeOf hT,z7K hh1 hr hsmall hn hlen
  intro h' tk acc hk hz hacc;show wpAny _ _ (Builtin.Tuple.tupleExact acc.toList.toArray >>=
   fun v=>ret v) _ _ _
  unfold Builtin.Tuple.tupleExact;refine y02 (y11 ?_ (show acc.toList.toArray.size<=sizeLine by simp only[Array.toArray_toList];rw[hacc.1,y3J];lia));refine y08 ⟨_,rfl,?_⟩;have e:acc.toList.toArray=acc:=by simp
  rw[e];exact h h' tk acc hk hz hacc
section
variable{X:Cx}
def z4N(hc:X.calm=true):z2j X (.type "tuple") (fun xs H Q=>∃p lo hi,xs=[.ref p]/\H p=some (.rng lo hi)/\(-(2^62)<=lo/\lo<2^62/\-(2^62)<=hi/\hi<2^62)/\(hi-lo).toNat<=2^24 /\ ∀l,H l=none->Q (.ref l) (upd H l (.tup (zbs lo (hi-lo).toNat)))):=by
 intro pins s σ H xs us Q I r h;obtain⟨p,lo,hi,rfl,hp,⟨b1,b2,b3,b4⟩,hn,q⟩:=h;obtain⟨u,rfl,ru⟩:=z3U r;cases ru;obtain⟨t,u,v,hr⟩:=I.rng hp;refine callType_new F.called_tuple (by decide) (F.typeCall_tuple_1 _) (F.newCall_tuple_1 _) (fun obj=>F.args_object_init_2 obj _) F.entry_tuple_new
  (z4d p (t:=t) (u:=u) (v:=v) (small_one b1 b2 b3 b4) z8w hn) ⟨I.ok.hd hc,hr,fun h' tk acc hk hz hacc=>⟨⟨_,y0h _ rfl,rfl⟩,?_⟩⟩
 have hv:=z3i rfl hacc;have hf:H h'.objs.size=none:=I.hok.fresh hz;refine⟨.ref _,_,I.laid (o:=.tup (zbs lo (hi-lo).toNat)) (fun b u e=>y05 _ (hk b u e)) hz ⟨by rw[z4G,y3J];lia,acc.toList,0,hv,by rw[show acc.toList.toArray=acc by simp];exact y0h _ rfl⟩,rfl,q _ hf⟩
end
section
variable{X:Cx}
def z7B{prog:Program}{w:World}{A:Around}{its:Array Value}{bs:List Bool}(r:z0O (bs.map V.bl) its.toList):TruthOf prog w A (fun i v=>its[i]?=some v) (fun i=>bs.getD i false):=by
 intro i v s Q E hi hq;have hl:=r.length;rw[y01]at hl;have hlt:i<bs.length:=by
  have:i<its.size:=by
   rcases y10 i its.size with z|z
   .exact z
   .rw[y1y z]at hi;cases hi
  simp at hl;lia
 have h1:(bs.map V.bl)[i]?=some (.bl bs[i]):=by simp[hlt]
 obtain⟨u,hu,ru⟩:=r.get h1;have:u=v:=by
  have e:its.toList[i]?=some v:=by simpa using hi
  rw[e]at hu;exact(y0b hu).symm
 subst this;cases ru;refine y1T ?_;have e:bs.getD i false=bs[i]:=by simp[hlt]
 have hq':Q (bs.getD i false) s:=hq;rw[e]at hq';exact hq'
def zbc{n:Nat}{bs:List Bool}(h:bs.length=n):(List.range n).all (fun i=>bs.getD i false)=bs.all id:=by
 subst h;rw[y2J,y3A,y3A];constructor
 .intro h b hb;obtain⟨i,hi,e⟩:=y2t hb;have:=h i (by simpa using hi);simp[hi,e]at this;exact this
 .intro h i hi;have hi:i<bs.length:=by simpa using hi
  have:=h bs[i] (y0l hi);simp[hi];exact this
def zcd(hc:X.calm=true):z2j X (.builtin "all") (fun xs H Q=>∃(p:Addr) (bs:List Bool),xs=[.ref p]/\SqL X.K H p (bs.map V.bl)/\Q (.bl (bs.all id)) H):=by
 intro pins s σ H xs us Q I r h;obtain⟨p,bs,rfl,hp,q⟩:=h;obtain⟨u,rfl,ru⟩:=z3U r;cases ru;obtain⟨its,rv,pl,hz⟩:=I.list hp;have hlt:p<s.heap.objs.size:=by obtain⟨o,n,e,_⟩:=pl;exact y0j e
 have hl:=rv.length;rw[y01]at hl;refine call_all_walk (wpAny_pyIter_list pl.isList ?_);refine⟨s.heap.objs.size,_,_,_,_,_,fun i=>bs.getD i false,rfl,Walks.list (A:=X.A.in1) (show X.A.in1.handled=none from I.ok.hd hc) s.heap.objs.size p (y0y hlt) its.toArray,⟨⟨_,y0h _ rfl,rfl,rfl⟩,Heap.IsList.push pl.isList _⟩,z7B (by simpa using rv),fun h' tk hk=>?_⟩;rw[zbc (by simpa using hl)];exact⟨.bl _,H,I.kept (t':=tk) (fun b o e=>hk b o (by simpa using(y0y (y0j e))) (y05 _ e)),rfl,q⟩
end
section
variable{prog:Program}{w:World}{A:Around}{E:yyE}{s:Shared}
end
def Inv.turnedNew{X:Cx}{pins:yyP}{σ:St}{H:Hp}{s:Shared}{ch:List Addr}{p:Addr}{o:HO}{h':Heap}{t':Nat}(I:Inv X pins σ H s)(k:∀b u,b∉ch->s.heap.get? b=some u->h'.get? b=some u)(hp:s.heap.objs.size<=p)(new:z19 X.prog X.w (upd H p o) h' p o)(hf:∀b∈ch,z53 X pins H b):Inv X pins σ (upd H p o) { s with heap:=h',toks:=t' }:=by
 have hn:H p=none:=I.hok.fresh hp;have nc:∀b u,H b=some u->b∉ch:=fun b u e z=>by rw[(hf b z).1]at e;cases e
 refine I.step (g':=s.gens) (d':=s.drawn) (ch:=ch) (fun b hb=>?_) (fun b u _ _ hc e _=>k b u hc e) (fun b u _ _ hc e _=>⟨u.slots,k b u hc e⟩) (fun b u _ e n=>?_) (fun b u hc e=>⟨u,k b u hc e⟩)
  (fun b xs e=>?_) (fun b u xs e=>?_) (fun b ps e=>⟨#[],?_⟩) (fun m hm=>?_) (fun b u e=>?_) I.bare
 .obtain⟨_,f1,_,f3,f4,f5⟩:=hf b hb;exact⟨f3,f1,f4,f5⟩
 .rw[z06 (y0y (y0t (y0j e) hp))];exact n
 .rw[z06 (z0e e hn)];exact e
 .rw[z06 (z0e e hn)];exact e
 .rw[z06 (z0e e hn),e];simp
 .obtain⟨ob,es,ep,ho,r⟩:=hm;exact⟨ob,es,ep,k _ ob (fun z=>(hf _ z).2.1 rfl) ho,r⟩
 .by_cases hb:b=p
  .subst hb;rw[z03]at e;cases e;exact new
  .rw[z06 hb]at e;refine(I.hok b u e).stay (fun c v hc q=>k c v ?_ q) (fun c q=>by rw[z06 (z0e q hn)];exact q) fun c xs q=>by rw[z06 (z0e q hn)];exact q
   rcases hc with z|z
   .rw[z];exact nc b u e
   .exact nc c _ z
def Inv.turnedL{X:Cx}{pins:yyP}{σ:St}{H:Hp}{s:Shared}{ch:List Addr}{h':Heap}{t':Nat}(I:Inv X pins σ H s)(k:∀b u,b∉ch->s.heap.get? b=some u->h'.get? b=some u)(hf:∀b∈ch,z53 X pins H b):Inv X pins σ H { s with heap:=h',toks:=t' }:=by
 have nc:∀b u,H b=some u->b∉ch:=fun b u e z=>by rw[(hf b z).1]at e;cases e
 refine I.step (g':=s.gens) (d':=s.drawn) (ch:=ch) (fun b hb=>?_) (fun b u _ _ hc e _=>k b u hc e) (fun b u _ _ hc e _=>⟨u.slots,k b u hc e⟩) (fun b u _ e n=>n) (fun b u hc e=>⟨u,k b u hc e⟩)
  (fun b xs e=>e) (fun b u xs e=>e) (fun b ps e=>⟨#[],by rw[e];simp⟩) (fun m hm=>?_) (fun b u e=>?_) I.bare
 .obtain⟨_,f1,_,f3,f4,f5⟩:=hf b hb;exact⟨f3,f1,f4,f5⟩
 .obtain⟨ob,es,ep,ho,r⟩:=hm;exact⟨ob,es,ep,k _ ob (fun z=>(hf _ z).2.1 rfl) ho,r⟩
 .refine(I.hok b u e).stay (fun c v hc q=>k c v ?_ q) (fun c q=>q) fun c xs q=>q;rcases hc with z|z
  .rw[z];exact nc b u e
  .exact nc c _ z
section
variable{X:Cx}{elts:List Expr}{tk:Nat}{tp:Pos}
def Itz(K:yyF)(a b:Addr):It :=
 ⟨fun i H=>∃xs ys x y,SqL K H a xs/\SqL K H b ys/\xs[i]?=some x/\ys[i]?=some y,
  fun i H v H'=>∃p x y,v=.ref p/\H p=none/\(∀xs,SqL K H a xs->xs[i]?=some x)/\(∀ys,SqL K H b ys->ys[i]?=some y)/\H'=upd H p (.tup [x,y]),
  fun i H=>∃xs ys,SqL K H a xs/\SqL K H b ys/\(xs.length<=i\/ys.length<=i)⟩
def z3O{h:Heap}{a b:Addr}{o u:Obj}{x y:String}(ha:h.get? a=some o)(hb:h.get? b=some u)(hx:o.cls=.type x)(hy:u.cls=.type y)(hxy:x≠y):a≠b:=by intro e;subst e;rw[ha]at hb;cases hb;rw[hx]at hy;injection hy with hy;exact hxy hy
def zcg{P:Program}{w:World}{K:yyF}(a b z TI TO i1 i2:Addr)(D:TI≠z/\TO≠z/\i1≠z/\i2≠z/\TI≠TO/\TI≠i1/\TI≠i2/\TO≠i1/\TO≠i2/\i1≠i2) : zep P w K (.Tuple elts tk tp) (Itz K a b) [z,TI,TO,i1,i2] z (fun i h=>IsZip h z TI TO .none/\IsPair h TI (.ref i1) (.ref i2)/\(∃u v,IsPair h TO u v)/\h.IsListIter i1 a i/\h.IsListIter i2 b i) where
 mem:=by simp
 obj:=fun i h st c hc=>by
  obtain⟨hz,hTI,⟨u,v,hTO⟩,⟨o1,e1,c1,d1⟩,⟨o2,e2,c2,d2⟩⟩:=st;simp at hc;rcases hc with q|q|q|q|q
  .rw[q];exact⟨_,hz,fun v z=>by cases z⟩
  .rw[q];exact⟨_,hTI,fun v z=>by cases z⟩
  .rw[q];exact⟨_,hTO,fun v z=>by cases z⟩
  .rw[q];exact⟨_,e1,fun v z=>by rw[d1]at z;cases z⟩
  .rw[q];exact⟨_,e2,fun v z=>by rw[d2]at z;cases z⟩
 keep:=fun i h h' st k=>by obtain⟨hz,hTI,⟨u,v,hTO⟩,⟨o1,e1,c1⟩,⟨o2,e2,c2⟩⟩:=st;exact⟨k z (by simp) _ hz,k TI (by simp) _ hTI,⟨u,v,k TO (by simp) _ hTO⟩,⟨o1,k i1 (by simp) _ e1,c1⟩,⟨o2,k i2 (by simp) _ e2,c2⟩⟩
 item:=by
  intro X hP hw hK hc i pins s σ H E I hf st hg;subst hP hw hK;obtain⟨hz,hTI,⟨u,v,hTO⟩,h1,h2⟩:=st;obtain⟨xs,ys,x,y,hxs,hys,hx,hy⟩:=hg;obtain⟨its,rv,p,_⟩:=I.list hxs;obtain⟨itt,rw',p',_⟩:=I.list hys;obtain⟨ux,hux,rux⟩:=rv.get hx;obtain⟨uy,huy,ruy⟩:=rw'.get hy;obtain⟨d1,d2,d3,d4,d5,d6,d7,d8,d9,d10⟩:=D;have Da:∀{l:Addr}{its:Array Value},s.heap.IsList l its->l≠z/\l≠TO/\l≠i1/\l≠i2:=fun{l its} hl=>by obtain⟨o,e,c,_⟩:=hl;obtain⟨o1,e1,c1,_⟩:=id h1;obtain⟨o2,e2,c2,_⟩:=id h2;exact⟨z3O e hz c rfl (by decide),z3O e hTO c rfl (by decide),z3O e e1 c c1 (by decide),z3O e e2 c c2 (by decide)⟩
  obtain⟨a1,a2,a3,a4⟩:=Da p.isList;obtain⟨b1,b2,b3,b4⟩:=Da p'.isList;refine wpAny_pyNext_zip_item ⟨d1,d2,d3,d4,d5,d6,d7,d8,d9,d10,a1,a2,a3,a4,b1,b2,b3,b4⟩ hz hTI hTO h1 h2 p.isList p'.isList (x:=ux) (y:=uy) (by simpa using hux) (by simpa using huy) fun h' q1 q2 q3 q4 q5 q6 hk=>?_;refine⟨_,rfl,wpAny_letOwnedTupleGo_zip q1 fun h2' hz2 hs2=>?_⟩;have zlt:z<s.heap.objs.size:=y0j hz;have kk:∀c o,c∉[z,TO,i1,i2]->s.heap.get? c=some o->h2'.get? c=some o:=fun c o hc q=>by simp at hc;exact(hs2.2 c hc.1).trans (hk c o hc.1 hc.2.1 hc.2.2.1 hc.2.2.2 q)
  have sub:∀c∈[z,TO,i1,i2],c∈[z,TI,TO,i1,i2]:=fun c hc=>by simp at hc⊢;rcases hc with q|q|q|q<;>simp[q]
  have I1:Inv X pins σ (upd H s.heap.objs.size (.tup [x,y])) { s with heap:=h2',toks:=s.toks }:=by refine I.turnedNew (ch:=[z,TO,i1,i2]) kk (y0d _) ?_ (fun c hc=>hf c (sub c hc));exact⟨by show 2<=sizeLine;decide,[ux,uy],0,.cons rux (.cons ruy .nil),(hs2.2 _ (y33 zlt)).trans q5⟩
  have up:∀{c:Addr}{o:Obj},c≠z->h'.get? c=some o->h2'.get? c=some o:=fun{c o} hc q=>(hs2.2 c hc).trans q;obtain⟨o3,e3,c3⟩:=q3;obtain⟨o4,e4,c4⟩:=q4;refine⟨.ref s.heap.objs.size,_,I1,rfl,⟨s.heap.objs.size,x,y,rfl,I.fresh,fun zs hz'=>by rw[I.list_inj hz' hxs];exact hx,fun zs hz'=>by rw[I.list_inj hz' hys];exact hy,rfl⟩,⟨hz2,?_,⟨_,_,up d2 q2⟩,⟨o3,up d3 e3,c3⟩,⟨o4,up d4 e4,c4⟩⟩,fun c hc=>?_⟩
  .exact up d1 (hk TI _ d1 d5 d6 d7 hTI)
  .have c0:=(hf c hc).1;have lt:c<s.heap.objs.size:=by
    obtain⟨o1,e1,_⟩:=id h1;obtain⟨o2,e2,_⟩:=id h2;simp at hc;rcases hc with q|q|q|q|q
    .rw[q];exact zlt
    .rw[q];exact y0j hTI
    .rw[q];exact y0j hTO
    .rw[q];exact y0j e1
    .rw[q];exact y0j e2
   rw[z06 (y0y lt)];exact c0
 done:=by
  intro X hP hw hK hc i pins s σ H E I hf st hg;subst hP hw hK;obtain⟨hz,hTI,⟨u,v,hTO⟩,h1,h2⟩:=st;obtain⟨xs,ys,hxs,hys,hx⟩:=hg;obtain⟨its,rv,p,_⟩:=I.list hxs;obtain⟨itt,rw',p',_⟩:=I.list hys;obtain⟨d1,d2,d3,d4,d5,d6,d7,d8,d9,d10⟩:=D;have Da:∀{l:Addr}{its:Array Value},s.heap.IsList l its->l≠z/\l≠TO/\l≠i1/\l≠i2:=fun{l its} hl=>by obtain⟨o,e,c,_⟩:=hl;obtain⟨o1,e1,c1,_⟩:=id h1;obtain⟨o2,e2,c2,_⟩:=id h2;exact⟨z3O e hz c rfl (by decide),z3O e hTO c rfl (by decide),z3O e e1 c c1 (by decide),z3O e e2 c c2 (by decide)⟩
  obtain⟨a1,a2,a3,a4⟩:=Da p.isList;obtain⟨b1,b2,b3,b4⟩:=Da p'.isList;have l1:=rv.length;have l2:=rw'.length;refine wpAny_pyNext_zip_end (I.ok.hd hc) ⟨d1,d2,d3,d4,d5,d6,d7,d8,d9,d10,a1,a2,a3,a4,b1,b2,b3,b4⟩ hz hTI hTO h1 h2 p.isList p'.isList ?_ fun h' hk=>⟨rfl,?_⟩
  .rcases hx with q|q
   .left;simp;lia
   .right;simp;lia
  .refine I.turnedL (ch:=[z,TO,i1,i2]) (t':=s.toks) (fun c o hcc q=>?_) (fun c hcc=>hf c ?_)
   .simp at hcc;exact hk c o hcc.1 hcc.2.1 hcc.2.2.1 hcc.2.2.2 q
   .simp at hcc⊢;rcases hcc with q|q|q|q<;>simp[q]
 self:=fun A i s Q E st h=>wpAny_pyIter_zip st.1 h
def zgA(K:yyF)(ta:TA):TI:=fun σ H R=>ta σ H fun vs H1=>∃a b:Addr,vs=[.ref a,.ref b]/\(∃xs,SqL K H1 a xs)/\(∃ys,SqL K H1 b ys)/\R (Itz K a b) H1
def zcS{a b:Expr}{ta:TA}{p pos:Pos}(hg:Gl X "zip")(hm:X.mg "zip"=none)(ha:PA X [a,b] ta)(hs:starEach [a,b] X.env=[(false,eval a X.env),(false,eval b X.env)]:=by rfl)(hs2:starEach [b] X.env=[(false,eval b X.env)]:=by rfl) : PI X (.Tuple elts tk tp) (.Call (.Name "zip" p) [a,b] [] pos) (zgA X.K ta):=by
 intro pins s σ H R I h;refine Call_ (z4V I hg hm boot_zip (y2I (thn (ha pos pins s σ H _ I h) fun us s1 hz8=>?_) (by rw[hs,hs2]) (by rw[hs2];rfl)));obtain⟨vs,H1,I1,r1,q1⟩:=hz8;obtain⟨a,b,e,⟨xs,hq⟩,⟨ys,hq'⟩,q⟩:=q1;subst e;obtain⟨u,v,rfl,ru,rv'⟩:=zbF r1;cases ru;cases rv';obtain⟨its,rv,pl,hz⟩:=I1.list hq;obtain⟨its2,rv2,pl2,hz2⟩:=I1.list hq';refine call_zip_2 pl.isList pl2.isList fun h' z1 z2 z3 z4 z5 z6 hk=>wpAny_pyIter_zip z1 ?_;have I2:Inv X pins σ H1 { s1 with heap:=h' }:=I1.kept (t':=s1.toks) hk;refine⟨s1.heap.objs.size+4,[s1.heap.objs.size+4,s1.heap.objs.size+2,s1.heap.objs.size+3,s1.heap.objs.size,s1.heap.objs.size+1],_,_,H1,rfl,I2,
  zcg a b (s1.heap.objs.size+4) (s1.heap.objs.size+2) (s1.heap.objs.size+3) s1.heap.objs.size (s1.heap.objs.size+1) (by refine⟨?_,?_,?_,?_,?_,?_,?_,?_,?_,?_⟩<;>(show @Ne Nat _ _;lia)),⟨z1,z2,⟨_,_,z3⟩,z4,z5⟩,fun c hb=>?_,q⟩
 have hb':s1.heap.objs.size<=c:=by simp only[y0u,y3B,or_false]at hb;rcases hb with q|q|q|q|q<;>(have q:@Eq Nat c _:=q;lia)
 exact I1.fpOk hb' (I1.hok.fresh hb')
end
def ze6{K:yyF}{a b:Addr}{xs ys:List V}{g:TG}{tb:TS}{D:z3Y}{σ:St}{H:Hp}(hlen:xs.length=ys.length)(Pv:Nat->St->Hp->Prop)(h0:Pv 0 σ H)(hl:∀i σ H,i<=xs.length->Pv i σ H->SqL K H a xs/\SqL K H b ys)(hs:∀i x y p σ H,xs[i]?=some x->ys[i]?=some y->Pv i σ H->H p=none->g (.ref p) σ (upd H p (.tup [x,y])) fun σ2 H2=>tb { D with nx:=Pv (i+1),ct:=Pv (i+1),bk:=D.nx } σ2 H2)(hd:∀σ H,Pv xs.length σ H->D.nx σ H) : ∃W:Nat->Nat->St->Hp->Prop,(∃m,W 0 m σ H)/\∀i m σ H,W i m σ H -> ((Itz K a b).stop i H/\D.nx σ H)\/((Itz K a b).go i H/\∃N:St->Hp->Prop,(∀σ' H',N σ' H'->∃m',m'<m/\W (i+1) m' σ' H')/\∀x H',(Itz K a b).yld i H x H'->g x σ H' fun σ2 H2=>tb { D with nx:=N,ct:=N,bk:=D.nx } σ2 H2):=by
 refine⟨fun i m σ H=>m=xs.length-i/\i<=xs.length/\Pv i σ H,⟨xs.length,by simp,y0B _,h0⟩,?_⟩;rintro i m σ H ⟨rfl,hi,p⟩;obtain⟨q,q'⟩:=hl i σ H hi p;by_cases hlt:i<xs.length
 .refine .inr ⟨⟨xs,ys,xs[i],ys[i]'(by lia),q,q',by simp[hlt],by simp[show i<ys.length by lia]⟩,Pv (i+1),fun σ' H' p'=>⟨xs.length-(i+1),by lia,rfl,hlt,p'⟩,fun x H' y=>?_⟩;obtain⟨c,z,z',rfl,hb,hz,hz',rfl⟩:=y;exact hs i z z' c σ H (hz xs q) (hz' ys q') p hb
 .have e:i=xs.length:=by lia
  subst e;exact .inl ⟨⟨xs,ys,q,q',.inl (y0d _)⟩,hd σ H p⟩
def zbA{K:yyF}{a b l:Addr}{xs zs:List V}{ix:List (Option Nat)}{g:TG}{te:TE}{σ:St}{H0:Hp}{Qe:Hp->Prop}(hlen:xs.length=zs.length)(Pv:Nat->List V->Hp->Prop)(h0:Pv 0 [] H0)(hl:∀i ys H,i<=xs.length->Pv i ys H->SqL K H a xs/\SqL K H b zs)(hz:xs.length<=sizeLine)(hn:∀i ys H,Pv i ys H->ys.length=i)(hs:∀i x y p ys H,xs[i]?=some x->zs[i]?=some y->Pv i ys H->H l=some (.lst ys)->H p=none->g (.ref p) (z1r ix σ) (upd H p (.tup [x,y])) fun σ2 H2=>te σ2 H2 fun v H3=>H3 l=some (.lst ys)/\Pv (i+1) (ys++[v]) (upd H3 l (.lst (ys++[v]))))(hd:∀ys H,Pv xs.length ys H->H l=some (.lst ys)->Qe H):z7P ix (Itz K a b) g te σ l H0 Qe:=by refine z5B (n:=xs.length) Pv h0 (fun i ys H hi p hy=>?_) fun ys H p hy=>⟨⟨xs,zs,(hl _ ys H (y0d _) p).1,(hl _ ys H (y0d _) p).2,.inl (y0d _)⟩,hd ys H p hy⟩;obtain⟨q,q'⟩:=hl i ys H (y1k hi) p;refine⟨⟨xs,zs,xs[i],zs[i]'(by lia),q,q',by simp[hi],by simp[show i<zs.length by lia]⟩,by rw[hn i ys H p];exact y0t hi hz,fun x H' y=>?_⟩;obtain⟨c,z,z',rfl,hb,hz,hz',rfl⟩:=y;exact hs i z z' c ys H (hz xs q) (hz' zs q') p hy hb
inductive D where
 |non|bl (b:Bool)|int (i:Int)|str (x:Str)|tup (ds:List D)|lst (ds:List D)
mutual
def Dr(K:yyF)(H:Hp):D->V->Prop
 |.non,v=>v=.non
 |.bl b,v=>v=.bl b
 |.int i,v=>v=.int i
 |.str x,v=>v=.str x
 |.tup ds,v=>∃(a:Addr)(vs:List V),v=.ref a/\H a=some (.tup vs)/\DrL K H ds vs
 |.lst ds,v=>∃(a:Addr)(vs:List V),v=.ref a/\SqL K H a vs/\DrL K H ds vs
def DrL(K:yyF)(H:Hp):List D->List V->Prop
 |[],vs=>vs=[]
 |d::ds,vs=>∃v r,vs=v::r/\Dr K H d v/\DrL K H ds r
end
def z0d.tupl{K:yyF}{H H':Hp}{a:Addr}{xs:List V}(s:z0d H H')(h:SqT K H a xs):SqT K H' a xs:=by
 rcases h with(h|⟨o,h⟩)|h
 .exact .inl (.inl (s _ _ h))
 .exact .inl (.inr ⟨o,s _ _ h⟩)
 .exact .inr h
mutual
theorem Dr.mono{K:yyF}{H H':Hp}(s:z0d H H'):∀{d:D}{v:V},Dr K H d v->Dr K H' d v
 |.non,_,h=>by simp only[Dr]at h⊢;exact h
 |.bl _,_,h=>by simp only[Dr]at h⊢;exact h
 |.int _,_,h=>by simp only[Dr]at h⊢;exact h
 |.str _,_,h=>by simp only[Dr]at h⊢;exact h
 |.tup ds,_,h=>by
  simp only[Dr]at h⊢;obtain⟨a,vs,e,q,r⟩:=h;exact⟨a,vs,e,s _ _ q,DrL.mono s r⟩
 |.lst ds,_,h=>by simp only[Dr]at h⊢;obtain⟨a,vs,e,q,r⟩:=h;exact⟨a,vs,e,s.seq q,DrL.mono s r⟩
theorem DrL.mono{K:yyF}{H H':Hp}(s:z0d H H'):∀{ds:List D}{vs:List V},DrL K H ds vs->DrL K H' ds vs
 |[],_,h=>by simp only[DrL]at h⊢;exact h
 |d::ds,_,h=>by simp only[DrL]at h⊢;obtain⟨v,r,e,q,q'⟩:=h;exact⟨v,r,e,Dr.mono s q,DrL.mono s q'⟩
end
theorem DrL.length{K:yyF}{H:Hp}:∀{ds:List D}{vs:List V},DrL K H ds vs->ds.length=vs.length
 |[],_,h=>by simp only[DrL]at h;subst h;rfl
 |d::ds,_,h=>by simp only[DrL]at h;obtain⟨v,r,rfl,_,q⟩:=h;rw[y0H,y0H,DrL.length q]
theorem DrL.get{K:yyF}{H:Hp}:∀{ds:List D}{vs:List V}{i:Nat}{d:D},DrL K H ds vs->ds[i]?=some d->∃v,vs[i]?=some v/\Dr K H d v
 |[],_,_,_,_,e=>by simp at e
 |d::ds,_,0,_,h,e=>by
  simp only[DrL]at h;obtain⟨v,r,rfl,q,_⟩:=h;simp at e;subst e;exact⟨v,rfl,q⟩
 |d::ds,_,i+1,d',h,e=>by simp only[DrL]at h;obtain⟨v,r,rfl,_,q⟩:=h;obtain⟨v',h1,h2⟩:=DrL.get (i:=i) q (by simpa using e);exact⟨v',by simpa using h1,h2⟩
theorem DrL.append{K:yyF}{H:Hp}:∀{ds es:List D}{vs us:List V},DrL K H ds vs->DrL K H es us->DrL K H (ds++es) (vs++us)
 |[],_,_,_,h,h'=>by simp only[DrL]at h;subst h;exact h'
 |d::ds,es,_,us,h,h'=>by simp only[DrL]at h;obtain⟨v,r,rfl,q,q'⟩:=h;show DrL K H (d::(ds++es)) (v::(r++us));simp only[DrL];exact⟨v,_,rfl,q,DrL.append q' h'⟩
def DrL.one{K:yyF}{H:Hp}{d:D}{v:V}(h:Dr K H d v):DrL K H [d] [v]:=by simp only[DrL];exact⟨v,[],rfl,h,rfl⟩
def DrL.nil{K:yyF}{H:Hp}:DrL K H [] []:=by simp only[DrL]
def DrL.cons{K:yyF}{H:Hp}{d:D}{v:V}{ds:List D}{vs:List V}(h:Dr K H d v)(h':DrL K H ds vs):DrL K H (d::ds) (v::vs):=by simp only[DrL];exact⟨v,vs,rfl,h,h'⟩
theorem DrL.ints{K:yyF}{H:Hp}:∀(ns:List Int),DrL K H (ns.map D.int) (ns.map V.int)
 |[]=>DrL.nil
 |n::r=>DrL.cons (by simp only[Dr]) (DrL.ints r)
theorem DrL.ints_inv{K:yyF}{H:Hp}:∀{ns:List Int}{vs:List V},DrL K H (ns.map D.int) vs->vs=ns.map V.int
 |[],_,h=>by simp only[y0T,DrL]at h;rw[h];rfl
 |n::r,_,h=>by simp only[y0k,DrL]at h;obtain⟨v,w,rfl,q,q'⟩:=h;simp only[Dr]at q;subst q;rw[DrL.ints_inv q',y0k]
theorem Dr.tup{K:yyF}{H:Hp}{a:Addr}{ds:List D}{vs:List V}(h:H a=some (.tup vs))(r:DrL K H ds vs):Dr K H (.tup ds) (.ref a):=by simp only[Dr];exact⟨a,vs,rfl,h,r⟩
theorem Dr.lst{K:yyF}{H:Hp}{a:Addr}{ds:List D}{vs:List V}(h:H a=some (.lst vs))(r:DrL K H ds vs):Dr K H (.lst ds) (.ref a):=by simp only[Dr];exact⟨a,vs,rfl,SqL.of h,r⟩
theorem Dr.int{K:yyF}{H:Hp}(i:Int):Dr K H (.int i) (.int i):=by simp only[Dr]
abbrev D.its(ns:List Int):D:=.tup (ns.map D.int)
open PySem PySem.Spec PyProof.Rows
open PySem.SeqAt
mutual
def D.eq:D->D->Bool
 |.non,.non=>true
 |.bl a,.bl b=>a==b
 |.int i,.int j=>i==j
 |.str x,.str y=>decide (x=y)
 |.tup a,.tup b=>D.eqL a b
 |.lst a,.lst b=>D.eqL a b
 |_,_=>false
def D.eqL:List D->List D->Bool
 |[],[]=>true
 |d::ds,e::es=>D.eq d e&&D.eqL ds es
 |_,_=>false
end
mutual
def D.ok:D->D->Prop
 |.non,.non=>True
 |.bl _,.bl _=>True
 |.int _,.int _=>True
 |.str _,.str _=>True
 |.tup a,.tup b=>D.okL a b
 |.lst a,.lst b=>D.okL a b
 |_,_=>False
def D.okL:List D->List D->Prop
 |d::ds,e::es=>D.ok d e/\D.okL ds es
 |_,_=>True
end
mutual
def D.dep:D->Nat
 |.tup a=>D.depL a+1
 |.lst a=>D.depL a+1
 |_=>0
def D.depL:List D->Nat
 |[]=>0
 |d::ds=>max (D.dep d) (D.depL ds)
end
mutual
theorem D.eq_refl:∀d:D,D.eq d d=true
 |.non=>by simp only[D.eq]
 |.bl b=>by simp only[D.eq,y3y]
 |.int i=>by simp only[D.eq,y3y]
 |.str x=>by simp only[D.eq,decide_true]
 |.tup a=>by simp only[D.eq];exact D.eqL_refl a
 |.lst a=>by simp only[D.eq];exact D.eqL_refl a
theorem D.eqL_refl:∀ds:List D,D.eqL ds ds=true
 |[]=>by simp only[D.eqL]
 |d::ds=>by simp only[D.eqL,D.eq_refl d,D.eqL_refl ds,Bool.and_self]
end
mutual
theorem D.eq_of:∀{d e:D},D.eq d e=true->d=e
 |.non,e,h=>by cases e<;>simp only[D.eq,y06]at h<;>rfl
 |.bl b,e,h=>by cases e<;>simp only[D.eq,y06,y3i]at h;rw[h]
 |.int b,e,h=>by cases e<;>simp only[D.eq,y06,y3i]at h;rw[h]
 |.str b,e,h=>by cases e<;>simp only[D.eq,y06,y3k]at h;rw[h]
 |.tup b,e,h=>by
  cases e<;>simp only[D.eq,y06]at h;rw[D.eqL_of h]
 |.lst b,e,h=>by cases e<;>simp only[D.eq,y06]at h;rw[D.eqL_of h]
theorem D.eqL_of:∀{d e:List D},D.eqL d e=true->d=e
 |[],e,h=>by cases e<;>simp only[D.eqL,y06]at h;rfl
 |d::ds,e,h=>by cases e<;>simp only[D.eqL,y06,y3z]at h;rw[D.eq_of h.1,D.eqL_of h.2]
end
theorem D.okL_get:∀{ds es:List D}{j:Nat}{d e:D},D.okL ds es->ds[j]?=some d->es[j]?=some e->D.ok d e
 |[],_,_,_,_,_,h,_=>by simp at h
 |_::_,[],_,_,_,_,_,h=>by simp at h
 |_::_,_::_,0,_,_,h,h1,h2=>by
  simp only[D.okL]at h;simp at h1 h2;subst h1 h2;exact h.1
 |_::_,_::_,j+1,_,_,h,h1,h2=>by simp only[D.okL]at h;exact D.okL_get h.2 (by simpa using h1) (by simpa using h2)
theorem D.depL_get:∀{ds:List D}{j:Nat}{d:D},ds[j]?=some d->D.dep d<=D.depL ds
 |[],_,_,h=>by simp at h
 |_::_,0,_,h=>by
  simp at h;subst h;simp only[D.depL];exact Nat.le_max_left _ _
 |_::ds,j+1,_,h=>by simp only[D.depL];exact y0S (D.depL_get (ds:=ds) (j:=j) (by simpa using h)) (Nat.le_max_right _ _)
def D.at_(ds es:List D)(j:Nat):Bool:=match ds[j]?,es[j]? with|some d,some e=>D.eq d e|_,_=>true
theorem D.all_eqL:∀(ds es:List D),(((List.range (min ds.length es.length)).all (D.at_ ds es))&&ds.length==es.length)=D.eqL ds es
 |[],[]=>by simp[D.eqL]
 |[],e::es=>by simp[D.eqL]
 |d::ds,[]=>by simp[D.eqL]
 |d::ds,e::es=>by
  have ih:=D.all_eqL ds es;simp only[D.eqL];rw[<-ih];have e1:min (d::ds).length (e::es).length=min ds.length es.length+1:=by simp only[y0H];lia
  rw[e1,List.range_succ_eq_map,List.all_cons,List.all_map,Bool.and_assoc];have e2:D.at_ (d::ds) (e::es) 0=D.eq d e:=by simp[D.at_]
  have e3:(D.at_ (d::ds) (e::es)∘Nat.succ)=D.at_ ds es:=by funext j;simp[D.at_]
  have e4:((d::ds).length==(e::es).length)=(ds.length==es.length):=by simp
  rw[e2,e3,e4]
def D.all_eqL'{ds es:List D}(h:ds.length=es.length):(List.range ds.length).all (D.at_ ds es)=D.eqL ds es:=by
 rw[<-D.all_eqL ds es];have:min ds.length es.length=ds.length:=by lia
 rw[this];simp[h]
def D.eqL_len{ds es:List D}(h:ds.length≠es.length):D.eqL ds es=false:=by
 rw[<-D.all_eqL ds es];have:(ds.length==es.length)=false:=by simpa using h
 rw[this,Bool.and_false]
section
variable{X:Cx}{pins:yyP}{σ:St}{H:Hp}{s:Shared}
mutual
theorem Dr.inj(I:Inv X pins σ H s):∀{d e:D}{v:V},Dr X.K H d v->Dr X.K H e v->D.ok d e->d=e
 |.non,e,v,h,h',o=>by cases e<;>simp only[D.ok]at o<;>rfl
 |.bl b,e,v,h,h',o=>by
  cases e<;>simp only[D.ok]at o;simp only[Dr]at h h';rw[h]at h';cases h';rfl
 |.int b,e,v,h,h',o=>by
  cases e<;>simp only[D.ok]at o;simp only[Dr]at h h';rw[h]at h';cases h';rfl
 |.str b,e,v,h,h',o=>by
  cases e<;>simp only[D.ok]at o;simp only[Dr]at h h';rw[h]at h';cases h';rfl
 |.tup ds,e,v,h,h',o=>by
  cases e<;>simp only[D.ok]at o;simp only[Dr]at h h';obtain⟨a,vs,rfl,q,r⟩:=h;obtain⟨b,us,eq,q',r'⟩:=h';cases eq;have:=I.tuple_inj (SqT.of q) (SqT.of q');subst this;rw[DrL.inj I r r' o]
 |.lst ds,e,v,h,h',o=>by cases e<;>simp only[D.ok]at o;simp only[Dr]at h h';obtain⟨a,vs,rfl,q,r⟩:=h;obtain⟨b,us,eq,q',r'⟩:=h';cases eq;have:=I.list_inj q q';subst this;rw[DrL.inj I r r' o]
theorem DrL.inj(I:Inv X pins σ H s):∀{ds es:List D}{vs:List V},DrL X.K H ds vs->DrL X.K H es vs->D.okL ds es->ds=es
 |[],[],_,_,_,_=>rfl
 |[],_::_,_,h,h',_=>by
  simp only[DrL]at h h';obtain⟨_,_,e,_⟩:=h';rw[h]at e;cases e
 |_::_,[],_,h,h',_=>by
  simp only[DrL]at h h';obtain⟨_,_,e,_⟩:=h;rw[h']at e;cases e
 |d::ds,e::es,_,h,h',o=>by simp only[DrL]at h h';simp only[D.okL]at o;obtain⟨v,r,rfl,q,q'⟩:=h;obtain⟨u,w,eq,p,p'⟩:=h';cases eq;rw[Dr.inj I q p o.1,DrL.inj I q' p' o.2]
end
def zfk(I:Inv X pins σ H s):∀(n:Nat)(A:Around){d e:D}{x y:V}{v u:Value},D.dep d<=n->A.units+n<cLine->Dr X.K H d x->Dr X.K H e y->D.ok d e->z0N x v->z0N y u->EqAt A s v u (D.eq d e)/\(∀l b,x=.ref l->y=.ref b->RcAt A s v u (D.eq d e)):=by
 intro n;induction n with
 |zero =>
  intro A d e x y v u hd hu hx hy o rx ry;cases d<;>cases e<;>simp only[D.ok]at o<;>simp only[D.dep,Nat.le_zero,y32,y3L,and_false]at hd
  .simp only[Dr]at hx hy;subst hx hy;cases rx;cases ry;exact⟨EqAt.same _,fun _ _ h=>nomatch h⟩
  .rename_i a b;simp only[Dr]at hx hy;subst hx hy;cases rx;cases ry;simp only[D.eq];exact⟨EqAt.bool_bool _ _,fun _ _ h=>nomatch h⟩
  .rename_i a b;simp only[Dr]at hx hy;subst hx hy;obtain⟨t,rfl⟩:=rx;obtain⟨t',rfl⟩:=ry;simp only[D.eq];exact⟨fun prog w E Q h=>wpAny_eqBool_int h,fun _ _ h=>nomatch h⟩
  .rename_i a b;simp only[Dr]at hx hy;subst hx hy;obtain⟨t,rfl⟩:=rx;obtain⟨t',rfl⟩:=ry;simp only[D.eq];exact⟨fun prog w E Q h=>wpAny_eqBool_str h,fun _ _ h=>nomatch h⟩
 |succ n ih =>
  intro A d e x y v u hd hu hx hy o rx ry;have flat:D.dep d<=0->EqAt A s v u (D.eq d e)/\(∀l b,x=.ref l->y=.ref b->RcAt A s v u (D.eq d e)):=fun z=>ih A (y0S z (y0B _)) (by lia) hx hy o rx ry;have hin:A.in1.units+n<cLine:=by show A.units+1+n<cLine;lia
  have both:∀{l b:Addr}{k:Bool},RcAt A s (.ref l) (.ref b) k->(l=b->k=true)->EqAt A s (.ref l) (.ref b) k:=fun{l b k} h hk=>by
   by_cases e:l=b
   .have z:=hk e;subst e;rw[z];exact EqAt.same _
   .exact EqAt.of_refs e h
  have items:∀{ds es:List D}{vs us:List V}{its itt:List Value},D.depL ds<=n->D.okL ds es->DrL X.K H ds vs->DrL X.K H es us->z0O vs its->z0O us itt->∀j (h1:j<its.toArray.size) (h2:j<itt.toArray.size),EqAt A.in1 s its.toArray[j] itt.toArray[j] (D.at_ ds es j):=by
   intro ds es vs us its itt hdp hok r r' rv rv' j h1 h2;have l1:=rv.length;have l2:=rv'.length;have l3:=r.length;have l4:=r'.length;have h1':j<its.length:=by simpa using h1
   have h2':j<itt.length:=by simpa using h2
   have e1:ds[j]?=some ds[j]:=y00 (by lia);have e2:es[j]?=some es[j]:=y00 (by lia);obtain⟨x1,g1,d1⟩:=r.get e1;obtain⟨x2,g2,d2⟩:=r'.get e2;obtain⟨u1,k1,q1⟩:=rv.get g1;obtain⟨u2,k2,q2⟩:=rv'.get g2;have z1:u1=its.toArray[j]:=by rw[y00 h1']at k1;have:=y0b k1;simpa using this.symm
   have z2:u2=itt.toArray[j]:=by rw[y00 h2']at k2;have:=y0b k2;simpa using this.symm
   have z3:D.at_ ds es j=D.eq ds[j] es[j]:=by unfold D.at_;rw[e1,e2]
   rw[z3,<-z1,<-z2];exact(ih A.in1 (y0S (D.depL_get e1) hdp) hin d1 d2 (D.okL_get hok e1 e2) q1 q2).1
  cases d with
  |non=>exact flat (y0d _)
  |bl _=>exact flat (y0d _)
  |int _=>exact flat (y0d _)
  |str _=>exact flat (y0d _)
  |tup ds =>
   cases e<;>simp only[D.ok]at o;rename_i es;have inj:=fun(q:x=y)=>Dr.inj I hx (q▸hy) (by simp only[D.ok];exact o);have hdp:D.depL ds<=n:=by simp only[D.dep]at hd;lia
   simp only[Dr]at hx hy;obtain⟨l,vs,rfl,q,r⟩:=hx;obtain⟨b,us,rfl,q',r'⟩:=hy;cases rx;cases ry;obtain⟨its,rv,pl,_⟩:=I.tuple (SqT.of q);obtain⟨itt,rv',pl',_⟩:=I.tuple (SqT.of q');have R:RcAt A s (.ref l) (.ref b) (D.eq (.tup ds) (.tup es)):=by
    have z:=RcAt.tuples (A:=A) (e:=D.at_ ds es) pl pl' (by lia) (items hdp o r r' rv rv');have e1:its.toArray.size=ds.length:=by rw[r.length,rv.length];simp
    have e2:itt.toArray.size=es.length:=by rw[r'.length,rv'.length];simp
    rw[e1,e2,D.all_eqL]at z;simp only[D.eq];exact z
   exact⟨both R fun h=>by subst h;have:=inj rfl;rw[this];exact D.eq_refl _,fun _ _ _ _=>R⟩
  |lst ds =>
   cases e<;>simp only[D.ok]at o;rename_i es;have inj:=fun(q:x=y)=>Dr.inj I hx (q▸hy) (by simp only[D.ok];exact o);have hdp:D.depL ds<=n:=by simp only[D.dep]at hd;lia
   simp only[Dr]at hx hy;obtain⟨l,vs,rfl,q,r⟩:=hx;obtain⟨b,us,rfl,q',r'⟩:=hy;cases rx;cases ry;obtain⟨its,rv,pl,_⟩:=I.list q;obtain⟨itt,rv',pl',_⟩:=I.list q';have e1:its.toArray.size=ds.length:=by rw[r.length,rv.length];simp
   have e2:itt.toArray.size=es.length:=by rw[r'.length,rv'.length];simp
   have R:RcAt A s (.ref l) (.ref b) (D.eq (.lst ds) (.lst es)):=by
    by_cases hl:ds.length=es.length
    .have z:=RcAt.lists (A:=A) (e:=D.at_ ds es) pl.isList pl'.isList (by lia) (by lia) (items hdp o r r' rv rv');rw[e1,D.all_eqL' hl]at z;simp only[D.eq];exact z
    .have z:=RcAt.lists_lengths (A:=A) pl.isList pl'.isList (by rw[e1,e2];simpa using hl) (by lia);simp only[D.eq];rw[D.eqL_len hl];exact z
   exact⟨both R fun h=>by subst h;have:=inj rfl;rw[this];exact D.eq_refl _,fun _ _ _ _=>R⟩
end
open PySem PySem.Spec PyProof.Rows PySem.SeqAt
open PySem.AutoSeq1 (wpAny_loadPart')
section
variable{X:Cx}
end
open PySem PySem.Spec PyProof.Rows
section
variable{X:Cx}(K:yyF)
def ixL(h:X.K=K):IxR X (zgs K):=h▸z1t
def ixT(h:X.K=K):IxR X (zgD K):=h▸z2N
def zgP(h:X.K=K):z2j X (.builtin "len") (fun xs H Q=>∃p ys,xs=[.ref p]/\(SqL K H p ys\/SqT K H p ys)/\Q (.int ys.length) H):=h▸z0f
def zgM(h:X.K=K):z2j X (.type "tuple") (fun xs H Q=>∃p ys,xs=[.ref p]/\((SqL K H p ys/\∀l,H l=none->Q (.ref l) (upd H l (.tup ys)))\/(SqT K H p ys/\Q (.ref p) H))):=h▸z0B
def piT{tg l:Expr}{tl:TE}(h:X.K=K)(hl:PE X l tl):PI X tg l (zgv K tl):=h▸z54 hl
variable{o e:Expr}{es:List Expr}{to:TE}{t:TA}{name:Str}{apos cpos:Pos}{T id:String}{r:V->List V->Hp->VK->Prop}
def zhi(h:X.K=K)(hc:X.calm=true):z2j X (.builtin "all") (fun xs H Q=>∃(p:Addr) (bs:List Bool),xs=[.ref p]/\SqL K H p (bs.map V.bl)/\Q (.bl (bs.all _root_.id)) H):=h▸zcd hc
def pgT{es:List Expr}{k:Nat}{t:TGs}{n:Nat}{pos:Pos}(h:X.K=K)(hc:X.calm=true)(hp:PGs X es t)(hn:(assignEach es X.env).length=n:=by rfl)(hst:(assignEach es X.env).findIdx? (·.1)=none:=by rfl):PG X (.Tuple es k pos) (zgw K n t):=h▸z8v hc hp hn hst
def zga{elts:List Expr}{tk:Nat}{tp:Pos}{a b:Expr}{ta:TA}{p pos:Pos}(h:X.K=K)(hg:Gl X "zip")(hm:X.mg "zip"=none)(ha:PA X [a,b] ta)(hs:starEach [a,b] X.env=[(false,eval a X.env),(false,eval b X.env)]:=by rfl)(hs2:starEach [b] X.env=[(false,eval b X.env)]:=by rfl) : PI X (.Tuple elts tk tp) (.Call (.Name "zip" p) [a,b] [] pos) (zgA K ta):=h▸zcS hg hm ha hs hs2
inductive TyS(K:yyF)(H:Hp):V->Value->Prop where
 |of {x:V} {t:Value} (h:z8U K H x t):TyS K H x t
 |tup {a:Addr} {xs:List V} (h:SqT K H a xs):TyS K H (.ref a) (.type "tuple")
 |lst {a:Addr} {xs:List V} (h:SqL K H a xs):TyS K H (.ref a) (.type "list")
def zh3(c:String)(hK:X.K=K):z2j X (.builtin "isinstance") (fun xs H Q=>∃x t b,xs=[x,.ty c]/\TyS K H x t/\PySem.W.kitOne K t (.type c)=some b/\Q (.bl b) H):=by
 subst hK;intro pins s σ H xs us Q I r h;obtain⟨x,t,b,rfl,ty,k,q⟩:=h;obtain⟨u,w',rfl,ru,rw'⟩:=zbF r;cases rw';cases ty with
 |of ty=>exact zat I ru ty k fun tk=>⟨.bl b,H,I.tok tk,rfl,q⟩
 |tup ht =>
  cases ru;obtain⟨_,_,⟨o,h1,h2,_⟩,_⟩:=I.tuple ht;exact y1h PySem.W.kitx_tuple I.kIn ⟨o,h1,h2⟩ k (fun z=>nomatch z) fun tk=>⟨.bl b,H,I.tok tk,rfl,q⟩
 |lst ht =>
  cases ru;obtain⟨_,_,⟨o,n,h1,h2,_⟩,_⟩:=I.list ht;exact y1h PySem.W.kitx_list I.kIn ⟨o,h1,h2⟩ k (fun z=>nomatch z) fun tk=>⟨.bl b,H,I.tok tk,rfl,q⟩
def zhf(K:yyF)(c:String)(te:TE):TE:=tCB (fun xs H Q=>∃x t b,xs=[x,.ty c]/\TyS K H x t/\PySem.W.kitOne K t (.type c)=some b/\Q (.bl b) H) (zbg te (zbg (tC (.ty c)) zg7))
def zaf{x:Str}{c:String}{p q cpos:Pos}{te:TE}(hK:X.K=K)(he:PE X e te)(mi:X.mg "isinstance"=none)(mc:X.mg x=none)(hb:bootBuiltins x=some (.type c))(hg:Gl X "isinstance":=by rfl)(hgc:Gl X x:=by rfl)(hn:x≠"__name__":=by decide)(hd:(x==("__debug__":Str))=false:=by decide)(hs:starEach [e,.Name x q] X.env=(false,eval e X.env)::starEach [.Name x q] X.env:=by rfl)(hpl:(backTo cpos (starEach [.Name x q] X.env)).any (·.1)=false:=by rfl) : PE X (.Call (.Name "isinstance" p) [e,.Name x q] [] cpos) (zhf K c te) :=
 z0h (zh3 K c hK) hg mi boot_isinstance (z02 he (z02 (zdI (v:=.ty c) hgc mc hb rfl hn hd) z05) hs) (by decide) (by decide) hs hpl
end
mutual
def D.few:D->Prop
 |.tup a=>a.length<=5000/\D.fewL a
 |.lst a=>a.length<=5000/\D.fewL a
 |_=>True
def D.fewL:List D->Prop
 |[]=>True
 |d::ds=>D.few d/\D.fewL ds
end
theorem D.fewL_get:∀{ds:List D}{j:Nat}{d:D},D.fewL ds->ds[j]?=some d->D.few d
 |[],_,_,_,h=>by simp at h
 |_::_,0,_,h,e=>by
  simp only[D.fewL]at h;simp at e;subst e;exact h.1
 |_::_,j+1,_,h,e=>by simp only[D.fewL]at h;exact D.fewL_get h.2 (by simpa using e)
theorem D.fewL_ints:∀ns:List Int,D.fewL (ns.map D.int)
 |[]=>by simp only[y0T,D.fewL]
 |n::r=>by simp only[y0k,D.fewL,D.few];exact⟨trivial,D.fewL_ints r⟩
theorem D.depL_ints:∀ns:List Int,D.depL (ns.map D.int)=0
 |[]=>by simp only[y0T,D.depL]
 |n::r=>by simp only[y0k,D.depL,D.dep,D.depL_ints r];rfl
end L2
namespace Gu
open PySem L2
def cell(ns:List Int)(i:Nat):Int:=if i<ns.length then ns.getD i 0 else if ns.length=0 then 29*i+5 else ns.getD (i%ns.length) 0%1000003+103*i
def z3p(ns:List Int)(i:Nat):Int:=2+cell ns i%4
def z4X(ns:List Int)(i:Nat):2<=z3p ns i:=by unfold z3p;have:=y1N (cell ns i) (show(4:Int)≠0 by decide);lia
def z93(ns:List Int)(i:Nat):z3p ns i<=5:=by unfold z3p;have:=y1p (cell ns i) (show(0:Int)<4 by decide);lia
def zd6(ns:List Int)(i:Nat):Nat:=(z3p ns i).toNat
def zdv(ns:List Int)(i:Nat):2<=zd6 ns i:=by unfold zd6;have:=z4X ns i;lia
def ze0(ns:List Int)(i:Nat):zd6 ns i<=5:=by unfold zd6;have:=z93 ns i;lia
def zbG(ns:List Int)(i:Nat):((zd6 ns i:Nat):Int)=2+cell ns i%4:=by unfold zd6;have:=z4X ns i;unfold z3p at *;lia
def z0x(n:Nat):List Int:=(List.range n).map fun(i:Nat)=>(i:Int)
def z0H(n:Nat):(z0x n).length=n:=by simp[z0x]
def z2f{n i:Nat}(h:i<n):(z0x n)[i]?=some (i:Int):=by simp[z0x,h]
def z1d{n:Nat}{x:Int}:x∈z0x n↔0<=x/\x<n:=by
 constructor
 .intro h;obtain⟨i,hi,rfl⟩:=y0f.mp h;have:=y14.mp hi;lia
 .intro⟨h0,h1⟩;exact y0f.mpr ⟨x.toNat,y14.mpr (by lia),by lia⟩
def z95(n:Nat):(z0x n).Nodup:=by unfold z0x;rw[y1S,y1E];exact List.Pairwise.imp (fun h=>by lia) List.nodup_range
def z6Q(n:Nat):zbs 0 n=(z0x n).map V.int:=by unfold zbs z0x;rw[y0I];refine y0L fun i _=>?_;simp
theorem z2p:∀(l:List Int)(i:Nat)(h:i<l.length),(l[i]::l.eraseIdx i).Perm l
 |[],_,h=>by simp at h
 |a::r,0,_=>List.Perm.refl _
 |a::r,i+1,h=>by have ih:=z2p r i (by simpa using h);show(r[i]'(by simpa using h)::a::r.eraseIdx i).Perm (a::r);exact(List.Perm.swap _ _ _).trans (ih.cons a)
def zd0:Nat->Int->List Int->List Int
 |0,_,_=>[]
 |k+1,p,left=>left.getD (p%(left.length:Int)).toNat 0::zd0 k (p/(left.length:Int)) (left.eraseIdx (p%(left.length:Int)).toNat)
def z9n(pick:Int)(n:Nat):List Int:=zd0 n pick (z0x n)
theorem z6j:∀(k:Nat)(p:Int)(left:List Int),left.length=k->(zd0 k p left).Perm left
 |0,_,left,h=>by
  have:left=[]:=List.length_eq_zero_iff.mp h;subst this;exact List.Perm.refl _
 |k+1,p,left,h=>by
  have hpos:(0:Int)<left.length:=by lia
  have h0:=y1N p (show(left.length:Int)≠0 by lia);have h1:=y1p p hpos;have hi:(p%(left.length:Int)).toNat<left.length:=by lia
  unfold zd0;have e:left.getD (p%(left.length:Int)).toNat 0=left[(p%(left.length:Int)).toNat]:=by simp[hi]
  rw[e];have ih:=z6j k (p/(left.length:Int)) (left.eraseIdx (p%(left.length:Int)).toNat) (by rw[y2X hi];lia);exact(ih.cons _).trans (z2p _ _ hi)
def z57(pick:Int)(n:Nat):(z9n pick n).Perm (z0x n):=z6j n pick (z0x n) (z0H n)
def IsP(n:Nat)(p:List Int):Prop:=p.Perm (z0x n)
def IsP.len{n:Nat}{p:List Int}(h:IsP n p):p.length=n:=by rw[List.Perm.length_eq h,z0H]
def zby(one other:List Int):List Int:=one.map fun x=>other.getD x.toNat 0
def zhj(p:List Int):List Int:=(z0x p.length).map fun k=>((p.idxOf k:Nat):Int)
end Gu
namespace L2
open PySem PySem.Spec PyProof.Rows PySem.SeqAt
instance:DecidableEq D:=fun a b=>if h:D.eq a b=true then isTrue (D.eq_of h)else isFalse fun e=>h (by rw[e];exact D.eq_refl b)
def D.dec(a b:D):decide (a=b)=D.eq a b:=by
 by_cases h:D.eq a b=true
 .rw[y1A (D.eq_of h),h]
 .rw[y1z (fun e=>h (by rw[e];exact D.eq_refl b)),y1F.mpr h]
mutual
def Hd(h:Heap):D->Value->Prop
 |.int i,v=>∃t,v=.int i t
 |.tup ds,v=>∃(a:Addr) (o:Obj) (its:Array Value) (n:Nat),v=.ref a/\h.get? a=some o/\o.cls=.type "tuple"/\o.data=.seq its n/\HdL h ds its.toList
 |_,_=>False
def HdL(h:Heap):List D->List Value->Prop
 |[],vs=>vs=[]
 |d::ds,vs=>∃v r,vs=v::r/\Hd h d v/\HdL h ds r
end
mutual
def D.hash:D->Int
 |.int i=>hashInt i
 |.tup ds=>reduceHash (Builtin.Tuple.tupleHashOf (D.hashL ds))
 |_=>0
def D.hashL:List D->List Int
 |[]=>[]
 |d::ds=>D.hash d::D.hashL ds
end
mutual
def D.draws:D->Nat
 |.tup ds=>D.drawsL ds+1
 |_=>1
def D.drawsL:List D->Nat
 |[]=>0
 |d::ds=>D.draws d+D.drawsL ds
end
theorem D.hashL_app:∀a b:List D,D.hashL (a++b)=D.hashL a++D.hashL b
 |[],b=>by simp only[y1r,D.hashL]
 |d::a,b=>by simp only[y2w,D.hashL,D.hashL_app a b]
theorem D.drawsL_app:∀a b:List D,D.drawsL (a++b)=D.drawsL a+D.drawsL b
 |[],b=>by simp only[y1r,D.drawsL,y1G]
 |d::a,b=>by simp only[y2w,D.drawsL,D.drawsL_app a b,y2P]
theorem HdL.length{h:Heap}:∀{ds:List D}{vs:List Value},HdL h ds vs->ds.length=vs.length
 |[],_,h=>by simp only[HdL]at h;subst h;rfl
 |d::ds,_,h=>by simp only[HdL]at h;obtain⟨v,r,rfl,_,q⟩:=h;rw[y0H,y0H,HdL.length q]
theorem HdL.get{h:Heap}:∀{ds:List D}{vs:List Value}{i:Nat}{d:D},HdL h ds vs->ds[i]?=some d->∃v,vs[i]?=some v/\Hd h d v
 |[],_,_,_,_,e=>by simp at e
 |d::ds,_,0,_,h,e=>by
  simp only[HdL]at h;obtain⟨v,r,rfl,q,_⟩:=h;simp at e;subst e;exact⟨v,rfl,q⟩
 |d::ds,_,i+1,d',h,e=>by simp only[HdL]at h;obtain⟨v,r,rfl,_,q⟩:=h;obtain⟨v',h1,h2⟩:=HdL.get (i:=i) q (by simpa using e);exact⟨v',by simpa using h1,h2⟩
mutual
theorem Hd.keep{h h':Heap}(k:∀a o its n,h.get? a=some o->o.cls=.type "tuple"->o.data=.seq its n->h'.get? a=some o):∀{d:D} {v:Value},Hd h d v->Hd h' d v
 |.int _,_,q=>by simp only[Hd]at q⊢;exact q
 |.tup ds,_,q=>by
  simp only[Hd]at q⊢;obtain⟨a,o,its,n,e,h1,h2,h3,h4⟩:=q;exact⟨a,o,its,n,e,k a o its n h1 h2 h3,h2,h3,HdL.keep k h4⟩
 |.non,_,q=>by simp only[Hd]at q
 |.bl _,_,q=>by simp only[Hd]at q
 |.str _,_,q=>by simp only[Hd]at q
 |.lst _,_,q=>by simp only[Hd]at q
theorem HdL.keep{h h':Heap}(k:∀a o its n,h.get? a=some o->o.cls=.type "tuple"->o.data=.seq its n->h'.get? a=some o):∀{ds:List D} {vs:List Value},HdL h ds vs->HdL h' ds vs
 |[],_,q=>by simp only[HdL]at q⊢;exact q
 |d::ds,_,q=>by simp only[HdL]at q⊢;obtain⟨v,r,e,q1,q2⟩:=q;exact⟨v,r,e,Hd.keep k q1,HdL.keep k q2⟩
end
mutual
theorem Hd.inj{h:Heap}:∀{d e:D}{v:Value},Hd h d v->Hd h e v->d=e
 |.int _,e,v,p,q=>by
  simp only[Hd]at p;obtain⟨t,rfl⟩:=p;cases e<;>simp only[Hd]at q
  .obtain⟨t',e⟩:=q;injection e with e;rw[e]
  .obtain⟨a,_,_,_,e,_⟩:=q;cases e
 |.tup ds,e,v,p,q=>by
  simp only[Hd]at p;obtain⟨a,o,its,n,rfl,h1,h2,h3,h4⟩:=p;cases e<;>simp only[Hd]at q
  .obtain⟨t',e⟩:=q;cases e
  .obtain⟨b,o',its',n',e,g1,g2,g3,g4⟩:=q;cases e;rw[h1]at g1;cases g1;rw[h3]at g3;injection g3 with e1 _;subst e1;rw[HdL.inj h4 g4]
 |.non,_,_,q,_=>by simp only[Hd]at q
 |.bl _,_,_,q,_=>by simp only[Hd]at q
 |.str _,_,_,q,_=>by simp only[Hd]at q
 |.lst _,_,_,q,_=>by simp only[Hd]at q
theorem HdL.inj{h:Heap}:∀{ds es:List D}{vs:List Value},HdL h ds vs->HdL h es vs->ds=es
 |[],[],_,_,_=>rfl
 |[],_::_,_,p,q=>by
  simp only[HdL]at p q;obtain⟨_,_,e,_⟩:=q;rw[p]at e;cases e
 |_::_,[],_,p,q=>by
  simp only[HdL]at p q;obtain⟨_,_,e,_⟩:=p;rw[q]at e;cases e
 |d::ds,e::es,_,p,q=>by simp only[HdL]at p q;obtain⟨v,r,rfl,p1,p2⟩:=p;obtain⟨u,w,eq,q1,q2⟩:=q;cases eq;rw[Hd.inj p1 q1,HdL.inj p2 q2]
end
section
variable{prog:Program}{w:World}
def z9J:∀(n:Nat){A:Around}{E:yyE}{s:Shared}{d:D}{v:Value}{Q:Int->Shared->Prop},D.dep d<=n->A.units+n<cLine->Hd s.heap d v->Q (D.hash d) { s with toks:=s.toks+D.draws d }->wpAny (model prog w) A (pyHash v) Q E s:=by
 intro n;induction n with
 |zero =>
  intro A E s d v Q hd hu hv h;cases d<;>simp only[Hd]at hv<;>simp only[D.dep,Nat.le_zero,y32,y3L,and_false]at hd;obtain⟨t,rfl⟩:=hv;exact wpAny_pyHash_int h
 |succ n ih =>
  intro A E s d v Q hd hu hv h;cases d with
  |int i =>
   simp only[Hd]at hv;obtain⟨t,rfl⟩:=hv;exact wpAny_pyHash_int h
  |tup ds =>
   simp only[Hd]at hv;simp only[D.dep]at hd;obtain⟨a,o,its,m,rfl,ho,hc,hdd,hi⟩:=hv;have hT:s.TypeIs (.ref a) "tuple":=⟨o,ho,hc⟩;have hin:A.in1.units+n<cLine:=by show A.units+1+n<cLine;lia
   unfold pyHash;first|unfold pyHashByItsType|skip
   first|refine y02 (wpAny_cRoomFor_or (.inr (show A.units<cLine by lia)) ?_)|skip
   refine y02 (y2L hT y2Q.lookup ?_);show wpAny _ _ (if(some (Value.builtin "tuple.__hash__")==some Value.none)=true
    then _ else _) Q E s
   rw[if_neg (by rw[beq_builtin_none];exact y0C)];refine y02 (y2L hT y2Q.lookup ?_);show wpAny _ _ (callSpecialIfBoundUnlessNone? (.ref a) "__hash__" _
    >>= _) Q E s
   refine y02 (wpAny_callSpecialIfBoundUnlessNone?_slot hT y2Q (y1s y2Q
    hT F.entry_tuple_hash ?_ (F.args_tuple_hash_1 _)))
   show wpAny _ _ (Builtin.Tuple.tupleItemsOf (.ref a)>>=_) _ _ s;refine y02 (wpAny_tupleItemsOf ho hdd (y02 ?_));rw[<-y2E];refine y2x _ (fun z1k (b:Array Int) s'=>∃done left,ds=done++left/\HdL s.heap left z1k/\b.toList=D.hashL done/\s'={ s with toks:=s.toks+D.drawsL done }) _ ?_ ?_ _ _ ⟨[],ds,rfl,hi,by simp only[D.hashL],by simp only[D.drawsL,y35]⟩
   .rintro x z1k b s' ⟨done,left,e,hl,hb,rfl⟩;cases left with
    |nil=>simp only[HdL]at hl;cases hl
    |cons k ks =>
     simp only[HdL]at hl;obtain⟨v',r,ev,q1,q2⟩:=hl;cases ev;have hk:D.dep k<=n:=by
      have z:ds[done.length]?=some k:=by rw[e];simp
      have:=D.depL_get z;lia
     refine y02 (ih hk hin q1 ?_);have fin:∃done' left',ds=done'++left'/\HdL s.heap left' z1k/\(b.push (D.hash k)).toList=D.hashL done'/\({ s with toks:=s.toks+D.drawsL done+D.draws k }:Shared)={ s with toks:=s.toks+D.drawsL done' } :=
      ⟨done++[k],ks,by rw[e];simp,q2,by rw[D.hashL_app,<-hb];simp[D.hashL],by rw[D.drawsL_app];simp only[D.drawsL,y35,y2P]⟩
     first
      |exact y08 fin
      |exact y02 (y08 (y08 fin))
   .rintro b s' ⟨done,left,e,hl,hb,rfl⟩;cases left with
    |cons k ks=>simp only[HdL]at hl;obtain⟨_,_,e,_⟩:=hl;cases e
    |nil =>
     rw[y1L]at e;subst e;show wpAny _ _ (retInt (Builtin.Tuple.tupleHashOf b.toList))
      _ _ _
     rw[hb];refine wpAny_ret_mkInt ?_;show wpAny _ _ (if(decide (-(2:Int)^63<=Builtin.Tuple.tupleHashOf (D.hashL ds))&&decide (Builtin.Tuple.tupleHashOf (D.hashL ds)<2^63))=true then _ else _) Q E _;simp only[D.hash]at h;unfold reduceHash at h;simp only[D.draws]at h;by_cases hr:(decide (-(2:Int)^63<=Builtin.Tuple.tupleHashOf (D.hashL ds))&&decide (Builtin.Tuple.tupleHashOf (D.hashL ds)<2^63))=true
     .rw[if_pos hr];rw[if_pos hr]at h;exact y08 (by simpa[y2P]using h)
     .rw[if_neg hr];rw[if_neg hr]at h;exact y02 (y2R (y08 (by simpa[y2P]using h)))
  |non=>simp only[Hd]at hv
  |bl _=>simp only[Hd]at hv
  |str _=>simp only[Hd]at hv
  |lst _=>simp only[Hd]at hv
end
open PySem PySem.Spec PyProof.Rows PySem.SeqAt
section
variable{prog:Program}{w:World}
def zas{s:Shared}:∀(n:Nat)(A:Around){d e:D}{v u:Value},D.dep d<=n->A.units+n<cLine->Hd s.heap d v->Hd s.heap e u->EqAt A s v u (D.eq d e):=by
 intro n;induction n with
 |zero =>
  intro A d e v u hd hu hv hx;cases d<;>simp only[Hd]at hv<;>simp only[D.dep,Nat.le_zero,y32,y3L,and_false]at hd;obtain⟨t,rfl⟩:=hv;cases e<;>simp only[Hd]at hx
  .obtain⟨t',rfl⟩:=hx;simp only[D.eq];exact EqAt.int_int _ _ _ _
  .obtain⟨a,o,its,m,rfl,ho,hc,hdd,hi⟩:=hx;simp only[D.eq];exact EqAt.int_tuple _ _ (items:=its) ⟨o,ho,hc,m,hdd⟩ (by lia)
 |succ n ih =>
  intro A d e v u hd hu hv hx;have hin:A.in1.units+n<cLine:=by show A.units+1+n<cLine;lia
  cases d with
  |int i=>exact ih A (y0B _) (by lia) hv hx
  |tup ds =>
   simp only[Hd]at hv;simp only[D.dep]at hd;obtain⟨a,o,its,m,rfl,ho,hc,hdd,hi⟩:=hv;have ta:s.heap.IsTuple a its:=⟨o,ho,hc,m,hdd⟩;cases e with
   |int j =>
    simp only[Hd]at hx;obtain⟨t',rfl⟩:=hx;simp only[D.eq];exact EqAt.tuple_int _ _ ta (by lia)
   |tup es =>
    have inj:Value.ref a=u->D.tup ds=D.tup es:=fun z=>Hd.inj (h:=s.heap) (v:=u) (by rw[<-z];simp only[Hd];exact⟨a,o,its,m,rfl,ho,hc,hdd,hi⟩) hx;simp only[Hd]at hx;obtain⟨b,o',its',m',rfl,ho',hc',hdd',hi'⟩:=hx;have tb:s.heap.IsTuple b its':=⟨o',ho',hc',m',hdd'⟩;have e1:its.size=ds.length:=by have:=hi.length;simp at this;lia
    have e2:its'.size=es.length:=by have:=hi'.length;simp at this;lia
    have z:=RcAt.tuples (A:=A) (e:=D.at_ ds es) ta tb (by lia) (fun j h1 h2=>by
     have g1:ds[j]?=some ds[j]:=y00 (by lia);have g2:es[j]?=some es[j]:=y00 (by lia);obtain⟨x1,k1,q1⟩:=hi.get g1;obtain⟨x2,k2,q2⟩:=hi'.get g2;have z1:x1=its[j]:=by simp[h1]at k1;exact k1.symm
     have z2:x2=its'[j]:=by simp[h2]at k2;exact k2.symm
     have z3:D.at_ ds es j=D.eq ds[j] es[j]:=by unfold D.at_;rw[g1,g2]
     rw[z3,<-z1,<-z2];exact ih A.in1 (y0S (D.depL_get g1) (by lia)) hin q1 q2)
    rw[e1,e2,D.all_eqL]at z;simp only[D.eq];by_cases hab:a=b
    .have:=inj (by rw[hab]);injection this with this;subst this hab;rw[D.eqL_refl];exact EqAt.same _
    .exact EqAt.of_refs hab z
   |non=>simp only[Hd]at hx
   |bl _=>simp only[Hd]at hx
   |str _=>simp only[Hd]at hx
   |lst _=>simp only[Hd]at hx
  |non=>simp only[Hd]at hv
  |bl _=>simp only[Hd]at hv
  |str _=>simp only[Hd]at hv
  |lst _=>simp only[Hd]at hv
def z9r{A:Around}{E:yyE}{s:Shared}:∀(n:Nat){d:D}{v:Value}{Q:Bool->Shared->Prop},D.dep d<=n->Hd s.heap d v->Q true s->wpAny (model prog w) A (eqIsQuiet n v) Q E s:=by
 have flat:∀(n:Nat){i:Int}{t:Tok}{Q:Bool->Shared->Prop},Q true s->wpAny (model prog w) A (eqIsQuiet n (.int i t)) Q E s:=fun n i t Q h=>by rw[eqIsQuiet_byValue n (v:=.int i t) rfl];exact y08 h
 intro n;induction n with
 |zero =>
  intro d v Q hd hv h;cases d<;>simp only[Hd]at hv<;>simp only[D.dep,Nat.le_zero,y32,y3L,and_false]at hd;obtain⟨t,rfl⟩:=hv;exact flat 0 h
 |succ n ih =>
  intro d v Q hd hv h;cases d with
  |int i =>
   simp only[Hd]at hv;obtain⟨t,rfl⟩:=hv;exact flat _ h
  |tup ds =>
   simp only[Hd]at hv;simp only[D.dep]at hd;obtain⟨a,o,its,m,rfl,ho,hc,hdd,hi⟩:=hv;have hT:s.TypeIs (.ref a) "tuple":=⟨o,ho,hc⟩;unfold eqIsQuiet;refine y02 (y2L hT F.slot_tuple_eq.lookup ?_);show wpAny _ _ (isInstance (.ref a) (.type "tuple")
    >>= _) _ _ s
   refine y02 (y30 hT isSubtype_tuple_tuple ?_);simp only[y1O,y06,y0W];refine y02 (y3q ho hdd (y02 ?_));show wpAny _ _ (forIn its _ _) _ _ s;rw[<-y2E];refine y2x _ (fun z1k r s'=>r.1=none/\s'=s/\∃left,HdL s.heap left z1k/\D.depL left<=n) _ ?_ ?_ _ _ ⟨rfl,rfl,ds,hi,by lia⟩
   .rintro x z1k r s' ⟨hr,rfl,left,hl,hdl⟩;cases left with
    |nil=>simp only[HdL]at hl;cases hl
    |cons k ks =>
     simp only[HdL]at hl;simp only[D.depL]at hdl;obtain⟨v',q,ev,q1,q2⟩:=hl;cases ev;refine y02 (ih (by lia) q1 ?_);simp only[y1O,y06,y0W];exact y08 ⟨rfl,rfl,ks,q2,by lia⟩
   .rintro⟨r1,r2⟩ s' ⟨hr,rfl,_⟩;simp only at hr;subst hr;exact y08 h
  |non=>simp only[Hd]at hv
  |bl _=>simp only[Hd]at hv
  |str _=>simp only[Hd]at hv
  |lst _=>simp only[Hd]at hv
def z1o(prog:Program)(w:World):HeapKind prog w D where
 is:=fun h d a=>Hd h d (.ref a)/\D.dep d<=8
 hash:=D.hash
 draws:=D.draws
 room:=fun A=>A.units+8<cLine
 inj:=fun hx hy=>Hd.inj hx.1 hy.1
 keeps:=fun{h h' k a d o es ep} hx ho hd hs=>⟨Hd.keep (fun b o' its n e c q=>(hs.2 b (by rintro rfl;rw[ho]at e;cases e;rw[hd]at q;cases q)).trans e) hx.1,hx.2⟩
 pyHash:=fun hu hk h=>z9J 8 hk.2 hu hk.1 h
 eqBool:=fun hu hx hy h=>by rw[D.dec]at h;exact zas 8 _ hx.2 hu hx.1 hy.1 _ _ _ _ h
 quiet:=fun hk h=>z9r 8 hk.2 hk.1 h
end
mutual
def D.key:D->Prop
 |.int _=>True
 |.tup ds=>D.keyL ds
 |_=>False
def D.keyL:List D->Prop
 |[]=>True
 |d::ds=>D.key d/\D.keyL ds
end
section
variable{P:Program}{w:World}{K:yyF}{H:Hp}{h:Heap}
mutual
theorem Dr.hd(ok:HOk P w H h):∀{d:D}{v:V}{u:Value},D.key d->Dr K H d v->z0N v u->Hd h d u
 |.int i,v,u,_,q,r=>by
  simp only[Dr]at q;subst q;simp only[Hd];exact r
 |.tup ds,v,u,k,q,r=>by
  simp only[Dr]at q;simp only[D.key]at k;obtain⟨a,vs,rfl,e,q⟩:=q;cases r;obtain⟨_,its,n,rv,h1⟩:=ok a _ e;simp only[Hd];exact⟨a,_,its.toArray,n,rfl,h1,rfl,rfl,by simpa using DrL.hd ok k q rv⟩
 |.non,_,_,k,_,_=>by simp only[D.key]at k
 |.bl _,_,_,k,_,_=>by simp only[D.key]at k
 |.str _,_,_,k,_,_=>by simp only[D.key]at k
 |.lst _,_,_,k,_,_=>by simp only[D.key]at k
theorem DrL.hd(ok:HOk P w H h):∀{ds:List D}{vs:List V}{us:List Value},D.keyL ds->DrL K H ds vs->z0O vs us->HdL h ds us
 |[],vs,us,_,q,r=>by
  simp only[DrL]at q;subst q;cases r;simp only[HdL]
 |d::ds,vs,us,k,q,r=>by
  simp only[DrL]at q;simp only[D.keyL]at k;obtain⟨v,z,rfl,q1,q2⟩:=q;cases r with
  |cons r1 r2 =>
   simp only[HdL];exact⟨_,_,rfl,Dr.hd ok k.1 q1 r1,DrL.hd ok k.2 q2 r2⟩
end
end
open PySem PySem.Spec PyProof.Rows PySem.SeqAt
def zdV(P:Program)(w:World)(a:Addr)(xs:List (D × Addr × Value)):HO :=
 .ext fun h=>(a==sysModules)=false/\∃o es ep,h.get? a=some o/\o.ExactDict/\o.data=.dict es ep/\es.toList=xs.map (entryOfKey (z1o P w))
abbrev KDr(K:yyF)(H:Hp):List (D × V)->List (D × Addr × Value)->Prop:=Paired fun p q=>p.1=q.1/\(D.key p.1/\D.dep p.1<=8/\Dr K H p.1 (.ref q.2.1))/\z0N p.2 q.2.2
def DD(P:Program)(w:World)(K:yyF)(H:Hp)(a:Addr)(kvs:List (D × V)):Prop :=
 ∃xs,H a=some (zdV P w a xs)/\KDr K H kvs xs/\(kvs.map (·.1)).Nodup/\kvs.length<=sizeLine
def KDr.val{K:yyF}{H:Hp}{kvs:List (D × V)}{xs:List (D × Addr × Value)}(r:KDr K H kvs xs)(k:D):z7Z (z2C kvs k) ((atKey xs k).map (·.2)):=by
 induction r with
 |nil=>exact y2c
 |@cons p q ps qs h t ih =>
  obtain⟨h1,_,h2⟩:=h;by_cases e:p.1=k
  .have e':q.1=k:=h1.symm.trans e;have b:atKey (q::qs) k=some q.2:=by simp[atKey,y27,e']
   rw[z2G e,b];exact h2
  .have e':¬q.1=k:=fun z=>e (h1.trans z);have b:atKey (q::qs) k=atKey qs k:=by simp[atKey,y27,e']
   rw[z28 e,b];exact ih
def KDr.repl{K:yyF}{H:Hp}{kvs:List (D × V)}{xs:List (D × Addr × Value)}(r:KDr K H kvs xs)(k:D){y:V}{u:Value}(ry:z0N y u) : KDr K H (kvs.map fun kv=>if kv.1=k then(kv.1,y)else kv) (xs.map (putAt k u)):=by
 induction r with
 |nil=>exact .nil
 |@cons p q ps qs h t ih =>
  rw[y0k,y0k];refine .cons ?_ ih;obtain⟨h1,h2,h3⟩:=h;unfold putAt;by_cases e:p.1=k
  .rw[if_pos e,if_pos (h1.symm.trans e)];exact⟨h1,h2,ry⟩
  .rw[if_neg e,if_neg (fun z=>e (h1.trans z))];exact⟨h1,h2,h3⟩
def KDr.put{K:yyF}{H:Hp}{kvs:List (D × V)}{xs:List (D × Addr × Value)}(r:KDr K H kvs xs)(k:D){b:Addr}{y:V}{u:Value}(hb:D.key k/\D.dep k<=8/\Dr K H k (.ref b))(ry:z0N y u) : KDr K H (z2L kvs k y) (storedH xs k b u):=by
 have e:(kvs.any fun kv=>decide (kv.1=k))=(atKey xs k).isSome:=by rw[z2E,(r.val k).isSome_eq,y3h]
 unfold z2L storedH;rw[e];by_cases q:(atKey xs k).isSome=true
 .rw[if_pos q,if_pos q];exact r.repl k ry
 .rw[if_neg q,if_neg q];exact Paired.snoc r ⟨rfl,hb,ry⟩
def KDr.keys{K:yyF}{H:Hp}{kvs:List (D × V)}{xs:List (D × Addr × Value)}(r:KDr K H kvs xs):kvs.map (·.1)=xs.map (·.1):=by
 induction r with
 |nil=>rfl
 |@cons p q ps qs h t ih=>rw[y0k,y0k,ih,h.1]
def KDr.mono{K:yyF}{H H':Hp}{kvs:List (D × V)}{xs:List (D × Addr × Value)}(r:KDr K H kvs xs)(f:∀d v,D.key d->Dr K H d v->Dr K H' d v):KDr K H' kvs xs :=
 Paired.mapP r fun _ _ z=>⟨z.1,⟨z.2.1.1,z.2.1.2.1,f _ _ z.2.1.1 z.2.1.2.2⟩,z.2.2⟩
theorem DD.mono{P:Program}{w:World}{K:yyF}{H H':Hp}{a:Addr}{kvs:List (D × V)}(h:DD P w K H a kvs)(s:z0d H H'):DD P w K H' a kvs:=by obtain⟨xs,e,r,n,z⟩:=h;exact⟨xs,s _ _ e,r.mono fun _ _ _ q=>q.mono s,n,z⟩
mutual
theorem Dr.keyed{K:yyF}{H H':Hp}(k:∀b xs,H b=some (.tup xs)->H' b=some (.tup xs)):∀{d:D}{v:V},D.key d->Dr K H d v->Dr K H' d v
 |.int _,_,_,h=>by simp only[Dr]at h⊢;exact h
 |.tup ds,_,q,h=>by
  simp only[Dr]at h⊢;simp only[D.key]at q;obtain⟨a,vs,e,z,r⟩:=h;exact⟨a,vs,e,k _ _ z,DrL.keyed k q r⟩
 |.non,_,q,_=>by simp only[D.key]at q
 |.bl _,_,q,_=>by simp only[D.key]at q
 |.str _,_,q,_=>by simp only[D.key]at q
 |.lst _,_,q,_=>by simp only[D.key]at q
theorem DrL.keyed{K:yyF}{H H':Hp}(k:∀b xs,H b=some (.tup xs)->H' b=some (.tup xs)):∀{ds:List D}{vs:List V},D.keyL ds->DrL K H ds vs->DrL K H' ds vs
 |[],_,_,h=>by simp only[DrL]at h⊢;exact h
 |d::ds,_,q,h=>by simp only[DrL]at h⊢;simp only[D.keyL]at q;obtain⟨v,r,e,q1,q2⟩:=h;exact⟨v,r,e,Dr.keyed k q.1 q1,DrL.keyed k q.2 q2⟩
end
section
variable{X:Cx}{pins:yyP}{σ:St}{H:Hp}{s:Shared}{a:Addr}{kvs:List (D × V)}{K:yyF}
def DD.at(I:Inv X pins σ H s)(h:DD X.prog X.w K H a kvs):(a==sysModules)=false/\∃xs,H a=some (zdV X.prog X.w a xs)/\KDr K H kvs xs/\s.heap.DictOfH (z1o X.prog X.w) a xs:=by
 obtain⟨xs,e,r,n,z⟩:=h;obtain⟨⟨hs,o,es,ep,h1,h2,h3,h4⟩,_,_⟩:=I.hok a _ e;refine⟨hs,xs,e,r,o,es,ep,h1,h2,h3,h4,?_,by rw[<-r.keys];exact n⟩;have all:∀{l:List (D × V)}{m:List (D × Addr × Value)},KDr K H l m->∀x∈m,(z1o X.prog X.w).is s.heap x.1 x.2.1:=by
  intro l m q;induction q with
  |nil=>intro x hx;exact nomatch hx
  |@cons p q ps qs hq t ih =>
   intro x hx;rcases y0u.mp hx with e|hx
   .subst e;rw[<-hq.1];exact⟨Dr.hd I.hok hq.2.1.1 hq.2.1.2.2 rfl,hq.2.1.2.1⟩
   .exact ih x hx
 exact all r
def z8d(I:Inv X pins σ H s){d:D}{b:Addr}(k:D.key d)(hd:D.dep d<=8)(h:Dr K H d (.ref b)):(z1o X.prog X.w).is s.heap d b:=⟨Dr.hd I.hok k h rfl,hd⟩
def zf1(K:yyF)(H:Hp)(d:D)(y:V):Prop:=(∃b,y=.ref b)/\D.key d/\D.dep d<=8/\Dr K H d y
variable{o i e f value:Expr}{pos pos' apos cpos:Pos}{td ty tv tx:TE}
def zeH(P:Program)(w:World)(K:yyF)(td ty:TE):TE:=fun σ H Q=>td σ H fun x H1=>ty σ H1 fun y H2=>∃a kvs d v,x=.ref a/\DD P w K H2 a kvs/\zf1 K H2 d y/\z2C kvs d=some v/\Q v H2
def zaN(hu:X.A.units+9<cLine)(ho:PE X o td)(hi:PE X i ty)(hs:zfJ i):PE X (.Subscript o i pos) (zeH X.prog X.w K td ty):=by intro pins s σ H Q I h;refine zbq PySem.F.slot_dict_getitem.lookup hs (z1H (ho pins s σ H _ I h) fun u s1 x H1 I1 rx q1=>z1H (hi pins s1 σ H1 _ I1 q1) fun iv s2 y H2 I2 ry hz9=>?_);obtain⟨a,kvs,d,v,ex,g,⟨⟨b,eb⟩,k1,k2,k3⟩,hv,q2⟩:=hz9;subst ex eb;obtain rfl:u=Value.ref a:=rx;obtain rfl:iv=Value.ref b:=ry;obtain⟨hsm,xs,e,r,dd⟩:=g.at I2;obtain⟨w',hw,rw'⟩:=z7Z.some_of (v:=v) (o:=(atKey xs d).map (·.2)) (by rw[<-hv];exact r.val d);obtain⟨p,hp,hp2⟩:=y1x.mp hw;refine⟨dd.typeIs,wpAny_getItem_heap (show X.A.units+1+8<cLine by lia) (z8d I2 k1 k2 k3) dd hp ?_⟩;rw[hp2];exact⟨v,H2,I2.tok _,rw',q2⟩
def zdi(P:Program)(w:World)(K:yyF)(ty td:TE):TE:=fun σ H Q=>ty σ H fun y H1=>td σ H1 fun x H2=>∃a kvs d,x=.ref a/\DD P w K H2 a kvs/\zf1 K H2 d y/\Q (.bl (!(z2C kvs d).isSome)) H2
def zaq(hu:X.A.units+9<cLine)(hi:PE X i ty)(ho:PE X o td):PC X .NotIn i o (zdi X.prog X.w K ty td):=by intro pins s σ H Q I h;refine z1H (hi pins s σ H _ I h) fun iv s1 y H1 I1 ry q1=>z1H (ho pins s1 σ H1 _ I1 q1) fun u s2 x H2 I2 rx hz9=>?_;obtain⟨a,kvs,d,ex,g,⟨⟨b,eb⟩,k1,k2,k3⟩,q2⟩:=hz9;subst ex eb;obtain rfl:u=Value.ref a:=rx;obtain rfl:iv=Value.ref b:=ry;obtain⟨hsm,xs,e,r,dd⟩:=g.at I2;refine wpAny_notIn_heap (show X.A.units+1+8<cLine by lia) (z8d I2 k1 k2 k3) hsm dd ?_;have q:=(r.val d).isSome_eq;rw[y3h]at q;rw[<-q];exact⟨.bl _,H2,I2.tok _,rfl,q2⟩
def zfM(P:Program)(w:World)(K:yyF)(td ty tv:TE):TS:=fun Dd σ H=>tv σ H fun v H1=>td σ H1 fun x H2=>ty σ H2 fun y H3=>∃a kvs d,x=.ref a/\DD P w K H3 a kvs/\zf1 K H3 d y/\kvs.length<sizeLine /\
 ∀ob,DD P w K (upd H3 a ob) a (z2L kvs d v)->Dd.nx σ (upd H3 a ob)
def z8I{P:Program}{w:World}(h:DD P w K H a kvs):∀b xs,H b=some (.tup xs)->b≠a:=fun b xs e z=>by obtain⟨ys,q,_⟩:=h;rw[z,q]at e;cases e
def z7C(hu:X.A.units+9<cLine)(ho:PE X o td)(hi:PE X i ty)(hv:PE X value tv)(hs:swapsWith value (some (.Subscript o i pos')) pos.line X.env=pure false:=by rfl) : PS X (.Assign [.Subscript o i pos'] value pos) (zfM X.prog X.w K td ty tv):=by
 intro pins s σ H D I h;refine wpAny_Assign_Subscript (z1H (hv pins s σ H _ I h) fun r s1 v H1 I1 rv q1=>z1H (ho pins s1 σ H1 _ I1 q1) fun u s2 x H2 I2 rx q2=>z1H (hi pins s2 σ H2 _ I2 q2) fun iv s3 y H3 I3 ry hz9=>?_) hs;obtain⟨a,kvs,d,ex,g,⟨⟨b,eb⟩,k1,k2,k3⟩,hz,q3⟩:=hz9;subst ex eb;obtain rfl:u=Value.ref a:=rx;obtain rfl:iv=Value.ref b:=ry;obtain⟨hsm,xs,e,rr,dd⟩:=g.at I3;have hlen:xs.length<=sizeLine:=by rw[<-y3G rr];exact y1k hz
 have hl:(z2L kvs d v).length<=sizeLine:=by have:=z29 kvs d v;lia
 refine wpAny_setItem_heap (hsz:=hlen) (show X.A.units+1+8<cLine by lia) (z8d I3 k1 k2 k3) dd fun h' dd' hsb=>?_;obtain⟨q,es,ep,hq,h2,h3,h4,_,h5⟩:=dd';have Iw:Inv X pins σ (upd H3 a (zdV X.prog X.w a (storedH xs d b r))) { s3 with heap:=h',toks:=s3.toks+(z1o X.prog X.w).draws d }:=by refine z5R I3 (by rw[e];exact y2c) hsb ⟨q,hq⟩ ⟨⟨hsm,q,es,ep,hq,h2,h3,h4⟩,⟨q,hq⟩,fun h1 h2' p k=>?_⟩;obtain⟨p0,o1,es1,ep1,p1,p2,p3,p4⟩:=p;exact⟨p0,o1,es1,ep1,k _ p1,p2,p3,p4⟩
 have kt:∀c ys,H3 c=some (.tup ys)->upd H3 a (zdV X.prog X.w a (storedH xs d b r)) c=some (.tup ys):=fun c ys ec=>by rw[z06 (z8I g c ys ec)];exact ec
 refine⟨σ,_,Iw,q3 _ ⟨_,z03,(rr.put d ⟨k1,k2,k3⟩ rv).mono fun d' v' kd q=>q.keyed kt kd,?_,hl⟩⟩;have nd:=h5;have ek:=(rr.put d ⟨k1,k2,k3⟩ rv).keys;rw[ek];exact nd
def zgf(P:Program)(w:World)(K:yyF):TE:=fun _ H Q=>∀p,H p=none->∀ob,DD P w K (upd H p ob) p []->Q (.ref p) (upd H p ob)
def z7I:PE X (.Dict [] [] pos) (zgf X.prog X.w K):=fun pins s σ H Q I h=>by have hb:(s.heap.objs.size==sysModules)=false:=beq_eq_false_iff_ne.mpr (y2Y (y0y I.big));refine wpAny_Dict_empty ⟨.ref s.heap.objs.size,_,I.laid (a:=s.heap.objs.size) (o:=zdV X.prog X.w s.heap.objs.size []) (t':=s.toks) (fun _ _ q=>y05 _ q) (y0d _) ⟨⟨hb,_,#[],0,y0h _ rfl,⟨rfl,rfl,rfl⟩,rfl,rfl⟩,⟨_,y0h _ rfl⟩,fun h1 h2 p k=>?_⟩,rfl,h _ I.fresh _ ⟨[],z03,.nil,y2A,y0B _⟩⟩;obtain⟨p0,o1,es1,ep1,p1,p2,p3,p4⟩:=p;exact⟨p0,o1,es1,ep1,k _ p1,p2,p3,p4⟩
def zfs(P:Program)(w:World)(K:yyF)(td ty tx:TE):TE:=fun σ H Q=>td σ H fun x H1=>∃a kvs0,x=.ref a/\DD P w K H1 a kvs0/\ty σ H1 fun y H2=>tx σ H2 fun z H3=>∃kvs d,DD P w K H3 a kvs/\zf1 K H3 d y/\Q ((z2C kvs d).getD z) H3
def zcJ(hu:X.A.units+9<cLine)(ho:PE X o td)(he:PE X e ty)(hf:PE X f tx)(m:M2 X o "get" apos e f cpos):PE X (.Call (.Attribute o "get" apos) [e,f] [] cpos) (zfs X.prog X.w K td ty tx):=by
 intro pins s σ H Q I h;refine wpAny_Call_method m.base m.few m.line PySem.F.plainAttrs_dict PySem.F.slot_dict_get PySem.F.type_dict_get (z1H (ho pins s σ H _ I h) fun u s1 x H1 I1 rx hz9=>?_);obtain⟨a,kvs0,ex,g0,q1⟩:=hz9;subst ex;obtain rfl:u=Value.ref a:=rx;obtain⟨hsm,xs0,_,_,dd0⟩:=g0.at I1;refine⟨dd0.typeIs,fun b q=>?_,?_⟩
 .cases q;obtain⟨ob,_,_,h1,h2,_⟩:=dd0;exact⟨ob,h1,h2.2.1⟩
 rw[m.trees];refine y3f rfl (y3E (y39 (z1H (he pins s1 σ H1 _ I1 q1) fun iv s2 y H2 I2 ry q2 =>
  y39 (thn (hf pins s2 σ H2 _ I2 q2) fun fv s3 ⟨z,H3,I3,rz,kvs,d,g,⟨⟨b,eb⟩,k1,k2,k3⟩,q3⟩=>Calls.spliced_nil ?_))))
 subst eb;obtain rfl:iv=Value.ref b:=ry;obtain⟨_,xs,_,r,dd⟩:=g.at I3;refine call_meetsIn PySem.F.slot_dict_get dd.typeIs PySem.F.entry_dict_get (PySem.F.args_dict_get_3 _ _ _) (meetsH_dict_get_default (z1o X.prog X.w) a b hsm fv) ⟨show X.A.units+1+8<cLine by lia,d,xs,z8d I3 k1 k2 k3,dd,?_⟩;exact⟨_,H3,I3.tok _,(r.val d).getD rz,q3⟩
end
open PySem PySem.Spec PyProof.Rows PySem.SeqAt
open PySem.AutoSeq1 (wpAny_loadPart')
section
variable{X:Cx}(K:yyF)
def zbH:z2j X (.builtin "len") (fun xs H Q=>∃a kvs,xs=[V.ref a]/\DD X.prog X.w K H a kvs/\Q (.int kvs.length) H):=by
 intro pins s σ H xs us Q I r h;obtain⟨a,kvs,rfl,g,q⟩:=h;obtain⟨u,rfl,ru⟩:=z3U r;cases ru;obtain⟨hsm,xs,_,rr,dd⟩:=g.at I;obtain⟨o,es,ep,ho,hc,hdat,hes,_⟩:=id dd;have hlen:es.size=kvs.length:=by
  have:es.toList.length=xs.length:=by rw[hes,y01]
  rw[y3G rr,<-this];simp
 have hz:kvs.length<=sizeLine:=by obtain⟨_,_,_,_,z⟩:=g;exact z
 have hz2:(kvs.length:Int)<2^63:=by have:=z74;lia
 refine Calls.call_function_entry kind_len plain_len entry_len (args_len1 _) ?_;unfold Builtin.«len»;refine y02 (m:=oneArg "len" _) (y08 ?_);refine y02 (m:=callSpecial? (.ref a) (Str.ofString "__len__")) (y1P (name:=Str.ofString "__len__") dd.typeIs F.slot_dict_len
  (y1s F.slot_dict_len dd.typeIs F.entry_dict_len ?_ (F.args_dict_len_1 _)))
 show wpAny _ _ (dictSize a>>=_) _ _ s;unfold dictSize;refine y02 (y02 (wpAny_dictEntries ho hdat (y08 ?_)));show wpAny _ _ (Builtin.Dict.pendingCount a>>=_) _ _ s;refine y02 (wpAny_pendingCount_other hsm ?_);refine wpAny_ret_mkInt ?_;rw[y35,hlen];refine y02 (y1t (y08 ?_));refine y02 (wpAny_letGo ?_);show wpAny _ _ (if((kvs.length:Nat):Int)<0
  then _ else _) _ _ _
 rw[if_neg (by lia)];show wpAny _ _ (if((kvs.length:Nat):Int) ≥ 2^63
  then _ else _) _ _ _
 rw[if_neg (by lia)];exact y02 (wpAny_mkInt (y08 ⟨_,rfl,.int kvs.length,H,I.tok _,⟨_,rfl⟩,q⟩))
end
open PySem PySem.Spec PyProof.Rows PySem.SeqAt
open PySem.AutoSeq1 (wpAny_loadPart')
theorem z6q:∀{ns:List Int}{its:List Value},z0O (ns.map V.int) its->∃xs:List (Int × Tok),its=xs.map (fun p=>Value.int p.1 p.2)/\xs.map (·.1)=ns
 |[],_,r=>by rw[y0T]at r;cases r;exact⟨[],rfl,rfl⟩
 |n::ns,_,r=>by
  rw[y0k]at r;cases r with
  |cons r rr =>
   obtain⟨t,rfl⟩:=r;obtain⟨xs,rfl,e⟩:=z6q rr;exact⟨(n,t)::xs,rfl,by rw[y0k,e]⟩
section
variable{X:Cx}(K:yyF)
def zgx(hK:X.K=K)(hc:X.calm=true):z2j X (.builtin "max") (fun xs H Q=>∃(p:Addr) (ns:List Int) (M:Int),xs=[.ref p]/\SqL K H p (ns.map V.int)/\M∈ns/\(∀a∈ns,a<=M)/\Q (.int M) H):=by
 subst hK;intro pins s σ H xs us Q I r h;obtain⟨p,ns,M,rfl,hp,hM,hle,q⟩:=h;obtain⟨u,rfl,ru⟩:=z3U r;cases ru;obtain⟨its,rv,pl,hz⟩:=I.list hp;obtain⟨ys,rfl,ey⟩:=z6q rv;have hne:0<ys.length:=by have:0<ns.length:=y29 hM;rw[<-ey,y01]at this;exact this
 have e1:(ys.map fun p=>Value.int p.1 p.2).toArray=intItems ys.toArray:=by unfold intItems;simp
 have pl':=pl.isList;rw[e1]at pl';refine max_intList (xs:=ys.toArray) (I.ok.hd hc) pl' (by simpa using hne) fun v h' tk hv hk=>?_;obtain⟨t,rfl⟩:=intItems_at hv;obtain⟨h1,h2⟩:=argBest_gt (numAt ys.toArray) (ys.toArray.size-1);have emem:∀j,j<ys.length->numAt ys.toArray j∈ns:=fun j hj=>by
  rw[numAt_eq];have:(ys.toArray.toList.map (·.1))=ns:=by simpa using ey
  rw[this];have hjn:j<ns.length:=by rw[<-ey,y01];exact hj
  simp[hjn]
 have hb:argBest (fun i j=>decide (numAt ys.toArray i>numAt ys.toArray j)) (ys.toArray.size-1)<ys.length:=by
  have:ys.toArray.size=ys.length:=by simp
  lia
 have eM:numAt ys.toArray (argBest (fun i j=>decide (numAt ys.toArray i>numAt ys.toArray j)) (ys.toArray.size-1))=M:=by
  refine Int.le_antisymm (hle _ (emem _ hb)) ?_;obtain⟨j,hj,e⟩:=y2t hM;have hjy:j<ys.length:=by rw[<-ey,y01]at hj;exact hj
  have z:=h2 j (by simp;lia);have e2:numAt ys.toArray j=M:=by
   rw[numAt_eq];have:(ys.toArray.toList.map (·.1))=ns:=by simpa using ey
   rw[this];simp[hj,e]
  rw[e2]at z;exact z
 rw[eM];exact⟨.int M,H,I.kept (t':=tk) hk,⟨_,rfl⟩,q⟩
end
section
variable{X:Cx}(P:Program)(w:World)(K:yyF){o i e f value:Expr}{pos pos' apos cpos:Pos}{td ty tv tx:TE}
def zf8(hP:X.prog=P)(hw:X.w=w)(hu:X.A.units+9<cLine)(ho:PE X o td)(hi:PE X i ty)(hs:zfJ i):PE X (.Subscript o i pos) (zeH P w K td ty):=by subst hP hw;exact zaN hu ho hi hs
end
open PySem PySem.Spec PyProof.Rows
class NoE (CX:CXT):Prop where
 no:∀{outer:List Env}{H:Hp}{s:Shared}{e:Value}{s':Shared},¬CX outer H s E0 e s'
def z0T{CX:CXT}[N:NoE CX]{X:Cx}:z75 CX X E0:=fun _ _ _ _ _ _ _ h=>absurd h N.no
def Fun.okc{CX:CXT}{P:Program}{w:World}{K:yyF}{mg:yyS}{base:Heap}{x qual:Str}{st:Stmt}{f:Addr}{fd:FuncData}{N ps:List Str}{k:Nat}{sp:Sp}(F:Fun K x qual st f fd)(S:z0z N ps (z08 st))(len:∀vs H Q E,sp vs H Q E->vs.length=ps.length)(hbody:∀(cdv:Value)(A:Around)(outer:List Env)(s:Shared)(H:Hp)(vs:List V)(Q:VK)(E:XK),z2q k (A.deeper (envOfC qual (z08 st) s.heap.objs.size f cdv))->sp vs H Q E -> ∃t,PSs (z6g CX P w K mg base N qual (z08 st) f cdv A outer s H E).nox (z0Q st) t/\t { nx:=fun _ H'=>Q .non H',rt:=Q } (z4R N vs) H):z0K P w K mg base CX (k+1) f fd ps sp:=by obtain⟨oc,od,kV,doc,pm,an,cdv,ct,osl,rfl,lk,hcd⟩:=F.ex;refine zdl lk hcd S len fun A outer s H vs Q E hr hsp=>?_;obtain⟨t,h,q⟩:=hbody cdv A outer s H vs Q E hr hsp;exact⟨t,h.nox,q⟩
def PS.weak{X:Cx}{st:Stmt}{t:TS}(t':TS)(h:PS X st t)(k:∀D σ H,t' D σ H->t D σ H):PS X st t':=fun pins s σ H D I hw=>h pins s σ H D I (k D σ H hw)
def PT.weak{X:Cx}{e:Expr}{t:TT}(t':TT)(h:PT X e t)(k:∀σ H Q,t' σ H Q->t σ H Q):PT X e t':=fun pins s σ H Q I hw=>h pins s σ H Q I (k σ H Q hw)
def zgL(Pre:St->Hp->Prop):TT:=fun σ H Q=>Pre σ H/\∀c:Bool,Q c H
end L2
namespace Gu
open PySem L2
section
variable{α:Type}[DecidableEq α]
def z2b(o:List α)(g:α):List α:=if g∈o then o else o++[g]
def z0b(o:List α)(gs:List α):List α:=gs.foldl z2b o
def z0s(ks:List α):List α:=z0b [] ks
def z2h(ks:List α):List Int:=ks.map fun k=>(((z0s ks).idxOf k:Nat):Int)
def z0p{o:List α}{g:α}(h:g∈o):z2b o g=o:=if_pos h
def z0q{o:List α}{g:α}(h:g∉o):z2b o g=o++[g]:=if_neg h
def zcG(o:List α)(g:α):g∈z2b o g:=by
 by_cases h:g∈o
 .rw[z0p h];exact h
 .rw[z0q h];simp
def zcy(o:List α)(g:α):∃m,z2b o g=o++m:=by
 by_cases h:g∈o
 .exact⟨[],by rw[z0p h];simp⟩
 .exact⟨[g],z0q h⟩
theorem z0F:∀(gs o:List α),∃m,z0b o gs=o++m
 |[],o=>⟨[],by simp[z0b]⟩
 |g::gs,o=>by obtain⟨m1,e1⟩:=zcy o g;obtain⟨m2,e2⟩:=z0F gs (z2b o g);refine⟨m1++m2,?_⟩;show z0b (z2b o g) gs=_;rw[e2,e1,y0q]
def z1F(o gs:List α)(g:α):z0b o (gs++[g])=z2b (z0b o gs) g:=by unfold z0b;rw[y2o];rfl
def z8Z{o:List α}{g:α}(h:o.Nodup):(z2b o g).Nodup:=by
 by_cases hg:g∈o
 .rw[z0p hg];exact h
 .rw[z0q hg];exact z9N h hg
theorem z1P:∀(gs o:List α),o.Nodup->(z0b o gs).Nodup
 |[],o,h=>h
 |g::gs,o,h=>z1P gs (z2b o g) (z8Z h)
def z2o{o:List α}{g x:α}:x∈z2b o g↔x∈o\/x=g:=by
 by_cases hg:g∈o
 .rw[z0p hg];constructor
  .exact .inl
  .rintro(h|rfl)
   .exact h
   .exact hg
 .rw[z0q hg];simp
theorem z0C:∀{gs o:List α}{x:α},x∈z0b o gs↔x∈o\/x∈gs
 |[],o,x=>by simp[z0b]
 |g::gs,o,x=>by
  have ih:=z0C (gs:=gs) (o:=z2b o g) (x:=x);show x∈z0b (z2b o g) gs↔_;rw[ih,z2o,y0u];constructor
  .rintro((h|h)|h)
   .exact .inl h
   .exact .inr (.inl h)
   .exact .inr (.inr h)
  .rintro(h|h|h)
   .exact .inl (.inl h)
   .exact .inl (.inr h)
   .exact .inr h
theorem z1Y:∀(gs o:List α),(z0b o gs).length<=o.length+gs.length
 |[],o=>by simp[z0b]
 |g::gs,o=>by
  have ih:=z1Y gs (z2b o g);have h1:(z2b o g).length<=o.length+1:=by
   by_cases hg:g∈o
   .rw[z0p hg];lia
   .rw[z0q hg];simp
  show(z0b (z2b o g) gs).length<=_;rw[y0H];lia
def z6K{o m:List α}{g:α}(h:g∈o):(o++m).idxOf g=o.idxOf g:=by rw[List.idxOf_append,if_pos h]
theorem z4h:∀(n:Nat)(o:List Nat),o.Nodup->(∀x∈o,x<n)->o.length<=n
 |0,o,_,h=>by
  cases o with
  |nil=>simp
  |cons a r=>exact absurd (h a (by simp)) (Nat.not_lt_zero _)
 |n+1,o,hn,h=>by
  by_cases hm:n∈o
  .have ih:=z4h n (o.erase n) (hn.erase n) fun x hx=>by
    have h1:=(hn.mem_erase_iff).mp hx;have:=h x h1.2;have:=h1.1;lia
   rw[y36 hm]at ih;lia
  .have ih:=z4h n o hn fun x hx=>by
    have:=h x hx;have:x≠n:=fun e=>hm (e▸hx);lia
   lia
def z6M{n:Nat}{o:List Int}(h:o.Nodup)(hr:∀x∈o,0<=x/\x<(n:Int)):o.length<=n:=by
 have h1:(o.map Int.toNat).Nodup:=by rw[y1S,y1E];refine y37 (fun{a b} ha hb hab e=>?_) (y1S.mp h);have:=hr a ha;have:=hr b hb;exact hab (by lia)
 have h3:=z4h n _ h1 fun x hx=>by obtain⟨y,hy,rfl⟩:=y0f.mp hx;have:=hr y hy;lia
 simpa using h3
end
abbrev Row:=List Int × List Int
def row(rows:List Row)(r:Int):Row:=rows.getD r.toNat ([],[])
structure z0l(n:Nat)(rows:List Row):Prop where
 few:rows.length<=4000
 some:1<=rows.length
 perm:∀r∈rows,IsP n r.1
 len:∀r∈rows,r.2.length=n
 go:∀r∈rows,∀g∈r.2,0<=g/\g<(rows.length:Int)
def z5d(r:Row):D:=.tup [D.its r.1,D.its r.2]
def bfs(rows:List Row):Nat->Nat->List Int->List Int
 |0,_,o=>o
 |f+1,i,o=>match o[i]? with
  |none=>o
  |some r=>bfs rows f (i+1) (z0b o (row rows r).2)
def order(rows:List Row):List Int:=bfs rows (rows.length+1) 0 [0]
def z3d{rows:List Row}{f i:Nat}{o:List Int}{r:Int}(e:o[i]?=some r):bfs rows (f+1) i o=bfs rows f (i+1) (z0b o (row rows r).2):=by
 show(match o[i]? with|none=>o|some r=>bfs rows f (i+1) (z0b o (row rows r).2))=_
 rw[e]
def z2Z{rows:List Row}{f i:Nat}{o:List Int}(e:o.length<=i):bfs rows f i o=o:=by
 cases f with
 |zero=>rfl
 |succ f =>
  show(match o[i]? with|none=>o|some r=>bfs rows f (i+1) (z0b o (row rows r).2))=_
  rw[y0A e]
theorem z64(rows:List Row):∀(f i:Nat)(o:List Int),∃m,bfs rows f i o=o++m
 |0,i,o=>⟨[],by simp[bfs]⟩
 |f+1,i,o=>by
  unfold bfs;cases e:o[i]? with
  |none=>exact⟨[],by simp⟩
  |some r =>
   obtain⟨m1,e1⟩:=z0F (row rows r).2 o;obtain⟨m2,e2⟩:=z64 rows f (i+1) (z0b o (row rows r).2);exact⟨m1++m2,by show bfs rows f (i+1) (z0b o (row rows r).2)=_;rw[e2,e1,y0q]⟩
structure z7l(rows:List Row)(o:List Int):Prop where
 nd:o.Nodup
 rg:∀x∈o,0<=x/\x<(rows.length:Int)
 hd:∃t,o=0::t
def z0n{rows:List Row}{r:Int}(h0:0<=r)(h1:r<(rows.length:Int)):row rows r∈rows:=by
 unfold row;have:r.toNat<rows.length:=by lia
 have e:rows.getD r.toNat ([],[])=rows[r.toNat]:=by simp[this]
 rw[e];exact y0l this
def z7X{rows:List Row}{r:Int}(h0:0<=r)(h1:r<(rows.length:Int)):rows[r.toNat]?=some (row rows r):=by
 unfold row;have:r.toNat<rows.length:=by lia
 simp[this]
def z7l.add{n:Nat}{rows:List Row}{o:List Int}(G:z0l n rows)(L:z7l rows o){r:Int}(h:r∈o):z7l rows (z0b o (row rows r).2):=by
 refine⟨z1P _ _ L.nd,fun x hx=>?_,?_⟩
 .rcases z0C.mp hx with hx|hx
  .exact L.rg x hx
  .exact G.go _ (z0n (L.rg r h).1 (L.rg r h).2) x hx
 .obtain⟨t,e⟩:=L.hd;obtain⟨m,e2⟩:=z0F (row rows r).2 o;exact⟨t++m,by rw[e2,e];rfl⟩
def z7l.len{rows:List Row}{o:List Int}(L:z7l rows o):o.length<=rows.length:=z6M L.nd L.rg
def zcK{n:Nat}{rows:List Row}(G:z0l n rows):z7l rows [0]:=by
 refine⟨by simp,fun x hx=>?_,⟨[],rfl⟩⟩;have:x=0:=by simpa using hx
 have:=G.some;lia
theorem zaa{n:Nat}{rows:List Row}(G:z0l n rows):∀(f i:Nat)(o:List Int),z7l rows o->i<=o.length->rows.length+1<=f+i->(∀j r,j<i->o[j]?=some r->∀g∈(row rows r).2,g∈o) ->
  z7l rows (bfs rows f i o)/\∀r∈bfs rows f i o,∀g∈(row rows r).2,g∈bfs rows f i o
 |0,i,o,L,hi,hf,hc=>by
  have:=L.len;lia
 |f+1,i,o,L,hi,hf,hc=>by
  cases e:o[i]? with
  |none =>
   rw[z2Z (y1X.mp e)];refine⟨L,fun r hr g hg=>?_⟩;obtain⟨j,hj,e2⟩:=y2t hr;have:o.length<=i:=y1X.mp e;exact hc j r (by lia) (by rw[y00 hj,e2]) g hg
  |some r =>
   rw[z3d e];have hr:r∈o:=y0D e;have hil:i<o.length:=(y0a.mp e).1;obtain⟨m,em⟩:=z0F (row rows r).2 o;refine zaa G f (i+1) _ (L.add G hr) (by rw[em,y09];lia) (by lia) fun j r' hj er g hg=>?_;have hjo:j<o.length:=by lia
   have er':o[j]?=some r':=by rw[em,y16 hjo]at er;exact er
   by_cases hji:j=i
   .subst hji;rw[e]at er';cases er';exact z0C.mpr (.inr hg)
   .exact z0C.mpr (.inl (hc j r' (by lia) er' g hg))
def z0m{n:Nat}{rows:List Row}(G:z0l n rows):z7l rows (order rows)/\∀r∈order rows,∀g∈(row rows r).2,g∈order rows :=
 zaa G (rows.length+1) 0 [0] (zcK G) (by simp) (by lia) fun j r hj=>absurd hj (Nat.not_lt_zero _)
def z25(rows:List Row)(o:List Int):List Row:=o.map fun r=>((row rows r).1,(row rows r).2.map fun g=>((o.idxOf g:Nat):Int))
def z0L(rows:List Row):List Row:=z25 rows (order rows)
def z3W(ks:List Int)(rows:List Row):List (Int × List Int):=(ks.zip rows).map fun p=>(p.1,p.2.2.map fun g=>ks.getD g.toNat 0)
def cnt(ks:List Int):Int:=ks.foldl max 0+1
def z4U(rows:List Row):Nat->Int->List Int->List Int
 |0,_,ks=>ks
 |f+1,c,ks=>if c<cnt ks then z4U rows f (cnt ks) (z2h (z3W ks rows))else ks
def z2M(rows:List Row):List Int:=z4U rows (rows.length+1) 0 (z2h (rows.map (·.1)))
def z5F(rows:List Row)(ks:List Int):List Row:=(rows.zip ks).foldl (fun l p=>if p.2=(l.length:Int)then l++[(p.1.1,p.1.2.map fun g=>ks.getD g.toNat 0)]else l) []
def zbU(rows:List Row):List Row:=z5F (z0L rows) (z2M (z0L rows))
def csc(ns:List (Str × NameKind)):Scope:={ kind:=.function,names:=ns,isGenerator:=false,isCoroutine:=false,more:=[] }
def z6w(K:yyF)(H:Hp)(Q:VK)(d:D):Prop:=∀v H',z0d H H'->Dr K H' d v->Q v H'
def z07{H H1:Hp}{p:Addr}{o:HO}(s:z0d H H1)(h:H1 p=none):z0d H (upd H1 p o):=fun b u e=>by have q:=s b u e;rw[z06 (z0e q h)];exact q
def z0c{H H1:Hp}{p:Addr}{o:HO}(s:z0d H H1)(h:H p=none):z0d H (upd H1 p o):=fun b u e=>by rw[z06 (z0e e h)];exact s b u e
def z1x{α β:Type}{l:List α}{i:Nat}{x:α}(f:α->β)(h:l[i]?=some x):(l.take (i+1)).map f=(l.take i).map f++[f x]:=by rw[y0G,h,y0i];rfl
def z2s{n:Nat}(h:n<=4900):n<sizeLine:=Nat.lt_of_le_of_lt h (by decide)
def z0M{n:Nat}(h:n<=5000):n<=sizeLine:=y0S h (by decide)
def z3Q{α:Type}{xs:List α}{k:Int}{v:α}(h0:0<=k)(h:xs[k.toNat]?=some v):atI xs k=some v:=by
 have q:=z0v h
 rwa [show((k.toNat:Nat):Int)=k by lia]at q
theorem z70{α β:Type}(f:α->β):∀(l:List α)(i:Nat),(l.map f).eraseIdx i=(l.eraseIdx i).map f
 |[],_=>rfl
 |_::_,0=>rfl
 |a::r,i+1=>by show f a::(r.map f).eraseIdx i=f a::(r.eraseIdx i).map f;rw[z70 f r i]
structure Blt(mg:yyS):Prop where
 len:mg "len"=none
 tup:mg "tuple"=none
 lst:mg "list"=none
 rng:mg "range"=none
 isi:mg "isinstance"=none
 int:mg "int"=none
 bl:mg "bool"=none
 str:mg "str"=none
 all:mg "all"=none
def zba(ns:List Int):D.dep (D.its ns)=1:=by simp only[D.dep,D.depL_ints]
def zbC{ns:List Int}(h:ns.length<=5000):D.few (D.its ns):=by simp only[D.few];exact⟨by rw[y01];exact h,D.fewL_ints ns⟩
def z9Z{ns:List Int}(h:ns.length<=1000):D.few (D.its ns):=zbC (by lia)
theorem z6e:∀(ns ms:List Int),D.okL (ns.map D.int) (ms.map D.int)
 |[],ms=>by cases ms<;>simp only[y0T,y0k,D.okL]
 |n::r,[]=>by simp only[y0T,y0k,D.okL]
 |n::r,m::q=>by simp only[y0k,D.okL,D.ok];exact⟨trivial,z6e r q⟩
def Dr.its_inv{K:yyF}{H:Hp}{ns:List Int}{v:V}(h:Dr K H (D.its ns) v):∃a,v=.ref a/\H a=some (.tup (ns.map V.int)):=by simp only[Dr]at h;obtain⟨a,vs,rfl,s,r⟩:=h;exact⟨a,rfl,DrL.ints_inv r▸s⟩
def z8J(K:yyF):Sp:=fun vs H Q _=>∃(a:Addr)(ns:List Int)(i:Nat),vs=[.ref a,.int i]/\SqL K H a (ns.map V.int)/\ns.length<=63/\i<=1000/\Q (.int (cell ns i)) H
def z4I(K:yyF):Sp:=fun vs H Q _=>∃(a:Addr)(ns:List Int)(i:Nat),vs=[.ref a,.int i]/\SqL K H a (ns.map V.int)/\ns.length<=63/\i<=1000/\Q (.int (zd6 ns i)) H
def z8x(K:yyF):Sp:=fun vs H Q _=>∃(pick:Int)(n:Nat),vs=[.int pick,.int n]/\n<=1000/\z6w K H Q (D.its (z9n pick n))
def z6c(K:yyF):Sp:=fun vs H Q _=>∃i:Int,vs=[.int i]/\Q (.bl true) H
def z4o(K:yyF)(n:Nat):Sp:=fun vs H Q _=>∃(a b:V)(d:D),vs=[a,b]/\Dr K H d a/\Dr K H d b/\D.dep d<n/\D.few d/\∀H',z0d H H'->Q (.bl true) H'
section
variable{α κ:Type}[DecidableEq α][DecidableEq κ]
def z4L(f:α->κ):Nat->List α->List (κ × V)
 |_,[]=>[]
 |n,a::r=>(f a,V.int (n:Int))::z4L f (n+1) r
abbrev prs(f:α->κ)(u:List α):List (κ × V):=z4L f 0 u
theorem z1O(f:α->κ):∀(n:Nat)(u:List α),(z4L f n u).length=u.length
 |_,[]=>rfl
 |n,a::r=>by simp[z4L,z1O f (n+1) r]
theorem z8c(f:α->κ):∀(n:Nat)(u:List α)(a:α),z4L f n (u++[a])=z4L f n u++[(f a,V.int ((n+u.length:Nat):Int))]
 |n,[],a=>by simp[z4L]
 |n,b::r,a=>by
  have ih:=z8c f (n+1) r a;show(f b,V.int (n:Int))::z4L f (n+1) (r++[a])=(f b,V.int (n:Int))::(z4L f (n+1) r++_);have e:n+1+r.length=n+(b::r).length:=by rw[y0H];lia
  rw[ih,e]
theorem z5X(f:α->κ)(hf:∀x y,f x=f y->x=y):∀(n:Nat)(u:List α)(a:α),z2C (z4L f n u) (f a)=if a∈u then some (V.int ((n+u.idxOf a:Nat):Int))else none
 |n,[],a=>by simp[z4L,z2C]
 |n,b::r,a=>by
  have ih:=z5X f hf (n+1) r a;show z2C ((f b,V.int (n:Int))::z4L f (n+1) r) (f a)=_;by_cases e:b=a
  .subst e;rw[z2G rfl,if_pos (by simp)];simp
  .rw[z28 (p:=(f b,V.int (n:Int))) (fun z=>e (hf _ _ z)),ih];have e1:(b::r).idxOf a=r.idxOf a+1:=by
    rw[y28];have hb:(b==a)=false:=by simpa using e
    rw[hb];rfl
   by_cases hm:a∈r
   .have e2:n+1+r.idxOf a=n+(r.idxOf a+1):=by lia
    rw[if_pos hm,if_pos (by simp[hm]),e1,e2]
   .rw[if_neg hm,if_neg (by simp[hm,y2Y e])]
def z2d(f:α->κ)(hf:∀x y,f x=f y->x=y)(u:List α)(a:α):z2C (prs f u) (f a)=if a∈u then some (V.int ((u.idxOf a:Nat):Int))else none:=by have:=z5X f hf 0 u a;simpa using this
def z6b(f:α->κ)(hf:∀x y,f x=f y->x=y){u:List α}{a:α}(h:a∉u):z2L (prs f u) (f a) (V.int (u.length:Nat))=prs f (u++[a]):=by have e:=z8c f 0 u a;rw[y1G]at e;rw[z5A _ (by rw[z2d f hf,if_neg h])];exact e.symm
end
def z0j(rows:List Row):List D:=rows.map z5d
def z2T(ns:List Int):D.key (D.its ns):=by
 have:∀l:List Int,D.keyL (l.map D.int):=by
  intro l;induction l with
  |nil=>simp only[y0T,D.keyL]
  |cons a r ih=>simp only[y0k,D.keyL,D.key];exact⟨trivial,ih⟩
 simp only[D.key];exact this ns
def zeB(ds:List D):Prop:=∀d∈ds,D.key d/\D.dep d<=8/\∃es,d=.tup es
def z3A(K:yyF):Sp:=fun vs H Q _=>∃(a:Addr)(us:List V)(ds:List D),vs=[.ref a]/\H a=some (.lst us)/\DrL K H ds us/\zeB ds/\ds.length<=4900 /\
 ∀(r:Addr)(H':Hp),z0d H H'->H' r=some (.lst ((z2h ds).map V.int))->Q (.ref r) H'
def zeo{K:yyF}{H:Hp}{d:D}{v:V}(h:D.key d/\D.dep d<=8/\∃es,d=.tup es)(q:Dr K H d v):zf1 K H d v:=by obtain⟨h1,h2,es,rfl⟩:=h;refine⟨?_,h1,h2,q⟩;simp only[Dr]at q;obtain⟨a,vs,e,_⟩:=q;exact⟨a,e⟩
def z1m(H H':Hp):Prop:=∀b xs,H b=some (.tup xs)->H' b=some (.tup xs)
def z1m.of{H H':Hp}(s:z0d H H'):z1m H H':=fun b xs e=>s _ _ e
def z1m.refl(H:Hp):z1m H H:=fun _ _ e=>e
def z1m.trans{H H1 H2:Hp}(a:z1m H H1)(b:z1m H1 H2):z1m H H2:=fun c xs e=>b c xs (a c xs e)
def z1m.up{H H1:Hp}{a:Addr}{o u:HO}(t:z1m H H1)(h:H1 a=some o)(n:∀xs,o≠.tup xs):z1m H (upd H1 a u):=fun b xs e=>by
 have q:=t b xs e;have:b≠a:=fun z=>by rw[z,h]at q;exact n xs (y0b q)
 rw[z06 this];exact q
def zdO(r:Row):D.key (z5d r):=by unfold z5d;simp only[D.key,D.keyL];have h1:=z2T r.1;have h2:=z2T r.2;simp only[D.key]at h1 h2;exact⟨h1,h2,trivial⟩
theorem z2e:∀rs:List Row,D.keyL (z0j rs)
 |[]=>by unfold z0j;simp only[y0T,D.keyL]
 |r::rs=>by have:=z2e rs;unfold z0j at this⊢;simp only[y0k,D.keyL];exact⟨zdO r,this⟩
def z1D{K:yyF}{H:Hp}{r:Row}{v:V}(h:Dr K H (z5d r) v):∃a b c,v=.ref a/\H a=some (.tup [.ref b,.ref c])/\H b=some (.tup (r.1.map V.int))/\H c=some (.tup (r.2.map V.int)):=by unfold z5d at h;simp only[Dr,DrL]at h;obtain⟨a,vs,rfl,e,x,l,rfl,hx,y,l',rfl,hy,rfl⟩:=h;obtain⟨b,us,rfl,eb,rb⟩:=hx;obtain⟨c,ws,rfl,ec,rc⟩:=hy;have e1:=DrL.ints_inv rb;have e2:=DrL.ints_inv rc;subst e1 e2;exact⟨a,b,c,rfl,e,eb,ec⟩
def z4x{K:yyF}{H:Hp}{r:Row}{a b c:Addr}(h:H a=some (.tup [.ref b,.ref c]))(hb:H b=some (.tup (r.1.map V.int)))(hc:H c=some (.tup (r.2.map V.int))):Dr K H (z5d r) (.ref a):=by unfold z5d;exact Dr.tup h (DrL.cons (Dr.tup hb (DrL.ints _)) (DrL.cons (Dr.tup hc (DrL.ints _)) DrL.nil))
def z3v{K:yyF}{H:Hp}{rows:List Row}{us:List V}(h:DrL K H (z0j rows) us){i:Nat}{r:Row}(e:rows[i]?=some r):∃v,us[i]?=some v/\Dr K H (z5d r) v :=
 h.get (by unfold z0j;rw[y04,e];rfl)
def z8o(K:yyF):Sp:=fun vs H Q _=>∃(a:Addr)(b:V)(ks gs:List Int),vs=[.ref a,b]/\H a=some (.lst (ks.map V.int))/\Dr K H (D.its gs) b/\(∀g∈gs,0<=g/\g<(ks.length:Int))/\gs.length<=1000/\z6w K H Q (D.its (gs.map fun g=>ks.getD g.toNat 0))
def z3P(K:yyF)(H:Hp)(a:Addr)(rows:List Row):Prop:=∃us,H a=some (.lst us)/\DrL K H (z0j rows) us
theorem z3P.mono{K:yyF}{H H':Hp}{a:Addr}{rows:List Row}(h:z3P K H a rows)(s:z0d H H'):z3P K H' a rows:=by obtain⟨us,e,d⟩:=h;exact⟨us,s _ _ e,d.mono s⟩
section
variable{α β:Type}[DecidableEq α][DecidableEq β]
theorem z5q(f:α->β)(hf:∀x y,f x=f y->x=y):∀(gs o:List α),z0b (o.map f) (gs.map f)=(z0b o gs).map f
 |[],o=>rfl
 |g::gs,o=>by
  have h1:z2b (o.map f) (f g)=(z2b o g).map f:=by
   by_cases h:g∈o
   .rw[z0p h,z0p (y0f.mpr ⟨g,h,rfl⟩)]
   .have:f g∉o.map f:=fun z=>by
     obtain⟨x,hx,e⟩:=y0f.mp z;exact h (hf _ _ e▸hx)
    rw[z0q h,z0q this,y0i];rfl
  show z0b (z2b (o.map f) (f g)) (gs.map f)=(z0b (z2b o g) gs).map f;rw[h1];exact z5q f hf gs (z2b o g)
theorem z6R(f:α->β)(hf:∀x y,f x=f y->x=y):∀(l:List α)(a:α),(l.map f).idxOf (f a)=l.idxOf a
 |[],a=>rfl
 |b::r,a=>by
  rw[y0k,y28,y28,z6R f hf r a];have:(f b==f a)=(b==a):=by
   by_cases e:b=a
   .subst e;simp
   .have h1:(b==a)=false:=by simpa using e
    have h2:(f b==f a)=false:=by simpa using fun z=>e (hf _ _ z)
    rw[h1,h2]
  rw[this]
def z8K(f:α->β)(hf:∀x y,f x=f y->x=y)(xs:List α):z2h (xs.map f)=z2h xs:=by unfold z2h z0s;have:=z5q f hf xs [];rw[y0T]at this;rw[this,y0I];refine y0L fun x _=>?_;show(((((z0b [] xs).map f).idxOf (f x):Nat)):Int)=_;rw[z6R f hf]
def z35(xs:List α):(z2h xs).length=xs.length:=by unfold z2h;rw[y01]
def z3q(xs:List α):(z0s xs).length<=xs.length:=by have:=z1Y xs [];unfold z0s;simpa using this
def z5V{xs:List α}{k:Int}(h:k∈z2h xs):0<=k/\k<((z0s xs).length:Int):=by unfold z2h at h;obtain⟨x,hx,rfl⟩:=y0f.mp h;have:x∈z0s xs:=z0C.mpr (.inr hx);have:=y0P this;lia
end
theorem zb4:∀(ks:List Int)(m:Int),m<=ks.foldl max m/\∀k∈ks,k<=ks.foldl max m
 |[],m=>⟨y2i _,fun k h=>by simp at h⟩
 |a::r,m=>by
  obtain⟨h1,h2⟩:=zb4 r (max m a);refine⟨Int.le_trans (Int.le_max_left m a) h1,fun k hk=>?_⟩;rcases y0u.mp hk with rfl|hk
  .exact Int.le_trans (Int.le_max_right m k) h1
  .exact h2 k hk
theorem zaj:∀(ks:List Int)(m:Int),ks.foldl max m=m\/ks.foldl max m∈ks
 |[],m=>.inl rfl
 |a::r,m=>by
  rcases zaj r (max m a)with h|h
  .rcases Int.le_total m a with z|z
   .right;show r.foldl max (max m a)∈a::r;rw[h,Int.max_eq_right z];simp
   .left;show r.foldl max (max m a)=m;rw[h,Int.max_eq_left z]
  .right;exact y0e _ h
def z7s{ks:List Int}(hne:ks≠[])(h0:∀k∈ks,0<=k):cnt ks-1∈ks/\∀k∈ks,k<=cnt ks-1:=by
 unfold cnt;have e:ks.foldl max 0+1-1=ks.foldl max 0:=by lia
 rw[e];refine⟨?_,(zb4 ks 0).2⟩;rcases zaj ks 0 with h|h
 .rw[h];cases ks with
  |nil=>exact absurd rfl hne
  |cons a r =>
   have h1:=(zb4 (a::r) 0).2 a (by simp);rw[h]at h1;have h2:=h0 a (by simp);have:a=0:=by lia
   simp[this]
 .exact h
def zfw{ks:List Int}{n:Nat}(hne:ks≠[])(h0:∀k∈ks,0<=k/\k<(n:Int)):cnt ks<=n/\1<=cnt ks:=by obtain⟨h1,h2⟩:=z7s hne fun k hk=>(h0 k hk).1;have:=h0 _ h1;lia
structure z3X(n:Nat)(rows:List Row):Prop where
 some:1<=rows.length
 few:rows.length<=4000
 perm:∀r∈rows,IsP n r.1
 len:∀r∈rows,r.2.length=n
 go:∀r∈rows,∀g∈r.2,0<=g/\g<(rows.length:Int)
def z2F{n:Nat}{rows:List Row}(G:z0l n rows):z3X n (z0L rows):=by
 obtain⟨L,cl⟩:=z0m G;have hl:=L.len;have hm:∀r∈z0L rows,∃x∈order rows,r=((row rows x).1,(row rows x).2.map fun g=>(((order rows).idxOf g:Nat):Int)):=fun r hr=>by unfold z0L z25 at hr;obtain⟨x,hx,e⟩:=y0f.mp hr;exact⟨x,hx,e.symm⟩
 have fl:(z0L rows).length=(order rows).length:=by unfold z0L z25;rw[y01]
 refine⟨?_,by have:=G.few;lia,fun r hr=>?_,fun r hr=>?_,fun r hr g hg=>?_⟩
 .obtain⟨t,e⟩:=L.hd;rw[fl,e];simp
 .obtain⟨x,hx,rfl⟩:=hm r hr;exact G.perm (row rows x) (z0n (L.rg x hx).1 (L.rg x hx).2)
 .obtain⟨x,hx,rfl⟩:=hm r hr;show(List.map _ _).length=n;rw[y01];exact G.len _ (z0n (L.rg x hx).1 (L.rg x hx).2)
 .obtain⟨x,hx,rfl⟩:=hm r hr;obtain⟨y,hy,rfl⟩:=y0f.mp hg;have:=y0P (cl x hx y hy);lia
structure z4S(rows:List Row)(ks:List Int):Prop where
 len:ks.length=rows.length
 rg:∀k∈ks,0<=k/\k<(rows.length:Int)
def zdb{n:Nat}{rows:List Row}(G:z3X n rows):z4S rows (z2h (rows.map (·.1))):=by refine⟨by rw[z35,y01],fun k hk=>?_⟩;have:=z5V hk;have:=z3q (rows.map (·.1));rw[y01]at this;lia
def z6X{rows:List Row}{ks:List Int}(h:z4S rows ks):(z3W ks rows).length=rows.length:=by unfold z3W;rw[y01,y2p,h.len];lia
def zb1{rows:List Row}{ks:List Int}(h:z4S rows ks):z4S rows (z2h (z3W ks rows)):=by have hl:=z6X h;refine⟨by rw[z35,hl],fun k hk=>?_⟩;have:=z5V hk;have:=z3q (z3W ks rows);lia
def zfg{n:Nat}{rows:List Row}{ks:List Int}(G:z3X n rows)(h:z4S rows ks):ks≠[]:=fun e=>by have:=h.len;have:=G.some;subst e;simp at *;lia
def z4T(p:Int × List Int):D:=.tup [.int p.1,D.its p.2]
def z4w{a b:List Int}(e:D.its a=D.its b):a=b:=by
 injection e with e;induction a generalizing b with
 |nil=>cases b with
  |nil=>rfl
  |cons _ _=>cases e
 |cons x r ih=>cases b with
  |nil=>cases e
  |cons y q =>
   rw[y0k,y0k]at e;injection e with e1 e2;injection e1 with e1;rw[e1,ih e2]
def zaY(p q:Int × List Int)(e:z4T p=z4T q):p=q:=by unfold z4T at e;injection e with e;injection e with e1 e2;injection e2 with e2 _;injection e1 with e1;have:=z4w e2;exact y31 e1 this
def z8y(p:Int × List Int):D.key (z4T p):=by unfold z4T;simp only[D.key,D.keyL];have h:=z2T p.2;simp only[D.key]at h;exact⟨trivial,h,trivial⟩
def zbL(p:Int × List Int):D.dep (z4T p)<=8:=by unfold z4T;simp only[D.dep,D.depL,D.depL_ints];decide
theorem z6o:∀ps:List (Int × List Int),D.keyL (ps.map z4T)
 |[]=>by simp only[y0T,D.keyL]
 |p::ps=>by simp only[y0k,D.keyL];exact⟨z8y p,z6o ps⟩
theorem z8l:∀ps:List (List Int),D.keyL (ps.map D.its)
 |[]=>by simp only[y0T,D.keyL]
 |p::ps=>by have:=z2T p;simp only[y0k,D.keyL];exact⟨this,z8l ps⟩
theorem z4Z{rows:List Row}:∀(m:Nat)(c:Int)(ks:List Int),z4S rows ks->z4S rows (z4U rows m c ks)
 |0,_,ks,h=>h
 |m+1,c,ks,h=>by
  unfold z4U;by_cases hc:c<cnt ks
  .rw[if_pos hc];exact z4Z m _ _ (zb1 h)
  .rw[if_neg hc];exact h
def z3C{n:Nat}{rows:List Row}(G:z3X n rows):z4S rows (z2M rows):=z4Z _ _ _ (zdb G)
def z6a(ks:List Int)(l:List Row)(p:Row × Int):List Row:=if p.2=(l.length:Int)then l++[(p.1.1,p.1.2.map fun g=>ks.getD g.toNat 0)]else l
def z24(rows:List Row)(ks:List Int)(i:Nat):List Row:=((rows.zip ks).take i).foldl (z6a ks) []
def z51{rows:List Row}{ks:List Int}(h:ks.length=rows.length):z24 rows ks rows.length=z5F rows ks:=by unfold z24 z5F;rw[y0x (by rw[y2p];lia)];rfl
def z4k{rows:List Row}{ks:List Int}{i:Nat}{r:Row}{k:Int}(e:rows[i]?=some r)(e':ks[i]?=some k):z24 rows ks (i+1)=z6a ks (z24 rows ks i) (r,k):=by unfold z24;rw[y0G,y0V (z:=(r,k)) |>.mpr ⟨e,e'⟩,y2o];rfl
def zag(ks:List Int)(l:List Row)(p:Row × Int):(z6a ks l p).length<=l.length+1:=by
 unfold z6a;split
 .rw[y09];simp
 .lia
def z98(rows:List Row)(ks:List Int)(i:Nat):(z24 rows ks i).length<=i:=by
 unfold z24;have:∀(l:List (Row × Int))(a:List Row),(l.foldl (z6a ks) a).length<=a.length+l.length:=by
  intro l;induction l with
  |nil=>intro a;simp
  |cons p l ih =>
   intro a;have h1:=ih (z6a ks a p);have h2:=zag ks a p;rw[y1Y,y0H];lia
 have h:=this ((rows.zip ks).take i) [];rw[y0w]at h;simp only[y3a]at h;lia
def zc5{n:Nat}{rows:List Row}(G:z0l n rows):(z0L rows).length<=rows.length:=by have:=(z0m G).1.len;unfold z0L z25;rw[y01];exact this
def zgH(m:Nat)(ns:List Int):Prop:=ns.length=m/\∀x∈ns,0<=x/\x<1009
def z3h(K:yyF):Sp:=fun vs H Q _=>∃(c:Int)(m:Nat),vs=[.int c,.int m]/\m<=900/\∀(r:Addr)(H':Hp)(ns:List Int),z0d H H'->H' r=some (.lst (ns.map V.int))->zgH m ns->Q (.ref r) H'
def z7i{ns:List Int}{x:Int}(h:∀x∈ns,0<=x/\x<1009)(hx:0<=x/\x<1009):∀y∈ns++[x],0<=y/\y<1009:=by
 intro y hy;rcases y0g.mp hy with hy|hy
 .exact h y hy
 .rw[y0c.mp hy];exact hx
def z6C{j:Int}(h:(0:Int)<j:=by decide):0<j:=h
def zb8(x:Int):0<=x%1009/\x%1009<1009:=by lia
def zb9(K:yyF):Sp:=fun vs H Q _=>∃(n:Nat)(c:Int),vs=[.int n,.int c]/\2<=n/\n<=5/\∀(r:Addr)(H':Hp)(rows:List Row),z0d H H'->z3P K H' r rows->z0l n rows->rows.length<=8->Q (.ref r) H'
def GI(m:Nat)(H:Hp)(i:Nat)(ys:List V)(H2:Hp):Prop:=∃gs:List Int,ys=gs.map V.int/\gs.length=i/\(∀g∈gs,0<=g/\g<(m:Int))/\z0d H H2
def GI.nil{m:Nat}{H:Hp}{l:Addr}(h:H l=none):GI m H 0 [] (upd H l (.lst [])):=⟨[],rfl,rfl,fun g hg=>by simp at hg,z07 (z0d.refl H) h⟩
def GI.len{m:Nat}{H H2:Hp}{i:Nat}{ys:List V}(h:GI m H i ys H2):ys.length=i:=by obtain⟨gs,rfl,e,_⟩:=h;rw[y01];exact e
def GI.snoc{m:Nat}{H H2:Hp}{i:Nat}{ys:List V}{l:Addr}{o:HO}(h:GI m H i ys H2)(hl:H l=none){g:Int}(hg:0<=g/\g<(m:Int)):GI m H (i+1) (ys++[.int g]) (upd H2 l o):=by
 obtain⟨gs,rfl,e,r,s⟩:=h;refine⟨gs++[g],by rw[y0i];rfl,by rw[y09,e];rfl,fun x hx=>?_,z0c s hl⟩;rcases y0g.mp hx with hx|hx
 .exact r x hx
 .rw[y0c.mp hx];exact hg
structure RIx(K:yyF)(n m:Nat)(c kd:Int)(j:Nat)(ln lr lp:Addr)(H0:Hp)(σ:St)(H:Hp):Prop where
 ex:∃(b:V)(lg:Addr)(p gs:List Int),σ=[some (.int n),some (.int c),some (.ref ln),some (.int m),some (.int kd),some (.ref lr),some (.int j),some (.ref lp),some b,some (.ref lg)]/\z0d H0 H/\Dr K H (D.its p) b/\IsP n p /\
  H lg=some (.lst (gs.map V.int))/\gs.length=n/\∀g∈gs,0<=g/\g<(m:Int)
structure RF(n m j:Nat)(ps:List Int)(lp:Addr)(H0:Hp):Prop where
 n2:2<=n
 n5:n<=5
 jm:j<m
 m8:m<=8
 lp:H0 lp=some (.lst (ps.map V.int))
 len:ps.length=6
 nn:∀p∈ps,0<=p/\p<1009
def tRI(K:yyF):TS:=fun D σ H=>∃(n m:Nat)(c kd:Int)(j:Nat)(ln lr lp:Addr)(ps:List Int)(H0:Hp),RF n m j ps lp H0/\RIx K n m c kd j ln lr lp H0 σ H/\∀σ' H',RIx K n m c kd j ln lr lp H0 σ' H'->D.nx σ' H'
def zf9(K:yyF)(σ:St)(H:Hp):Prop:=∃(n m:Nat)(c kd:Int)(j:Nat)(ln lr lp:Addr)(ps:List Int)(H0:Hp),RF n m j ps lp H0/\RIx K n m c kd j ln lr lp H0 σ H
def GR(n m:Nat)(rs:List Row):Prop:=∀r∈rs,IsP n r.1/\r.2.length=n/\∀g∈r.2,0<=g/\g<(m:Int)
def GR.snoc{n m:Nat}{rs:List Row}{r:Row}(h:GR n m rs)(hr:IsP n r.1/\r.2.length=n/\∀g∈r.2,0<=g/\g<(m:Int)):GR n m (rs++[r]):=fun x hx=>by
 rcases y0g.mp hx with hx|hx
 .exact h x hx
 .rw[y0c.mp hx];exact hr
def GR.good{n m:Nat}{rs:List Row}(h:GR n m rs)(hl:rs.length=m)(h1:1<=m)(h4:m<=4000):z0l n rs:=by subst hl;exact⟨h4,h1,fun r hr=>(h r hr).1,fun r hr=>(h r hr).2.1,fun r hr=>(h r hr).2.2⟩
def zhb{ns:List Int}{i:Nat}(h:zgH 64 ns)(hi:i<8):∃ps:List Int,zbt (ns.map V.int) (some (2+6*(i:Int))) (some (8+6*(i:Int)))=ps.map V.int/\ps.length=6/\∀p∈ps,0<=p/\p<1009:=by
 have hl:=h.1;refine⟨(ns.drop (2+6*i)).take 6,?_,by rw[y0w,y3x];lia,fun p hp=>h.2 p (y24 (y0U hp))⟩;have e1:(2+6*(i:Int))=((2+6*i:Nat):Int):=by lia
 have e2:(8+6*(i:Int))=((8+6*i:Nat):Int):=by lia
 unfold zbt;rw[e1,e2,HT.sIx_nat,HT.sIx_nat,y01,hl,y3b (by lia),y3b (by lia),show 8+6*i-(2+6*i)=6 by lia,List.map_take,List.map_drop]
def z6y{x:Int}(h:0<=x):∃m:Nat,x=(m:Int):=⟨x.toNat,by lia⟩
def zg1(n:Nat)(j:Int):(List.replicate n [V.int j]).flatten=(List.replicate n j).map V.int:=by
 induction n with
 |zero=>rfl
 |succ n ih=>rw[y1V,y1u,ih,y1V];rfl
def zcn(n:Nat):IsP n (z0x n):=List.Perm.refl _
def z7w(x y:Int)(e:(Sum.inl x:Key)=Sum.inl y):x=y:=Sum.inl.inj e
def zdA{o:List Int}(h:o.Nodup){i:Nat}{r:Int}(e:o[i]?=some r):r∉o.take i:=fun z=>by
 have h':(o.take i++o.drop i).Nodup:=by rw[y0O];exact h
 have hr:r∈o.drop i:=y0D (i:=0) (by rw[y2F];exact e);exact(y2S.mp h').2.2 r z r hr rfl
def mk(o:List Int)(vs:List V):List (Key × V):=(o.zip vs).map fun p=>(Sum.inl p.1,p.2)
def FK(f:Int->D):Prop:=∀r,D.key (f r)/\D.dep (f r)<=3
theorem FK.keyL{f:Int->D}(h:FK f):∀o:List Int,D.keyL (o.map f)
 |[]=>by simp only[y0T,D.keyL]
 |r::o=>by simp only[y0k,D.keyL];exact⟨(h r).1,FK.keyL h o⟩
theorem FK.depL{f:Int->D}(h:FK f):∀o:List Int,D.depL (o.map f)<=3
 |[]=>by simp only[y0T,D.depL];lia
 |r::o=>by simp only[y0k,D.depL];have:=(h r).2;have:=FK.depL h o;lia
theorem FK.its(rows:List Row):FK fun r=>D.its (row rows r).1:=fun r=>⟨z2T _,by rw[zba];decide⟩
theorem FK.int(k:Int->Int):FK fun r=>D.int (k r):=fun r=>⟨by simp only[D.key],by simp only[D.dep];decide⟩
def z1y(rows:List Row)(f:Int->D)(r:Int):D:=.tup [f r,.tup ((row rows r).2.map f)]
theorem FK.key{rows:List Row}{f:Int->D}(h:FK f)(r:Int):D.key (z1y rows f r)/\D.dep (z1y rows f r)<=8/\∃es,z1y rows f r=.tup es:=by
 refine⟨?_,?_,_,rfl⟩
 .unfold z1y;simp only[D.key,D.keyL];exact⟨(h r).1,h.keyL _,trivial⟩
 .unfold z1y;simp only[D.dep,D.depL];have:=(h r).2;have:=h.depL (row rows r).2;lia
def z1V(rows:List Row)(o:List Int)(f:Int->D):List D:=o.map (z1y rows f)
def z2y(rows:List Row)(o:List Int)(f:Int->D)(r:Int):Int:=(((z0s (z1V rows o f)).idxOf (z1y rows f r):Nat):Int)
def z2P(rows:List Row)(o:List Int)(f:Int->D):Int->D:=fun r=>.int (z2y rows o f r)
def z2i(rows:List Row)(o:List Int)(f:Int->D):Nat:=(z0s (z1V rows o f)).length
def z6l(rows:List Row)(o:List Int)(f:Int->D):z2i rows o f<=o.length:=by have:=z3q (z1V rows o f);unfold z2i z1V at *;rw[y01]at this;exact this
def z4j(rows:List Row)(o:List Int):Nat->Nat->(Int->D)->(Int->D)
 |0,_,f=>f
 |m+1,many,f=>if many<z2i rows o f then z4j rows o m (z2i rows o f) (z2P rows o f)else z2P rows o f
def z5o(rows:List Row):Int->D:=z4j rows (order rows) (rows.length+2) 0 fun r=>D.its (row rows r).1
def z0J(k:Int->Int)(hs:List Int)(r:Int):List Int:=if k r∈hs.map k then hs else hs++[r]
def z0r(k:Int->Int)(o:List Int):List Int:=o.foldl (z0J k) []
def z1q(rows:List Row)(k:Int->Int)(o:List Int):List Row:=(z0r k o).map fun r=>((row rows r).1,(row rows r).2.map fun g=>((((z0r k o).map k).idxOf (k g):Nat):Int))
def z1s(k:Int->Int)(o:List Int)(r:Int):z0r k (o++[r])=z0J k (z0r k o) r:=by unfold z0r;rw[y2o];rfl
def z0S(k:Int->Int)(o:List Int):(∀r∈o,k r∈(z0r k o).map k)/\(∀r∈z0r k o,r∈o)/\(z0r k o).length<=o.length:=by
 have:∀(o hs:List Int),(∀x∈hs.map k,x∈(o.foldl (z0J k) hs).map k)/\(∀r∈o,k r∈(o.foldl (z0J k) hs).map k)/\(∀r∈o.foldl (z0J k) hs,r∈hs\/r∈o)/\(o.foldl (z0J k) hs).length<=hs.length+o.length:=by
  intro o;induction o with
  |nil=>intro hs;exact⟨fun x h=>h,fun r h=>by simp at h,fun r h=>.inl h,by simp⟩
  |cons a o ih =>
   intro hs;obtain⟨i1,i2,i3,i4⟩:=ih (z0J k hs a);rw[y1Y];have hsub:∀x∈hs.map k,x∈(z0J k hs a).map k:=fun x hx=>by
    unfold z0J;split
    .exact hx
    .rw[y0i];exact y0m _ hx
   have ha:k a∈(z0J k hs a).map k:=by
    unfold z0J;split
    .assumption
    .simp
   have hlen:(z0J k hs a).length<=hs.length+1:=by
    unfold z0J;split
    .lia
    .simp
   refine⟨fun x hx=>i1 x (hsub x hx),fun r hr=>?_,fun r hr=>?_,by rw[y0H];lia⟩
   .rcases y0u.mp hr with rfl|hr
    .exact i1 _ ha
    .exact i2 r hr
   .rcases i3 r hr with h|h
    .unfold z0J at h;split at h
     .exact .inl h
     .rcases y0g.mp h with h|h
      .exact .inl h
      .exact .inr (by rw[y0c.mp h];simp)
    .exact .inr (y0e _ h)
 obtain⟨_,h2,h3,h4⟩:=this o [];refine⟨h2,fun r hr=>?_,by unfold z0r;simpa using h4⟩;rcases h3 r hr with h|h
 .simp at h
 .exact h
def z5Y(k:Int->Int)(a:Int)(o:List Int):∃t,z0r k (a::o)=a::t:=by
 have:∀(o hs:List Int),∃t,o.foldl (z0J k) hs=hs++t:=by
  intro o;induction o with
  |nil=>intro hs;exact⟨[],by simp⟩
  |cons a o ih =>
   intro hs;obtain⟨t,e⟩:=ih (z0J k hs a);rw[y1Y,e];unfold z0J;split
   .exact⟨t,rfl⟩
   .exact⟨[a]++t,by rw[y0q]⟩
 unfold z0r;rw[y1Y];have e:z0J k [] a=[a]:=by unfold z0J;simp
 rw[e];obtain⟨t,e⟩:=this o [a];exact⟨t,e⟩
def zgW:D->Int
 |.int i=>i
 |_=>0
def kOf(rows:List Row)(r:Int):Int:=zgW (z5o rows r)
theorem z6u(rows:List Row)(o:List Int):∀(m many:Nat)(f:Int->D),∃k:Int->Int,z4j rows o (m+1) many f=fun r=>D.int (k r)
 |0,many,f=>by
  unfold z4j;split
  .unfold z4j;exact⟨z2y rows o f,rfl⟩
  .exact⟨z2y rows o f,rfl⟩
 |m+1,many,f=>by
  unfold z4j;split
  .exact z6u rows o m _ _
  .exact⟨z2y rows o f,rfl⟩
def z5s(rows:List Row):z5o rows=fun r=>D.int (kOf rows r):=by obtain⟨k,e⟩:=z6u rows (order rows) (rows.length+1) 0 fun r=>D.its (row rows r).1;have e':z5o rows=fun r=>D.int (k r):=e;funext r;unfold kOf;rw[e'];rfl
def shr(rows:List Row):List Row:=z1q rows (kOf rows) (order rows)
def zfq{n:Nat}{rows:List Row}(G:z0l n rows):∃r t,shr rows=r::t/\IsP n r.1:=by obtain⟨L,_⟩:=z0m G;obtain⟨t,e⟩:=L.hd;obtain⟨t',e'⟩:=z5Y (kOf rows) 0 t;unfold shr z1q;rw[e,e',y0k];have:=G.some;exact(exB rfl (G.perm (row rows 0) (z0n (y2i 0) (show(0:Int)<(rows.length:Int)by lia))))
theorem DD.keyed{P:Program}{w:World}{K:yyF}{H H':Hp}{a:Addr}{kvs:List (D × V)}(h:DD P w K H a kvs)(k:z1m H H')(e:H' a=H a):DD P w K H' a kvs:=by obtain⟨xs,e0,r,n,z⟩:=h;exact⟨xs,by rw[e];exact e0,r.mono fun _ _ q d=>d.keyed k q,n,z⟩
def z6D{κ:Type}[DecidableEq κ]:∀(n:Nat)(u:List κ)(a:κ),a∈u->u.Nodup->z2L (z4L id n u) a (V.int ((n+u.idxOf a:Nat):Int))=z4L id n u:=by
 intro n u a ha hn;have hv:z2C (z4L id n u) a=some (V.int ((n+u.idxOf a:Nat):Int)):=by have:=z5X (κ:=κ) id (fun _ _ e=>e) n u a;rw[if_pos ha]at this;exact this
 unfold z2L;rw[z2E,hv];rw[if_pos (show(some (V.int ((n+u.idxOf a:Nat):Int))).isSome=true from rfl)];clear hv;induction u generalizing n with
 |nil=>rfl
 |cons b u ih =>
  show(if b=a then(b,_)else(b,V.int (n:Int)))::List.map _ (z4L id (n+1) u)=(b,V.int (n:Int))::z4L id (n+1) u;have hnb:=(y1a.mp hn).1;have hnu:=(y1a.mp hn).2;by_cases e:b=a
  .subst e;rw[if_pos rfl];have e1:(b::u).idxOf b=0:=by simp
   rw[e1];congr 1;have:∀(m:Nat)(l:List κ),b∉l->List.map (fun kv:κ × V=>if kv.1=b then(kv.1,V.int ((n+0:Nat):Int))else kv) (z4L id m l)=z4L id m l:=by
    intro m l;induction l generalizing m with
    |nil=>intro _;rfl
    |cons c l ih2 =>
     intro hb;show(if c=b then _ else(c,V.int (m:Int)))::List.map _ (z4L id (m+1) l)=(c,V.int (m:Int))::z4L id (m+1) l;rw[if_neg (fun z=>hb (by rw[z];simp)),ih2 (m+1) (fun z=>hb (y0e _ z))]
   exact this _ _ hnb
  .rw[if_neg e];have ha':a∈u:=by rcases y0u.mp ha with z|z;exact absurd z.symm e;exact z
   have e1:(b::u).idxOf a=u.idxOf a+1:=by
    rw[y28];have hb:(b==a)=false:=by simpa using e
    rw[hb];rfl
   rw[e1,show n+(u.idxOf a+1)=(n+1)+u.idxOf a by lia,ih (n+1) ha' hnu]
def z5G(K:yyF):Sp:=fun vs H Q _=>∃(a:Addr)(n:Nat)(rows:List Row),vs=[.ref a,.int 0]/\z3P K H a rows/\z0l n rows/\n<=60/\z6w K H Q (D.tup (z0j (shr rows)))
def z5w(K:yyF):Sp:=fun vs H Q _=>∃(n:Nat)(c:Int),vs=[.int n,.int c]/\2<=n/\n<=5/\∀(v:V)(H':Hp)(rows:List Row),z0d H H'->z0l n rows->rows.length<=8->Dr K H' (D.tup (z0j (shr rows))) v->Q v H'
section
variable{α β:Type}[DecidableEq α][DecidableEq β]
def z1n(xs:List α)(x:α):z0s (xs++[x])=z2b (z0s xs) x:=z1F [] xs x
def z0G{xs:List α}{x:α}:x∈z0s xs↔x∈xs:=by unfold z0s;rw[z0C];simp
def za9(xs:List α):(z0s xs).Nodup:=z1P xs [] y2A
def z82(xs ys:List α):z0s (xs++ys)=z0b (z0s xs) ys:=by unfold z0s z0b;rw[y2o]
theorem z5i:∀{gs o:List α},(∀g∈gs,g∈o)->z0b o gs=o
 |[],o,_=>rfl
 |g::gs,o,h=>by show z0b (z2b o g) gs=o;rw[z0p (h g (by simp))];exact z5i fun x hx=>h x (y0e _ hx)
theorem z3L:∀{gs o:List α},(o++gs).Nodup->z0b o gs=o++gs
 |[],o,_=>by simp[z0b]
 |g::gs,o,h=>by show z0b (z2b o g) gs=_;have hg:g∉o:=fun z=>(y2S.mp h).2.2 g z g (by simp) rfl;rw[z0q hg,z3L (by rw[y0q];exact h),y0q];rfl
def z9V{l:List α}(h:l.Nodup):z0s l=l:=by have:=z3L (o:=[]) (gs:=l) (by simpa using h);rw[y1r]at this;exact this
theorem z7d(f:Int->α)(f':Int->β):∀l:List Int,(∀x∈l.reverse,∀y∈l.reverse,f' x=f' y->f x=f y) ->
  (z0s (l.reverse.map f)).length<=(z0s (l.reverse.map f')).length/\((z0s (l.reverse.map f')).length<=(z0s (l.reverse.map f)).length->∀x∈l.reverse,∀y∈l.reverse,f x=f y->f' x=f' y)
 |[],_=>⟨y0d _,fun _ x hx=>by simp at hx⟩
 |z::l,h=>by
  rw[y1U]at h⊢;obtain⟨ih1,ih2⟩:=z7d f f' l fun x hx y hy=>h x (y0m _ hx) y (y0m _ hy);have hz:z∈l.reverse++[z]:=by simp
  have hL:∀x,x∈l.reverse->x∈l.reverse++[z]:=fun x hx=>y0m _ hx;rw[y0i,y0i,show List.map f [z]=[f z]from rfl,show List.map f' [z]=[f' z]from rfl,z1n,z1n];generalize l.reverse=o at *;by_cases h1:f' z∈z0s (o.map f')
  .obtain⟨z',hz',ez⟩:=y0f.mp (z0G.mp h1);have ez2:f z'=f z:=h z' (hL _ hz') z hz ez;have h2:f z∈z0s (o.map f):=z0G.mpr (y0f.mpr ⟨z',hz',ez2⟩);rw[z0p h1,z0p h2];refine⟨ih1,fun hc x hx y hy e=>?_⟩;have red:∀x∈o++[z],∃x'∈o,f x'=f x/\f' x'=f' x:=fun x hx=>by
    rcases y0g.mp hx with hx|hx
    .exact⟨x,hx,rfl,rfl⟩
    .rw[y0c.mp hx];exact⟨z',hz',ez2,ez⟩
   obtain⟨x',hx',e1,e2⟩:=red x hx;obtain⟨y',hy',e3,e4⟩:=red y hy;rw[<-e2,<-e4];exact ih2 hc x' hx' y' hy' (by rw[e1,e3,e])
  .rw[z0q h1];by_cases h2:f z∈z0s (o.map f)
   .rw[z0p h2,y09];refine⟨by simp;lia,fun hc=>?_⟩;simp at hc;lia
   .rw[z0q h2,y09,y09];refine⟨by simp;lia,fun hc x hx y hy e=>?_⟩;have hc':(z0s (o.map f')).length<=(z0s (o.map f)).length:=by simp at hc;lia
    have no:∀x∈o,f x≠f z:=fun x hx e=>h2 (z0G.mpr (y0f.mpr ⟨x,hx,e⟩));rcases y0g.mp hx with hx|hx
    .rcases y0g.mp hy with hy|hy
     .exact ih2 hc' x hx y hy e
     .rw[y0c.mp hy]at e;exact absurd e (no x hx)
    .rcases y0g.mp hy with hy|hy
     .rw[y0c.mp hx]at e;exact absurd e.symm (no y hy)
     .rw[y0c.mp hx,y0c.mp hy]
def z2c(f:Int->α)(f':Int->β)(o:List Int)(h:∀x∈o,∀y∈o,f' x=f' y->f x=f y) : (z0s (o.map f)).length<=(z0s (o.map f')).length/\((z0s (o.map f')).length<=(z0s (o.map f)).length->∀x∈o,∀y∈o,f x=f y->f' x=f' y):=by
 have:=z7d f f' o.reverse (by rw[y1w];exact h)
 rwa [y1w]at this
def nk(o:List Int)(key:Int->α)(x:Int):Int:=(((z0s (o.map key)).idxOf (key x):Nat):Int)
def za3{l:List α}{a b:α}(ha:a∈l)(hb:b∈l)(e:l.idxOf a=l.idxOf b):a=b:=by have h1:=y1Q (y0P ha);have h2:=y1Q (y0P hb);rw[<-h1,<-h2];congr 1
def z5W{o:List Int}{key:Int->α}{x y:Int}(hx:x∈o)(hy:y∈o):nk o key x=nk o key y↔key x=key y:=by
 unfold nk;constructor
 .intro e;exact za3 (z0G.mpr (y0f.mpr ⟨x,hx,rfl⟩)) (z0G.mpr (y0f.mpr ⟨y,hy,rfl⟩)) (by lia)
 .intro e;rw[e]
def zcr(o:List Int)(key:Int->α):(z0s (o.map (nk o key))).length=(z0s (o.map key)).length:=by have h1:=(z2c (nk o key) key o fun x hx y hy e=>(z5W hx hy).mpr e).1;have h2:=(z2c key (nk o key) o fun x hx y hy e=>(z5W hx hy).mp e).1;lia
theorem z3R(f:α->β):∀(gs o:List α),(∀x∈o++gs,∀y∈o++gs,f x=f y->x=y)->z0b (o.map f) (gs.map f)=(z0b o gs).map f
 |[],o,_=>rfl
 |g::gs,o,hf=>by
  have h1:z2b (o.map f) (f g)=(z2b o g).map f:=by
   by_cases h:g∈o
   .rw[z0p h,z0p (y0f.mpr ⟨g,h,rfl⟩)]
   .have:f g∉o.map f:=fun z=>by
     obtain⟨x,hx,e⟩:=y0f.mp z;exact h (hf x (y0m _ hx) g (by simp) e▸hx)
    rw[z0q h,z0q this,y0i];rfl
  show z0b (z2b (o.map f) (f g)) (gs.map f)=(z0b (z2b o g) gs).map f;rw[h1];refine z3R f gs (z2b o g) fun x hx y hy=>hf x ?_ y ?_
  .rcases y0g.mp hx with hx|hx
   .rcases z2o.mp hx with hx|hx
    .exact y0m _ hx
    .rw[hx];simp
   .exact y0z _ (y0e _ hx)
  .rcases y0g.mp hy with hy|hy
   .rcases z2o.mp hy with hy|hy
    .exact y0m _ hy
    .rw[hy];simp
   .exact y0z _ (y0e _ hy)
def z85{l:List α}(h:l.Nodup):l.map (fun x=>((l.idxOf x:Nat):Int))=z0x l.length:=by refine y2d (by rw[y01,z0H]) fun i h1 h2=>?_;rw[y01]at h1;rw[y19,h.idxOf_getElem i h1];have:=z2f h1;rw[y00 h2]at this;exact(y0b this).symm
def zdp(o:List Int)(key:Int->α):z0s (o.map (nk o key))=z0x (z0s (o.map key)).length:=by
 have e:o.map (nk o key)=(o.map key).map (fun v=>(((z0s (o.map key)).idxOf v:Nat):Int)):=by rw[y0I];rfl
 rw[e];have:=z3R (fun v=>(((z0s (o.map key)).idxOf v:Nat):Int)) (o.map key) [] fun x hx y hy q=>by rw[y1r]at hx hy;exact za3 (z0G.mpr hx) (z0G.mpr hy) (Int.ofNat.inj q)
 rw[y0T]at this;show z0b [] _=_;rw[this];exact z85 (za9 (o.map key))
end
def run(M:List Row):Int->List Nat->Int
 |x,[]=>x
 |x,i::w=>run M ((row M x).2.getD i 0) w
def beh(M:List Row)(x:Int)(w:List Nat):List Int:=(row M (run M x w)).1
structure Cl(n:Nat)(M:List Row)(o:List Int):Prop where
 zero:0∈o
 cl:∀r∈o,∀g∈(row M r).2,g∈o
 len:∀r∈o,(row M r).2.length=n
def Cl.go{n:Nat}{M:List Row}{o:List Int}(C:Cl n M o){x:Int}(hx:x∈o)(i:Nat):(row M x).2.getD i 0∈o:=by
 by_cases h:i<(row M x).2.length
 .rw[y07,y00 h];exact C.cl x hx _ (y0l h)
 .rw[y07,y0A (by lia)];exact C.zero
def z41{n:Nat}{rows:List Row}(G:z0l n rows):Cl n rows (order rows):=by obtain⟨L,cl⟩:=z0m G;obtain⟨t,e⟩:=L.hd;exact⟨by rw[e];simp,cl,fun r hr=>G.len _ (z0n (L.rg r hr).1 (L.rg r hr).2)⟩
def z6p{α:Type}(M:List Row)(o:List Int)(f:Int->α):Prop:=∀x∈o,∀y∈o,f x=f y↔beh M x=beh M y
structure zc4{α:Type}(M:List Row)(o:List Int)(f:Int->α):Prop where
 all:∀x∈o,∀y∈o,beh M x=beh M y->f x=f y
 fst:∀x∈o,∀y∈o,f x=f y->(row M x).1=(row M y).1
def zap{α β:Type}(M:List Row)(o:List Int)(f:Int->α)(f':Int->β):Prop:=∀x∈o,∀y∈o,f' x=f' y↔(f x=f y/\(row M x).2.map f=(row M y).2.map f)
def zc4.next{α β:Type}{n:Nat}{M:List Row}{o:List Int}{f:Int->α}{f':Int->β}(C:Cl n M o)(F:zc4 M o f)(S:zap M o f f'):zc4 M o f':=by
 refine⟨fun x hx y hy e=>(S x hx y hy).mpr ⟨F.all x hx y hy e,?_⟩,fun x hx y hy e=>F.fst x hx y hy ((S x hx y hy).mp e).1⟩;refine y2d (by rw[y01,y01,C.len x hx,C.len y hy]) fun i h1 h2=>?_;rw[y01]at h1 h2;rw[y19,y19];have a1:=C.go hx i;have a2:=C.go hy i;have b1:(row M x).2.getD i 0=(row M x).2[i]:=by rw[y07,y00 h1];rfl
 have b2:(row M y).2.getD i 0=(row M y).2[i]:=by rw[y07,y00 h2];rfl
 rw[<-b1,<-b2];exact F.all _ a1 _ a2 (funext fun w=>congrFun e (i::w))
def zc4.right{α β:Type}{n:Nat}{M:List Row}{o:List Int}{f:Int->α}{f':Int->β}(C:Cl n M o)(F:zc4 M o f)(S:zap M o f f')(hk:∀x∈o,∀y∈o,f x=f y->f' x=f' y):z6p M o f':=by
 have key:∀(w:List Nat)(x y:Int),x∈o->y∈o->f x=f y->beh M x w=beh M y w:=by
  intro w;induction w with
  |nil=>intro x y hx hy e;exact F.fst x hx y hy e
  |cons i w ih =>
   intro x y hx hy e;refine ih _ _ (C.go hx i) (C.go hy i) ?_;have h:=((S x hx y hy).mp (hk x hx y hy e)).2;have h':=y1o (fun l=>l[i]?) h;simp only[y04]at h';rw[y07,y07];cases e1:(row M x).2[i]? with
   |none =>
    rw[e1]at h';cases e2:(row M y).2[i]? with
    |none=>rfl
    |some b=>rw[e2]at h';cases h'
   |some a =>
    rw[e1]at h';cases e2:(row M y).2[i]? with
    |none=>rw[e2]at h';cases h'
    |some b=>rw[e2]at h';exact y0b h'
 intro x hx y hy;refine⟨fun e=>funext fun w=>key w x y hx hy ((S x hx y hy).mp e).1,fun e=>(F.next C S).all x hx y hy e⟩
def z23(rows:List Row)(o:List Int)(f:Int->D)(r:Int):z2P rows o f r=D.int (nk o (z1y rows f) r):=rfl
def z8Q{rows:List Row}{f:Int->D}{x y:Int}:z1y rows f x=z1y rows f y↔(f x=f y/\(row rows x).2.map f=(row rows y).2.map f):=by
 unfold z1y;constructor
 .intro e;injection e with e;injection e with e1 e2;injection e2 with e2 _;injection e2 with e2;exact⟨e1,e2⟩
 .rintro⟨e1,e2⟩;rw[e1,e2]
def z7a(rows:List Row)(o:List Int)(f:Int->D):zap rows o f (z2P rows o f):=fun x hx y hy=>by
 rw[z23,z23];constructor
 .intro e;injection e with e;exact z8Q.mp ((z5W hx hy).mp e)
 .intro e;rw[(z5W hx hy).mpr (z8Q.mpr e)]
def z6x(rows:List Row)(o:List Int)(f:Int->D):z2i rows o f=(z0s (o.map (z2P rows o f))).length:=by
 have h1:z2i rows o f=(z0s (o.map (z1y rows f))).length:=rfl;have h2:=(z2c (z2P rows o f) (z1y rows f) o fun x hx y hy e=>by rw[z23,z23,(z5W hx hy).mpr e]).1;have h3:=(z2c (z1y rows f) (z2P rows o f) o fun x hx y hy e=>by rw[z23,z23]at e;injection e with e;exact(z5W hx hy).mp e).1
 lia
theorem z4C{n:Nat}{rows:List Row}{o:List Int}(C:Cl n rows o):∀(m many:Nat)(f:Int->D),zc4 rows o f->(many=0\/many=(z0s (o.map f)).length)->many<=o.length->o.length+1<=m+many->z6p rows o (z4j rows o m many f)
 |0,many,f,F,hm,hl,hf=>by lia
 |m+1,many,f,F,hm,hl,hf=>by
  unfold z4j;have S:=z7a rows o f;by_cases hc:many<z2i rows o f
  .rw[if_pos hc];refine z4C C m _ _ (F.next C S) (.inr (z6x rows o f)) (z6l rows o f) (by lia)
  .rw[if_neg hc];have h1:1<=z2i rows o f:=by
    have:z1y rows f 0∈z0s (z1V rows o f):=z0G.mpr (y0f.mpr ⟨0,C.zero,rfl⟩);exact y29 this
   have h2:many=(z0s (o.map f)).length:=by rcases hm with h|h;lia;exact h
   have h3:=z6x rows o f;refine F.right C S ((z2c f (z2P rows o f) o fun x hx y hy e=>((S x hx y hy).mp e).1).2 (by lia))
def zgq(rows:List Row)(o:List Int):zc4 rows o fun r=>D.its (row rows r).1 :=
 ⟨fun x hx y hy e=>by have:=congrFun e [];show D.its _=D.its _;rw[show(row rows x).1=(row rows y).1 from this],fun x hx y hy e=>z4w e⟩
def z20{n:Nat}{rows:List Row}(G:z0l n rows):z6p rows (order rows) (kOf rows):=by have hl:=(z0m G).1.len;have h:=z4C (z41 G) (rows.length+2) 0 _ (zgq rows (order rows)) (.inl rfl) (by lia) (by lia);intro x hx y hy;have:=h x hx y hy;have e:z4j rows (order rows) (rows.length+2) 0 (fun r=>D.its (row rows r).1)=fun r=>D.int (kOf rows r):=z5s rows;rw[e]at this;rw[<-this];exact⟨fun q=>by show D.int _=D.int _;rw[q],fun q=>D.int.inj q⟩
def kf(ks:List Int)(x:Int):Int:=ks.getD x.toNat 0
def z2r{α:Type}[DecidableEq α]{L:Nat}{key:Int->α}{x:Int}(hx:x∈z0x L):kf (z2h ((z0x L).map key)) x=nk (z0x L) key x:=by
 have hx':=z1d.mp hx;unfold kf z2h nk;have hl:x.toNat<L:=by lia
 rw[y07,y04,y04,z2f hl];have:((x.toNat:Nat):Int)=x:=by lia
 simp only[y3M,Option.getD_some,this]
def z4l(fs:List Row)(g:Row->α):fs.map g=(z0x fs.length).map fun x=>g (row fs x):=by
 refine y1H fun i=>?_;rw[y04,y04];by_cases h:i<fs.length
 .rw[z2f h,y00 h];show some (g fs[i])=some (g (row fs (i:Int)));congr 2;unfold row;have:((i:Nat):Int).toNat=i:=by lia
  rw[this,y07,y00 h];rfl
 .rw[y0A (by lia),y0A (by rw[z0H];lia)];rfl
def zei(fs:List Row)(ks:List Int)(x:Int):Int × List Int:=(kf ks x,(row fs x).2.map (kf ks))
def z3w{fs:List Row}{ks:List Int}(h:ks.length=fs.length):z3W ks fs=(z0x fs.length).map (zei fs ks):=by
 unfold z3W;refine y1H fun i=>?_;rw[y04,y04];by_cases hi:i<fs.length
 .have e1:(ks.zip fs)[i]?=some (ks[i]'(by lia),fs[i]):=y0V.mpr ⟨y00 (by lia),y00 hi⟩;rw[z2f hi,e1];simp only[y3M];congr 1;unfold zei kf row;have:((i:Nat):Int).toNat=i:=by lia
  rw[this,y07,y00 (by lia:i<ks.length),y07,y00 hi];rfl
 .rw[y0A (by rw[y2p];lia),y0A (by rw[z0H];lia)];rfl
def z42{α:Type}[DecidableEq α]{xs:List α}(h:xs≠[]):cnt (z2h xs)=((z0s xs).length:Int):=by
 have hne:z2h xs≠[]:=fun z=>h (by have:=z35 xs;rw[z]at this;exact y1i this.symm)
 obtain⟨h1,h2⟩:=z7s hne fun k hk=>(z5V hk).1;have h3:=(z5V h1).2;have hpos:0<(z0s xs).length:=by
  cases xs with
  |nil=>exact absurd rfl h
  |cons a r=>exact y29 (z0G.mpr (show a∈a::r by simp))
 have hm:(z0s xs)[(z0s xs).length-1]'(by lia)∈xs:=z0G.mp (y0l _);have h4:(((z0s xs).length-1:Nat):Int)∈z2h xs:=by unfold z2h;refine y0f.mpr ⟨_,hm,?_⟩;rw[(za9 xs).idxOf_getElem]
 have:=h2 _ h4;lia
def z63{L:Nat}{α:Type}{g:Int->α}(h:1<=L):(z0x L).map g≠[]:=fun z=>by have:=y1o List.length z;rw[y01,z0H]at this;simp at this;lia
def z5T{α:Type}[DecidableEq α]{L:Nat}{key:Int->α}:(z0s ((z0x L).map (kf (z2h ((z0x L).map key))))).length=(z0s ((z0x L).map key)).length:=by rw[<-zcr (z0x L) key];congr 2;exact y0L fun x hx=>z2r hx
def z5h{fs:List Row}(hgo:∀x∈z0x fs.length,∀g∈(row fs x).2,g∈z0x fs.length){ks:List Int}:zap fs (z0x fs.length) (kf ks) (kf (z2h ((z0x fs.length).map (zei fs ks)))):=fun x hx y hy=>by rw[z2r hx,z2r hy,z5W hx hy];unfold zei;rw[Prod.mk.injEq]
def zfh{n:Nat}{fs:List Row}(G:z3X n fs):Cl n fs (z0x fs.length):=by
 refine⟨z1d.mpr ⟨by lia,by have:=G.some;lia⟩,fun r hr g hg=>?_,fun r hr=>?_⟩
 .have h:=z1d.mp hr;exact z1d.mpr (G.go _ (z0n h.1 h.2) g hg)
 .have h:=z1d.mp hr;exact G.len _ (z0n h.1 h.2)
theorem z4D{n:Nat}{fs:List Row}(G:z3X n fs):∀(m:Nat)(c:Int)(ks:List Int),(∃(α:Type)(_:DecidableEq α)(key:Int->α),ks=z2h ((z0x fs.length).map key))->zc4 fs (z0x fs.length) (kf ks) ->
  (c=0\/∃ks0:List Int,zc4 fs (z0x fs.length) (kf ks0)/\zap fs (z0x fs.length) (kf ks0) (kf ks)/\c=((z0s ((z0x fs.length).map (kf ks0))).length:Int))->0<=c->c<=(fs.length:Int)->(fs.length:Int)+1<=m+c ->
  z6p fs (z0x fs.length) (kf (z4U fs m c ks))/\∃(α:Type)(_:DecidableEq α)(key:Int->α),z4U fs m c ks=z2h ((z0x fs.length).map key)
 |0,c,ks,hk,F,hp,h0,h1,h2=>by lia
 |m+1,c,ks,hk,F,hp,h0,h1,h2=>by
  unfold z4U;have C:=zfh G;obtain⟨α,ia,key,rfl⟩:=hk;have hcn:=z42 (z63 (g:=key) G.some);have hU:(z0s ((z0x fs.length).map key)).length<=fs.length:=by have:=z3q ((z0x fs.length).map key);rw[y01,z0H]at this;exact this
  have hUp:1<=(z0s ((z0x fs.length).map key)).length:=y29 (z0G.mpr (y0f.mpr ⟨0,C.zero,rfl⟩));by_cases hc:c<cnt (z2h ((z0x fs.length).map key))
  .rw[if_pos hc,hcn,z3w (by rw[z35,y01,z0H])];refine z4D G m _ _ ⟨_,_,_,rfl⟩ (F.next C (z5h C.cl)) (.inr ⟨_,F,z5h C.cl,?_⟩) (by lia) (by lia) (by rw[hcn]at hc;lia);rw[z5T]
  .rw[if_neg hc];refine⟨?_,_,_,_,rfl⟩;rcases hp with hp|⟨ks0,F0,S0,hc0⟩
   .rw[hcn]at hc;lia
   .refine F0.right C S0 ((z2c _ _ _ fun x hx y hy e=>((S0 x hx y hy).mp e).1).2 ?_);rw[z5T];rw[hcn]at hc;lia
def z4y{n:Nat}{fs:List Row}(G:z3X n fs):z6p fs (z0x fs.length) (kf (z2M fs))/\∃(α:Type)(_:DecidableEq α)(key:Int->α),z2M fs=z2h ((z0x fs.length).map key):=by
 have C:=zfh G;unfold z2M;refine z4D G (fs.length+1) 0 _ ⟨List Int,inferInstance,fun x=>(row fs x).1,by rw[z4l fs (·.1)]⟩ ?_ (.inl rfl) (by lia) (by lia) (by lia);rw[z4l fs (·.1)];refine⟨fun x hx y hy e=>?_,fun x hx y hy e=>?_⟩
 .rw[z2r hx,z2r hy,z5W hx hy];exact congrFun e []
 .rw[z2r hx,z2r hy,z5W hx hy]at e;exact e
inductive BF(M:List Row):Nat->List Int->List Int->Prop
 |stop {i:Nat} {o:List Int}:o.length<=i->BF M i o o
 |step {i:Nat} {o res:List Int} {r:Int}:o[i]?=some r->BF M (i+1) (z0b o (row M r).2) res->BF M i o res
def BF.det{M:List Row}{i:Nat}{o a b:List Int}(h:BF M i o a)(h':BF M i o b):a=b:=by
 induction h generalizing b with
 |stop hl =>
  cases h' with
  |stop _=>rfl
  |step e _=>rw[y0A hl]at e;cases e
 |step e _ ih =>
  cases h' with
  |stop hl=>rw[y0A hl]at e;cases e
  |step e' q =>
   rw[e]at e';cases e';exact ih q
def BF.sub{M:List Row}{i:Nat}{o a:List Int}(h:BF M i o a):∃m,a=o++m:=by
 induction h with
 |stop _=>exact⟨[],by simp⟩
 |@step i o res r e _ ih =>
  obtain⟨m,em⟩:=ih;obtain⟨m',em'⟩:=z0F (row M r).2 o;exact⟨m'++m,by rw[em,em',y0q]⟩
theorem zfc{n:Nat}{rows:List Row}(G:z0l n rows):∀(f i:Nat)(o:List Int),z7l rows o->i<=o.length->rows.length+1<=f+i->BF rows i o (bfs rows f i o)
 |0,i,o,L,hi,hf=>by
  have:=L.len;lia
 |f+1,i,o,L,hi,hf=>by
  cases e:o[i]? with
  |none =>
   rw[z2Z (y1X.mp e)];exact .stop (y1X.mp e)
  |some r =>
   rw[z3d e];have hr:r∈o:=y0D e;have hil:i<o.length:=(y0a.mp e).1;obtain⟨m,em⟩:=z0F (row rows r).2 o;exact .step e (zfc G f (i+1) _ (L.add G hr) (by rw[em,y09];lia) (by lia))
def z5E{n:Nat}{rows:List Row}(G:z0l n rows):BF rows 0 [0] (order rows):=zfc G (rows.length+1) 0 [0] (zcK G) (by simp) (by lia)
theorem z4r{α β:Type}[DecidableEq α][DecidableEq β](h:α->β):∀(gs o:List α),z0s ((z0b o gs).map h)=z0b (z0s (o.map h)) (gs.map h)
 |[],o=>rfl
 |g::gs,o=>by
  show z0s ((z0b (z2b o g) gs).map h)=z0b (z2b (z0s (o.map h)) (h g)) (gs.map h);rw[z4r h gs (z2b o g)];congr 1;by_cases hg:g∈o
  .rw[z0p hg,z0p (z0G.mpr (y0f.mpr ⟨g,hg,rfl⟩))]
  .rw[z0q hg,y0i];exact z1n _ _
def Mor(M' M:List Row)(o':List Int)(h:Int->Int):Prop:=∀x∈o',row M (h x)=((row M' x).1,(row M' x).2.map h)
theorem BF.map{M' M:List Row}{h:Int->Int}{i:Nat}{o res:List Int}(b:BF M' i o res):Mor M' M res h->(∀j r,j<i->o[j]?=some r->∀g∈(row M' r).2,g∈o)->i<=o.length -> BF M (z0s ((o.take i).map h)).length (z0s (o.map h)) (z0s (res.map h)):=by
 induction b with
 |@stop i o hl =>
  intro _ _ _;rw[y0x hl];exact .stop (y0d _)
 |@step i o res r e b ih =>
  intro mo pc hi;obtain⟨m0,em0⟩:=b.sub;obtain⟨m,em⟩:=z0F (row M' r).2 o;have hil:i<o.length:=(y0a.mp e).1;have hro:r∈o:=y0D e;have hr:=mo r (by rw[em0,em];exact y0m _ (y0m _ hro));have ih':=ih mo (fun j r' hj er g hg=>?_) (by rw[em,y09];lia)
  .have et:(z0b o (row M' r).2).take (i+1)=o.take i++[r]:=by
    rw[em,y2y (by lia),y0G,e];rfl
   rw[et,y0i,show List.map h [r]=[h r]from rfl,z1n,z4r]at ih';by_cases hm:h r∈z0s ((o.take i).map h)
   .rw[z0p hm,z5i]at ih'
    .exact ih'
    .intro g hg;obtain⟨r',hr',er'⟩:=y0f.mp (z0G.mp hm);obtain⟨j,hj,ej⟩:=y2t hr';rw[y0w]at hj;rw[y1W]at ej;have hmo:=mo r' (by rw[em0,em];exact y0m _ (y0m _ (y0U hr')));rw[er',hr]at hmo;have e2:(row M' r).2.map h=(row M' r').2.map h:=y1o Prod.snd hmo;rw[e2]at hg;obtain⟨g',hg',eg⟩:=y0f.mp hg;have:=pc j r' (by lia) (by rw[y00 (by lia),ej]) g' hg';exact z0G.mpr (y0f.mpr ⟨g',this,eg⟩)
   .rw[z0q hm,y09]at ih';refine .step (r:=h r) ?_ ?_
    .have eo:o=(o.take i++[r])++o.drop (i+1):=by
      have:o.take (i+1)=o.take i++[r]:=by rw[y0G,e];rfl
      rw[<-this,y0O]
     have e3:z0s (o.map h)=z0b (z0s ((o.take i).map h)++[h r]) ((o.drop (i+1)).map h):=by
      conv=>lhs;rw[eo]
      rw[y0i,z82,y0i,show List.map h [r]=[h r]from rfl,z1n,z0q hm]
     obtain⟨m2,em2⟩:=z0F ((o.drop (i+1)).map h) (z0s ((o.take i).map h)++[h r]);rw[e3,em2,y0q,y0Z (y0d _),y3N];rfl
    .rw[hr];exact ih'
  .have hjo:j<o.length:=by lia
   have er':o[j]?=some r':=by rw[em,y16 hjo]at er;exact er
   by_cases hji:j=i
   .subst hji;rw[e]at er';cases er';exact z0C.mpr (.inr hg)
   .exact z0C.mpr (.inl (pc j r' (by lia) er' g hg))
def z71{n n':Nat}{M' M:List Row}{h:Int->Int}(G':z0l n' M')(G:z0l n M)(h0:h 0=0)(mo:Mor M' M (order M') h):z0s ((order M').map h)=order M:=by
 have b:=(z5E G').map mo (fun j r hj=>absurd hj (Nat.not_lt_zero _)) (by simp);have e:z0s ([(0:Int)].map h)=[0]:=by rw[show[(0:Int)].map h=[h 0]from rfl,h0];rfl
 rw[e]at b;exact b.det (z5E G)
theorem z5k(k:Int->Int):∀l:List Int,(z0r k l.reverse).map k=z0s (l.reverse.map k)
 |[]=>rfl
 |a::l=>by
  rw[y1U,z1s,y0i,show List.map k [a]=[k a]from rfl,z1n,<-z5k k l];unfold z0J;by_cases h:k a∈(z0r k l.reverse).map k
  .rw[if_pos h,z0p h]
  .rw[if_neg h,z0q h,y0i];rfl
def z1w(k:Int->Int)(o:List Int):(z0r k o).map k=z0s (o.map k):=by
 have:=z5k k o.reverse
 rwa [y1w]at this
theorem z7f{k k':Int->Int}:∀l:List Int,(∀x∈l.reverse,∀y∈l.reverse,k x=k y↔k' x=k' y)->z0r k l.reverse=z0r k' l.reverse
 |[],_=>rfl
 |a::l,h=>by
  rw[y1U]at h⊢;rw[z1s,z1s,z7f l fun x hx y hy=>h x (y0m _ hx) y (y0m _ hy)];unfold z0J;have hin:=(z0S k' l.reverse).2.1;have:k a∈(z0r k' l.reverse).map k↔k' a∈(z0r k' l.reverse).map k':=by
   constructor
   .intro hm;obtain⟨x,hx,e⟩:=y0f.mp hm;exact y0f.mpr ⟨x,hx,(h x (y0m _ (hin x hx)) a (by simp)).mp e⟩
   .intro hm;obtain⟨x,hx,e⟩:=y0f.mp hm;exact y0f.mpr ⟨x,hx,(h x (y0m _ (hin x hx)) a (by simp)).mpr e⟩
  by_cases hm:k a∈(z0r k' l.reverse).map k
  .rw[if_pos hm,if_pos (this.mp hm)]
  .rw[if_neg hm,if_neg (fun z=>hm (this.mpr z))]
def z9A{k k':Int->Int}{o:List Int}(h:∀x∈o,∀y∈o,k x=k y↔k' x=k' y):z0r k o=z0r k' o:=by
 have:=z7f (k:=k) (k':=k') o.reverse (by rw[y1w];exact h)
 rwa [y1w]at this
theorem z58(k h:Int->Int):∀l:List Int,(z0r (fun x=>k (h x)) l.reverse).map h=z0r k (z0s (l.reverse.map h))
 |[]=>rfl
 |a::l=>by
  rw[y1U,z1s,y0i,show List.map h [a]=[h a]from rfl,z1n];have ih:=z58 k h l;have e:(z0r (fun x=>k (h x)) l.reverse).map (fun x=>k (h x))=(z0r k (z0s (l.reverse.map h))).map k:=by rw[<-ih,y0I];rfl
  unfold z0J;by_cases hm:h a∈z0s (l.reverse.map h)
  .have hk:k (h a)∈(z0r (fun x=>k (h x)) l.reverse).map (fun x=>k (h x)):=by
    rw[e];exact(z0S k _).1 _ hm
   rw[if_pos hk,z0p hm];exact ih
  .rw[z0q hm,z1s];unfold z0J;by_cases hk:k (h a)∈(z0r (fun x=>k (h x)) l.reverse).map (fun x=>k (h x))
   .rw[if_pos hk,if_pos (by rw[<-e];exact hk)];exact ih
   .rw[if_neg hk,if_neg (by rw[<-e];exact hk),y0i,ih];rfl
def z7Y(k h:Int->Int)(o:List Int):(z0r (fun x=>k (h x)) o).map h=z0r k (z0s (o.map h)):=by
 have:=z58 k h o.reverse
 rwa [y1w]at this
theorem z9I{k k':Int->Int}{x:Int}:∀{l:List Int},(∀y∈l,k y=k x↔k' y=k' x)->(l.map k).idxOf (k x)=(l.map k').idxOf (k' x)
 |[],_=>rfl
 |b::l,h=>by
  rw[y0k,y0k,y28,y28,z9I fun y hy=>h y (y0e _ hy)];have:=h b (by simp);have e:(k b==k x)=(k' b==k' x):=by rw[y2J,y3i,y3i];exact this
  rw[e]
theorem zaJ{n:Nat}{M' M:List Row}{o':List Int}{h:Int->Int}(C:Cl n M' o')(h0:h 0=0)(mo:Mor M' M o' h):∀(w:List Nat)(x:Int),x∈o'->h (run M' x w)=run M (h x) w/\run M' x w∈o'
 |[],x,hx=>⟨rfl,hx⟩
 |i::w,x,hx=>by
  have e:(row M (h x)).2.getD i 0=h ((row M' x).2.getD i 0):=by
   rw[mo x hx,y07,y07,y04];cases(row M' x).2[i]? with
   |none=>exact h0.symm
   |some a=>rfl
  obtain⟨h1,h2⟩:=zaJ C h0 mo w _ (C.go hx i);refine⟨?_,h2⟩;show h (run M' ((row M' x).2.getD i 0) w)=run M ((row M (h x)).2.getD i 0) w;rw[e];exact h1
def z5n{n n':Nat}{M' M:List Row}{h k k':Int->Int}(G':z0l n' M')(G:z0l n M)(h0:h 0=0)(mo:Mor M' M (order M') h)(R:z6p M (order M) k)(R':z6p M' (order M') k') : z1q M' k' (order M')=z1q M k (order M):=by
 have C':=z41 G';have eo:=z71 G' G h0 mo;have hin:∀x∈order M',h x∈order M:=fun x hx=>by rw[<-eo];exact z0G.mpr (y0f.mpr ⟨x,hx,rfl⟩)
 have hb:∀x∈order M',beh M' x=beh M (h x):=fun x hx=>funext fun w=>by obtain⟨h1,h2⟩:=zaJ C' h0 mo w x hx;show(row M' (run M' x w)).1=(row M (run M (h x) w)).1;rw[<-h1,mo _ h2]
 have ker:∀x∈order M',∀y∈order M',k' x=k' y↔k (h x)=k (h y):=fun x hx y hy=>by rw[R' x hx y hy,R _ (hin x hx) _ (hin y hy),hb x hx,hb y hy]
 have hh:z0r k' (order M')=z0r (fun x=>k (h x)) (order M'):=z9A ker;have hm:(z0r (fun x=>k (h x)) (order M')).map h=z0r k (order M):=by rw[z7Y,eo]
 have hsub:∀r∈z0r (fun x=>k (h x)) (order M'),r∈order M':=(z0S _ _).2.1;unfold z1q;rw[hh,<-hm,y0I];refine y0L fun r hr=>?_;have hro:=hsub r hr;show _=((row M (h r)).1,(row M (h r)).2.map _);rw[mo r hro];refine y31 rfl ?_;show List.map _ _=List.map _ (List.map h (row M' r).2);rw[y0I];refine y0L fun g hg=>?_;have hgo:=C'.cl r hro g hg;show(((List.map k' (z0r (fun x=>k (h x)) (order M'))).idxOf (k' g):Nat):Int)=((((z0r (fun x=>k (h x)) (order M')).map h).map k).idxOf (k (h g)):Nat);rw[y0I];have:=z9I (k:=k') (k':=fun x=>k (h x)) (x:=g) (l:=z0r (fun x=>k (h x)) (order M')) fun y hy=>ker y (hsub y hy) g hgo;rw[this];rfl
def z5v{n n':Nat}{M' M:List Row}{h:Int->Int}(G':z0l n' M')(G:z0l n M)(h0:h 0=0)(mo:Mor M' M (order M') h):shr M'=shr M :=
 z5n G' G h0 mo (z20 G) (z20 G')
def z3X.m{n:Nat}{fs:List Row}(G:z3X n fs):z0l n fs:=⟨G.few,G.some,G.perm,G.len,G.go⟩
def z76{n:Nat}{rows:List Row}(G:z0l n rows){x:Int}(hx:x∈order rows):row (z0L rows) ((((order rows).idxOf x:Nat):Int))=((row rows x).1,(row rows x).2.map fun g=>(((order rows).idxOf g:Nat):Int)):=by
 have hl:=y0P hx;unfold row z0L z25;have:((((order rows).idxOf x:Nat):Int)).toNat=(order rows).idxOf x:=by lia
 rw[this,y07,y04,y00 hl,y1Q hl];rfl
def z7h(rows:List Row):(z0L rows).length=(order rows).length:=by unfold z0L z25;rw[y01]
def z2W{n:Nat}{rows:List Row}(G:z0l n rows):order (z0L rows)=z0x (z0L rows).length:=by
 obtain⟨L,cl⟩:=z0m G;obtain⟨t,e⟩:=L.hd;have h0:(((order rows).idxOf 0:Nat):Int)=0:=by rw[e];simp
 have h:=z71 (h:=fun x=>(((order rows).idxOf x:Nat):Int)) G (z2F G).m h0 fun x hx=>z76 G hx;rw[<-h,z85 L.nd,z7h];exact z9V (z95 _)
def zb2{n:Nat}{rows:List Row}(G:z0l n rows):Mor (z0L rows) rows (order (z0L rows)) fun i=>(order rows).getD i.toNat 0:=by
 obtain⟨L,cl⟩:=z0m G;intro i hi;rw[z2W G,z7h]at hi;obtain⟨i0,i1⟩:=z1d.mp hi;have hl:i.toNat<(order rows).length:=by lia
 have e1:(order rows).getD i.toNat 0=(order rows)[i.toNat]:=by rw[y07,y00 hl];rfl
 have hx:(order rows)[i.toNat]∈order rows:=y0l hl;have e2:(((order rows).idxOf (order rows)[i.toNat]:Nat):Int)=i:=by rw[L.nd.idxOf_getElem];lia
 have e3:=z76 G hx;rw[e2]at e3;show row rows ((order rows).getD i.toNat 0)=_;rw[e1,e3];refine y31 rfl ?_;show(row rows (order rows)[i.toNat]).2=List.map _ (List.map _ _);rw[y0I];conv=>lhs;rw[<-List.map_id (row rows (order rows)[i.toNat]).2]
 refine y0L fun g hg=>?_;have hg':=cl _ hx g hg;have hl':=y0P hg';show g=(order rows).getD ((((order rows).idxOf g:Nat):Int)).toNat 0;have:((((order rows).idxOf g:Nat):Int)).toNat=(order rows).idxOf g:=by lia
 rw[this,y07,y00 hl',y1Q hl'];rfl
def z7k{L i:Nat}(h:i<=L):(z0x L).take i=z0x i:=by
 refine y1H fun j=>?_;by_cases hj:j<i
 .rw[y21 hj,z2f (by lia),z2f hj]
 .rw[y0A (by rw[y0w,z0H];lia),y0A (by rw[z0H];lia)]
def zcj{c:Nat}{u m:List Int}(e:u++m=z0x c):u=z0x u.length:=by
 have hl:u.length<=c:=by have:=y1o List.length e;rw[y09,z0H]at this;lia
 have:=y1o (List.take u.length) e;rw[y2y (y0d _),y1j,z7k hl]at this;exact this
def z4B(j:Nat):z0x (j+1)=z0x j++[(j:Int)]:=by unfold z0x;rw[List.range_succ,y0i];rfl
def z3J{fs:List Row}{ks:List Int}(hl:ks.length=fs.length)(hn:∃(α:Type)(_:DecidableEq α)(key:Int->α),ks=z2h ((z0x fs.length).map key))(hgo:∀r∈fs,∀g∈r.2,0<=g/\g<(fs.length:Int)) : z5F fs ks=z1q fs (kf ks) (z0x fs.length):=by
 obtain⟨α,ia,key,ek⟩:=hn;have hU:z0s ((z0x fs.length).map (kf ks))=z0x (z0s ((z0x fs.length).map key)).length:=by
  have e:(z0x fs.length).map (kf ks)=(z0x fs.length).map (nk (z0x fs.length) key):=y0L fun x hx=>by rw[ek];exact z2r hx
  rw[e];exact zdp (z0x fs.length) key
 generalize hc:(z0s ((z0x fs.length).map key)).length=c at hU;have hpre:∀i,i<=fs.length->z0s ((z0x i).map (kf ks))=z0x (z0s ((z0x i).map (kf ks))).length:=fun i hi=>by
  have e1:z0x fs.length=z0x i++(z0x fs.length).drop i:=by
   conv=>lhs;rw[<-y0O i (z0x fs.length)]
   rw[z7k hi]
  rw[e1,y0i,z82]at hU;obtain⟨m,em⟩:=z0F (((z0x fs.length).drop i).map (kf ks)) (z0s ((z0x i).map (kf ks)));rw[em]at hU;exact zcj hU
 have main:∀i,i<=fs.length->z24 fs ks i=(z0r (kf ks) (z0x i)).map fun r=>((row fs r).1,(row fs r).2.map (kf ks)):=by
  intro i;induction i with
  |zero=>intro _;rfl
  |succ i ih =>
   intro hi;have ih:=ih (by lia);have hif:i<fs.length:=by lia
   have hik:i<ks.length:=by lia
   rw[z4k (r:=fs[i]) (k:=ks[i]) (y00 hif) (y00 hik),ih,z4B,z1s];have p1:=hpre i (by lia);have p2:=hpre (i+1) hi;rw[z4B,y0i,show List.map (kf ks) [(i:Int)]=[kf ks i]from rfl,z1n]at p2;have hm:=z1w (kf ks) (z0x i);have hlen:(z0r (kf ks) (z0x i)).length=(z0s ((z0x i).map (kf ks))).length:=by rw[<-hm,y01]
   have ek:ks[i]=kf ks (i:Int):=by
    unfold kf;have:((i:Nat):Int).toNat=i:=by lia
    rw[this,y07,y00 hik];rfl
   have er:fs[i]=row fs (i:Int):=by
    unfold row;have:((i:Nat):Int).toNat=i:=by lia
    rw[this,y07,y00 hif];rfl
   unfold z6a z0J;rw[hm,y01,hlen];by_cases hin:kf ks i∈z0s ((z0x i).map (kf ks))
   .rw[if_pos hin,if_neg];show ¬ks[i]=_;rw[ek];rw[p1]at hin;have:=z1d.mp hin;lia
   .rw[if_neg hin,if_pos]
    .rw[y0i,er];rfl
    .show ks[i]=_;rw[ek];rw[z0q hin,y09]at p2;have e3:z0x ((z0s ((z0x i).map (kf ks))).length+[kf ks (i:Int)].length)=z0x (z0s ((z0x i).map (kf ks))).length++[((z0s ((z0x i).map (kf ks))).length:Int)]:=z4B _;rw[e3,<-p1]at p2;have:=List.append_cancel_left p2;simpa using this
 rw[<-z51 hl,main fs.length (y0d _)];unfold z1q;refine y0L fun r hr=>?_;refine y31 rfl ?_;refine y0L fun g hg=>?_;have hr':=z1d.mp ((z0S (kf ks) (z0x fs.length)).2.1 r hr);have hg':=hgo _ (z0n hr'.1 hr'.2) g hg;have hin:kf ks g∈z0s ((z0x fs.length).map (kf ks)):=z0G.mpr (y0f.mpr ⟨g,z1d.mpr hg',rfl⟩);rw[z1w];have hl':=y0P hin;have e:=y1Q hl';rw[hU]at hin hl'⊢;have h1:=z1d.mp hin;have e2:(z0x c)[(z0x c).idxOf (kf ks g)]'hl'=kf ks g:=y1Q hl';have e3:=z2f (n:=c) (i:=(z0x c).idxOf (kf ks g)) (by rw[z0H]at hl';exact hl');rw[y00 hl',e2]at e3;exact y0b e3
def z6A{n:Nat}{rows:List Row}(G:z0l n rows):zbU rows=shr rows:=by
 have GF:=z2F G;obtain⟨R,N⟩:=z4y GF;obtain⟨L,cl⟩:=z0m G;obtain⟨t,e⟩:=L.hd;unfold zbU;rw[z3J (z3C GF).len N GF.go];have h0:(fun i:Int=>(order rows).getD i.toNat 0) 0=0:=by show(order rows).getD (0:Int).toNat 0=0;rw[e];rfl
 have R':z6p (z0L rows) (order (z0L rows)) (kf (z2M (z0L rows))):=by rw[z2W G];exact R
 have:=z5n (h:=fun i=>(order rows).getD i.toNat 0) GF.m G h0 (zb2 G) (z20 G) R';rw[z2W G]at this;exact this
end Gu
namespace L2
open PySem PySem.Spec PyProof.Rows
section
variable{X:Cx}{pins:yyP}{σ:St}{H:Hp}{s:Shared}{a:Addr}{kvs:List (Key × V)}{k:Key}{u:Value}{A:Around}{E:yyE}
end
section
variable{X:Cx}{o e f:Expr}{apos cpos:Pos}{td ty tx:TE}
end
end L2
namespace HT
open PySem PySem.Spec PyProof.Rows
section
variable{prog:Program}{w:World}{A:Around}{E:yyE}{s:Shared}
end
end HT
namespace L2
open PySem PySem.Spec PyProof.Rows
section
variable{X:Cx}{e st:Expr}{te ts:TE}{pos p2:Pos}
end
section
variable{X:Cx}{elts:List Expr}{tk:Nat}{tp:Pos}
end
section
variable{X:Cx}
end
end L2
namespace Gu
open PySem L2
def BF.all{M:List Row}{i:Nat}{o res:List Int}{C:Int->Prop}(b:BF M i o res)(hc:∀x,C x->∀g∈(row M x).2,C g):(∀x∈o,C x)->∀x∈res,C x:=by
 induction b with
 |stop _=>exact fun h=>h
 |@step i o res r e b ih =>
  intro h;refine ih fun x hx=>?_;rcases z0C.mp hx with hx|hx
  .exact h x hx
  .exact hc r (h r (y0D e)) x hx
theorem z3Z:∀l:List Row,D.depL (z0j l)<=2
 |[]=>by unfold z0j;simp only[y0T,D.depL];lia
 |r::l=>by
  have h:=z3Z l;unfold z0j at h⊢;have h2:D.dep (z5d r)=2:=by unfold z5d;simp only[D.dep,D.depL,D.depL_ints];decide
  simp only[y0k,D.depL];lia
theorem z8M:∀l:List Row,(∀r∈l,r.1.length<=1000/\r.2.length<=1000)->D.fewL (z0j l)
 |[],_=>by unfold z0j;simp only[y0T,D.fewL]
 |r::l,h=>by have ih:=z8M l fun x hx=>h x (y0e _ hx);obtain⟨a,b⟩:=h r (by simp);unfold z0j at ih⊢;simp only[y0k,D.fewL];refine⟨?_,ih⟩;unfold z5d;simp only[D.few,D.fewL];have a:=z9Z a;have b:=z9Z b;simp only[D.few]at a b;exact⟨by simp,a,b,trivial⟩
def z6z{n:Nat}{rows:List Row}(G:z0l n rows)(hn:n<=60):D.dep (D.tup (z0j (shr rows)))<4/\D.few (D.tup (z0j (shr rows))):=by
 obtain⟨L,cl⟩:=z0m G;have hl:=L.len;have h4:=G.few;have hh:=(z0S (kOf rows) (order rows)).2;refine⟨?_,?_⟩
 .have:=z3Z (shr rows);simp only[D.dep];lia
 .simp only[D.few];refine⟨?_,z8M _ fun r hr=>?_⟩
  .unfold z0j shr z1q;rw[y01,y01];have:=hh.2;lia
  .unfold shr z1q at hr;obtain⟨x,hx,rfl⟩:=y0f.mp hr;have hxo:=L.rg x (hh.1 x hx);have hrm:=z0n hxo.1 hxo.2;refine⟨?_,?_⟩
   .show(row rows x).1.length<=1000;rw[(G.perm _ hrm).len];lia
   .show(List.map _ _).length<=1000;rw[y01,G.len _ hrm];lia
end Gu
namespace L2
open PySem PySem.Spec PyProof.Rows
def Fly(h0:Heap)(H:Hp)(h:Heap)(ea C:Addr):Prop:=h0.get? ea=none/\H ea=none/\∃a0 oe vs T oT ts,h.get? ea=some oe/\(oe.cls=.ref C/\vs[0]?=some a0)/\oe.data=.fields vs/\vs[1]?=some (.ref T)/\T≠ea/\h0.get? T=none/\H T=none/\h.get? T=some oT/\oT.data=.fields ts/\ts[3]?=some .none
def zeM(h0:Heap)(H:Hp)(h:Heap)(ea C:Addr):Prop:=h0.get? ea=none/\H ea=none/\∃a0 oe vs,h.get? ea=some oe/\(oe.cls=.ref C/\vs[0]?=some a0)/\oe.data=.fields vs/\vs[1]?=some .none
theorem z2m{h base:Heap}:∀{l:List Env},h.FunFrames base l->∀b∈frs l,∃o,h.get? b=some o/\∀vs,o.data≠.fields vs
 |[],_,b,hb=>by simp[frs]at hb
 |env::r,hl,b,hb=>by
  obtain⟨hk,⟨L,o,hf,hn,ho,hd⟩,hr⟩:=hl;unfold frs at hb;rw[y2s,hf]at hb;rcases y0u.mp hb with z|z
  .rw[z];exact⟨o,ho,hd⟩
  .exact z2m hr b z
theorem z1U{h base base':Heap}:∀{l:List Env},h.FunFrames base l->(∀b∈frs l,base'.get? b=none)->h.FunFrames base' l
 |[],_,_=>trivial
 |env::r,hl,hb=>by
  obtain⟨hk,⟨L,o,hf,hn,ho,hd⟩,hr⟩:=hl;have e:frs (env::r)=L::frs r:=by unfold frs;rw[y2s,hf]
  exact⟨hk,⟨L,o,hf,hb L (by rw[e];simp),ho,hd⟩,z1U hr fun b hb'=>hb b (by rw[e];exact y0e _ hb')⟩
section
variable{P:Program}{w:World}
def z8t{H:Hp}{h:Heap}{a:Addr}{o:HO}(x:z19 P w H h a o):∃ob,h.get? a=some ob:=by
 cases o with
 |lst xs=>obtain⟨_,_,_,_,e⟩:=x;exact⟨_,e⟩
 |tup xs=>obtain⟨_,_,_,_,e⟩:=x;exact⟨_,e⟩
 |dK kvs=>obtain⟨_,_,_,_,o,_,_,e,_⟩:=x;exact⟨_,e⟩
 |dT kvs=>obtain⟨_,_,_,_,o,_,_,e,_⟩:=x;exact⟨_,e⟩
 |set S n=>obtain⟨o,_,_,_,e,_⟩:=x;exact⟨_,e⟩
 |ins C dx fs=>obtain⟨_,_,_,e,_⟩:=x;exact⟨_,e⟩
 |own y=>obtain⟨_,e⟩:=x;exact⟨_,e⟩
 |xd fs=>obtain⟨_,⟨_,_,_,e,_⟩,_⟩:=x;exact⟨_,e⟩
 |rng lo hi=>obtain⟨_,_,_,e⟩:=x;exact⟨_,e⟩
 |frz ob u=>obtain⟨e,_⟩:=x;exact⟨_,e⟩
 |tbl ps=>exact⟨_,show h.get? a=some _ from x⟩
 |met f y=>exact⟨_,show h.get? a=some _ from x⟩
 |ext φ=>obtain⟨_,⟨_,e⟩,_⟩:=x;exact⟨_,e⟩
def zaU{fr:List Addr}{H1 H':Hp}{h1 h h':Heap}{env:Env}{outer:List Env}{ea C:Addr}{a0:Value}{base:Heap}{hid:List Addr}(FF:h.FunFrames base (env::outer))(u:Un fr [] H1 H' h1 h)(hok:HOk P w H' h)(hfr:∀b∈frs (env::outer),H' b=none/\(b∈fr\/h1.get? b=none))(hfr2:∀b∈fr,b∈frs (env::outer))(he1:h1.get? ea=none)(heH:H' ea=none)(hid1:∀b∈hid,h1.get? b=none/\H' b=none)(lf:(PySem.W.hideAll h (ea::(hid++frs (env::outer)))).LeftW (env::outer) ea (.ref C) a0 h h') : Un fr [] H1 H' h1 h'/\HOk P w H' h'/\Fly h1 H' h' ea C:=by
 obtain⟨st,ff,tr,sl⟩:=lf;have keep:∀b o,h.get? b=some o->b≠ea->b∉hid->b∉frs (env::outer)->h'.get? b=some o:=fun b o e n1 n2 n3 =>
  st b o (PySem.W.hideAll_get _ e fun z=>by
   rcases y0u.mp z with z|z
   .exact n1 z
   .rcases y0g.mp z with z|z
    .exact n2 z
    .exact n3 z)
 have slot:∀b o,h.get? b=some o->b∈frs (env::outer)->∃s,h'.get? b=some { o with slots:=s }:=fun b o e hb=>by obtain⟨o',e',hd⟩:=z2m FF b hb;rw[e]at e';cases e';exact sl b o e hd
 have nh:∀b o,h1.get? b=some o->b≠ea/\b∉hid:=fun b o e=>⟨fun z=>(by rw[z,he1]at e;cases e),fun z=>(by rw[(hid1 b z).1]at e;cases e)⟩;refine⟨⟨fun b o e n hb hx=>?_,fun b o e n hb hx=>?_,u.free,fun b o e hx=>?_,u.tups,u.frzs,u.tbls⟩,fun a o e=>?_,he1,heH,?_⟩
 .have e2:=u.keep b o e n hb hx;refine keep b o e2 (nh b o e).1 (nh b o e).2 fun z=>?_;rcases(hfr b z).2 with z|z
  .exact hb z
  .rw[z]at e;cases e
 .obtain⟨s1,e2⟩:=u.slot b o e n hb hx;obtain⟨s2,e3⟩:=slot b _ e2 (hfr2 b hb);exact⟨s2,e3⟩
 .obtain⟨o',e2⟩:=u.there b o e hx;by_cases hb:b∈frs (env::outer)
  .obtain⟨s2,e3⟩:=slot b _ e2 hb;exact⟨_,e3⟩
  .exact⟨o',keep b o' e2 (nh b o e).1 (nh b o e).2 hb⟩
 .refine(hok a o e).stay (fun b v hb q=>?_) (fun _ q=>q) fun _ _ q=>q;have hbs:∃ob,H' b=some ob:=by
   rcases hb with z|z
   .rw[z];exact⟨_,e⟩
   .exact⟨_,z⟩
  obtain⟨ob,hob⟩:=hbs;refine keep b v q (fun z=>?_) (fun z=>?_) fun z=>?_
  .rw[z,heH]at hob;cases hob
  .rw[(hid1 b z).2]at hob;cases hob
  .rw[(hfr b z).1]at hob;cases hob
 .obtain⟨oe,vs,T,oT,ts,g1,g2,g3,g4,g5,g6,g7,g8,g9⟩:=tr;have hT:h1.get? T=none/\H' T=none:=by
   cases eT:h.get? T with
   |none =>
    refine⟨?_,?_⟩
    .cases q:h1.get? T with
     |none=>rfl
     |some o =>
      obtain⟨o',e2⟩:=u.there T o q (by simp);rw[eT]at e2;cases e2
    .cases q:H' T with
     |none=>rfl
     |some o =>
      obtain⟨ob,hob⟩:=z8t (hok T o q);rw[eT]at hob;cases hob
   |some oT' =>
    have hm:T∈ea::(hid++frs (env::outer)):=y1B fun nm=>by rw[PySem.W.hideAll_get _ eT nm]at g5;cases g5
    rcases y0u.mp hm with z|z
    .exact absurd z g6
    .rcases y0g.mp z with z|z
     .exact hid1 T z
     .obtain⟨o',e',hd⟩:=z2m ff T z;rw[g7]at e';cases e';exact absurd g8 (hd ts)
  exact⟨a0,oe,vs,T,oT,ts,g1,g2,g3,g4,g6,hT.1,hT.2,g7,g8,g9⟩
def zcf{M:Model}{A:Around}{E:yyE}{Q:Unit->Shared->Prop}{s:Shared}{fr:List Addr}{H1 H':Hp}{h1:Heap}{env:Env}{outer:List Env}{L ea C:Addr}{base:Heap}(hA:A.frames=some (env::outer))(hL:env.frame=some L)(FF:s.heap.FunFrames base (env::outer))(u:Un fr [] H1 H' h1 s.heap)(hok:HOk P w H' s.heap)(hfr:∀b∈frs (env::outer),H' b=none/\(b∈fr\/h1.get? b=none))(hfr2:∀b∈fr,b∈frs (env::outer))(hf:zeM h1 H' s.heap ea C\/Fly h1 H' s.heap ea C)(k:∀h',Un fr [] H1 H' h1 h'->HOk P w H' h'->Fly h1 H' h' ea C->Q () { s with heap:=h' }):wpAny M A (leaving env (.ref ea)) Q E s:=by
 rcases hf with⟨he1,heH,a0,oe,vs,g1,⟨g2,g20⟩,g3,g4⟩|⟨he1,heH,a0,oe,vs,T,oT,ts,g1,g2,g3,g4,g5,g6,g7,g8,g9,g10⟩
 .have FF':s.heap.FunFrames (PySem.W.hideAll s.heap (ea::([]++frs (env::outer)))) (env::outer):=z1U FF fun b hb=>y23 _ (by simp[hb]);refine wpAny_leaving_firstW hA FF' hL g1 (fun b o e=>PySem.W.of_hideAll _ e) (y23 _ (by simp)) g3 g4 g20 fun h' lf=>?_;rw[g2]at lf;obtain⟨a,b,c⟩:=zaU (hid:=[]) FF u hok hfr hfr2 he1 heH (fun b hb=>by simp at hb) lf;exact k h' a b c
 .have FF':s.heap.FunFrames (PySem.W.hideAll s.heap (ea::([T]++frs (env::outer)))) (env::outer):=z1U FF fun b hb=>y23 _ (by simp[hb]);refine wpAny_leaving_nextW hA FF' hL ⟨oe,vs,T,oT,ts,g1,g2,g3,g4,y23 _ (by simp),g5,g8,g9,g10⟩ (fun b o e=>PySem.W.of_hideAll _ e) (y23 _ (by simp)) fun h' lf=>?_;obtain⟨a,b,c⟩:=zaU (hid:=[T]) FF u hok hfr hfr2 he1 heH (fun b hb=>by rw[y0c.mp hb];exact⟨g6,g7⟩) lf;exact k h' a b c
def CXx(P:Program)(w:World):CXT:=fun outer H s E e s'=>∃(ea C:Addr)(H':Hp),e=.ref ea/\s'.os=s.os/\AllBare s'.gens/\Un (frs outer) [] H H' s.heap s'.heap/\HOk P w H' s'.heap/\Fly s.heap H' s'.heap ea C/\E (.ref ea) (some C) H'
instance:NoE (CXx P w):=⟨fun⟨_,_,_,_,_,_,_,_,_,h⟩=>h⟩
def zfB{K:yyF}{mg:yyS}{base:Heap}{N:List Str}{qual:Str}{scope:Scope}{f:Addr}{cd:Value}{A:Around}{outer:List Env}{s:Shared}{H:Hp}{E:XK}{pins:yyP}{σ:St}{H':Hp}{s':Shared}{ea C:Addr}(J:Inv (z6g (CXx P w) P w K mg base N qual scope f cd A outer s H E) pins σ H' s')(hf:zeM s.heap H' s'.heap ea C\/Fly s.heap H' s'.heap ea C)(hE:E (.ref ea) (some C) H'):(z6g (CXx P w) P w K mg base N qual scope f cd A outer s H E).xe (.ref ea) s':=by
 have hsub:=J.stkSub;have hfree:=J.stkFree;have hst:=J.stack;have hfrm:=J.ok.frames;show wpAny (model P w) (A.deeper (envOfC qual scope s.heap.objs.size f cd)) (leaving (envOfC qual scope s.heap.objs.size f cd) (.ref ea)) (fun _ s''=>CXx P w outer H s E (.ref ea) s'') (fun e' s''=>CXx P w outer H s E e' s'') s';refine zcf (P:=P) (w:=w) (fr:=frs outer) (H1:=H) (H':=H') (h1:=s.heap) (base:=base) hfrm rfl hst J.base J.hok (fun b hb=>⟨hfree b hb,?_⟩) (fun b hb=>y0e _ hb) hf fun h' a b c=>?_
 .rcases y0u.mp (hsub b hb)with z|z
  .right;rw[z];exact y3C (y0d _)
  .exact .inl z
 .exact⟨ea,C,H',rfl,J.os,J.bare,a,b,c,hE⟩
def zet{K:yyF}{mg:yyS}{base:Heap}{N:List Str}{qual:Str}{scope:Scope}{f:Addr}{cd:Value}{A:Around}{outer:List Env}{s:Shared}{H:Hp}{E E':XK}(hE:∀e C H',E' e C H'->E e C H') : z75 (CXx P w) (z6g (CXx P w) P w K mg base N qual scope f cd A outer s H E) E':=by
 intro pins σ H1 s1 e s' I hx;obtain⟨ea,C,H',rfl,os,bare,un,hok,fly,q⟩:=hx;have J:=I.call' (ch:=[]) os un hok bare (fun b z=>absurd z (by simp));refine zfB J (.inr ?_) (hE _ _ _ q);have up:∀b,s1.heap.get? b=none->s.heap.get? b=none:=fun b z=>by
  cases q:s.heap.get? b with
  |none=>rfl
  |some o =>
   obtain⟨o',e⟩:=I.base.there b o q (by simp[z6g]);rw[z]at e;cases e
 obtain⟨a1,a2,a0,oe,vs,T,oT,ts,g1,g2,g3,g4,g5,g6,r⟩:=fly;exact⟨up _ a1,a2,a0,oe,vs,T,oT,ts,g1,g2,g3,g4,g5,up _ g6,r⟩
end
def zdT{K:yyF}{h:Heap}{C:Addr}{bmB:List Value}{newId:String}(X:K.In h)(e:PySem.W.excIn K C bmB newId=true):∃bm N nm q bs hdct sn sub ab col dd k0 k1 k2 k3 k5 mN, h.get? C=some (excClassObj nm q C N bs bm hdct sn sub ab col dd k0 k1 k2 k3 k5 newId)/\h.Ns N mN/\mN "__init__"=none/\OwnTail h bmB bm:=by
 unfold PySem.W.excIn at e;split at e
 .rename_i dict cd sl hl;split at e
  .rename_i C' bm a0 a1 a2 a3 n a5 hm hs;simp only[y3z,y3i,Bool.not_eq_true']at e;obtain⟨⟨⟨⟨⟨e1,e2⟩,e3⟩,e4⟩,e5⟩,e6⟩:=e;have hC:=X C _ hl;subst e1 e2;have hsl:sl=#[a0,a1,a2,a3,some (Value.builtin n),a5]:=by rw[<-Array.toArray_toList (xs:=sl),hs]
   obtain⟨nm,bs,mro,ns,q,hd,sn,sub,ab,col,hdel⟩:=cd;simp only at hm e3 e5 e6;subst hm e3 hsl;exact⟨bm,ns,nm,q,bs,hd,sn,sub,ab,col,dict,a0,a1,a2,a3,a5,h.nsMap ns,hC,Heap.Ns.of_isNs (PySem.W.isNs_of_in X e5),PySem.W.nsMap_none_of_in X e5 e6,PySem.W.tail_of_in X e4⟩
  .cases e
 .cases e
def zbS{h:Heap}{bmB bm:List Value}{v:Value}(t:OwnTail h bmB bm)(hb:bmB.contains v=true):bm.contains v=true:=by
 induction t with
 |base=>exact hb
 |own _ _ _ _ ih=>rw[List.contains_cons,ih];simp
section
variable{P:Program}{w:World}{K:yyF}{mg:yyS}{base:Heap}{N:List Str}{qual:Str}{scope:Scope}{f:Addr}{cd:Value}{A:Around}{outer:List Env}{s0:Shared}{H0:Hp}{E:XK}
def zbQ{x:Str}{C:Addr}{B newId initId:String}{bmB:List Value}{arg:Expr}{ta:TE}{np cpos pos:Pos}(hx:mg x=some (.ref C))(hg:Gl (z6g (CXx P w) P w K mg base N qual scope f cd A outer s0 H0 E) x)(he:PySem.W.excIn K C bmB newId=true)(hB:ExcBaseFacts B newId initId bmB)(ha:PE (z6g (CXx P w) P w K mg base N qual scope f cd A outer s0 H0 E) arg ta)(htr:backTo cpos (starEach [arg] (z6g (CXx P w) P w K mg base N qual scope f cd A outer s0 H0 E).env)=[(false,eval arg (z6g (CXx P w) P w K mg base N qual scope f cd A outer s0 H0 E).env)]:=by rfl)(hdb:(x==("__debug__":Str))=false:=by decide) : PS (z6g (CXx P w) P w K mg base N qual scope f cd A outer s0 H0 E) (.Raise (some (.Call (.Name x np) [arg] [] cpos)) none pos) (fun D σ H=>ta σ H fun v H1=>∀ea,E (.ref ea) (some C) H1):=by
 intro pins s σ H D I h;obtain⟨bm,NN,nm,q,bs,hd,sn,sub,ab,col,dict,a0,a1,a2,a3,a5,mN,hC,hN,hi,ht⟩:=zdT I.ok.mod.kin he;refine wpAny_Raise_call_subT (nm:=nm) (q:=q) (N:=NN) (bs:=bs) (hdct:=hd) (sn:=sn) (sub:=sub) (ab:=ab) (col:=col) (dd:=dict) (k0:=a0) (k1:=a1) (k2:=a2) (k3:=a3) (k5:=a5) hB (zbS ht hB.hasBase) (I.ok.hd rfl) (by rw[htr];rfl) hi (z5L I hg hx ⟨rfl,?_⟩ hdb);rw[htr];refine y3E (y39 (z1H (ha pins s σ H _ I h) fun u s2 v H2 I2 r2 q2=>Calls.spliced_nil ?_));have bk:=I2.bk;refine⟨rfl,by show 1<=sizeLine;decide,bk _ _ hC,hN.keeps bk,ht.keeps bk,fun h' e me=>?_⟩;obtain⟨kp,nw,t,g1,g2,g3⟩:=me;have J:=I2.kept (h':=h') (t':=s2.toks) kp;refine zfB J (.inl ⟨?_,?_,_,_,_,g1,⟨rfl,rfl⟩,rfl,rfl⟩) (q2 e)
 .cases z:s0.heap.get? e with
  |none=>rfl
  |some o =>
   obtain⟨o',e'⟩:=I2.base.there e o z (by simp[z6g]);rw[nw]at e';cases e'
 .cases z:H2 e with
  |none=>rfl
  |some o =>
   obtain⟨ob,hob⟩:=z8t (I2.hok e o z);rw[nw]at hob;cases hob
end
section
variable{P:Program}{w:World}
end
open PySem.SeqAt
section
variable{X:Cx}
end
end L2
namespace Gu
open PySem L2
def zbp(rows:List Row)(ks:List Int):Prop:=∃(α:Type)(_:DecidableEq α)(key:Int->α),ks=z2h ((z0x rows.length).map key)
def zeC(rows:List Row):zbp rows (z2h (rows.map (·.1))):=⟨List Int,inferInstance,fun x=>(row rows x).1,by rw[z4l rows (·.1)]⟩
def zda{rows:List Row}{ks:List Int}(h:ks.length=rows.length):zbp rows (z2h (z3W ks rows)):=⟨Int × List Int,inferInstance,zei rows ks,by rw[z3w h]⟩
def zbP{n:Nat}{rows:List Row}(G:z3X n rows){ks:List Int}(h:zbp rows ks):cnt ks<=cnt (z2h (z3W ks rows)):=by
 obtain⟨α,ia,key,rfl⟩:=h;rw[z3w (by rw[z35,y01,z0H]),z42 (z63 G.some),z42 (z63 G.some)];have h1:=z5T (L:=rows.length) (key:=key);have h2:=(z2c (kf (z2h ((z0x rows.length).map key))) (zei rows (z2h ((z0x rows.length).map key))) (z0x rows.length) fun x hx y hy e=>by unfold zei at e;exact(Prod.mk.inj e).1).1
 lia
theorem z5m{n:Nat}{rows:List Row}(G:z3X n rows):∀(m:Nat)(c:Int)(ks:List Int),zbp rows ks->z4S rows ks->cnt ks<=cnt (z4U rows m c ks)
 |0,c,ks,h,_=>y2i _
 |m+1,c,ks,h,hg=>by
  unfold z4U;by_cases hc:c<cnt ks
  .rw[if_pos hc];exact Int.le_trans (zbP G h) (z5m G m _ _ (zda hg.len) (zb1 hg))
  .rw[if_neg hc];exact y2i _
def zdH{n:Nat}{rows:List Row}(G:z0l n rows):((shr rows).length:Int)=cnt (z2M (z0L rows)):=by
 have GF:=z2F G;obtain⟨R,N⟩:=z4y GF;rw[<-z6A G];unfold zbU;rw[z3J (z3C GF).len N GF.go];unfold z1q;have hm:=z1w (kf (z2M (z0L rows))) (z0x (z0L rows).length);have:(z0r (kf (z2M (z0L rows))) (z0x (z0L rows).length)).length=(z0s ((z0x (z0L rows).length).map (kf (z2M (z0L rows))))).length:=by rw[<-hm,y01]
 rw[y01,this];obtain⟨α,ia,key,e⟩:=N;rw[e,z5T,z42 (z63 GF.some)]
def z4m{n:Nat}{rows:List Row}(G:z0l n rows):(shr rows).length<=rows.length:=by obtain⟨L,cl⟩:=z0m G;have hl:=L.len;have hh:=(z0S (kOf rows) (order rows)).2.2;unfold shr z1q;rw[y01];lia
def z2a{n:Nat}{rows:List Row}(G:z0l n rows):z0l n (shr rows):=by
 obtain⟨L,cl⟩:=z0m G;obtain⟨h1,h2,h3⟩:=z0S (kOf rows) (order rows);have hl:=z4m G;have hf:=G.few;obtain⟨r0,t0,e0,_⟩:=zfq G;have hm:∀r∈shr rows,∃x∈order rows,r=((row rows x).1,(row rows x).2.map fun g=>((((z0r (kOf rows) (order rows)).map (kOf rows)).idxOf (kOf rows g):Nat):Int)):=fun r hr=>by unfold shr z1q at hr;obtain⟨x,hx,e⟩:=y0f.mp hr;exact⟨x,h2 x hx,e.symm⟩
 refine⟨by lia,by rw[e0];simp,fun r hr=>?_,fun r hr=>?_,fun r hr g hg=>?_⟩
 .obtain⟨x,hx,rfl⟩:=hm r hr;exact G.perm (row rows x) (z0n (L.rg x hx).1 (L.rg x hx).2)
 .obtain⟨x,hx,rfl⟩:=hm r hr;show(List.map _ _).length=n;rw[y01];exact G.len _ (z0n (L.rg x hx).1 (L.rg x hx).2)
 .obtain⟨x,hx,rfl⟩:=hm r hr;obtain⟨y,hy,rfl⟩:=y0f.mp hg;have:=y0P (h1 y (cl x hx y hy));rw[y01]at this;unfold shr z1q;rw[y01];lia
def z4H{n:Nat}{rows:List Row}(G:z0l n rows):shr (shr rows)=shr rows:=by
 obtain⟨L,cl⟩:=z0m G;have C:=z41 G;have R:=z20 G;obtain⟨h1,h2,h3⟩:=z0S (kOf rows) (order rows);obtain⟨t,et⟩:=L.hd;refine(z5v (M':=rows) (M:=shr rows) (h:=fun x=>((((z0r (kOf rows) (order rows)).map (kOf rows)).idxOf (kOf rows x):Nat):Int)) G (z2a G) ?_ fun x hx=>?_).symm
 .obtain⟨t',et'⟩:=z5Y (kOf rows) 0 t;show((((z0r (kOf rows) (order rows)).map (kOf rows)).idxOf (kOf rows 0):Nat):Int)=0;rw[et,et',y0k,y28];simp
 .have hy:∃y,(z0r (kOf rows) (order rows))[((z0r (kOf rows) (order rows)).map (kOf rows)).idxOf (kOf rows x)]?=some y/\kOf rows y=kOf rows x:=by
   have hlt:=y0P (h1 x hx);have hg:=y1Q hlt;rw[y01]at hlt;rw[y19]at hg;exact⟨_,y00 hlt,hg⟩
  show row (shr rows) ((((z0r (kOf rows) (order rows)).map (kOf rows)).idxOf (kOf rows x):Nat):Int)=_;generalize((z0r (kOf rows) (order rows)).map (kOf rows)).idxOf (kOf rows x)=j at hy⊢;obtain⟨y,ey,hg⟩:=hy;have hhd:y∈order rows:=h2 _ (y0D ey);have eb:=(R _ hhd x hx).mp hg;have er:row (shr rows) ((j:Nat):Int)=((row rows y).1,(row rows y).2.map fun g=>((((z0r (kOf rows) (order rows)).map (kOf rows)).idxOf (kOf rows g):Nat):Int)):=by
   unfold row shr z1q;have:((j:Nat):Int).toNat=j:=by lia
   rw[this,y07,y04,ey];rfl
  rw[er];refine y31 ?_ ?_
  .exact congrFun eb []
  .show List.map _ _=List.map _ _;refine y2d (by rw[y01,y01,C.len y hhd,C.len x hx]) fun i i1 i2=>?_;rw[y01]at i1 i2;rw[y19,y19];have b1:(row rows y).2.getD i 0=(row rows y).2[i]:=by rw[y07,y00 i1];rfl
   have b2:(row rows x).2.getD i 0=(row rows x).2[i]:=by rw[y07,y00 i2];rfl
   have a1:=C.go hhd i;have a2:=C.go hx i;rw[b1]at a1;rw[b2]at a2;have hb:beh rows (row rows y).2[i]=beh rows (row rows x).2[i]:=by rw[<-b1,<-b2];exact funext fun w=>congrFun eb (i::w)
   rw[(R _ a1 _ a2).mpr hb]
def TMx(Ct:Addr)(E:XK)(H:Hp):Prop:=∀(ea:Addr)(H':Hp),z0d H H'->E (.ref ea) (some Ct) H'
def z5O(K:yyF)(Ct:Addr):Sp:=fun vs H Q E=>∃(a:Addr)(n:Nat)(rows:List Row),vs=[.ref a]/\z3P K H a rows/\z3X n rows/\n<=60/\(cnt (z2M rows)<=60->∀(r:Addr)(H':Hp),z0d H H'->H' r=some (.lst ((z2M rows).map V.int))->Q (.ref r) H')/\(60<cnt (z2M rows)->TMx Ct E H)
def z80(K:yyF):Sp:=fun vs H Q _=>∃(n:Nat)(c:Int),vs=[.int n,.int c]/\2<=n/\n<=5/\∀(v:V)(H':Hp)(rows:List Row),z0d H H'->z0l n rows->rows.length<=48->Dr K H' (D.tup (z0j (shr rows))) v->Q v H'
end Gu
namespace L2
open PySem PySem.Spec PyProof.Rows
def Fun.okx{CX:CXT}{P:Program}{w:World}{K:yyF}{mg:yyS}{base:Heap}{x qual:Str}{st:Stmt}{f:Addr}{fd:FuncData}{N ps:List Str}{k:Nat}{sp:Sp}(F:Fun K x qual st f fd)(S:z0z N ps (z08 st))(len:∀vs H Q E,sp vs H Q E->vs.length=ps.length)(hbody:∀(cdv:Value)(A:Around)(outer:List Env)(s:Shared)(H:Hp)(vs:List V)(Q:VK)(E:XK),z2q k (A.deeper (envOfC qual (z08 st) s.heap.objs.size f cdv))->sp vs H Q E -> ∃t,PSs (z6g CX P w K mg base N qual (z08 st) f cdv A outer s H E) (z0Q st) t/\t { nx:=fun _ H'=>Q .non H',rt:=Q } (z4R N vs) H):z0K P w K mg base CX (k+1) f fd ps sp:=by obtain⟨oc,od,kV,doc,pm,an,cdv,ct,osl,rfl,lk,hcd⟩:=F.ex;exact zdl lk hcd S len fun A outer s H vs Q E hr hsp=>hbody cdv A outer s H vs Q E hr hsp
open PySem.SeqAt
section
variable{X:Cx}
end
end L2
namespace Gu
def lat(e:Row)(i:Nat):Int:=if i<e.1.length then e.1.getD i 0 else e.2.getD ((i-e.1.length)%e.2.length) 0
def zdg{l:List Int}{i:Nat}(h:i<l.length):l.getD i 0=l[i]:=by rw[y07,y00 h];rfl
open PySem L2
def hdW(e:Row)(m:Nat):List Int:=(List.range m).map (lat e)
end Gu
namespace L2
open PySem PySem.Spec PyProof.Rows
abbrev frO(o:Obj):HO:=.frz o (.ext fun _=>True)
section
variable{P:Program}{w:World}{H H1:Hp}{h:Heap}{a:Addr}{o:Obj}
def z6I(e:h.get? a=some o):z19 P w H h a (frO o):=⟨e,trivial,⟨o,e⟩,fun _ _ _ _=>trivial⟩
def z3N(x:HOk P w H h)(e:H a=some (frO o)):h.get? a=some o:=(x a _ e).1
end
def utk(H:Hp)(cs:List Addr):Hp:=fun b=>if b∈cs then none else H b
def rtk(H H1:Hp)(cs:List Addr):Hp:=fun b=>if b∈cs then H b else H1 b
def z5t{H:Hp}{cs:List Addr}{b:Addr}(h:b∈cs):utk H cs b=none:=if_pos h
def z18{H:Hp}{cs:List Addr}{b:Addr}(h:b∉cs):utk H cs b=H b:=if_neg h
def zbn{H H1:Hp}{cs:List Addr}{b:Addr}(h:b∈cs):rtk H H1 cs b=H b:=if_pos h
def z2v{H H1:Hp}{cs:List Addr}{b:Addr}(h:b∉cs):rtk H H1 cs b=H1 b:=if_neg h
theorem z0d.rtk{H H1:Hp}{cs:List Addr}(s:z0d (utk H cs) H1):z0d H (L2.rtk H H1 cs):=fun b o e=>by
 by_cases hb:b∈cs
 .rw[zbn hb];exact e
 .rw[z2v hb];exact s b o (by rw[z18 hb];exact e)
def z0d.rtk'{H H1:Hp}{cs:List Addr}(hn:∀c∈cs,H1 c=none):z0d H1 (L2.rtk H H1 cs):=fun b o e=>by
 have hb:b∉cs:=fun z=>by rw[hn b z]at e;cases e
 rw[z2v hb];exact e
def z81{H:Hp}{cs:List Addr}(hc:∀c∈cs,∃ob,H c=some (frO ob)){b:Addr}{o:HO}(e:H b=some o)(ne:∀ob,o≠frO ob):utk H cs b=some o:=by
 have hb:b∉cs:=fun z=>by obtain⟨ob,q⟩:=hc b z;rw[e]at q;exact ne ob (y0b q)
 rw[z18 hb];exact e
def z5N(H:Hp)(f:Addr)(params:Arguments)(body:Expr)(scope:Scope)(qual:Str)(N:List Str)(fv:St):Prop :=
 ∃(clos:List (Str × Addr)) (cs:List Addr) (pm:Value) (c':Addr) (ctv:Value) (oc:Obj) (vs:Array Value) (t:Tok),H f=some (frO (PySem.W.kla_obj "<lambda>" qual params body scope clos pm c' ctv))/\H c'=some (frO oc)/\oc.data=.fields vs/\vs[1]?=some (.str qual t) /\
  (∀x y c,clos.lookup x=some c->clos.lookup y=some c->x=y)/\(∀x c,clos.lookup x=some c->c∈cs)/\(∀c∈cs,(∃x,clos.lookup x=some c)/\∃o u,H c=some (frO o)/\o.data=.cell u)/\(∀x,scope.names.lookup x=some .free->∃c,clos.lookup x=some c) /\
  ∀(i:Nat) x v,N[i]?=some x->fv[i]?=some (some v)->∃c o u,clos.lookup x=some c/\H c=some (frO o)/\o.data=.cell (some u)/\z0N v u
def z5N.mono{H H':Hp}{f:Addr}{params:Arguments}{body:Expr}{scope:Scope}{qual:Str}{N:List Str}{fv:St}(h:z5N H f params body scope qual N fv)(s:z0d H H'):z5N H' f params body scope qual N fv:=by
 obtain⟨clos,cs,pm,c',ctv,oc,vs,t,e1,e2,e3,e4,e5,e5',e6,e7,e8⟩:=h;refine⟨clos,cs,pm,c',ctv,oc,vs,t,s _ _ e1,s _ _ e2,e3,e4,e5,e5',fun c hc=>?_,e7,fun i x v h1 h2=>?_⟩
 .obtain⟨hx,o,u,q,d⟩:=e6 c hc;exact⟨hx,o,u,s _ _ q,d⟩
 .obtain⟨c,o,u,q1,q2,q3⟩:=e8 i x v h1 h2;exact⟨c,o,u,q1,s _ _ q2,q3⟩
structure zfE(N ps:List Str)(sc:Scope):Prop where
 kind:sc.kind=.function:=by rfl
 co:sc.isCoroutine=false:=by rfl
 gen:sc.isGenerator=false:=by rfl
 nd:N.Nodup:=by decide +kernel
 pre:N.take ps.length=ps:=by rfl
 par:∀x∈ps,sc.names.lookup x=some .local:=by decide +kernel
 nocell:∀y∈sc.names,y.2≠.cell:=by decide +kernel
 fr:∀x∈N.drop ps.length,sc.names.lookup x=some .free:=by decide +kernel
def z7O(vs:List V)(fv:St):St:=vs.map some++fv.drop vs.length
def zc8(P:Program)(w:World)(K:yyF)(mg:yyS)(base:Heap)(N:List Str)(qual:Str)(scope:Scope)(f:Addr)(cd:Value)(clos:List (Str × Addr))(A:Around)(outer:List Env)(s:Shared)(H:Hp):Cx where
 prog:=P
 w:=w
 K:=K
 mg:=mg
 base:=base
 A:=A.deeper (PySem.W.envX qual scope s.heap.objs.size f cd clos)
 N:=N
 s₀:=s
 H₀:=H
 env:=PySem.W.envX qual scope s.heap.objs.size f cd clos
 outer:=outer
 stack:=PySem.W.envX qual scope s.heap.objs.size f cd clos::outer
 ex:=[]
 calm:=true
 fn:=fun _=>false
 pn:=[]
 xe:=noE
def z6t{ps:List Str}{us:List Value}{i:Nat}{x:Str}{u:Value}(nd:ps.Nodup)(hp:ps[i]?=some x)(hu:us[i]?=some u):(ps.zip us).reverse.lookup x=some u:=by
 have hm:(x,u)∈(ps.zip us).reverse:=List.mem_reverse.mpr (y0D (i:=i) (by rw[y0V];exact⟨hp,hu⟩));have key:∀l:List (Str × Value),(∀v,(x,v)∈l->v=u)->(x,u)∈l->l.lookup x=some u:=by
  intro l;induction l with
  |nil=>intro _ h;cases h
  |cons q r ih =>
   intro h1 h2;obtain⟨y,v⟩:=q;rw[y15];by_cases e:x=y
   .subst e;rw[show(x==x)=true by simp];exact y1o some (h1 v y0p)
   .rw[show(x==y)=false by simpa using e];refine ih (fun v hv=>h1 v (y0e _ hv)) ?_;rcases y0u.mp h2 with z|z
    .injection z with z1 _;exact absurd z1 e
    .exact z
 refine key _ (fun v hv=>?_) hm;obtain⟨j,hj,ej⟩:=y2t (List.mem_reverse.mp hv);have e1:(ps.zip us)[j]?=some (x,v):=by rw[y00 hj,ej]
 rw[y0V]at e1;have:j=i:=z5Z nd e1.1 hp;subst this;rw[hu]at e1;exact(y0b e1.2).symm
def zdE{CX:CXT}{P:Program}{w:World}{K:yyF}{mg:yyS}{base:Heap}{k:Nat}{H:Hp}{f:Addr}{params:Arguments}{body:Expr}{scope:Scope}{qual:Str}{N ps:List Str}{fv:St}(C:z5N H f params body scope qual N fv)(S:zfE N ps scope)(hbind:∀(cl:List (Str × Addr)) (pm cdv ct:Value) (us:List Value),us.length=ps.length->bindArgs (PySem.W.kla_fn "<lambda>" qual params body scope cl pm cdv ct) ⟨us,[]⟩=pure (ps.zip us))(hfv:fv.length=N.length){A:Around}{outer:List Env}{s:Shared}{us:List Value}{vs:List V}{Q:VK}{E:XK}(hr:z2q (k+1) A)(e0:z9C P w K mg base A outer s H)(r:z0O vs us)(hl:vs.length=ps.length)(hbody:∀(cd:Value) (clos:List (Str × Addr)) (cs:List Addr),z2q k (A.deeper (PySem.W.envX qual scope s.heap.objs.size f cd clos))->(∀c∈cs,∃o,H c=some (frO o)) -> ∃t,PE (zc8 P w K mg base N qual scope f cd clos A outer s (utk H cs)) body t/\t (z7O vs fv) (utk H cs) fun v H1=>(∀c∈cs,H1 c=none)->Q v (rtk H H1 cs)) : codeAny (model P w) A (.call (.ref f) ⟨us,[]⟩) (CR CX outer P w H s Q E) s:=by
 obtain⟨clos,cs,pm,c',ctv,oc,vs',t,e1,e2,e3,e4,e5,hcl,e6',e7,e8⟩:=C;have e6:∀c∈cs,∃o u,H c=some (frO o)/\o.data=.cell u:=fun c hc=>(e6' c hc).2;obtain⟨tb,hPE,hq⟩:=hbody (.ref c') clos cs (hr.deeper _) (fun c hc=>let⟨o,_,q,_⟩:=e6 c hc;⟨o,q⟩);have KX:K.In s.heap:=e0.mod.kin.keeps fun b o e=>(e0.bs b o e).1;have lim:s.heap.NoLimit:=e0.mod.nolimit.keeps fun b o e=>(e0.bs b o e).1;have hul:us.length=ps.length:=by rw[<-r.length];exact hl
 refine PySem.W.kla_callFunE hr.depth (z3N e0.hok e1) rfl S.co S.gen rfl ⟨c',oc,vs',t,rfl,z3N e0.hok e2,e3,e4⟩ ?_;rw[hbind clos pm (.ref c') ctv us hul];refine y08 (wpAny_newFunctionEnv S.nocell (fun y hy=>S.par y.1 (y3K hy).1) (fun h₁ hns hsb=>?_) S.kind);have hk₁:∀b o,s.heap.get? b=some o->h₁.get? b=some o:=fun b o e=>hsb.extBut b o (y0y (y0j e)) (y05 _ e);refine⟨lim.keeps hk₁,?_⟩;show codeAny _ _ (.expr body (PySem.W.envX qual scope s.heap.objs.size f (.ref c') clos)) _ _;have hcu:∀c∈cs,utk H cs c=none:=fun c hc=>z5t hc;have hclt:∀c∈cs,c<s.heap.objs.size:=fun c hc=>by obtain⟨o,_,q,_⟩:=e6 c hc;exact y0j (z3N e0.hok q)
 have hokU:HOk P w (utk H cs) s.heap:=fun b u e=>by
  have hb:b∉cs:=fun z=>by rw[z5t z]at e;cases e
  rw[z18 hb]at e;refine(e0.hok b u e).stay (fun _ _ _ q=>q) (fun c q=>?_) fun c xs q=>?_
  .exact z81 (fun c hc=>let⟨o,_,q,_⟩:=e6 c hc;⟨o,q⟩) q (fun ob z=>by cases z)
  .exact z81 (fun c hc=>let⟨o,_,q,_⟩:=e6 c hc;⟨o,q⟩) q (fun ob z=>by cases z)
 have noA:∀b:Addr,b∉(zc8 P w K mg base N qual scope f (.ref c') clos A outer s (utk H cs)).ex:=fun b z=>absurd (show b∈([]:List Addr)from z) (by simp);have nonU:∀{b:Addr},H b=none->utk H cs b=none:=fun{b} e=>by
  by_cases hb:b∈cs
  .exact z5t hb
  .rw[z18 hb];exact e
 have I:Inv (zc8 P w K mg base N qual scope f (.ref c') clos A outer s (utk H cs)) [] (z7O vs fv) (utk H cs) { s with heap:=h₁,toks:=s.toks+(ps.zip us).length }:=by
  refine⟨⟨e0.mod,S.kind,rfl,rfl,y0d _,e5,fun y hy=>?_,fun y c hf _=>?_,fun _=>hr.hd,Around.frames_deeper e0.frames,.inr ⟨rfl,rfl⟩,fun b z=>absurd z (noA b),fun b o e=>⟨(e0.bs b o e).1,nonU (e0.bs b o e).2⟩,e0.bsz,fun b _ _=>noA b,fun b z=>absurd z (noA b),e0.funs,fun b hb=>nonU (e0.frf b hb)⟩,
   rfl,e0.bare,Un.kept hk₁,⟨_,hns,fun i y v h1 h2 h3=>?_⟩,fun y c h=>?_,?_,fun y c h=>hcu c (hcl y c h),fun p hp=>absurd (show p∈([]:yyP)from hp) (by simp),hokU.kept hk₁,?_⟩
  .rcases hy with hy|hy
   .exact absurd rfl (S.nocell _ (y12 hy))
   .exact e7 y hy
  .exact absurd (show false=true from hf) y0C
  .by_cases hi:i<vs.length
   .have ha:vs[i]?=some v:=by
     unfold z7O at h2;rw[y16 (by simpa using hi),y04]at h2;cases e:vs[i]? with
     |none=>rw[e]at h2;cases h2
     |some a=>rw[e]at h2;cases h2;rfl
    obtain⟨u,hu,rv⟩:=r.get ha;have hp:ps[i]?=some y:=by rw[<-S.pre,y21 (by lia)];exact h1
    have ndP:ps.Nodup:=by rw[<-S.pre];exact S.nd.sublist (y1D _ _)
    exact⟨u,rv,.inl ⟨S.par y (y0D hp),z6t ndP hp hu⟩⟩
   .have h2':fv[i]?=some (some v):=by
     unfold z7O at h2;rw[y0Z (by simpa using hi),y01,y2F]at h2;rw[show vs.length+(i-vs.length)=i by lia]at h2;exact h2
    obtain⟨c,o,u,q1,q2,q3,q4⟩:=e8 i y v h1 h2';have hkk:scope.names.lookup y=some .local\/scope.names.lookup y=some .cell\/scope.names.lookup y=some .free:=h3;refine⟨u,q4,?_⟩;rcases hkk with z|z|z
    .have hm:y∈N.drop ps.length:=y0D (i:=i-ps.length) (by rw[y2F,show ps.length+(i-ps.length)=i by lia];exact h1);rw[S.fr y hm]at z;cases z
    .exact absurd rfl (S.nocell _ (y12 z))
    .exact .inr ⟨.inr z,c,q1,⟨o,hk₁ _ _ (z3N e0.hok q2),q3⟩⟩
  .obtain⟨o,u,q,d⟩:=e6 c (hcl y c h);exact⟨u,o,hk₁ _ _ (z3N e0.hok q),d⟩
  .exact nonU (e0.hok.fresh (y0d _))
  .unfold z7O;show _=N.length;have hpl:ps.length<=N.length:=by have:=y1o List.length S.pre;rw[y0w]at this;lia
   rw[y09,y01,y3x,hfv];lia
 refine PySem.W.kla_codeExpr (y1C (hPE [] _ (z7O vs fv) (utk H cs) _ I hq) (fun v' s' hs=>?_) fun e' s' hs=>False.elim hs);obtain⟨v,H1,J,rv,q1⟩:=hs;have hn1:∀c∈cs,H1 c=none:=fun c hc=>by obtain⟨⟨x,hx⟩,_⟩:=e6' c hc;exact J.freeC x c hx
 have U:Un (frs outer) [] (utk H cs) H1 s.heap s'.heap:=J.base;have hcs':∀c∈cs,∃ob,H c=some (frO ob):=fun c hc=>let⟨o,_,q,_⟩:=e6 c hc;⟨o,q⟩;have out:∀{b:Addr},H b=none->b∉cs:=fun{b} e z=>by obtain⟨o,q⟩:=hcs' b z;rw[e]at q;cases q
 have got:∀{b:Addr}{o:HO},(∀ob,o≠frO ob)->H b=some o->b∉cs:=fun{b o} ne e z=>by obtain⟨ob,q⟩:=hcs' b z;rw[e]at q;exact ne ob (y0b q)
 refine⟨v,rtk H H1 cs,J.os,J.bare,⟨fun b o e n hb hx=>?_,fun b o e n hb hx=>?_,fun b o e n hx=>?_,fun b o e hx=>U.there b o e hx,fun b xs e=>?_,fun b o u e=>?_,fun b ps e=>?_⟩,fun b u e=>?_,rv,q1 hn1⟩
 .exact U.keep b o e (nonU n) hb hx
 .exact U.slot b o e (nonU n) hb hx
 .rw[z2v (out n)];exact U.free b o e (nonU n) hx
 .have hb:=got (fun ob z=>by cases z) e;rw[z2v hb];exact U.tups b xs (by rw[z18 hb];exact e)
 .by_cases hb:b∈cs
  .rw[zbn hb];exact e
  .rw[z2v hb];exact U.frzs b o u (by rw[z18 hb];exact e)
 .have hb:=got (fun ob z=>by cases z) e;obtain⟨more,q⟩:=U.tbls b ps (by rw[z18 hb];exact e);exact⟨more,by rw[z2v hb];exact q⟩
 .by_cases hb:b∈cs
  .rw[zbn hb]at e;obtain⟨ob,q⟩:=hcs' b hb;rw[q]at e;have:=y0b e;subst this;refine z6I (U.keep b ob (z3N e0.hok q) (hcu b hb) (fun z=>?_) (by simp));have:=e0.frf b z;rw[q]at this;cases this
  .rw[z2v hb]at e;refine(J.hok b u e).stay (fun _ _ _ q=>q) (fun c q=>?_) fun c xs q=>?_
   .exact z0d.rtk' hn1 c _ q
   .exact z0d.rtk' hn1 c _ q
def z33(P:Program)(w:World)(K:yyF)(mg:yyS)(base:Heap)(CX:CXT)(k:Nat)(H:Hp)(f:Addr)(sp:List V->Hp->VK->Prop):Prop :=
 (∃(o:Obj)(fd:FuncData),H f=some (frO o)/\o.data=.func fd) /\
 ∀(H':Hp),z0d H H'->∀(A:Around)(outer:List Env)(s:Shared)(us:List Value)(vs:List V)(Q:VK),z2q k A->z9C P w K mg base A outer s H'->z0O vs us->sp vs H' Q ->
  codeAny (model P w) A (.call (.ref f) ⟨us,[]⟩) (CR CX outer P w H' s Q E0) s
def z33.mono{P:Program}{w:World}{K:yyF}{mg:yyS}{base:Heap}{CX:CXT}{k:Nat}{H H1:Hp}{f:Addr}{sp:List V->Hp->VK->Prop}(h:z33 P w K mg base CX k H f sp)(s:z0d H H1):z33 P w K mg base CX k H1 f sp:=by obtain⟨⟨o,fd,e,d⟩,r⟩:=h;exact⟨⟨o,fd,s _ _ e,d⟩,fun H' s'=>r H' (s.trans s')⟩
def zeY(P:Program)(w:World)(K:yyF)(mg:yyS)(base:Heap)(CX:CXT)(k:Nat)(i:Nat)(t:TA):TE:=fun σ H Q=>∃(f:Addr)(sp:List V->Hp->VK->Prop),σ[i]?=some (some (.ref f))/\(∃(o:Obj)(fd:FuncData),H f=some (frO o)/\o.data=.func fd) /\
 t σ H fun vs H1=>z33 P w K mg base CX k H1 f sp/\sp vs H1 Q
section
variable{X:Cx}{CX:CXT}{k:Nat}{x:Str}{p pos:Pos}{e:Expr}{es:List Expr}{t:TA}
def zbW[N:NoE CX](i:Nat)(hr:z2q k X.A)(ha:PA X (e::es) t)(hN:X.N[i]?=some x:=by rfl)(hv:Vis X.env.scope x:=by first|exact Or.inl rfl|exact Or.inr (Or.inl rfl)|exact Or.inr (Or.inr rfl))(hd:(x==("__debug__":Str))=false:=by decide)(hcd:(x==("__classdict__":Str))=false:=by decide)(he:starEach (e::es) X.env=(false,eval e X.env)::starEach es X.env:=by rfl)(hpl:(backTo pos (starEach es X.env)).any (·.1)=false:=by rfl) : PE X (.Call (.Name x p) (e::es) [] pos) (zeY X.prog X.w X.K X.mg X.base CX k i t):=by
 intro pins s σ H Q I h;obtain⟨f,sp,ef,⟨o,fd,eo,od⟩,h⟩:=h;refine y2f (z1H (zd2 hN hv hd hcd pins s σ H (fun v H1=>v=.ref f/\H1=H) I ⟨_,ef,rfl,rfl⟩) fun u s1 v H1 I1 r1 hz9=>?_);obtain⟨hv1,hH1⟩:=hz9;subst hv1 hH1;cases r1;have h':=ha pos pins s1 σ H1 _ I1 h;rw[he]at h'⊢;refine PySem.W.callWith_of (P:=fun hp=>hp.get? f=some o\/∃o' fd',hp.get? f=some o'/\o'.data=.func fd') (by show((false||(backTo pos (starEach es X.env)).any (·.1))||false)=false;rw[hpl];rfl)
  (fun hp hX=>?_) (PySem.Calls.evalArgs_plain (thn h' fun us s2 ⟨vs,H2,I2,r,cv,q⟩=>?_))
 .have hX':∃o' fd',hp.get? f=some o'/\o'.data=.func fd':=hX.elim (fun z=>⟨o,fd,z,od⟩) id;obtain⟨o',fd',z,d'⟩:=hX';refine⟨.frame,.inl rfl,?_⟩;obtain⟨cls,dd,data,sl⟩:=o';simp only at d';subst d';exact(PySem.W.Looks.ld (part:=none) z).andThen .now
 .obtain⟨⟨o',fd',z,d'⟩,run⟩:=cv;refine⟨.inr ⟨o',fd',z3N I2.hok z,d'⟩,?_⟩;refine wpAny_call (y2r (run H2 (z0d.refl _) X.A X.stack s2 us vs Q hr I2.env0 r q) fun r s' hq=>?_);cases r with
  |error e=>exact absurd hq N.no
  |ok fl =>
   cases fl with
   |ret u=>exact I2.after hq
   |next=>exact False.elim hq
   |brk=>exact False.elim hq
   |cont=>exact False.elim hq
end
structure Tb where
 at_:Addr
 pos:Pos
 qual:Str
def zbK(T:Tb)(H:Hp):Prop:=H T.at_=some (.tbl #[])\/∃(c':Addr)(oc:Obj)(vs:Array Value)(t:Tok),H T.at_=some (.tbl #[rawInt T.pos.line,rawInt T.pos.col,.ref c'])/\H c'=some (frO oc)/\oc.data=.fields vs/\vs[1]?=some (.str T.qual t)
def z65(Ts:List Tb)(H:Hp):Prop:=∀T∈Ts,zbK T H
structure SameL(Ts:List Tb)(H H':Hp):Prop where
 at_:∀b o,(∀ps,o≠.tbl ps)->H b=some o->H' b=some o
 tabs:z65 Ts H->z65 Ts H'
def zbK.mono{T:Tb}{H H':Hp}(h:zbK T H)(s:z0d H H'):zbK T H':=by
 rcases h with e|⟨c',oc,vs,t,e1,e2,e3⟩
 .exact .inl (s _ _ e)
 .exact .inr ⟨c',oc,vs,t,s _ _ e1,s _ _ e2,e3⟩
def z0d.l{Ts:List Tb}{H H':Hp}(s:z0d H H'):SameL Ts H H':=⟨fun b o _ e=>s b o e,fun h T hT=>(h T hT).mono s⟩
theorem SameL.refl{Ts:List Tb}(H:Hp):SameL Ts H H:=(z0d.refl H).l
def SameL.trans{Ts:List Tb}{H H1 H2:Hp}(a:SameL Ts H H1)(b:SameL Ts H1 H2):SameL Ts H H2:=⟨fun c o n e=>b.at_ c o n (a.at_ c o n e),fun h=>b.tabs (a.tabs h)⟩
class NT (o:HO):Prop where
 no:∀ps,o≠.tbl ps
instance NT.lst{xs:List V}:NT (.lst xs):=⟨fun _ z=>by cases z⟩
instance NT.tup{xs:List V}:NT (.tup xs):=⟨fun _ z=>by cases z⟩
instance NT.dK{xs:List (Key × V)}:NT (.dK xs):=⟨fun _ z=>by cases z⟩
instance NT.ext{f:Heap->Prop}:NT (.ext f):=⟨fun _ z=>by cases z⟩
instance NT.frz{o:Obj}{u:HO}:NT (.frz o u):=⟨fun _ z=>by cases z⟩
def SameL.g{Ts:List Tb}{H H':Hp}(s:SameL Ts H H'){b:Addr}{o:HO}[n:NT o](e:H b=some o):H' b=some o:=s.at_ b o n.no e
def SameL.seq{Ts:List Tb}{K:yyF}{H H':Hp}{a:Addr}{xs:List V}(s:SameL Ts H H')(h:SqL K H a xs):SqL K H' a xs:=by
 rcases h with(h|⟨o,h⟩)|h
 .exact .inl (.inl (s.g h))
 .exact .inl (.inr ⟨o,s.g h⟩)
 .exact .inr h
mutual
theorem Dr.monoL{Ts:List Tb}{K:yyF}{H H':Hp}(s:SameL Ts H H'):∀{d:D}{v:V},Dr K H d v->Dr K H' d v
 |.non,_,h=>by simp only[Dr]at h⊢;exact h
 |.bl _,_,h=>by simp only[Dr]at h⊢;exact h
 |.int _,_,h=>by simp only[Dr]at h⊢;exact h
 |.str _,_,h=>by simp only[Dr]at h⊢;exact h
 |.tup ds,_,h=>by
  simp only[Dr]at h⊢;obtain⟨a,vs,e,q,r⟩:=h;exact⟨a,vs,e,s.g q,DrL.monoL s r⟩
 |.lst ds,_,h=>by simp only[Dr]at h⊢;obtain⟨a,vs,e,q,r⟩:=h;exact⟨a,vs,e,s.seq q,DrL.monoL s r⟩
theorem DrL.monoL{Ts:List Tb}{K:yyF}{H H':Hp}(s:SameL Ts H H'):∀{ds:List D}{vs:List V},DrL K H ds vs->DrL K H' ds vs
 |[],_,h=>by simp only[DrL]at h⊢;exact h
 |d::ds,_,h=>by simp only[DrL]at h⊢;obtain⟨v,r,e,q,q'⟩:=h;exact⟨v,r,e,Dr.monoL s q,DrL.monoL s q'⟩
end
def zcD(H:Hp)(cs:List Addr)(ob:Addr->Obj):Hp:=fun b=>if b∈cs then some (frO (ob b))else H b
def z4F{H:Hp}{cs:List Addr}{ob:Addr->Obj}{b:Addr}(h:b∈cs):zcD H cs ob b=some (frO (ob b)):=if_pos h
def z1f{H:Hp}{cs:List Addr}{ob:Addr->Obj}{b:Addr}(h:b∉cs):zcD H cs ob b=H b:=if_neg h
section
variable{X:Cx}{pins:yyP}{σ:St}{H:Hp}{s s':Shared}{cs:List Addr}{ob:Addr->Obj}
def Inv.cellFree(I:Inv X pins σ H s){x:Str}{c:Addr}(hc:X.env.cells.lookup x=some c)(hge:X.s₀.heap.objs.size<=c):c∉frs X.stack/\X.base.get? c=none:=by
 refine⟨fun z=>?_,y3C (y0S I.ok.bsz hge)⟩;rcases y0u.mp (I.stkSub c z)with q|q
 .exact I.cne x c hc q
 .obtain⟨_,o,ho,_⟩:=I.ok.funs.mem q;exact absurd (y0t (y0j ho) hge) (y2e _)
def Inv.env0T(I:Inv X pins σ H s)(h1:∀c∈cs,s.heap.get? c=some (ob c))(h2:∀c∈cs,H c=none)(h3:∀c∈cs,c∉frs X.stack/\X.base.get? c=none):z9C X.prog X.w X.K X.mg X.base X.A X.stack s (zcD H cs ob):=by
 have E:=I.env0;have out:∀{b:Addr}{o:HO},H b=some o->b∉cs:=fun{b o} e z=>by rw[h2 b z]at e;cases e
 refine⟨E.frames,E.mod,fun b o e=>⟨(E.bs b o e).1,?_⟩,E.bsz,E.funs,fun b hb=>?_,fun b u e=>?_,E.bare⟩
 .have hb:b∉cs:=fun z=>by rw[(h3 b z).2]at e;cases e
  rw[z1f hb];exact(E.bs b o e).2
 .have hb':b∉cs:=fun z=>(h3 b z).1 hb;rw[z1f hb'];exact E.frf b hb
 .by_cases hb:b∈cs
  .rw[z4F hb]at e;have:=y0b e;subst this;exact z6I (h1 b hb)
  .rw[z1f hb]at e;exact(I.hok b u e).stay (fun _ _ _ q=>q) (fun c q=>by rw[z1f (out q)];exact q) fun c xs q=>by rw[z1f (out q)];exact q
def unT{fr:List Addr}{H':Hp}{h h':Heap}{P:Program}{w:World}(h1:∀c∈cs,h.get? c=some (ob c))(h2:∀c∈cs,H c=none)(h3:∀c∈cs,c∉fr)(U:Un fr [] (zcD H cs ob) H' h h')(hok:HOk P w H' h') : Un fr [] H (utk H' cs) h h'/\HOk P w (utk H' cs) h':=by
 have out:∀{b:Addr}{o:HO},H b=some o->b∉cs:=fun{b o} e z=>by rw[h2 b z]at e;cases e
 have at':∀c∈cs,H' c=some (frO (ob c)):=fun c hc=>U.frzs c _ _ (z4F hc);have got:∀{b:Addr}{o:HO},(∀x,o≠frO x)->H' b=some o->b∉cs:=fun{b o} ne e z=>by rw[at' b z]at e;exact ne _ (y0b e).symm
 refine⟨⟨fun b o e n hb hx=>?_,fun b o e n hb hx=>?_,fun b o e n hx=>?_,fun b o e hx=>U.there b o e hx,fun b xs e=>?_,fun b o u e=>?_,fun b ps e=>?_⟩,fun b u e=>?_⟩
 .by_cases hc:b∈cs
  .have q:=z3N hok (at' b hc);have q':=h1 b hc;rw[e]at q';rw[q,y0b q']
  .exact U.keep b o e (by rw[z1f hc];exact n) hb hx
 .have hc:b∉cs:=fun z=>h3 b z hb;exact U.slot b o e (by rw[z1f hc];exact n) hb hx
 .by_cases hc:b∈cs
  .exact z5t hc
  .rw[z18 hc];exact U.free b o e (by rw[z1f hc];exact n) hx
 .rw[z18 (out e)];exact U.tups b xs (by rw[z1f (out e)];exact e)
 .rw[z18 (out e)];exact U.frzs b o u (by rw[z1f (out e)];exact e)
 .obtain⟨more,q⟩:=U.tbls b ps (by rw[z1f (out e)];exact e);exact⟨more,by rw[z18 (out e)];exact q⟩
 .have hc:b∉cs:=fun z=>by rw[z5t z]at e;cases e
  rw[z18 hc]at e;refine(hok b u e).stay (fun _ _ _ q=>q) (fun c q=>?_) fun c xs q=>?_
  .rw[z18 (got (fun x z=>by cases z) q)];exact q
  .rw[z18 (got (fun x z=>by cases z) q)];exact q
def Inv.afterT{Q:VK}{u:Value}(I:Inv X pins σ H s)(h1:∀c∈cs,s.heap.get? c=some (ob c))(h2:∀c∈cs,H c=none)(h3:∀c∈cs,c∉frs X.stack/\X.base.get? c=none)(h:CE X.stack X.prog X.w (zcD H cs ob) s (fun v H'=>Q v (utk H' cs)) u s'):EP X pins σ Q u s':=by obtain⟨v,H',os,bare,un,hok,r,q⟩:=h;obtain⟨un2,hok2⟩:=unT h1 h2 (fun c hc=>(h3 c hc).1) un hok;exact I.after ⟨v,utk H' cs,os,bare,un2,hok2,r,q⟩
def zgO{P:Program}{w:World}{outer:List Env}{E:XK}{e:Value}(h1:∀c∈cs,s.heap.get? c=some (ob c))(h2:∀c∈cs,H c=none)(h3:∀c∈cs,c∉frs outer)(h:CXx P w outer (zcD H cs ob) s (fun e C H'=>E e C (utk H' cs)) e s'):CXx P w outer H s E e s':=by
 obtain⟨ea,C,H',e1,os,bare,un,hok,fly,q⟩:=h;obtain⟨un2,hok2⟩:=unT h1 h2 h3 un hok;have no:∀{b:Addr},H' b=none->utk H' cs b=none:=fun{b} z=>by
  by_cases hc:b∈cs
  .exact z5t hc
  .rw[z18 hc];exact z
 obtain⟨f1,f2,a0,oe,vs,T,oT,ts,g1,g2,g3,g4,g5,g6,g7,g8⟩:=fly;exact⟨ea,C,utk H' cs,e1,os,bare,un2,hok2,⟨f1,no f2,a0,oe,vs,T,oT,ts,g1,g2,g3,g4,g5,g6,no g7,g8⟩,q⟩
end
end L2
namespace L2
open PySem PySem.Spec PyProof.Rows
def z4t(base:Heap)(mg:yyS):Prop:=∃bm o,mg "__builtins__"=some (.ref bm)/\bm≠builtinsNs/\bm≠mainGlobals/\base.get? bm=some o/\o.cls=.type "module"/\o.dict=some builtinsNs/\o.data=.plain
def z7D(Ts:List Tb)(H H':Hp)(fa:Addr)(clos:List (Str × Addr))(params:Arguments)(body:Expr)(scope:Scope)(qual:Str):Prop :=
 (∀b o,(∀ps,o≠.tbl ps)->H b=some o->H' b=some o)/\z65 Ts H'/\∃(pm:Value) (c':Addr) (ctv:Value) (oc:Obj) (vs:Array Value) (t:Tok),H' fa=some (frO (PySem.W.kla_obj "<lambda>" qual params body scope clos pm c' ctv))/\H' c'=some (frO oc)/\oc.data=.fields vs/\vs[1]?=some (.str qual t)
def zgt(Ts:List Tb)(clos:List (Str × Addr))(params:Arguments)(body:Expr)(scope:Scope)(qual:Str):TE:=fun _ H Q=>z65 Ts H/\∀(fa:Addr)(H':Hp),z7D Ts H H' fa clos params body scope qual->Q (.ref fa) H'
section
variable{X:Cx}{N:List Str}{ix:List (Option Nat)}{params:Arguments}{body:Expr}{lsc:Scope}{lpos:Pos}{c:Addr}{T:Tb}{Ts:List Tb}
def zd3(S:z1a X.N X.env.scope N ix lsc)(hcode:X.env.code=.ref c)(hC:PySem.W.CodeHd X.base c T.at_)(hB:z4t X.base X.mg)(hT:T∈Ts)(hTn:∀T'∈Ts,T'.at_=T.at_->T'=T)(hTp:T.pos=lpos)(hTq:T.qual=X.env.qual++"<lambda>")(hdef:defaultsOf params X.env=([],[])):PE X (.Lambda params body lsc lpos) (zgt Ts (z0y X.env.cells lsc.names []) params body lsc T.qual):=by
 intro pins s σ H Q I h;obtain⟨ht,h⟩:=h;subst hTp;refine PySem.W.kla_eval hdef ?_;rw[<-hTq];have hcl:=z1T (scope:=lsc) (env:=X.env) (z0P I S);have hns:s.heap.Ns mainGlobals X.mg:=I.mod.glob.keeps I.bk;have C:PySem.W.CodeHd s.heap c T.at_:=hC.keeps I.bk;obtain⟨bm,ob,b1,b2,b3,b4,b5,b6,b7⟩:=hB;have tP:∀{ps:Array Value},H T.at_=some (.tbl ps)->s.heap.get? T.at_=some (PySem.W.tabObj ps):=fun e=>I.hok _ _ e;have neP:∀{ps:Array Value}{b:Addr},H T.at_=some (.tbl ps)->H b=none->b≠T.at_:=fun e n z=>by rw[z,e]at n;cases n
 rcases ht T hT with e|⟨c',oc,vs,t,e,ec,d1,d2⟩
 .have hbP:bm≠T.at_:=neP e (I.bs _ _ b4).2;have hgP:mainGlobals≠T.at_:=fun z=>by
   obtain⟨o,es,ep,q,qd,_⟩:=hns;rw[z,tP e]at q;cases q;cases qd
  refine PySem.W.kla_makeFunction (mg:=X.mg) hcl I.ok.glob hns hcode C (tP e) trivial rfl hgP ⟨bm,ob,b1,b2,b3,hbP,I.bk _ _ b4,b5,b6,b7⟩ fun c' ctv h' tk hx hge hlt hrec htb=>?_;obtain⟨c2,oc,vs,t,ee,hoc,d1,d2⟩:=hrec;cases ee;have hPlt:T.at_<s.heap.objs.size:=y0j (tP e);have nPc:T.at_≠c':=y0y (y0t hPlt hge);have nPf:T.at_≠h'.objs.size:=y0y (Nat.lt_trans (y0t hPlt hge) hlt);have ncf:c'≠h'.objs.size:=y0y hlt;have Hc:H c'=none:=I.hok.fresh hge;have Hf:H h'.objs.size=none:=I.hok.fresh (y0S hge (y1k hlt));generalize hfo:PySem.W.kla_obj "<lambda>" T.qual params body lsc (z0y X.env.cells lsc.names []) ((X.mg "__name__").getD .none) c' ctv=fo;have hfg:(h'.push fo).get? h'.objs.size=some fo:=y0h _ (by rw[<-hfo];rfl);let H':Hp:=upd (upd (upd H T.at_ (.tbl #[rawInt T.pos.line,rawInt T.pos.col,.ref c'])) c' (frO oc)) h'.objs.size (frO fo);have gP:H' T.at_=some (.tbl #[rawInt T.pos.line,rawInt T.pos.col,.ref c']):=by show upd _ _ _ _=_;rw[z06 nPf,z06 nPc,z03]
  have gc:H' c'=some (frO oc):=by show upd _ _ _ _=_;rw[z06 ncf,z03]
  have gf:H' h'.objs.size=some (frO fo):=z03;have go:∀{b:Addr},b≠T.at_->b≠c'->b≠h'.objs.size->H' b=H b:=fun{b} n1 n2 n3=>by show upd _ _ _ _=_;rw[z06 n3,z06 n2,z06 n1]
  have gt:∀{b:Addr}{o:HO},b≠T.at_->H b=some o->H' b=some o:=fun{b o} n1 q=>by rw[go n1 (z0e q Hc) (z0e q Hf)];exact q
  have hk:∀b o,b≠T.at_->s.heap.get? b=some o->(h'.push fo).get? b=some o:=fun b o n q=>y05 _ (hx b o n q);have I':Inv X pins σ H' { s with heap:=h'.push fo,toks:=tk }:=by
   refine I.un ⟨fun b o q n _ _=>hk b o (neP e n) q,fun b o q n _ _=>⟨o.slots,hk b o (neP e n) q⟩,fun b o q n _=>?_,fun b o q _=>?_,fun b xs q=>?_,fun b o u q=>?_,fun b ps q=>?_⟩ (fun b u q=>?_)
   .have hb:=y0j q;rw[go (neP e n) (y0y (y0t hb hge)) (y0y (Nat.lt_trans (y0t hb hge) hlt))];exact n
   .by_cases hb:b=T.at_
    .exact⟨_,by rw[hb];exact y05 _ htb⟩
    .exact⟨_,hk b o hb q⟩
   .exact gt (fun z=>by rw[z,e]at q;cases q) q
   .exact gt (fun z=>by rw[z,e]at q;cases q) q
   .by_cases hb:b=T.at_
    .subst hb;rw[e]at q;cases q;exact⟨#[rawInt T.pos.line,rawInt T.pos.col,.ref c'],by rw[gP];simp⟩
    .exact⟨#[],by rw[gt hb q];simp⟩
   .by_cases hf:b=h'.objs.size
    .subst hf;rw[gf]at q;cases q;exact z6I hfg
    .by_cases hc:b=c'
     .subst hc;rw[gc]at q;cases q;exact z6I (y05 _ hoc)
     .by_cases hb:b=T.at_
      .subst hb;rw[gP]at q;cases q;show(h'.push fo).get? T.at_=some (PySem.W.tabObj _);have:=y05 fo htb;simpa using this
      .rw[go hb hc hf]at q;refine(I.hok b u q).stay (fun d o hd q'=>hk d o ?_ q') (fun d q'=>gt (fun z=>by rw[z,e]at q';cases q') q') fun d xs q'=>gt (fun z=>by rw[z,e]at q';cases q') q';rcases hd with z|z
       .rw[z];exact hb
       .exact fun z'=>by rw[z',e]at z;cases z
  refine⟨.ref h'.objs.size,H',I',rfl,h _ _ ⟨fun b o no q=>gt (fun z=>by rw[z,e]at q;exact no _ (y0b q).symm) q,fun T' hT'=>?_,_,c',ctv,oc,vs,t,by rw[hfo];exact gf,gc,d1,d2⟩⟩;by_cases hb:T'.at_=T.at_
  .have:=hTn T' hT' hb;subst this;exact .inr ⟨c',oc,vs,t,gP,gc,d1,d2⟩
  .rcases ht T' hT' with q|⟨c3,oc3,vs3,t3,q1,q2,q3⟩
   .exact .inl (gt hb q)
   .exact .inr ⟨c3,oc3,vs3,t3,gt hb q1,gt (fun z=>by rw[z,e]at q2;cases q2) q2,q3⟩
 .have hbP:bm≠T.at_:=neP e (I.bs _ _ b4).2;refine PySem.W.kla_makeFunctionHit (mg:=X.mg) (cv:=.ref c') hcl I.ok.glob hns hcode C (tP e) (by simp[TriplesOk,rawInt]) (by simp[codeAmong,rawInt]) ⟨bm,ob,b1,b2,b3,hbP,I.bk _ _ b4,b5,b6,b7⟩ fun ctv h' tk hk hsz=>?_;have Hf:H h'.objs.size=none:=I.hok.fresh hsz;have gt:∀{b:Addr}{o:HO}{u:HO},H b=some o->upd H h'.objs.size u b=some o:=fun q=>by rw[z06 (z0e q Hf)];exact q
  refine⟨.ref h'.objs.size,_,I.laid (a:=h'.objs.size) (o:=frO (PySem.W.kla_obj "<lambda>" T.qual params body lsc (z0y X.env.cells lsc.names []) ((X.mg "__name__").getD .none) c' ctv)) (t':=tk) (fun b o q=>y05 _ (hk b o q)) hsz (z6I (y0h _ rfl)),rfl,h _ _ ⟨fun b o _ q=>gt q,fun T' hT'=>?_,_,c',ctv,oc,vs,t,z03,gt ec,d1,d2⟩⟩;rcases ht T' hT' with q|⟨c3,oc3,vs3,t3,q1,q2,q3⟩
  .exact .inl (gt q)
  .exact .inr ⟨c3,oc3,vs3,t3,gt q1,gt q2,q3⟩
def zeE(Ts:List Tb)(params:Arguments)(body:Expr)(lsc:Scope)(qual:Str)(N:List Str)(ix:List (Option Nat))(sp:Sp)(E:XK)(t0:TE):TE:=fun σ H Q=>t0 σ H fun v0 H1=>z65 Ts H1/\∀(fa:Addr)(H2:Hp)(cs:List Addr),(∀b o,(∀ps,o≠.tbl ps)->H1 b=some o->H2 b=some o) ->
 (∀H3,z0d H2 H3->SameL Ts H1 (utk H3 cs))->(∀c∈cs,∃ob,H2 c=some (frO ob))->z5N H2 fa params body lsc qual N (z1r ix σ)->sp [v0,.ref fa] H2 (fun v H3=>Q v (utk H3 cs)) (fun e C H3=>E e C (utk H3 cs))
variable{k:Nat}{g:Addr}{gd:FuncData}{ps:List Str}{sp:Sp}{E:XK}{x:Str}{p pos:Pos}{e0:Expr}{t0:TE}
def zcI(G:z0K X.prog X.w X.K X.mg X.base (CXx X.prog X.w) k g gd ps sp)(hr:z2q k X.A)(hg:Gl X x)(hm:X.mg x=some (.ref g))(hk:PySem.W.keepIn X.K (.ref g)=true)(hb:z0u X.K gd ps [])(hx:z75 (CXx X.prog X.w) X E)(h0:PE X e0 t0)(m0:∀σ H (Q Q':VK),(∀v H1,Q v H1->Q' v H1)->t0 σ H Q->t0 σ H Q')(S:z1a X.N X.env.scope N ix lsc)(hcode:X.env.code=.ref c)(hC:PySem.W.CodeHd X.base c T.at_)(hB:z4t X.base X.mg)(hfn:∀y,X.fn y=true)(hT:T∈Ts)(hTn:∀T'∈Ts,T'.at_=T.at_->T'=T)(hTp:T.pos=lpos)(hTq:T.qual=X.env.qual++"<lambda>")(hdef:defaultsOf params X.env=([],[]):=by rfl)(hdb:(x==("__debug__":Str))=false:=by decide)(he:starEach [e0,.Lambda params body lsc lpos] X.env=(false,eval e0 X.env)::starEach [.Lambda params body lsc lpos] X.env:=by rfl)(he2:starEach [.Lambda params body lsc lpos] X.env=(false,eval (.Lambda params body lsc lpos) X.env)::starEach [] X.env:=by rfl)(hpl:(backTo pos (starEach [.Lambda params body lsc lpos] X.env)).any (·.1)=false:=by rfl) : PE X (.Call (.Name x p) [e0,.Lambda params body lsc lpos] [] pos) (zeE Ts params body lsc T.qual N ix sp E t0):=by
 intro pins s σ H Q I h;refine y2f (z5L I hg hm ?_ hdb);have hPA:PA X [e0,.Lambda params body lsc lpos] (zbg t0 (zbg (zgt Ts (z0y X.env.cells lsc.names []) params body lsc T.qual) zg7)):=z02 h0 (z02 (zd3 S hcode hC hB hT hTn hTp hTq hdef) z05 he2) he;refine PySem.W.callWith_K (h₀:=X.base) I.ok.mod.kin hk (thn (hPA pos pins s σ H (fun us H2=>∃(v0:V)(fa:Addr)(H1:Hp),us=[v0,.ref fa]/\(z65 Ts H1/\∀(fa:Addr)(H2:Hp)(cs:List Addr),(∀b o,(∀ps,o≠.tbl ps)->H1 b=some o->H2 b=some o) ->
 (∀H3,z0d H2 H3->SameL Ts H1 (utk H3 cs))->(∀c∈cs,∃ob,H2 c=some (frO ob))->z5N H2 fa params body lsc T.qual N (z1r ix σ)->sp [v0,.ref fa] H2 (fun v H3=>Q v (utk H3 cs)) (fun e C H3=>E e C (utk H3 cs)))/\z7D Ts H1 H2 fa (z0y X.env.cells lsc.names []) params body lsc T.qual) I ?_) fun us s2 ⟨vs,H2,I2,r,q⟩=>⟨I2.kIn,?_⟩) he hpl
 .exact m0 σ H _ _ (fun v0 H1 ⟨ht,hq⟩=>⟨ht,fun fa H' made=>⟨v0,fa,H1,rfl,⟨ht,hq⟩,made⟩⟩) h
 .obtain⟨v0,fa,H1,rfl,⟨ht,hq⟩,mfr,mtb,pm,c',ctv,oc,vsc,t,m1,m2,m3,m4⟩:=q;let clos:=z0y X.env.cells lsc.names [];let cs:List Addr:=(lsc.names.map (·.1)).filterMap (fun y=>List.lookup y clos);let ob:Addr->Obj:=fun c=>(s2.heap.get? c).getD { cls:=.none,data:=.plain };have lk:∀{y:Str}{c:Addr},clos.lookup y=some c->X.env.cells.lookup y=some c:=fun e=>z1L I2 S e;have mem:∀{c:Addr},c∈cs->∃y,clos.lookup y=some c:=fun{c} hc=>by
   obtain⟨y,_,e⟩:=y20.mp hc;exact⟨y,e⟩
  have inn:∀y c,clos.lookup y=some c->c∈cs:=fun y c e=>by
   refine y20.mpr ⟨y,?_,e⟩;by_cases hm':(y,NameKind.free)∈lsc.names
   .exact y0f.mpr ⟨_,hm',rfl⟩
   .have:=z2D (cells:=X.env.cells) lsc.names [] y hm';rw[show(z0y X.env.cells lsc.names []).lookup y=some c from e]at this;cases this
  have h1:∀c∈cs,s2.heap.get? c=some (ob c):=fun c hc=>by obtain⟨y,e⟩:=mem hc;obtain⟨v,o,ho,_⟩:=I2.cell y c (lk e);show _=some ((s2.heap.get? c).getD _);rw[ho];rfl
  have h2:∀c∈cs,H2 c=none:=fun c hc=>by obtain⟨y,e⟩:=mem hc;exact I2.freeC y c (lk e)
  have h3:∀c∈cs,c∉frs X.stack/\X.base.get? c=none:=fun c hc=>by obtain⟨y,e⟩:=mem hc;exact I2.cellFree (lk e) (I2.ok.cab y c (hfn y) (lk e))
  have out:∀{b:Addr}{o:HO},H2 b=some o->b∉cs:=fun{b o} e z=>by rw[h2 b z]at e;cases e
  have tr:∀{b:Addr}{o:HO},H2 b=some o->zcD H2 cs ob b=some o:=fun e=>by rw[z1f (out e)];exact e
  have spq:=hq fa (zcD H2 cs ob) cs (fun b o no e=>tr (mfr b o no e)) (fun H3 s3=>?_) (fun c hc=>⟨ob c,z4F hc⟩) ?_
  .refine wpAny_call (y2r (G.run X.A X.stack s2 (zcD H2 cs ob) ⟨us,[]⟩ us [v0,.ref fa] _ _ hr (I2.env0T h1 h2 h3) (by have:=hb s2 us I2.kIn (by rw[y1L,<-r.length];exact G.len _ _ _ _ spq);rw[y1L]at this;exact this) r spq) fun r s' hq=>?_);cases r with
   |error e=>exact hx pins σ H2 s2 e s' I2 (zgO h1 h2 (fun c hc=>(h3 c hc).1) hq)
   |ok fl =>
    cases fl with
    |ret u=>exact I2.afterT h1 h2 h3 hq
    |next=>exact False.elim hq
    |brk=>exact False.elim hq
    |cont=>exact False.elim hq
  .have out3:∀{b:Addr}{o:HO},H2 b=some o->utk H3 cs b=some o:=fun e=>by rw[z18 (out e)];exact s3 _ _ (tr e)
   refine⟨fun b o no e=>out3 (mfr b o no e),fun _ T' hT'=>?_⟩;rcases mtb T' hT' with q|⟨c3,oc3,vs3,t3,q1,q2,q3⟩
   .exact .inl (out3 q)
   .exact .inr ⟨c3,oc3,vs3,t3,out3 q1,out3 q2,q3⟩
  .refine⟨clos,cs,pm,c',ctv,oc,vsc,t,tr m1,tr m2,m3,m4,fun y z c e1 e2=>I2.ok.inj y z c (lk e1) (lk e2),inn,fun c hc=>⟨mem hc,?_⟩,fun y hy=>?_,fun i y v e1 e2=>?_⟩
   .obtain⟨y,e⟩:=mem hc;obtain⟨v,o,ho,hd⟩:=I2.cell y c (lk e);refine⟨ob c,v,z4F hc,?_⟩;have:=h1 c hc;rw[ho]at this;rw[<-y0b this];exact hd
   .have hm':(y,NameKind.free)∈lsc.names:=y12 hy;obtain⟨c,e⟩:=z0P I2 S y hm';exact⟨c,(z1G lsc.names [] y (z0P I2 S) (.inl hm')).trans e⟩
   .obtain⟨j,f1,f2,f3⟩:=S.at_ e1 e2;have hm':(y,NameKind.free)∈lsc.names:=y12 f2;obtain⟨m,hn,hl⟩:=I2.loc;have hvis:=S.frees _ hm' rfl;obtain⟨u,ru,look⟩:=hl j y v f1 f3 (.inr hvis);rcases look with⟨hk',_⟩|⟨_,c,ec,cell⟩
    .have hk'':X.env.scope.names.lookup y=some .local:=hk';rcases hvis with z|z
     .rw[z]at hk'';cases hk''
     .rw[z]at hk'';cases hk''
    .have hcl:clos.lookup y=some c:=(z1G lsc.names [] y (z0P I2 S) (.inl hm')).trans ec;have hc:=inn y c hcl;obtain⟨o,ho,hd⟩:=cell;refine⟨c,ob c,u,hcl,z4F hc,?_,ru⟩;have:=h1 c hc;rw[ho]at this;rw[<-y0b this];exact hd
end
def NFr(H H':Hp):Prop:=∀b o,(∀ob,o≠frO ob)->H b=some o->H' b=some o
def NFr.seq{K:yyF}{H H':Hp}{a:Addr}{xs:List V}(s:NFr H H')(h:SqL K H a xs):SqL K H' a xs:=by
 rcases h with(h|⟨o,h⟩)|h
 .exact .inl (.inl (s _ _ (fun _ z=>by cases z) h))
 .exact .inl (.inr ⟨o,s _ _ (fun _ z=>by cases z) h⟩)
 .exact .inr h
mutual
theorem Dr.nfr{K:yyF}{H H':Hp}(s:NFr H H'):∀{d:D}{v:V},Dr K H d v->Dr K H' d v
 |.non,_,h=>by simp only[Dr]at h⊢;exact h
 |.bl _,_,h=>by simp only[Dr]at h⊢;exact h
 |.int _,_,h=>by simp only[Dr]at h⊢;exact h
 |.str _,_,h=>by simp only[Dr]at h⊢;exact h
 |.tup ds,_,h=>by
  simp only[Dr]at h⊢;obtain⟨a,vs,e,q,r⟩:=h;exact⟨a,vs,e,s _ _ (fun _ z=>by cases z) q,DrL.nfr s r⟩
 |.lst ds,_,h=>by simp only[Dr]at h⊢;obtain⟨a,vs,e,q,r⟩:=h;exact⟨a,vs,e,s.seq q,DrL.nfr s r⟩
theorem DrL.nfr{K:yyF}{H H':Hp}(s:NFr H H'):∀{ds:List D}{vs:List V},DrL K H ds vs->DrL K H' ds vs
 |[],_,h=>by simp only[DrL]at h⊢;exact h
 |d::ds,_,h=>by simp only[DrL]at h⊢;obtain⟨v,r,e,q,q'⟩:=h;exact⟨v,r,e,Dr.nfr s q,DrL.nfr s q'⟩
end
theorem NFr.utk{H H3:Hp}{cs:List Addr}(hc:∀c∈cs,∃ob,H c=some (frO ob))(s:z0d H H3):NFr H3 (L2.utk H3 cs):=fun b o n e=>z81 (fun c h=>let⟨ob,q⟩:=hc c h;⟨ob,s _ _ q⟩) e n
def Fun.okL{CX:CXT}{P:Program}{w:World}{K:yyF}{mg:yyS}{base:Heap}{x qual:Str}{st:Stmt}{f c:Addr}{fd:FuncData}{N ps:List Str}{k:Nat}{sp:Sp}(F:Fun K x qual st f fd)(hc:fd.code=.ref c)(S:z0z N ps (z08 st))(len:∀vs H Q E,sp vs H Q E->vs.length=ps.length)(hbody:∀(A:Around)(outer:List Env)(s:Shared)(H:Hp)(vs:List V)(Q:VK)(E:XK),z2q k (A.deeper (envOfC qual (z08 st) s.heap.objs.size f (.ref c)))->sp vs H Q E -> ∃t,PSs (z6g CX P w K mg base N qual (z08 st) f (.ref c) A outer s H E) (z0Q st) t/\t { nx:=fun _ H'=>Q .non H',rt:=Q } (z4R N vs) H):z0K P w K mg base CX (k+1) f fd ps sp:=by obtain⟨oc,od,kV,doc,pm,an,cdv,ct,osl,rfl,lk,hcd⟩:=F.ex;have:cdv=.ref c:=hc;subst this;exact zdl lk hcd S len fun A outer s H vs Q E hr hsp=>hbody A outer s H vs Q E hr hsp
def zaM{P:Program}{w:World}{K:yyF}{mg mb:yyS}{CX:CXT}{k:Nat}{fa a:Addr}{fd:FuncData}{x:Str}{sp:Sp}{s₁:Shared}{vs:List Value}{ns:List Int}{Ts:List Tb}(KX:K.In s₁.heap)(hns:s₁.heap.Ns mainGlobals mg)(hb:s₁.heap.Ns builtinsNs mb)(hbb:∀x:Str,x≠"__name__"->mb x=bootBuiltins x)(hlim:s₁.heap.NoLimit)(hg:s₁.gens=#[])(ha:s₁.heap.get? a=some { cls:=.type "list",data:=.seq vs.toArray })(hi:IntsAre vs ns)(hl:ns.length<=sizeLine)(hr:z2q k callerA)(hT:∀T∈Ts,s₁.heap.get? T.at_=some (PySem.W.tabObj #[])/\K.lookup T.at_=none/\∃c,PySem.W.CodeHd s₁.heap c T.at_)(hbm:z4t s₁.heap mg)(F:∀base:Heap,K.In base->base.Ns mainGlobals mg->z4t base mg->z0K P w K mg base CX k fa fd [x] sp)(hbind:∀(s:Shared) (u:Value),BindsTo s fd ⟨[u],[]⟩ [(x,u)])(hsp:∀H:Hp,z65 Ts H->SqL K H a (ns.map V.int)->sp [.ref a] H (fun v _=>v=.bl true) fun _ _ _=>False)(hCX:∀H e s',CX [] H s₁ (fun _ _ _=>False) e s'->False) : codeAny (model P w) callerA (.call (.ref fa) ⟨[.ref a],[]⟩) (fun r s'=>r=.ok (.ret (.bool true))/\OldK s₁.heap s'.heap/\s'.os=s₁.os/\AllBare s'.gens) s₁:=by
 have rv:=z6T hi;have lenV:=hi.length;have isT:∀b,(∃T∈Ts,T.at_=b)->s₁.heap.get? b=some (PySem.W.tabObj #[])/\K.lookup b=none/\∃c,PySem.W.CodeHd s₁.heap c b:=fun b ⟨T,hT1,e⟩=>e▸hT T hT1;have core:∀H:Hp,z65 Ts H->SqL K H a (ns.map V.int)->HOk P w H s₁.heap->(∀b,H b≠none->(b=a/\K.lookup a=none/\∃o xs,H b=some (.frz o (.lst xs)))\/((∃T∈Ts,T.at_=b)/\H b=some (.tbl #[]))) ->
   codeAny (model P w) callerA (.call (.ref fa) ⟨[.ref a],[]⟩) (fun r s'=>r=.ok (.ret (.bool true))/\OldK s₁.heap s'.heap/\s'.os=s₁.os/\AllBare s'.gens) s₁:=by
  intro H hO hS hok hA;have base_of:∀{b:Addr}{o:Obj},s₁.heap.get? b=some o->H b=none->(zbr s₁.heap H).get? b=some o:=fun e n=>zc3 e n;have noA:∀{b:Addr}{o:Obj},s₁.heap.get? b=some o->(∀xs,o.data≠.seq xs)->(∀xs,o.data≠.fields xs)->H b=none:=fun{b o} e d1 d2=>by
   cases q:H b with
   |none=>rfl
   |some u =>
    rcases hA b (by rw[q];simp)with⟨e',_⟩|⟨e',_⟩
    .subst e';rw[ha]at e;cases e;exact absurd rfl (d1 _)
    .rw[(isT b e').1]at e;cases e;exact absurd rfl (d2 _)
  have nsK:∀{b:Addr}{m:yyS},s₁.heap.Ns b m->(zbr s₁.heap H).Ns b m:=fun{b m} ⟨o,es,ep,e,d,r⟩=>⟨o,es,ep,base_of e (noA e (fun xs z=>by rw[z]at d;cases d) (fun xs z=>by rw[z]at d;cases d)),d,r⟩;have hKb:K.In (zbr s₁.heap H):=fun b o e=>base_of (KX b o e) (by
   cases q:H b with
   |none=>rfl
   |some u =>
    rcases hA b (by rw[q];simp)with⟨e',hk,_⟩|⟨e',_⟩
    .subst e';rw[hk]at e;cases e
    .rw[(isT b e').2.1]at e;cases e)
  have hM:Mod K mg (zbr s₁.heap H):=⟨hKb,nsK hns,⟨mb,nsK hb,hbb⟩,let⟨mc,h1,h2⟩:=hlim;⟨mc,nsK h1,h2⟩⟩;have hBM:z4t (zbr s₁.heap H) mg:=by obtain⟨bm,o,b1,b2,b3,b4,b5,b6,b7⟩:=hbm;exact⟨bm,o,b1,b2,b3,base_of b4 (noA b4 (fun xs z=>by rw[z]at b7;cases b7) (fun xs z=>by rw[z]at b7;cases b7)),b5,b6,b7⟩
  have e0:z9C P w K mg (zbr s₁.heap H) callerA [] s₁ H:=⟨rfl,hM,fun b o e=>zdR e,Nat.le_of_eq (zax _ _),trivial,fun b hb=>absurd (show b∈([]:List Addr)from hb) (by simp),hok,.of_eq hg⟩;refine y2r ((F _ hKb (nsK hns) hBM).run callerA [] s₁ H ⟨[.ref a],[]⟩ [.ref a] [.ref a] _ _ hr e0 (hbind s₁ (.ref a)) (.cons rfl .nil) (hsp H hO hS)) fun r s' h=>?_;cases r with
  |error e=>exact(hCX H e s' h).elim
  |ok fl =>
   cases fl with
   |next=>exact False.elim h
   |brk=>exact False.elim h
   |cont=>exact False.elim h
   |ret u =>
    obtain⟨v,H',os,bare,un,hok',r',q⟩:=h;have q':v=.bl true:=q;subst q';obtain rfl:u=Value.bool true:=r';have key:∀b o,s₁.heap.get? b=some o->s'.heap.get? b=some o\/((∃T∈Ts,T.at_=b)/\∃more,s'.heap.get? b=some (PySem.W.tabObj (#[]++more))):=fun b o e=>by
     cases q:H b with
     |none=>exact .inl (un.keep b o e q (by intro z;exact absurd (show b∈([]:List Addr)from z) (by simp)) (by simp))
     |some u =>
      rcases hA b (by rw[q];simp)with⟨_,_,ob,xs,z⟩|⟨e',z⟩
      .have z2:=un.frzs b ob _ z;obtain⟨e1,_⟩:=hok b _ z;obtain⟨e2,_⟩:=hok' b _ z2;rw[e]at e1;cases e1;exact .inl e2
      .obtain⟨more,z2⟩:=un.tbls b #[] z;exact .inr ⟨e',more,hok' b _ z2⟩
    refine⟨rfl,⟨fun b o e=>?_,fun b o e=>?_⟩,os,bare⟩
    .rcases key b o e with z|⟨e',more,z⟩
     .exact .inl z
     .obtain⟨h1,_,c,hc⟩:=isT b e';rw[e]at h1;cases h1;refine .inr (.inl ⟨?_,rfl,#[],more,rfl,z⟩);obtain⟨o,vs,_,_,_,_,_,_,_,g1,g2,g3,g4,_⟩:=hc;exact⟨c,o,vs,g1,g2,g3,g4⟩
    .rcases key b o e with z|⟨e',more,z⟩
     .exact⟨_,z⟩
     .exact⟨_,z⟩
 have naT:∀T∈Ts,T.at_≠a:=fun T h z=>by have:=(hT T h).1;rw[z,ha]at this;cases this
 open Classical in
 cases hk:K.lookup a with
 |some o =>
  have e:=KX a o hk;rw[ha]at e;cases e;refine core (fun b=>if(∃T∈Ts,T.at_=b)then some (.tbl #[])else none) (fun T h=>.inl (if_pos ⟨T,h,rfl⟩)) (.inr ⟨_,vs.toArray,_,hk,rfl,rfl,rfl,by rw[y0r,lenV];exact hl,by simpa using rv⟩) (fun b u z=>?_) fun b z=>?_
  .by_cases hb:∃T∈Ts,T.at_=b
   .have z':=(if_pos hb).symm.trans z;cases z';exact(isT b hb).1
   .have z':=(if_neg hb).symm.trans z;cases z'
  .by_cases hb:∃T∈Ts,T.at_=b
   .exact .inr ⟨hb,if_pos hb⟩
   .exact absurd (if_neg hb) z
 |none =>
  have cA:∀b,b=a->(if b=a then some (HO.frz { cls:=.type "list",data:=.seq vs.toArray } (.lst (ns.map V.int)))else if(∃T∈Ts,T.at_=b)then some (.tbl #[])else none)=some (HO.frz { cls:=.type "list",data:=.seq vs.toArray } (.lst (ns.map V.int))):=fun b e=>if_pos e;have cT:∀b,b≠a->(∃T∈Ts,T.at_=b)->(if b=a then some (HO.frz { cls:=.type "list",data:=.seq vs.toArray } (.lst (ns.map V.int)))else if(∃T∈Ts,T.at_=b)then some (.tbl #[])else none)=some (.tbl #[]):=fun b e h=>by rw[if_neg e,if_pos h]
  have cN:∀b,b≠a->¬(∃T∈Ts,T.at_=b)->(if b=a then some (HO.frz { cls:=.type "list",data:=.seq vs.toArray } (.lst (ns.map V.int)))else if(∃T∈Ts,T.at_=b)then some (.tbl #[])else none)=none:=fun b e h=>by rw[if_neg e,if_neg h]
  refine core (fun b=>if b=a then some (.frz { cls:=.type "list",data:=.seq vs.toArray } (.lst (ns.map V.int)))else if(∃T∈Ts,T.at_=b)then some (.tbl #[])else none) (fun T h=>.inl (cT _ (naT T h) ⟨T,h,rfl⟩)) (.inl (.inr ⟨{ cls:=.type "list",data:=.seq vs.toArray },if_pos rfl⟩)) (fun b u z=>?_) (fun b z=>?_)
  .by_cases hb:b=a
   .have z':=(cA b hb).symm.trans z;cases z';subst hb;exact⟨ha,by rw[y01];exact hl,vs,_,rv,ha⟩
   .by_cases hb2:∃T∈Ts,T.at_=b
    .have z':=(cT b hb hb2).symm.trans z;cases z';exact(isT b hb2).1
    .have z':=(cN b hb hb2).symm.trans z;cases z'
  .by_cases hb:b=a
   .exact .inl ⟨hb,hk,_,_,cA b hb⟩
   .by_cases hb2:∃T∈Ts,T.at_=b
    .exact .inr ⟨hb2,cT b hb hb2⟩
    .exact absurd (cN b hb hb2) z
def walk_of2{l:PySem.W.OpenLaw}{n k:Nat}{q:Program}{loose:List Str}{XP:(yyS)->Heap->Prop}{YP:World->Heap->Prop}{d:DefRec}{K:Params->yyF}{CX:World->CXT}{sp:World->Sp}{x:Str}{Ts:List Tb}(hn:l.most=some n)(hn2:n<=sizeLine)(hdf:d.params.defaults=[])(hr:z2q k callerA)(hY:∀(w:World)(h:Heap),YP w h->(K w.params).In h/\∀P∈Ts.map (·.at_),h.get? P=some (PySem.W.tabObj #[]))(F:∀(w:World)(mg:yyS)(fa:Addr)(h:Heap),(K w.params).In h->h.Ns mainGlobals mg->mg d.name=some (.ref fa) -> ∃fd:FuncData,(∀(s:Shared)(u:Value),BindsTo s fd ⟨[u],[]⟩ [(x,u)])/\(∀T∈Ts,(K w.params).lookup T.at_=none/\∃c,PySem.W.codeHdIn (K w.params) c T.at_=true) /\ ∀base:Heap,(K w.params).In base->base.Ns mainGlobals mg->z4t base mg->z0K l.prog w (K w.params) mg base (CX w) k fa fd [x] (sp w))(hsp:∀(w:World)(H:Hp)(a:Addr)(ns:List Int),ns.length<=n->z65 Ts H->SqL (K w.params) H a (ns.map V.int)->sp w [.ref a] H (fun v _=>v=.bl true) fun _ _ _=>False)(hCX:∀(w:World)(H:Hp)(s:Shared)(e:Value)(s':Shared),CX w [] H s (fun _ _ _=>False) e s'->False) : PySem.W.WalkO q loose XP YP l.row.toRowW d [] (fun f vs=>PySem.call f vs):=by
 refine Att.attach_call hn hdf fun w s₀ s₁ mg mb fa o pm cd doc a vs ns G Y ho hd hcd hmg hobj hints hlen hg=>?_;obtain⟨KX,hTb⟩:=hY w _ Y;obtain⟨fd,hb,hT,hF⟩:=F w mg fa _ KX G.T.g hmg;refine zaM (Ts:=Ts) KX G.T.g G.T.b G.T.builtins G.T.nolimit hg hobj hints (y0S hlen hn2) hr (fun T h=>⟨hTb _ (y0f.mpr ⟨T,h,rfl⟩),(hT T h).1,?_⟩) ?_ hF hb (fun H hO hS=>hsp w H a ns hlen hO hS) fun H e s'=>hCX w H s₁ e s'
 .obtain⟨c,e⟩:=(hT T h).2;exact⟨c,PySem.W.codeHd_of_K KX e⟩
 .obtain⟨bm,ob,b1,b2,b3,b4,b5,b6⟩:=G.T.bmain;refine⟨bm,ob,b1,b2,fun z=>?_,b3,b4,b5,b6⟩;obtain⟨o,es,ep,e,d,_⟩:=G.T.g;rw[z]at b3;rw[b3]at e;cases e;rw[b6]at d;cases d
def zaG{Ts:List Tb}{T:Tb}(h:(Ts.map (·.at_)).Nodup)(hT:T∈Ts):∀T'∈Ts,T'.at_=T.at_->T'=T:=by
 induction Ts with
 |nil=>cases hT
 |cons a r ih =>
  rw[y0k,y1a]at h;intro T' hT' e;rcases y0u.mp hT with z|z
  .rcases y0u.mp hT' with y|y
   .rw[y,z]
   .exact absurd (y0f.mpr ⟨T',y,by rw[e,z]⟩) h.1
  .rcases y0u.mp hT' with y|y
   .exact absurd (y0f.mpr ⟨T,z,by rw[<-e,y]⟩) h.1
   .exact ih h.2 z T' y e
end L2
namespace Gu
open PySem L2
abbrev nV(nm:Int->Int)(i:Int):V:=.int (nm i)
abbrev kN(nm:Int->Int)(i:Int):Key:=Sum.inl (nm i)
def zaV{nm:Int->Int}(h:∀x y,nm x=nm y->x=y)(x y:Int)(e:kN nm x=kN nm y):x=y:=h x y (Sum.inl.inj e)
def z6h(nm:Int->Int)(r:Row):Row:=(r.1,r.2.map nm)
def zeb(r:Row):z6h (fun i=>i) r=r:=by unfold z6h;rw[List.map_id']
def zci(K:yyF)(rows:List Row)(nm:Int->Int):List V->Hp->VK->Prop:=fun vs H Q=>∃i:Int,vs=[.int (nm i)]/\0<=i/\i<(rows.length:Int)/\z6w K H Q (z5d (z6h nm (row rows i)))
section
variable(P:Program)(w:World)(K:yyF)(mg:yyS)(base:Heap)(CX:CXT)(k:Nat)
def z7J:Sp:=fun vs H Q _=>∃(f:Addr)(n:Nat)(rows:List Row)(nm:Int->Int),vs=[.int (nm 0),.ref f]/\(∀x y,nm x=nm y->x=y)/\z33 P w K mg base CX k H f (zci K rows nm)/\z0l n rows/\n<=60/\∀(r:Addr)(H':Hp),z0d H H'->z3P K H' r (z0L rows)->Q (.ref r) H'
def z60(Ct:Addr):Sp:=fun vs H Q E=>∃(f:Addr)(n:Nat)(rows:List Row)(nm:Int->Int),vs=[.int (nm 0),.ref f]/\(∀x y,nm x=nm y->x=y)/\z33 P w K mg base CX k H f (zci K rows nm)/\z0l n rows/\n<=60 /\
 ((shr rows).length<=60->z6w K H Q (D.tup (z0j (shr rows))))/\(60<(shr rows).length->TMx Ct E H)
end
def zeS(Ts:List Tb)(K:yyF)(H:Hp)(Q:VK)(d:D):Prop:=∀v H',SameL Ts H H'->Dr K H' d v->Q v H'
def z8j(Ts:List Tb)(K:yyF):Sp:=fun vs H Q _=>∃(a:Addr)(ns:List Int),vs=[.ref a]/\SqL K H a (ns.map V.int)/\ns.length<=63/\z65 Ts H/\∀H',Q (.bl true) H'
def zaC:List Stmt->Pos
 |[.Return (some (.Call _ [_,.Lambda _ _ _ p] _ _)) _]=>p
 |_::r=>zaC r
 |[]=>⟨0,0,0,0⟩
end Gu
namespace L2
open PySem PySem.Spec PyProof.Rows
def z33.lam{CX:CXT}{P:Program}{w:World}{K:yyF}{mg:yyS}{base:Heap}{k:Nat}{H:Hp}{f:Addr}{params:Arguments}{body:Expr}{scope:Scope}{qual:Str}{N ps:List Str}{fv:St}{sp:List V->Hp->VK->Prop}(C:z5N H f params body scope qual N fv)(S:zfE N ps scope)(hbind:∀(cl:List (Str × Addr)) (pm cdv ct:Value) (us:List Value),us.length=ps.length->bindArgs (PySem.W.kla_fn "<lambda>" qual params body scope cl pm cdv ct) ⟨us,[]⟩=pure (ps.zip us))(hfv:fv.length=N.length)(len:∀vs H Q,sp vs H Q->vs.length=ps.length)(hbody:∀(H':Hp),z0d H H'->∀(A:Around) (outer:List Env) (s:Shared) (cd:Value) (clos:List (Str × Addr)) (cs:List Addr) (vs:List V) (Q:VK),z2q k (A.deeper (PySem.W.envX qual scope s.heap.objs.size f cd clos))->NFr H' (utk H' cs)->sp vs H' Q -> ∃t,PE (zc8 P w K mg base N qual scope f cd clos A outer s (utk H' cs)) body t/\t (z7O vs fv) (utk H' cs) fun v H1=>(∀c∈cs,H1 c=none)->Q v (rtk H' H1 cs)):z33 P w K mg base CX (k+1) H f sp:=by obtain⟨clos,cs,pm,c',ctv,oc,vs',t,e1,_⟩:=id C;refine⟨⟨_,_,e1,rfl⟩,fun H' s' A outer s us vs Q hr e0 r hsp=>?_⟩;exact zdE (C.mono s') S hbind hfv hr e0 r (len _ _ _ hsp) fun cd clos cs hr' hcs=>hbody H' s' A outer s cd clos cs vs Q hr' (NFr.utk hcs (z0d.refl _)) hsp
def z65.over{Ts:List Tb}{H:Hp}{a:Addr}{xs:List V}{o:HO}(h:z65 Ts H)(e:H a=some (.lst xs)):z65 Ts (upd H a o):=fun T hT=>by
 have ne:∀{b:Addr}{u:HO},H b=some u->(∀xs,u≠.lst xs)->upd H a o b=some u:=fun{b u} q n=>by
  have:b≠a:=fun z=>by rw[z,e]at q;exact n xs (y0b q).symm
  rw[z06 this];exact q
 rcases h T hT with q|⟨c',oc,vs,t,q1,q2,q3⟩
 .exact .inl (ne q (fun _ z=>by cases z))
 .exact .inr ⟨c',oc,vs,t,ne q1 (fun _ z=>by cases z),ne q2 (fun _ z=>by cases z),q3⟩
def SqS(K:yyF)(H:Hp)(a:Addr)(xs:List V):Prop:=SqL K H a xs\/SqT K H a xs
def SqS.mono{K:yyF}{H H':Hp}{a:Addr}{xs:List V}(h:SqS K H a xs)(s:z0d H H'):SqS K H' a xs:=by
 rcases h with h|h
 .exact .inl (s.seq h)
 .refine .inr ?_;rcases h with(h|⟨o,h⟩)|h
  .exact .inl (.inl (s _ _ h))
  .exact .inl (.inr ⟨o,s _ _ h⟩)
  .exact .inr h
def zha(K:yyF):R2:=fun x y H Q=>∃p xs i v,x=.ref p/\y=.int i/\SqS K H p xs/\atI xs i=some v/\Q v H
def ixQ{X:Cx}(K:yyF)(h:X.K=K):IxR X (zha K):=by
 subst h;intro value slice pins s σ H x y v u Q I rx ry q hs;obtain⟨p,xs,i,z,e1,e2,hq,e3,q⟩:=q;rcases hq with hq|hq
 .exact z1t value slice pins s σ H x y v u Q I rx ry ⟨p,xs,i,z,e1,e2,hq,e3,q⟩ hs
 .exact z2N value slice pins s σ H x y v u Q I rx ry ⟨p,xs,i,z,e1,e2,hq,e3,q⟩ hs
end L2
namespace Gu
open PySem L2
def z5S(K:yyF)(H:Hp)(us:List V)(rows:List Row)(nm:Int->Int):Prop:=∀i:Int,0<=i->i<(rows.length:Int)->0<=nm i/\∃v,us[(nm i).toNat]?=some v/\Dr K H (z5d (z6h nm (row rows i))) v
theorem z5S.mono{K:yyF}{H H':Hp}{us:List V}{rows:List Row}{nm:Int->Int}(h:z5S K H us rows nm)(s:z0d H H'):z5S K H' us rows nm:=fun i h0 h1=>by obtain⟨a,v,e,d⟩:=h i h0 h1;exact⟨a,v,e,d.mono s⟩
def z5S.of{K:yyF}{H:Hp}{us:List V}{rows:List Row}(h:DrL K H (z0j rows) us):z5S K H us rows (fun i=>i):=fun i h0 h1=>by obtain⟨v,ev,dv⟩:=z3v h (z7X h0 h1);exact⟨h0,v,ev,by rw[zeb];exact dv⟩
section
variable{K:yyF}{H H':Hp}{f:Int->D}{r:Int}{nm:Int->Int}
def MkN(nm:Int->Int)(K:yyF)(H:Hp)(o:List Int)(f:Int->D)(kvs:List (Key × V)):Prop:=∃vs,kvs=mk (o.map nm) vs/\DrL K H (o.map f) vs
theorem MkN.nil:MkN nm K H [] f []:=⟨[],rfl,DrL.nil⟩
theorem MkN.get(ni:∀x y,nm x=nm y->x=y):∀{o:List Int}{kvs:List (Key × V)},MkN nm K H o f kvs->r∈o->∃v,z2C kvs (kN nm r)=some v/\Dr K H (f r) v
 |[],_,_,h=>by simp at h
 |b::o,_,⟨vs,rfl,d⟩,h=>by
  rw[y0k]at d;simp only[DrL]at d;obtain⟨v,r',rfl,d1,d2⟩:=d;by_cases e:b=r
  .subst e;exact⟨v,z2G (p:=(kN nm b,v)) rfl,d1⟩
  .obtain⟨v',h1,h2⟩:=MkN.get ni (o:=o) ⟨r',rfl,d2⟩ (by rcases y0u.mp h with z|z;exact absurd z.symm e;exact z);refine⟨v',?_,h2⟩;show z2C ((kN nm b,v)::mk (o.map nm) r') (kN nm r)=_;rw[z28 (p:=(kN nm b,v)) (fun z=>e (ni _ _ (Sum.inl.inj z)))];exact h1
theorem MkN.no(ni:∀x y,nm x=nm y->x=y):∀{o:List Int}{kvs:List (Key × V)},MkN nm K H o f kvs->r∉o->z2C kvs (kN nm r)=none
 |[],_,⟨vs,rfl,d⟩,_=>rfl
 |b::o,_,⟨vs,rfl,d⟩,h=>by rw[y0k]at d;simp only[DrL]at d;obtain⟨v,r',rfl,d1,d2⟩:=d;show z2C ((kN nm b,v)::mk (o.map nm) r') (kN nm r)=_;rw[z28 (p:=(kN nm b,v)) (fun z=>h (by rw[ni _ _ (Sum.inl.inj z)];simp))];exact MkN.no ni (o:=o) ⟨r',rfl,d2⟩ (fun z=>h (y0e _ z))
def MkN.len{o:List Int}{kvs:List (Key × V)}(h:MkN nm K H o f kvs):kvs.length=o.length:=by obtain⟨vs,rfl,d⟩:=h;have:=d.length;rw[y01]at this;unfold mk;rw[y01,y2p,y01];lia
def MkN.put(ni:∀x y,nm x=nm y->x=y){v:V}{o:List Int}{kvs:List (Key × V)}(h:MkN nm K H o f kvs)(hr:r∉o)(h':MkN nm K H' o f kvs)(dv:Dr K H' (f r) v):MkN nm K H' (o++[r]) f (z2L kvs (kN nm r) v):=by rw[z5A _ (h.no ni hr)];obtain⟨vs,rfl,d⟩:=h';have hl:=d.length;rw[y01]at hl;refine⟨vs++[v],?_,by rw[y0i];exact DrL.append d (DrL.one dv)⟩;unfold mk;rw[y0i,List.zip_append (by rw[y01];exact hl),y0i];rfl
theorem MkN.mono{o:List Int}{kvs:List (Key × V)}(h:MkN nm K H o f kvs)(s:z0d H H'):MkN nm K H' o f kvs:=by obtain⟨vs,e,d⟩:=h;exact⟨vs,e,d.mono s⟩
theorem MkN.keyed{o:List Int}{kvs:List (Key × V)}(h:MkN nm K H o f kvs)(k:z1m H H')(hf:FK f):MkN nm K H' o f kvs:=by obtain⟨vs,e,d⟩:=h;exact⟨vs,e,d.keyed k (hf.keyL o)⟩
end
def z4q(K:yyF):Sp:=fun vs H Q _=>∃(a l m:Addr)(n:Nat)(rows:List Row)(nm:Int->Int)(us:List V)(o:List Int)(k:Int->Int)(kvs:List (Key × V)),vs=[.ref a,.ref l,.ref m]/\SqS K H a us/\z5S K H us rows nm/\(∀x y,nm x=nm y->x=y)/\z0l n rows/\n<=60/\H l=some (.lst (o.map (nV nm)))/\H m=some (.dK kvs) /\
 MkN nm K H o (fun r=>D.int (k r)) kvs/\z7l rows o/\(∀r∈o,∀g∈(row rows r).2,g∈o)/\z6w K H Q (D.tup (z0j (z1q rows k o)))
def z3a(K:yyF):Sp:=fun vs H Q _=>∃(a:Addr)(n:Nat)(rows:List Row)(nm:Int->Int)(us:List V),vs=[.ref a,.int (nm 0)]/\SqS K H a us/\z5S K H us rows nm/\(∀x y,nm x=nm y->x=y)/\z0l n rows/\n<=60/\z6w K H Q (D.tup (z0j (shr rows)))
def zcp{n:Nat}{rows:List Row}(G:z0l n rows):∃h:Int->Int,h 0=0/\Mor rows (shr rows) (order rows) h:=by
 obtain⟨L,cl⟩:=z0m G;have C:=z41 G;have R:=z20 G;obtain⟨h1,h2,h3⟩:=z0S (kOf rows) (order rows);obtain⟨t,et⟩:=L.hd;refine⟨fun x=>((((z0r (kOf rows) (order rows)).map (kOf rows)).idxOf (kOf rows x):Nat):Int),?_,fun x hx=>?_⟩
 .obtain⟨t',et'⟩:=z5Y (kOf rows) 0 t;show((((z0r (kOf rows) (order rows)).map (kOf rows)).idxOf (kOf rows 0):Nat):Int)=0;rw[et,et',y0k,y28];simp
 .have hy:∃y,(z0r (kOf rows) (order rows))[((z0r (kOf rows) (order rows)).map (kOf rows)).idxOf (kOf rows x)]?=some y/\kOf rows y=kOf rows x:=by
   have hlt:=y0P (h1 x hx);have hg:=y1Q hlt;rw[y01]at hlt;rw[y19]at hg;exact⟨_,y00 hlt,hg⟩
  show row (shr rows) ((((z0r (kOf rows) (order rows)).map (kOf rows)).idxOf (kOf rows x):Nat):Int)=_;generalize((z0r (kOf rows) (order rows)).map (kOf rows)).idxOf (kOf rows x)=j at hy⊢;obtain⟨y,ey,hg⟩:=hy;have hhd:y∈order rows:=h2 _ (y0D ey);have eb:=(R _ hhd x hx).mp hg;have er:row (shr rows) ((j:Nat):Int)=((row rows y).1,(row rows y).2.map fun g=>((((z0r (kOf rows) (order rows)).map (kOf rows)).idxOf (kOf rows g):Nat):Int)):=by
   unfold row shr z1q;have:((j:Nat):Int).toNat=j:=by lia
   rw[this,y07,y04,ey];rfl
  rw[er];refine y31 ?_ ?_
  .exact congrFun eb []
  .show List.map _ _=List.map _ _;refine y2d (by rw[y01,y01,C.len y hhd,C.len x hx]) fun i i1 i2=>?_;rw[y01]at i1 i2;rw[y19,y19];have b1:(row rows y).2.getD i 0=(row rows y).2[i]:=by rw[y07,y00 i1];rfl
   have b2:(row rows x).2.getD i 0=(row rows x).2[i]:=by rw[y07,y00 i2];rfl
   have a1:=C.go hhd i;have a2:=C.go hx i;rw[b1]at a1;rw[b2]at a2;have hb:beh rows (row rows y).2[i]=beh rows (row rows x).2[i]:=by rw[<-b1,<-b2];exact funext fun w=>congrFun eb (i::w)
   rw[(R _ a1 _ a2).mpr hb]
def sw(s i:Int):Int:=if i=0 then s else if i=s then 0 else i
def z4J(s:Int):sw s 0=s:=if_pos rfl
def z7y(s:Int):sw s s=0:=by
 unfold sw;by_cases h:s=0
 .rw[if_pos h];exact h
 .rw[if_neg h,if_pos rfl]
def zaD(s i:Int):sw s (sw s i)=i:=by
 by_cases h:i=0
 .rw[h,z4J,z7y]
 .by_cases h2:i=s
  .rw[h2,z7y,z4J]
  .have e:sw s i=i:=by unfold sw;rw[if_neg h,if_neg h2]
   rw[e,e]
def zaz(s:Int)(x y:Int)(e:sw s x=sw s y):x=y:=by rw[<-zaD s x,e,zaD]
def zao{s i:Int}{L:Nat}(h0:0<=s)(h1:s<(L:Int))(i0:0<=i)(i1:i<(L:Int)):0<=sw s i/\sw s i<(L:Int):=by
 unfold sw;by_cases h:i=0
 .rw[if_pos h];exact⟨h0,h1⟩
 .by_cases h2:i=s
  .rw[if_neg h,if_pos h2];lia
  .rw[if_neg h,if_neg h2];exact⟨i0,i1⟩
def zf6(i:Int):sw 0 i=i:=by
 unfold sw;by_cases h:i=0
 .rw[if_pos h,h]
 .rw[if_neg h,if_neg h]
def swM(rows:List Row)(s:Int):List Row:=(z0x rows.length).map fun i=>z6h (sw s) (row rows (sw s i))
def z1J(rows:List Row)(s:Int):(swM rows s).length=rows.length:=by unfold swM;rw[y01,z0H]
def z6P{L:Nat}{i:Int}(h0:0<=i)(h1:i<(L:Int)):(z0x L)[i.toNat]?=some i:=by unfold z0x;rw[y04,List.getElem?_range (by lia)];show some ((i.toNat:Nat):Int)=some i;congr 1;lia
def z7o{rows:List Row}{s i:Int}(h0:0<=i)(h1:i<(rows.length:Int)):row (swM rows s) i=z6h (sw s) (row rows (sw s i)):=by unfold row swM;rw[y07,y04,z6P h0 h1];rfl
def z6Z{s:Int}(r:Row):z6h (sw s) (z6h (sw s) r)=r:=by unfold z6h;rw[y0I];have:(sw s∘sw s)=id:=funext fun x=>zaD s x;rw[this,List.map_id]
def zbB{rows:List Row}{s i:Int}(h0:0<=i)(h1:i<(rows.length:Int)):row rows (sw s i)=z6h (sw s) (row (swM rows s) i):=by rw[z7o h0 h1,z6Z]
def z0Y{n:Nat}{rows:List Row}{s:Int}(G:z0l n rows)(h0:0<=s)(h1:s<(rows.length:Int)):z0l n (swM rows s):=by
 have hm:∀r∈swM rows s,∃q∈rows,r=z6h (sw s) q:=fun r hr=>by unfold swM at hr;obtain⟨i,hi,e⟩:=y0f.mp hr;obtain⟨i0,i1⟩:=z1d.mp hi;obtain⟨j0,j1⟩:=zao h0 h1 i0 i1;exact⟨_,z0n j0 j1,e.symm⟩
 refine⟨by rw[z1J];exact G.few,by rw[z1J];exact G.some,fun r hr=>?_,fun r hr=>?_,fun r hr g hg=>?_⟩
 .obtain⟨q,hq,rfl⟩:=hm r hr;exact G.perm q hq
 .obtain⟨q,hq,rfl⟩:=hm r hr;show(q.2.map _).length=n;rw[y01];exact G.len q hq
 .obtain⟨q,hq,rfl⟩:=hm r hr;obtain⟨y,hy,rfl⟩:=y0f.mp hg;obtain⟨y0,y1⟩:=G.go q hq y hy;rw[z1J];exact zao h0 h1 y0 y1
def z4v{K:yyF}{H:Hp}{us:List V}{rows:List Row}{s:Int}(h0:0<=s)(h1:s<(rows.length:Int))(h:DrL K H (z0j rows) us):z5S K H us (swM rows s) (sw s):=fun i i0 i1=>by rw[z1J]at i1;obtain⟨j0,j1⟩:=zao h0 h1 i0 i1;obtain⟨v,ev,dv⟩:=z3v h (z7X j0 j1);refine⟨j0,v,ev,?_⟩;rw[z7o i0 i1,z6Z];exact dv
def zcz{n:Nat}{rows:List Row}(G:z0l n rows):shr (swM rows 0)=shr rows:=by have h1:=G.some;have G':=z0Y (s:=0) G (by lia) (by lia);refine z5v (h:=fun x=>x) G' G rfl fun x hx=>?_;obtain⟨x0,x1⟩:=(z0m G').1.rg x hx;rw[z1J]at x1;have e:=zbB (s:=0) x0 x1;rw[zf6]at e;rw[e];unfold z6h;have:(sw 0)=fun x=>x:=funext zf6;rw[this]
def goW(M:List Row):Int->List Int->Int
 |x,[]=>x
 |x,l::w=>goW M ((row M x).2.getD l.toNat 0) w
theorem zbm(M:List Row):∀(w w':List Int)(x:Int),goW M x (w++w')=goW M (goW M x w) w'
 |[],_,_=>rfl
 |l::w,w',x=>zbm M w w' _
def LW(n:Nat)(w:List Int):Prop:=∀l∈w,0<=l/\l<(n:Int)
def LW.tail{n:Nat}{l:Int}{w:List Int}(h:LW n (l::w)):LW n w:=fun x hx=>h x (y0e _ hx)
def LW.app{n:Nat}{w w':List Int}(h:LW n w)(h':LW n w'):LW n (w++w'):=fun x hx=>(y0g.mp hx).elim (h x) (h' x)
theorem za7{n:Nat}{M:List Row}{C:Int->Prop}(hl:∀x,C x->(row M x).2.length=n)(hc:∀x,C x->∀g∈(row M x).2,C g):∀(w:List Int)(x:Int),LW n w->C x->C (goW M x w)
 |[],_,_,h=>h
 |l::w,x,hw,h=>by
  obtain⟨l0,l1⟩:=hw l y0p;have hi:l.toNat<(row M x).2.length:=by rw[hl x h];lia
  refine za7 hl hc w _ hw.tail ?_;rw[y07,y00 hi];exact hc x h _ (y0l hi)
def za2{n:Nat}{M:List Row}(G:z0l n M){w:List Int}{x:Int}(hw:LW n w)(h0:0<=x)(h1:x<(M.length:Int)):0<=goW M x w/\goW M x w<(M.length:Int) :=
 za7 (n:=n) (C:=fun x=>0<=x/\x<(M.length:Int)) (fun x hx=>G.len _ (z0n hx.1 hx.2)) (fun x hx=>G.go _ (z0n hx.1 hx.2)) w x hw ⟨h0,h1⟩
end Gu
namespace L2
open PySem PySem.Spec PyProof.Rows
def z0K.sub{P:Program}{w:World}{K:yyF}{mg:yyS}{base:Heap}{CX:CXT}{k:Nat}{f:Addr}{fd:FuncData}{ps:List Str}{sp sp':Sp}(h:z0K P w K mg base CX k f fd ps sp)(i:∀vs H Q E,sp' vs H Q E->sp vs H Q E):z0K P w K mg base CX k f fd ps sp' :=
 { h with len:=fun vs H Q E q=>h.len vs H Q E (i vs H Q E q),run:=fun A outer s H args us vs Q E hr e0 b r q=>h.run A outer s H args us vs Q E hr e0 b r (i vs H Q E q) }
end L2
namespace Gu
open PySem L2
def z50{K:yyF}(vs:List V)(H:Hp)(Q:VK)(E:XK)(h:z5G K vs H Q E):z3a K vs H Q E:=by obtain⟨a,n,rows,rfl,⟨us,ea,da⟩,GM,hn,q⟩:=h;exact⟨a,n,rows,fun i=>i,us,rfl,.inl (SqL.of ea),z5S.of da,fun _ _ e=>e,GM,hn,q⟩
instance LW.dec(n:Nat)(w:List Int):Decidable (LW n w):=by unfold LW;infer_instance
def hds:Nat->List (List Row)->List Int
 |_,[]=>[]
 |o,g::gs=>(o:Int)::hds (o+g.length) gs
theorem z1N:∀gs:List (List Row),D.keyL (gs.map fun g=>D.tup (z0j g))
 |[]=>by simp only[y0T,D.keyL]
 |g::gs=>by simp only[y0k,D.keyL,D.key];exact⟨z2e g,z1N gs⟩
theorem SameL.over{Ts:List Tb}{H H':Hp}{l:Addr}{xs:List V}{o:HO}(s:SameL Ts H H')(h:H l=none)(e:H' l=some (.lst xs)):SameL Ts H (upd H' l o) :=
 ⟨fun b u n q=>by rw[z06 (z0e q h)];exact s.at_ b u n q,fun t=>z65.over (s.tabs t) e⟩
def SameL.up{Ts:List Tb}{H H':Hp}{l:Addr}{o:HO}(s:SameL Ts H H')(h:H' l=none):SameL Ts H (upd H' l o):=s.trans (z0d.l (z07 (z0d.refl H') h))
end Gu
namespace L2
open PySem PySem.Spec PyProof.Rows
section
variable{X:Cx}{K:yyF}{k v:Expr}{tk tv:TE}{pos:Pos}
end
section
variable{prog:Program}{w:World}{A:Around}{E:yyE}{s:Shared}{z TI TO i1 i2:Addr}{fp1 fp2:List Addr}{n1 n2:Nat}{P1 P2:Nat->Value->Prop}{S1 S2:Nat->Heap->Prop}
end
section
variable{prog:Program}{w:World}{A:Around}{E:yyE}{s:Shared}
end
section
variable{X:Cx}{elts:List Expr}{tk:Nat}{tp:Pos}
end
end L2
namespace Gu
open PySem L2
section
variable(P:Program)(w:World)(K:yyF)(mg:yyS)(base:Heap)(CX:CXT)(k:Nat)
end
def zhm(m:Nat)(R S:Row):Row:=(zby R.1 S.1,(List.range R.1.length).map fun k=>R.2.getD k 0*(m:Int)+S.2.getD (R.1.getD k 0).toNat 0)
def zge(one other:List Row):List Row:=(z0x (one.length*other.length)).map fun i=>zhm other.length (row one (i/(other.length:Int))) (row other (i%(other.length:Int)))
def pix{one other:List Row}{i:Int}(h0:0<=i)(h1:i<((one.length*other.length:Nat):Int)):(0<=i/(other.length:Int)/\i/(other.length:Int)<(one.length:Int))/\0<=i%(other.length:Int)/\i%(other.length:Int)<(other.length:Int):=by
 have hm:(0:Int)<(other.length:Int):=by
  rcases y3c other.length with z|z
  .rw[z,Nat.mul_zero]at h1;lia
  .lia
 refine⟨⟨Int.ediv_nonneg h0 (by lia),?_⟩,y1N _ (by lia),y1p _ hm⟩;refine Int.ediv_lt_of_lt_mul hm ?_;rw[Int.natCast_mul]at h1;exact h1
def zeP{g e:Int}{N m:Nat}(g0:0<=g)(g1:g<(N:Int))(e0:0<=e)(e1:e<(m:Int)):0<=g*(m:Int)+e/\g*(m:Int)+e<((N*m:Nat):Int):=by have h1:0<=g*(m:Int):=Int.mul_nonneg g0 (by lia);have h2:(g+1)*(m:Int)<=(N:Int)*(m:Int):=Int.mul_le_mul_of_nonneg_right (by lia) (by lia);rw[Int.add_mul,Int.one_mul]at h2;rw[Int.natCast_mul];lia
def z3s(M:List Row):Int->List Int->List Int
 |_,[]=>[]
 |x,l::w=>(row M x).1.getD l.toNat 0::z3s M ((row M x).2.getD l.toNat 0) w
theorem z61(M:List Row):∀(w:List Int)(x:Int),(z3s M x w).length=w.length
 |[],_=>rfl
 |_::w,x=>by show(z3s M _ w).length+1=w.length+1;rw[z61 M w]
theorem z66(M:List Row):∀(w w':List Int)(x:Int),z3s M x (w++w')=z3s M x w++z3s M (goW M x w) w'
 |[],_,_=>rfl
 |l::w,w',x=>by show _::z3s M _ (w++w')=_::(z3s M _ w++z3s M (goW M _ w) w');rw[z66 M w w']
def z9Q(Ts:List Tb)(K:yyF):Sp:=fun vs H Q _=>∃(v:V)(rows:List Row)(n:Nat)(g:Int),vs=[v,.int g]/\z65 Ts H/\Dr K H (D.tup (z0j rows)) v/\z0l n rows/\n<=60/\rows.length<=60/\0<=g/\g<(rows.length:Int)/\zeS Ts K H Q (D.tup (z0j (shr (swM rows g))))
end Gu
namespace L2
open PySem PySem.Spec PyProof.Rows
section
variable{M:Model}{A:Around}{E:yyE}
variable{nm q:Str}{C N:Addr}{bs bm:List Value}{hdct:Bool}{sn:List Str}{sub:List Value}{ab:Bool}{col:Option Bool}{dd:Option Addr}{k0 k1 k2 k3 k5:Option Value}{newId:String}
variable{nm' q':Str}{C' N':Addr}{bs' bm':List Value}{hdct':Bool}{sn':List Str}{sub':List Value}{ab':Bool}{col':Option Bool}{dd':Option Addr}{k0' k1' k2' k3' k5':Option Value}{newId':String}
end
end L2
namespace Gu
open PySem L2
def zcb{f:Int->Int}{l:List Int}{k:Nat}(h:k<l.length):(l.map f).getD k 0=f (l.getD k 0):=by rw[y07,y07,y04,y00 h];rfl
def zfd(n:Nat):List Row:=[(z0x n,List.replicate n 0)]
def zcw(r q:Row)(e:z5d r=z5d q):r=q:=by unfold z5d at e;injection e with e;injection e with e1 e2;injection e2 with e2 _;exact y31 (z4w e1) (z4w e2)
theorem z7c:∀(X Y:List Row),z0j X=z0j Y->X=Y
 |[],[],_=>rfl
 |[],_::_,e=>by simp[z0j]at e
 |_::_,[],e=>by simp[z0j]at e
 |r::X,q::Y,e=>by simp only[z0j,y0k,y3d]at e;rw[zcw r q e.1,z7c X Y e.2]
theorem z8D:∀(X Y:List Row),D.okL (z0j X) (z0j Y)
 |[],[]=>by simp[z0j,D.okL]
 |[],_::_=>by simp[z0j,D.okL]
 |_::_,[]=>by simp[z0j,D.okL]
 |r::X,q::Y=>by simp only[z0j,y0k,D.okL];refine⟨?_,z8D X Y⟩;unfold z5d;simp only[D.ok,D.okL];exact⟨z6e _ _,z6e _ _,trivial⟩
def ze9(X Y:List Row):D.eq (.tup (z0j X)) (.tup (z0j Y))=decide (X=Y):=by
 by_cases h:X=Y
 .subst h;rw[y1A rfl];exact D.eq_refl _
 .rw[y1z h];cases e:D.eq (.tup (z0j X)) (.tup (z0j Y))with
  |false=>rfl
  |true =>
   have:=D.eq_of e;injection this with this;exact absurd (z7c X Y this) h
def z9k(X:List Row):D.dep (.tup (z0j X))<=50:=by have:=z3Z X;simp only[D.dep];lia
def pw(n:Nat)(one:List Row):Nat->List Row
 |0=>zfd n
 |j+1=>shr (zge (pw n one j) one)
end Gu
namespace L2
open PySem PyProof.Rows
structure z4Q{α:Type}(lt:α->α->Bool):Prop where
 asy:∀a b,lt a b=true->lt b a=false
 tr:∀a b c,lt b a=false->lt c b=false->lt c a=false
 an:∀a b,lt a b=false->lt b a=false->a=b
def z4Q.refl{α:Type}{lt:α->α->Bool}(h:z4Q lt)(a:α):lt a a=false:=by
 cases e:lt a a with
 |false=>rfl
 |true=>rw[h.asy a a e]at e;cases e
def z8f{α:Type}(prog:Program)(w:World)(A:Around)(E:yyE)(s:Shared)(kd:SortKind)(S:List Keyed)(kf:Keyed->α)(lt:α->α->Bool):Prop :=
 ∀(st:SortSt)(x y:Keyed)(Q:Option Bool->SortSt->Prop),kindOf st=kd->x∈S->y∈S->Q (some (lt (kf x) (kf y))) st->wpS (model prog w) A E s (lt' x y) Q st
def z9H:Bool->Keyed->Array Keyed->Nat->Nat->Nat->StateT SortSt Sem (Option Nat):=sortPriv% PySem.Builtin.gallop
section
variable{prog:Program}{w:World}{A:Around}{E:yyE}{s:Shared}{α:Type}{kf:Keyed->α}{lt:α->α->Bool}{kd:SortKind}{S:List Keyed}
def bey(kf:Keyed->α)(lt:α->α->Bool)(left:Bool)(key x:Keyed):Bool:=if left then lt (kf x) (kf key)else !lt (kf key) (kf x)
def ze8(hA:z8f prog w A E s kd S kf lt){st:SortSt}(hk:kindOf st=kd){left:Bool}{key x:Keyed}{arr:Array Keyed}{i:Nat}(hx:arr[i]?=some x)(hxS:x∈S)(hkS:key∈S){Q:Option Bool->SortSt->Prop}(h:Q (some (bey kf lt left key x)) st) : wpS (model prog w) A E s (elem' arr i>>=fun x=>ite (left=true) (lt' x key) (lt' key x>>=fun r=>pure (r.map not))) Q st:=by
 rw[elem'_eq,hx];refine y0n (y0v ?_);cases left with
 |true =>
  simp only[y22];exact hA st x key Q hk hxS hkS h
 |false =>
  simp only[y06,y0W];exact y0n (hA st key x _ hk hkS hxS (y0v h))
def z97(hA:z8f prog w A E s kd S kf lt){st:SortSt}(hk:kindOf st=kd){left:Bool}{key:Keyed}{arr:Array Keyed}{base n hint:Nat}(hkS:key∈S)(hx:∀i,i<n->∃x,arr[base+i]?=some x/\x∈S)(P:Nat->Bool)(hP:∀i x,i<n->arr[base+i]?=some x->bey kf lt left key x=P i)(mono:∀i j,i<=j->j<n->P j=true->P i=true)(hh:hint<n){Q:Option Nat->SortSt->Prop}(h:∀k,k<=n->(∀i,i<k->P i=true)->(∀i,k<=i->i<n->P i=false)->Q (some k) st) : wpS (model prog w) A E s (z9H left key arr base n hint) Q st:=by
 have nmono:∀i j,i<=j->j<n->P i=false->P j=false:=fun i j hij hj hi=>by
  cases e:P j with
  |false=>rfl
  |true=>rw[mono i j hij hj e]at hi;cases hi
 have ask:∀i,i<n->∀{st':SortSt},st'=st->∀{Q:Option Bool->SortSt->Prop},Q (some (P i)) st->wpS (model prog w) A E s (elem' arr (base+i)>>=fun x=>ite (left=true) (lt' x key) (lt' key x>>=fun r=>pure (r.map not))) Q st':=fun i hi st' e Q hq=>by subst e;obtain⟨x,e1,e2⟩:=hx i hi;exact ze8 hA hk e1 e2 hkS (by rw[hP i x hi e1];exact hq)
 refine y0n (ask hint hh rfl ?_);dsimp only;cases eh:P hint;rotate_left;focus
  simp only[y22];refine y0n (y2l (y1m (I:=fun x c st'=>st'=st/\∃lo ofs,c=(none,lo,ofs)/\lo<ofs/\hint+lo<n/\P (hint+lo)=true/\x<ofs)
   (Q:=fun c st'=>st'=st/\∃lo ofs,c=(none,lo,ofs)/\lo<ofs/\hint+lo<n/\P (hint+lo)=true/\(ofs ≥ n-hint\/P (hint+ofs)=false)) ?s1 ?f1 ⟨rfl,0,1,rfl,by lia,by lia,eh,by lia⟩) ?p1)
  case f1 =>
   rintro c st' ⟨rfl,lo,ofs,rfl,a1,a2,a3,a4⟩;exact⟨rfl,lo,ofs,rfl,a1,a2,a3,.inl (by lia)⟩
  case s1 =>
   rintro x c st' _ hxn ⟨rfl,lo,ofs,rfl,a1,a2,a3,a4⟩;dsimp only;by_cases c1:ofs ≥ n-hint
   .rw[if_pos c1];exact y0v ⟨rfl,lo,ofs,rfl,a1,a2,a3,.inl c1⟩
   .rw[if_neg c1];refine y0n (ask (hint+ofs) (by lia) rfl ?_);dsimp only;cases e:P (hint+ofs)with
    |true =>
     simp only[y1O,y06,y0W];exact y0v ⟨rfl,ofs,2*ofs+1,rfl,by lia,by lia,e,by lia⟩
    |false =>
     simp only[y3r,y22];exact y0v ⟨rfl,lo,ofs,rfl,a1,a2,a3,.inr e⟩
  rintro c st9 ⟨h9,lo,ofs,rfl,a1,a2,a3,a4⟩;rw[h9];have q1:hint+lo+1<=hint+min ofs (n-hint):=by lia
  have q2:hint+min ofs (n-hint)<=n:=by lia
  have q3:∀i,i<hint+lo+1->P i=true:=fun i hi=>mono i (hint+lo) (by lia) a2 a3;have q4:∀i,hint+min ofs (n-hint)<=i->i<n->P i=false:=fun i h1 h2=>by
   rcases a4 with a4|a4
   .lia
   .exact nmono (hint+ofs) i (by lia) h2 a4
  dsimp only
 rotate_left;focus
  simp only[y06,y0W];refine y0n (y2l (y1m (I:=fun x c st'=>st'=st/\∃lo ofs,c=(none,lo,ofs)/\lo<ofs/\lo<=hint/\P (hint-lo)=false/\x<ofs)
   (Q:=fun c st'=>st'=st/\∃lo ofs,c=(none,lo,ofs)/\lo<ofs/\lo<=hint/\P (hint-lo)=false/\(ofs ≥ hint+1\/P (hint-ofs)=true)) ?s2 ?f2 ⟨rfl,0,1,rfl,by lia,by lia,eh,by lia⟩) ?p2)
  case f2 =>
   rintro c st' ⟨rfl,lo,ofs,rfl,a1,a2,a3,a4⟩;exact⟨rfl,lo,ofs,rfl,a1,a2,a3,.inl (by lia)⟩
  case s2 =>
   rintro x c st' _ hxn ⟨rfl,lo,ofs,rfl,a1,a2,a3,a4⟩;dsimp only;by_cases c1:ofs ≥ hint+1
   .rw[if_pos c1];exact y0v ⟨rfl,lo,ofs,rfl,a1,a2,a3,.inl c1⟩
   .rw[if_neg c1];refine y0n (ask (hint-ofs) (by lia) rfl ?_);dsimp only;cases e:P (hint-ofs)with
    |true =>
     simp only[y22];exact y0v ⟨rfl,lo,ofs,rfl,a1,a2,a3,.inr e⟩
    |false =>
     simp only[y06,y0W];exact y0v ⟨rfl,ofs,2*ofs+1,rfl,by lia,by lia,e,by lia⟩
  rintro c st9 ⟨h9,lo,ofs,rfl,a1,a2,a3,a4⟩;rw[h9];have q1:hint+1-min ofs (hint+1)<=hint-lo:=by lia
  have q2:hint-lo<=n:=by lia
  have q3:∀i,i<hint+1-min ofs (hint+1)->P i=true:=fun i hi=>by
   rcases a4 with a4|a4
   .lia
   .exact mono i (hint-ofs) (by lia) (by lia) a4
  have q4:∀i,hint-lo<=i->i<n->P i=false:=fun i h1 h2=>nmono (hint-lo) i (by lia) h2 a3;dsimp only
 all_goals
  refine y0n (y2l (y1m (I:=fun x c st'=>st'=st/\∃lo hi,c=(none,lo,hi)/\lo<=hi/\hi<=n/\(∀i,i<lo->P i=true)/\(∀i,hi<=i->i<n->P i=false)/\hi-lo<=n-x)
   (Q:=fun c st'=>st'=st/\∃k,c=(none,k,k)/\k<=n/\(∀i,i<k->P i=true)/\(∀i,k<=i->i<n->P i=false)) ?step ?fin' ⟨rfl,_,_,rfl,q1,q2,q3,q4,by lia⟩) ?post)
  case fin' =>
   rintro c st' ⟨rfl,lo,hi,rfl,a1,a2,a3,a4,a5⟩;have:lo=hi:=by lia
   subst this;exact⟨rfl,lo,rfl,a2,a3,a4⟩
  case post =>
   rintro c st' ⟨rfl,k,rfl,a1,a2,a3⟩;exact y0v (h k a1 a2 a3)
  case step =>
   rintro x c st' _ hxn ⟨rfl,lo,hi,rfl,a1,a2,a3,a4,a5⟩;dsimp only;by_cases c1:lo ≥ hi
   .rw[if_pos c1];have:lo=hi:=by lia
    subst this;exact y0v ⟨rfl,lo,rfl,a2,a3,a4⟩
   .rw[if_neg c1];have hm:lo+(hi-lo)/2<hi:=by lia
    have hml:lo<=lo+(hi-lo)/2:=Nat.le_add_right _ _;have hmh:hi-(lo+(hi-lo)/2+1)+1<=hi-lo/\lo+(hi-lo)/2-lo+1<=hi-lo:=by lia
    generalize lo+(hi-lo)/2=m at hm hml hmh⊢;refine y0n (ask m (by lia) rfl ?_);dsimp only;cases e:P m with
    |true =>
     simp only[y22];exact y0v ⟨rfl,m+1,hi,rfl,by lia,a2,fun i hi'=>mono i m (by lia) (by lia) e,a4,by lia⟩
    |false =>
     simp only[y06,y0W];exact y0v ⟨rfl,lo,m,rfl,hml,by lia,a3,fun i h1 h2=>nmono m i h1 h2 e,by lia⟩
end
def z5D:Nat->StateT SortSt Sem Unit:=sortPriv% PySem.Builtin.setMinGallop
def zc0:Array Keyed->Array Keyed->StateT SortSt Sem (Array Keyed):=sortPriv% PySem.Builtin.mergeLo
section
variable{α:Type}(kf:Keyed->α)(lt:α->α->Bool)
def Sl(l:List Keyed):Prop:=l.Pairwise fun x y=>lt (kf y) (kf x)=false
structure MI(a b:Array Keyed)(out:Array Keyed)(ia ib:Nat):Prop where
 la:ia<=a.size
 lb:ib<=b.size
 so:Sl kf lt out.toList
 le:∀x∈out.toList,∀y∈a.toList.drop ia++b.toList.drop ib,lt (kf y) (kf x)=false
 pm:(out.toList++(a.toList.drop ia++b.toList.drop ib)).Perm (a.toList++b.toList)
end
section
variable{α:Type}{kf:Keyed->α}{lt:α->α->Bool}
def z4i{a:Array Keyed}{i:Nat}(h:i<a.size):a.toList.drop i=a[i]::a.toList.drop (i+1):=by rw[y17 (by simpa using h)];simp
theorem MI.size{a b out:Array Keyed}{ia ib:Nat}(h:MI kf lt a b out ia ib):out.size=ia+ib:=by have:=h.pm.length_eq;have h1:=h.la;have h2:=h.lb;simp at this;lia
def z7V{l:List Keyed}{i:Nat}{x:Keyed}(h:Sl kf lt l)(hx:l[i]?=some x):∀y∈l.drop (i+1),lt (kf y) (kf x)=false:=fun y hy=>by
 obtain⟨j,hj,e⟩:=y0E.mp hy;rw[y3l]at e;obtain⟨hi,ei⟩:=y0a.mp hx;have hj':i+1+j<l.length:=by simp at hj;lia
 have:=y18.mp h i (i+1+j) hi hj' (by lia);rw[ei,e]at this;exact this
def z7S{l:List Keyed}(h:Sl kf lt l)(i:Nat):Sl kf lt (l.drop i):=h.sublist (y2T _ _)
def z2J(T:z4Q lt){l:List Keyed}{i:Nat}{x y:Keyed}(h:Sl kf lt l)(hx:l[i]?=some x)(hy:lt (kf x) (kf y)=false):∀z∈l.drop i,lt (kf z) (kf y)=false:=fun z hz=>by
 obtain⟨hi,ei⟩:=y0a.mp hx;rw[y17 hi,ei]at hz;rcases y0u.mp hz with rfl|hz
 .exact hy
 .exact T.tr (kf y) (kf x) (kf z) hy (z7V h hx z hz)
def MI.pushA{a b out:Array Keyed}{ia ib:Nat}(h:MI kf lt a b out ia ib)(sa:Sl kf lt a.toList)(hi:ia<a.size)(hle:∀y∈b.toList.drop ib,lt (kf y) (kf a[ia])=false):MI kf lt a b (out.push a[ia]) (ia+1) ib:=by
 have e:=z4i hi;have hx:a.toList[ia]?=some a[ia]:=by rw[y0o,y03 hi]
 refine⟨hi,h.lb,?_,fun x hx' y hy=>?_,?_⟩
 .rw[y0R];refine y0M.mpr ⟨h.so,y26 _ _,fun x hx' y hy=>?_⟩;rw[y0c.mp hy];exact h.le x hx' a[ia] (by rw[e];simp)
 .rw[y0R,y0g,y0c]at hx';rcases hx' with hx'|rfl
  .exact h.le x hx' y (by
    rcases y0g.mp hy with z|z
    .rw[e];simp[z]
    .simp[z])
  .rcases y0g.mp hy with z|z
   .exact z7V sa hx y z
   .exact hle y z
 .have:=h.pm;rw[e]at this;rw[y0R,y0q];exact this
def MI.pushB{a b out:Array Keyed}{ia ib:Nat}(h:MI kf lt a b out ia ib)(sb:Sl kf lt b.toList)(hi:ib<b.size)(hle:∀y∈a.toList.drop ia,lt (kf y) (kf b[ib])=false):MI kf lt a b (out.push b[ib]) ia (ib+1):=by
 have e:=z4i hi;have hx:b.toList[ib]?=some b[ib]:=by rw[y0o,y03 hi]
 refine⟨h.la,hi,?_,fun x hx' y hy=>?_,?_⟩
 .rw[y0R];refine y0M.mpr ⟨h.so,y26 _ _,fun x hx' y hy=>?_⟩;rw[y0c.mp hy];exact h.le x hx' b[ib] (by rw[e];simp)
 .rw[y0R,y0g,y0c]at hx';rcases hx' with hx'|rfl
  .exact h.le x hx' y (by
    rcases y0g.mp hy with z|z
    .simp[z]
    .rw[e];simp[z])
  .rcases y0g.mp hy with z|z
   .exact hle y z
   .exact z7V sb hx y z
 .have:=h.pm;rw[e]at this;rw[y0R,y0q];refine List.Perm.trans ?_ this;refine y1I _ ?_;rw[y3w];exact(List.perm_middle).symm
theorem MI.chunkA{a b out:Array Keyed}{ia ib:Nat}(sa:Sl kf lt a.toList)(h:MI kf lt a b out ia ib):∀(k:Nat),ia+k<=a.size->(∀i (hi:i<a.size),ia<=i->i<ia+k->∀y∈b.toList.drop ib,lt (kf y) (kf a[i])=false)->MI kf lt a b (out++a.extract ia (ia+k)) (ia+k) ib
 |0,_,_=>by
  have:a.extract ia (ia+0)=#[]:=by simp;lia
  rw[this,Array.append_empty];exact h
 |k+1,hk,hle=>by
  have ih:=MI.chunkA sa h k (by lia) fun i hi h1 h2=>hle i hi h1 (by lia);have:=ih.pushA sa (by lia:ia+k<a.size) (hle (ia+k) (by lia) (by lia) (by lia));have e:out++a.extract ia (ia+(k+1))=(out++a.extract ia (ia+k)).push a[ia+k]:=by have e1:=Array.push_extract_getElem (as:=a) (i:=ia) (j:=ia+k) (by lia);rw[y3b (by lia)]at e1;rw[<-Array.append_push,show ia+(k+1)=(ia+k)+1 by lia,e1]
  rw[e];exact this
def MI.swap{a b out:Array Keyed}{ia ib:Nat}(h:MI kf lt a b out ia ib):MI kf lt b a out ib ia:=by
 refine⟨h.lb,h.la,h.so,fun x hx y hy=>h.le x hx y ?_,?_⟩
 .rcases y0g.mp hy with z|z
  .exact y0z _ z
  .exact y0m _ z
 .exact((y1I _ y1J).trans h.pm).trans y1J
def MI.chunkB{a b out:Array Keyed}{ia ib:Nat}(sb:Sl kf lt b.toList)(h:MI kf lt a b out ia ib)(k:Nat)(hk:ib+k<=b.size)(hle:∀i (hi:i<b.size),ib<=i->i<ib+k->∀y∈a.toList.drop ia,lt (kf y) (kf b[i])=false):MI kf lt a b (out++b.extract ib (ib+k)) ia (ib+k) :=
 (MI.chunkA sb h.swap k hk hle).swap
def Mgd(kf:Keyed->α)(lt:α->α->Bool)(a b r:Array Keyed):Prop:=Sl kf lt r.toList/\r.toList.Perm (a.toList++b.toList)
def z1E(a:Array Keyed)(i:Nat):(a.extract i a.size).toList=a.toList.drop i:=by rw[y2Z,y2j];exact y0x (by simp)
def MI.doneB{a b out:Array Keyed}{ia:Nat}(sa:Sl kf lt a.toList)(h:MI kf lt a b out ia b.size):Mgd kf lt a b (out++a.extract ia a.size++b.extract b.size b.size):=by
 have e:b.toList.drop b.size=[]:=y1n (by simp);have e2:(out++a.extract ia a.size++b.extract b.size b.size).toList=out.toList++a.toList.drop ia:=by rw[y13,y13,z1E,z1E,e,y1L]
 unfold Mgd;rw[e2];refine⟨y0M.mpr ⟨h.so,z7S sa ia,fun x hx y hy=>h.le x hx y (by simp[hy])⟩,?_⟩;have:=h.pm;rw[e,y1L]at this;exact this
def MI.doneA{a b out:Array Keyed}{ib:Nat}(sb:Sl kf lt b.toList)(h:MI kf lt a b out a.size ib):Mgd kf lt a b (out++a.extract a.size a.size++b.extract ib b.size):=by
 have e:a.toList.drop a.size=[]:=y1n (by simp);have e2:(out++a.extract a.size a.size++b.extract ib b.size).toList=out.toList++b.toList.drop ib:=by rw[y13,y13,z1E,z1E,e,y1L]
 unfold Mgd;rw[e2];refine⟨y0M.mpr ⟨h.so,z7S sb ib,fun x hx y hy=>h.le x hx y (by simp[hy])⟩,?_⟩;have:=h.pm;rw[e,y1r]at this;exact this
def MI.lastA{a b out:Array Keyed}{ia ib:Nat}(sb:Sl kf lt b.toList)(h:MI kf lt a b out ia ib)(hia:ia+1=a.size)(hl:∀y∈b.toList,∀z,a[a.size-1]?=some z->lt (kf z) (kf y)=false):Mgd kf lt a b (out++b.extract ib b.size++a.extract ia a.size):=by
 have hi:ia<a.size:=by lia
 have e:a.toList.drop ia=[a[ia]]:=by rw[z4i hi,y1n (by simp;lia)]
 have e2:(out++b.extract ib b.size++a.extract ia a.size).toList=out.toList++(b.toList.drop ib++[a[ia]]):=by rw[y13,y13,z1E,z1E,e,y0q]
 have hz:a[a.size-1]?=some a[ia]:=by rw[show a.size-1=ia by lia,y03 hi]
 unfold Mgd;rw[e2];refine⟨y0M.mpr ⟨h.so,y0M.mpr ⟨z7S sb ib,y26 _ _,fun x hx y hy=>?_⟩,fun x hx y hy=>h.le x hx y ?_⟩,?_⟩
 .rw[y0c.mp hy];exact hl x (y24 hx) _ hz
 .rw[e];rcases y0g.mp hy with z|z
  .exact y0z _ z
  .exact y0m _ z
 .have:=h.pm;rw[e]at this;exact(y1I _ y1J).trans this
end
section
variable{prog:Program}{w:World}{A:Around}{E:yyE}{s:Shared}{α:Type}{kf:Keyed->α}{lt:α->α->Bool}{kd:SortKind}{S:List Keyed}
def z0t{st:SortSt}{arr:Array Keyed}{i:Nat}{x:Keyed}{Q:Keyed->SortSt->Prop}(h:arr[i]?=some x)(q:Q x st):wpS (model prog w) A E s (elem' arr i) Q st:=by rw[elem'_eq,h];exact y0v q
def z3D(T:z4Q lt)(hA:z8f prog w A E s kd S kf lt){st:SortSt}(hk:kindOf st=kd){left:Bool}{key:Keyed}{arr:Array Keyed}{base n hint:Nat}(hkS:key∈S)(hbn:base+n<=arr.size)(hS:∀i (hi:i<arr.size),base<=i->i<base+n->arr[i]∈S)(seg:∀i j (hi:i<arr.size) (hj:j<arr.size),base<=i->i<=j->j<base+n->lt (kf arr[j]) (kf arr[i])=false)(hh:hint<n){Q:Option Nat->SortSt->Prop}(h:∀k,k<=n->(∀i (hi:i<arr.size),base<=i->i<base+k->bey kf lt left key arr[i]=true)->(∀i (hi:i<arr.size),base+k<=i->i<base+n->bey kf lt left key arr[i]=false)->Q (some k) st) : wpS (model prog w) A E s (z9H left key arr base n hint) Q st:=by
 refine z97 hA hk hkS (fun i hi=>⟨arr[base+i],y03 (by lia),hS _ (by lia) (by lia) (by lia)⟩) (fun i=>bey kf lt left key (arr[base+i]?.getD key)) (fun i x hi hx=>by rw[hx];rfl) (fun i j hij hj hp=>?_) hh fun k hk1 h1 h2=>?_
 .have ei:arr[base+i]?=some arr[base+i]:=y03 (by lia);have ej:arr[base+j]?=some arr[base+j]:=y03 (by lia);have sg:=seg (base+i) (base+j) (by lia) (by lia) (by lia) (by lia) (by lia);simp only[ej,Option.getD_some]at hp;simp only[ei,Option.getD_some];unfold bey at hp⊢;cases left with
  |true =>
   simp only[y22]at hp⊢;cases e:lt (kf arr[base+i]) (kf key)with
   |true=>rfl
   |false=>rw[T.tr _ _ _ e sg]at hp;cases hp
  |false =>
   simp only[y06,y0W,Bool.not_eq_true']at hp⊢;exact T.tr _ _ _ sg hp
 .refine h k hk1 (fun i hi a1 a2=>?_) (fun i hi a1 a2=>?_)
  .have:=h1 (i-base) (by lia);rw[show base+(i-base)=i by lia,y03 hi]at this;exact this
  .have:=h2 (i-base) (by lia) (by lia);rw[show base+(i-base)=i by lia,y03 hi]at this;exact this
def z8s{arr:Array Keyed}(T:z4Q lt)(h:Sl kf lt arr.toList){base n:Nat}:∀i j (hi:i<arr.size) (hj:j<arr.size),base<=i->i<=j->j<base+n->lt (kf arr[j]) (kf arr[i])=false:=fun i j hi hj _ hij _=>by
 rcases y10 i j with q|q
 .have:=y18.mp h i j (by simpa using hi) (by simpa using hj) q;simpa using this
 .have:i=j:=by lia
  subst this;exact T.refl _
def StG(st st':SortSt):Prop:=∃g,st'=SortSt.mk' (kindOf st) (arrOf st) (pendingOf st) g (failedOf st)
def StG.refl(st:SortSt):StG st st:=⟨gallopOf st,rfl⟩
def StG.set{st st':SortSt}(h:StG st st')(g:Nat):StG st (SortSt.mk' (kindOf st') (arrOf st') (pendingOf st') g (failedOf st')):=by obtain⟨g',rfl⟩:=h;exact⟨g,rfl⟩
def z45{M:Model}{A:Around}{E:yyE}{s:Shared}{st st2:SortSt}(hG:StG st st2){g:Nat}{Q:PUnit->SortSt->Prop}(h:∀st3,StG st st3->Q ⟨⟩ st3):wpS M A E s (z5D g) Q st2:=y3P (h _ (hG.set g))
def StG.kind{st st':SortSt}(h:StG st st'):kindOf st'=kindOf st:=by obtain⟨g,rfl⟩:=h;rfl
def z8F{M:Model}{A:Around}{E:yyE}{s:Shared}{β σ:Type}{m:StateT σ Sem β}{Q:β->σ->Prop}{st:σ}(h:∀QG:β->σ->Prop,(∀r st',Q r st'->QG r st')->wpS M A E s m QG st):wpS M A E s m Q st:=h Q fun _ _ z=>z
def z9Y{M:Model}{A:Around}{E:yyE}{s:Shared}{β σ γ:Type}{c:Prop}[Decidable c]{j:γ->StateT σ Sem β}{u v:γ}{Q:β->σ->Prop}{st:σ}(h:∀z,wpS M A E s (j z) Q st):wpS M A E s (if c then j u else j v) Q st:=by
 split
 .exact h u
 .exact h v
set_option maxHeartbeats 8000000 in
def z7M(T:z4Q lt)(hA:z8f prog w A E s kd S kf lt){st:SortSt}(hk:kindOf st=kd){a b:Array Keyed}(haS:∀x∈a.toList,x∈S)(hbS:∀x∈b.toList,x∈S)(sa:Sl kf lt a.toList)(sb:Sl kf lt b.toList)(ha:0<a.size)(hb:0<b.size)(hfirst:lt (kf b[0]) (kf a[0])=true)(hl:∀y∈b.toList,∀z,a[a.size-1]?=some z->lt (kf z) (kf y)=false){Q:Array Keyed->SortSt->Prop}(h:∀r st',StG st st'->Mgd kf lt a b r->Q r st') : wpS (model prog w) A E s (zc0 a b) Q st:=by
 have M0:MI kf lt a b #[] 0 0:=⟨by lia,by lia,y2N,fun x hx=>by simp at hx,by simp⟩;have eb0:b[0]?=some b[0]:=y03 hb;have M1:MI kf lt a b #[b[0]] 0 1:=M0.pushB sb hb (fun y hy=>z2J T sa (i:=0) (x:=a[0]) (by simp[ha]) (T.asy _ _ hfirst) y hy);have hSa:∀i (hi:i<a.size),a[i]∈S:=fun i hi=>haS _ (by simp);have hSb:∀i (hi:i<b.size),b[i]∈S:=fun i hi=>hbS _ (by simp);have ea:∀i (hi:i<a.size),a[i]?=some a[i]:=fun i hi=>y03 hi;have eb:∀i (hi:i<b.size),b[i]?=some b[i]:=fun i hi=>y03 hi;have leA:∀i (hi:i<a.size) (y:Keyed),lt (kf a[i]) (kf y)=false->∀z∈a.toList.drop i,lt (kf z) (kf y)=false:=fun i hi y q=>z2J T sa (by simp[hi]) q;have leB:∀i (hi:i<b.size) (y:Keyed),lt (kf b[i]) (kf y)=false->∀z∈b.toList.drop i,lt (kf z) (kf y)=false:=fun i hi y q=>z2J T sb (by simp[hi]) q;refine y0n (wpS_lift (y2R ⟨rfl,?_⟩));refine y0n (z0t eb0 ?_);dsimp -zeta only;by_cases c1:1=b.size
 .rw[if_pos (by simpa using c1)];refine y0v (h _ _ (StG.refl st) ?_);rw[c1]at M1;have:=M1.doneB sa;rw[<-c1]at this;rw[<-c1];exact this
 rw[if_neg (by simpa using c1)];by_cases c2:0+1=a.size
 .rw[if_pos (by simpa using c2)];exact y0v (h _ _ (StG.refl st) (M1.lastA sb (by lia) hl))
 rw[if_neg (by simpa using c2)];refine y0n (y3R ?_);refine y0n (y2l (y1m (I:=fun x c st'=>StG st st'/\∃out ia ib mg,c=(none,out,ia,ib,mg)/\MI kf lt a b out ia ib/\ia+1<a.size/\ib<b.size/\x<out.size)
  (Q:=fun c st'=>StG st st'/\∃r,c.1=some r/\Mgd kf lt a b r) ?step ?fin ⟨StG.refl st,_,_,_,_,rfl,M1,by lia,by lia,by simp⟩) ?post)
 case fin =>
  rintro c st' ⟨hG,out,ia,ib,mg,rfl,M,q1,q2,q3⟩;have:=M.size;lia
 case post =>
  rintro⟨c1,c2⟩ st' ⟨hG,r,e,hr⟩;dsimp -zeta only at e⊢;subst e;exact y0v (h r st' hG hr)
 case step =>
  rintro x c st1 _ hx ⟨hG,out,ia,ib,mg,rfl,M,q1,q2,q3⟩;dsimp -zeta only;refine y0n (y2l (y1m (I:=fun y c st'=>st'=st1/\∃out ia ib ac bc,c=(none,out,ia,ib,ac,bc)/\MI kf lt a b out ia ib/\ia+1<a.size/\ib<b.size/\x+y<out.size)
   (Q:=fun c st'=>st'=st1/\((∃r,c.1=some r/\Mgd kf lt a b r)\/∃out ia ib ac bc,c=(none,out,ia,ib,ac,bc)/\MI kf lt a b out ia ib/\ia+1<a.size/\ib<b.size/\x+1<out.size)) ?istep ?ifin ⟨rfl,_,_,_,_,_,rfl,M,q1,q2,by lia⟩) ?ipost)
  case ifin =>
   rintro c st' ⟨rfl,out,ia,ib,ac,bc,rfl,M,q1,q2,q3⟩;exact⟨rfl,.inr ⟨out,ia,ib,ac,bc,rfl,M,q1,q2,by lia⟩⟩
  case istep =>
   rintro y c st' _ hy ⟨rfl,out,ia,ib,ac,bc,rfl,M,q1,q2,q3⟩;dsimp -zeta only;refine y0n (z0t (eb ib q2) ?_);refine y0n (z0t (ea ia (by lia)) ?_);refine y0n (hA _ _ _ _ (hG.kind.trans hk) (hSb ib q2) (hSa ia (by lia)) ?_);dsimp -zeta only;cases e:lt (kf b[ib]) (kf a[ia])with
   |true =>
    simp only[y22];refine y0n (z0t (eb ib q2) ?_);have M':=M.pushB sb q2 (leA ia (by lia) _ (T.asy _ _ e));have hs:(out.push b[ib]).size=out.size+1:=y1Z ..;by_cases d1:ib+1=b.size
    .rw[if_pos (by simpa using d1)];refine y0v ⟨rfl,.inl ⟨_,rfl,?_⟩⟩;rw[d1]at M'⊢;exact M'.doneB sa
    rw[if_neg (by simpa using d1)];split
    .exact y0v ⟨rfl,.inr ⟨_,_,_,_,_,rfl,M',q1,by lia,by lia⟩⟩
    .exact y0v ⟨rfl,_,_,_,_,_,rfl,M',q1,by lia,by lia⟩
   |false =>
    simp only[y06,y0W];refine y0n (z0t (ea ia (by lia)) ?_);have M':=M.pushA sa (by lia:ia<a.size) (leB ib q2 _ e);have hs:(out.push a[ia]).size=out.size+1:=y1Z ..;by_cases d1:ia+1+1=a.size
    .rw[if_pos (by simpa using d1)];exact y0v ⟨rfl,.inl ⟨_,rfl,M'.lastA sb d1 hl⟩⟩
    rw[if_neg (by simpa using d1)];split
    .exact y0v ⟨rfl,.inr ⟨_,_,_,_,_,rfl,M',by lia,q2,by lia⟩⟩
    .exact y0v ⟨rfl,_,_,_,_,_,rfl,M',by lia,q2,by lia⟩
  case ipost =>
   rintro c st' ⟨h9,hc⟩;rw[h9];rcases hc with⟨r,e,hr⟩|⟨out,ia,ib,ac,bc,rfl,M,q1,q2,q3⟩
   .obtain⟨c1,c2⟩:=c;dsimp -zeta only at e⊢;subst e;exact y0v ⟨hG,r,rfl,hr⟩
   dsimp -zeta only;refine y0n (wpS_lift (y2R ⟨rfl,?_⟩));refine y0n (y2l (y1m (I:=fun y c st'=>StG st st'/\∃out ia ib mg ac bc,c=(none,out,ia,ib,mg,ac,bc)/\MI kf lt a b out ia ib/\ia+1<a.size/\ib<b.size/\x+1<out.size)
    (Q:=fun c st'=>StG st st'/\((∃r,c.1=some r/\Mgd kf lt a b r)\/∃out ia ib mg ac bc,c=(none,out,ia,ib,mg,ac,bc)/\MI kf lt a b out ia ib/\ia+1<a.size/\ib<b.size/\x+1<out.size)) ?gstep ?gfin ⟨hG,_,_,_,_,_,_,rfl,M,q1,q2,q3⟩) ?gpost)
   case gfin =>
    rintro c st' ⟨hG,out,ia,ib,mg,ac,bc,rfl,M,q1,q2,q3⟩;exact⟨hG,.inr ⟨out,ia,ib,mg,ac,bc,rfl,M,q1,q2,q3⟩⟩
   case gpost =>
    rintro c st' ⟨hG,hc⟩;rcases hc with⟨r,e,hr⟩|⟨out,ia,ib,mg,ac,bc,rfl,M,q1,q2,q3⟩
    .obtain⟨c1,c2⟩:=c;dsimp -zeta only at e⊢;subst e;exact y0v ⟨hG,r,rfl,hr⟩
    dsimp -zeta only;refine y0n (z45 hG fun st3 hG2=>?_);exact y0v ⟨hG2,out,ia,ib,_,rfl,M,q1,q2,q3⟩
   case gstep =>
    rintro y c st2 _ hy ⟨hG,out,ia,ib,mg,ac,bc,rfl,M,q1,q2,q3⟩;dsimp -zeta only;refine z8F fun QG hQ=>?_
    extract_lets s1 o1 s2 i1 s3 b1 s4 m1 s5 a1 c1 bp jp m2
    subst m2 bp c1 a1 s5 m1 s4 b1 s3 i1 s2 o1 s1;refine z9Y (j:=jp ()) fun m'=>?_;dsimp -zeta only [jp];clear jp;refine y0n (z45 hG fun st3 hG2=>?_);refine y0n (z0t (eb ib q2) ?_);refine y0n (z3D T hA (hG2.kind.trans hk) (hSb ib q2) (by lia) (fun i hi _ _=>hSa i hi) (z8s T sa) (by lia) fun k hk1 f1 f2=>?_);have f1':∀i (hi:i<a.size),ia<=i->i<ia+k->lt (kf b[ib]) (kf a[i])=false:=fun i hi u1 u2=>by have:=f1 i hi u1 u2;unfold bey at this;simpa using this
    have f2':∀i (hi:i<a.size),ia+k<=i->lt (kf b[ib]) (kf a[i])=true:=fun i hi u1=>by have:=f2 i hi u1 (by lia);unfold bey at this;simpa using this
    dsimp -zeta only
    extract_lets k2 jp o2 i2
    subst i2 o2 k2;have hs0:=M.size;have hj:∀(o:Array Keyed)(i:Nat)(hi:i+1<a.size),MI kf lt a b o i ib->lt (kf b[ib]) (kf (a[i]'(by lia)))=true->x+1<o.size+1->wpS (model prog w) A E s (jp () o i) QG st3:=by
     intro o i hi M2 f3 ho;dsimp -zeta only [jp];clear jp;refine y0n (z0t (eb ib q2) ?_);have u3:=Nat.lt_of_succ_lt hi;have M3:=M2.pushB sb q2 (leA _ u3 _ (T.asy _ _ f3))
     extract_lets o3 b3
     subst b3 o3;by_cases d3:ib+1=b.size
     .rw[if_pos (by simpa using d3)];refine y0v (hQ _ _ ⟨hG2,.inl ⟨_,rfl,?_⟩⟩);rw[d3]at M3⊢;exact M3.doneB sa
     rw[if_neg (by simpa using d3)];refine y0n (z0t (ea _ u3) ?_);refine y0n (z3D T hA (hG2.kind.trans hk) (hSa _ u3) (by lia) (fun i hi _ _=>hSb i hi) (z8s T sb) (by lia) fun k1 hk1 g1 g2=>?_);dsimp -zeta only
     extract_lets k3 jp o4 b4
     subst b4 o4 k3;have hj:∀(o':Array Keyed)(b':Nat)(hb':b'<b.size),MI kf lt a b o' i b'->lt (kf (b[b'])) (kf (a[i]'u3))=false->x+1<o'.size+1->wpS (model prog w) A E s (jp () o' b') QG st3:=by
      intro o' b' hb' M4 g3 ho';dsimp -zeta only [jp];clear jp;refine y0n (z0t (ea _ u3) ?_);have M5:=M4.pushA sa u3 (leB _ hb' _ g3);have hs5:(o'.push (a[i]'u3)).size=o'.size+1:=y1Z ..;dsimp only;split
      .rename_i d6;exact y0v (hQ _ _ ⟨hG2,.inl ⟨_,rfl,M5.lastA sb (by simpa using d6) hl⟩⟩)
      rename_i d6;rw[y3i]at d6;split
      .exact y0v (hQ _ _ ⟨hG2,.inr ⟨_,_,_,_,_,_,rfl,M5,by lia,hb',by lia⟩⟩)
      .exact y0v (hQ _ _ ⟨hG2,_,_,_,_,_,_,rfl,M5,by lia,hb',by lia⟩)
     clear_value jp
     .have hs3:(o.push b[ib]).size=o.size+1:=y1Z ..;by_cases d4:k1>0
      .rw[if_pos d4];have M4:=M3.chunkB sb k1 (by lia) (fun i hi u1 u2=>leA _ u3 _ (T.asy _ _ (g1 i hi u1 u2)));have hs4:=M4.size;have hs2:=M3.size;by_cases d5:ib+1+k1=b.size
       .rw[if_pos (by simpa using d5)];refine y0v (hQ _ _ ⟨hG2,.inl ⟨_,rfl,?_⟩⟩);rw[d5]at M4⊢;exact M4.doneB sa
       rw[if_neg (by simpa using d5)];have u4:ib+1+k1<b.size:=by lia
       exact hj _ _ u4 M4 (g2 (ib+1+k1) u4 (y0d _) (by lia)) (by lia)
      .rw[if_neg d4];have hk0:k1=0:=by lia
       subst hk0;have u4:ib+1<b.size:=by lia
       exact hj _ _ u4 M3 (g2 (ib+1) u4 (by lia) (by lia)) (by lia)
    clear_value jp
    .by_cases d1:k>0
     .rw[if_pos d1];have M2:=M.chunkA sa k (by lia) (fun i hi u1 u2=>leB ib q2 _ (f1' i hi u1 u2));have hs2:=M2.size;by_cases d2:ia+k+1=a.size
      .rw[if_pos (by simpa using d2)];exact y0v (hQ _ _ ⟨hG2,.inl ⟨_,rfl,M2.lastA sb d2 hl⟩⟩)
      rw[if_neg (by simpa using d2)];by_cases d2':ia+k=a.size
      .rw[if_pos (by simpa using d2')];refine y0v (hQ _ _ ⟨hG2,.inl ⟨_,rfl,?_⟩⟩);rw[d2']at M2⊢;exact M2.doneA sb
      rw[if_neg (by simpa using d2')];exact hj _ _ (by lia) M2 (f2' (ia+k) (by lia) (y0d _)) (by lia)
     .rw[if_neg d1];have hk0:k=0:=by lia
      subst hk0;exact hj _ _ q1 M (f2' ia (by lia) (by lia)) (by lia)
end
def zcm:Array Keyed->Array Keyed->StateT SortSt Sem (Array Keyed):=sortPriv% PySem.Builtin.mergeHi
section
variable{α:Type}(kf:Keyed->α)(lt:α->α->Bool)
structure MH(a b:Array Keyed)(out:Array Keyed)(na nb:Nat):Prop where
 la:na<=a.size
 lb:nb<=b.size
 so:Sl kf lt out.toList.reverse
 le:∀y∈out.toList,∀x∈a.toList.take na++b.toList.take nb,lt (kf y) (kf x)=false
 pm:((a.toList.take na++b.toList.take nb)++out.toList.reverse).Perm (a.toList++b.toList)
end
section
variable{α:Type}{kf:Keyed->α}{lt:α->α->Bool}
def z5p{a:Array Keyed}{i:Nat}(h:i<a.size):a.toList.take (i+1)=a.toList.take i++[a[i]]:=by rw[y0G,show a.toList[i]?=some a[i]by rw[y0o,y03 h]];rfl
theorem MH.size{a b out:Array Keyed}{na nb:Nat}(h:MH kf lt a b out na nb):out.size+na+nb=a.size+b.size:=by have:=h.pm.length_eq;have h1:=h.la;have h2:=h.lb;simp at this;lia
def z3o(T:z4Q lt){l:List Keyed}{i:Nat}{x y:Keyed}(h:Sl kf lt l)(hx:l[i]?=some x)(hy:lt (kf y) (kf x)=false):∀z∈l.take (i+1),lt (kf y) (kf z)=false:=fun z hz=>by
 obtain⟨j,hj,e⟩:=y0E.mp hz;rw[y1W]at e;obtain⟨hi,ei⟩:=y0a.mp hx;have hji:j<=i:=by simp at hj;lia
 rcases y10 j i with q|q
 .have:=y18.mp h j i (by lia) hi q;rw[e,ei]at this;exact T.tr (kf z) (kf x) (kf y) this hy
 .have:j=i:=by lia
  subst this;rw[<-e,ei];exact hy
def MH.pushA{a b out:Array Keyed}{na nb:Nat}(h:MH kf lt a b out (na+1) nb)(sa:Sl kf lt a.toList)(T:z4Q lt)(hi:na<a.size)(hle:∀x∈b.toList.take nb,lt (kf a[na]) (kf x)=false):MH kf lt a b (out.push a[na]) na nb:=by
 have e:=z5p hi;have hx:a.toList[na]?=some a[na]:=by rw[y0o,y03 hi]
 have hin:∀x∈a.toList.take na++b.toList.take nb,x∈a.toList.take (na+1)++b.toList.take nb:=fun x hx=>by
  rcases y0g.mp hx with z|z
  .rw[e];simp[z]
  .simp[z]
 refine⟨by have:=h.la;lia,h.lb,?_,fun y hy x hx'=>?_,?_⟩
 .rw[y0R,List.reverse_append];refine y0M.mpr ⟨y26 _ _,h.so,fun x hx' y hy=>?_⟩;have hx'':x=a[na]:=by simpa using hx'
  subst hx'';exact h.le y (by simpa using hy) a[na] (by rw[e];simp)
 .rw[y0R,y0g,y0c]at hy;rcases hy with hy|rfl
  .exact h.le y hy x (hin x hx')
  .rcases y0g.mp hx' with z|z
   .exact z3o T sa hx (T.refl _) x (by rw[e];simp[z])
   .exact hle x z
 .have:=h.pm;rw[e]at this;rw[y0R,List.reverse_append];refine List.Perm.trans ?_ this;show((a.toList.take na++b.toList.take nb)++([a[na]]++out.toList.reverse)).Perm ((a.toList.take na++[a[na]]++b.toList.take nb)++out.toList.reverse);rw[<-y0q];refine y2a _ ?_;rw[y0q,y0q];exact y1I _ y1J
def MH.swap{a b out:Array Keyed}{na nb:Nat}(h:MH kf lt a b out na nb):MH kf lt b a out nb na:=by
 refine⟨h.lb,h.la,h.so,fun y hy x hx=>h.le y hy x ?_,?_⟩
 .rcases y0g.mp hx with z|z
  .exact y0z _ z
  .exact y0m _ z
 .exact((y2a _ y1J).trans h.pm).trans y1J
def MH.pushB{a b out:Array Keyed}{na nb:Nat}(h:MH kf lt a b out na (nb+1))(sb:Sl kf lt b.toList)(T:z4Q lt)(hi:nb<b.size)(hle:∀x∈a.toList.take na,lt (kf b[nb]) (kf x)=false):MH kf lt a b (out.push b[nb]) na nb :=
 (MH.pushA h.swap sb T hi hle).swap
theorem MH.chunkA{a b:Array Keyed}{nb at_:Nat}(sa:Sl kf lt a.toList)(T:z4Q lt):∀(na:Nat)(out:Array Keyed),at_<=na->MH kf lt a b out na nb->(∀i (hi:i<a.size),at_<=i->i<na->∀x∈b.toList.take nb,lt (kf a[i]) (kf x)=false)->MH kf lt a b (out++(a.extract at_ na).reverse) at_ nb
 |0,out,h0,h,_=>by
  have:at_=0:=by lia
  subst this;simpa using h
 |na+1,out,h0,h,hle=>by
  by_cases e:at_=na+1
  .subst e;have:(a.extract (na+1) (na+1)).reverse=#[]:=by simp;lia
   rw[this,Array.append_empty];exact h
  .have hi:na<a.size:=by have:=h.la;lia
   have:=MH.chunkA sa T na (out.push a[na]) (by lia) (h.pushA sa T hi (hle na hi (by lia) (by lia))) fun i hi' u1 u2=>hle i hi' u1 (by lia);have e2:out++(a.extract at_ (na+1)).reverse=out.push a[na]++(a.extract at_ na).reverse:=by have e1:=Array.push_extract_getElem (as:=a) (i:=at_) (j:=na) hi;rw[y3b (by lia)]at e1;rw[<-e1,Array.reverse_push];simp
   rw[e2];exact this
def MH.chunkB{a b:Array Keyed}{na at_:Nat}(sb:Sl kf lt b.toList)(T:z4Q lt)(nb:Nat)(out:Array Keyed)(h0:at_<=nb)(h:MH kf lt a b out na nb)(hle:∀i (hi:i<b.size),at_<=i->i<nb->∀x∈a.toList.take na,lt (kf b[i]) (kf x)=false):MH kf lt a b (out++(b.extract at_ nb).reverse) na at_ :=
 (MH.chunkA sb T nb out h0 h.swap hle).swap
def z1u(a:Array Keyed)(n:Nat):(a.extract 0 n).toList=a.toList.take n:=by rw[y2Z,y2j];simp
def MH.doneA{a b out:Array Keyed}{nb:Nat}(sb:Sl kf lt b.toList)(h:MH kf lt a b out 0 nb):Mgd kf lt a b (a.extract 0 0++b.extract 0 nb++out.reverse):=by
 have e2:(a.extract 0 0++b.extract 0 nb++out.reverse).toList=b.toList.take nb++out.toList.reverse:=by rw[y13,y13,z1u,z1u,y3F];simp
 unfold Mgd;rw[e2];refine⟨y0M.mpr ⟨sb.sublist (y1D _ _),h.so,fun x hx y hy=>h.le y (by simpa using hy) x (by simp[hx])⟩,?_⟩;have:=h.pm;simpa using this
def MH.doneB{a b out:Array Keyed}{na:Nat}(sa:Sl kf lt a.toList)(h:MH kf lt a b out na 0):Mgd kf lt a b (a.extract 0 na++b.extract 0 0++out.reverse):=by
 have e2:(a.extract 0 na++b.extract 0 0++out.reverse).toList=a.toList.take na++out.toList.reverse:=by rw[y13,y13,z1u,z1u,y3F];simp
 unfold Mgd;rw[e2];refine⟨y0M.mpr ⟨sa.sublist (y1D _ _),h.so,fun x hx y hy=>h.le y (by simpa using hy) x (by simp[hx])⟩,?_⟩;have:=h.pm;simpa using this
def MH.firstB{a b out:Array Keyed}{na:Nat}(sa:Sl kf lt a.toList)(hb:0<b.size)(h:MH kf lt a b out na 1)(hf:∀y∈a.toList,lt (kf y) (kf b[0])=false):Mgd kf lt a b (b.extract 0 1++a.extract 0 na++out.reverse):=by
 have e1:b.toList.take 1=[b[0]]:=by have:=z5p (a:=b) (i:=0) hb;simpa using this
 have e2:(b.extract 0 1++a.extract 0 na++out.reverse).toList=[b[0]]++a.toList.take na++out.toList.reverse:=by rw[y13,y13,z1u,z1u,y3F,e1]
 unfold Mgd;rw[e2];refine⟨y0M.mpr ⟨y0M.mpr ⟨y26 _ _,sa.sublist (y1D _ _),fun x hx y hy=>?_⟩,h.so,fun x hx y hy=>h.le y (by simpa using hy) x ?_⟩,?_⟩
 .rw[y0c.mp hx];exact hf y (y0U hy)
 .rw[e1];rcases y0g.mp hx with z|z
  .exact y0z _ z
  .exact y0m _ z
 .have:=h.pm;rw[e1]at this;exact(y2a _ y1J).trans this
end
section
variable{prog:Program}{w:World}{A:Around}{E:yyE}{s:Shared}{α:Type}{kf:Keyed->α}{lt:α->α->Bool}{kd:SortKind}{S:List Keyed}
set_option maxHeartbeats 8000000 in
def z7Q(T:z4Q lt)(hA:z8f prog w A E s kd S kf lt){st:SortSt}(hk:kindOf st=kd){a b:Array Keyed}(haS:∀x∈a.toList,x∈S)(hbS:∀x∈b.toList,x∈S)(sa:Sl kf lt a.toList)(sb:Sl kf lt b.toList)(ha:0<a.size)(hb:0<b.size)(hfirst:lt (kf b[0]) (kf a[0])=true)(hl:∀y∈b.toList,∀z,a[a.size-1]?=some z->lt (kf z) (kf y)=false){Q:Array Keyed->SortSt->Prop}(h:∀r st',StG st st'->Mgd kf lt a b r->Q r st') : wpS (model prog w) A E s (zcm a b) Q st:=by
 have hSa:∀i (hi:i<a.size),a[i]∈S:=fun i hi=>haS _ (by simp);have hSb:∀i (hi:i<b.size),b[i]∈S:=fun i hi=>hbS _ (by simp);have ea:∀i (hi:i<a.size),a[i]?=some a[i]:=fun i hi=>y03 hi;have eb:∀i (hi:i<b.size),b[i]?=some b[i]:=fun i hi=>y03 hi;have hf:∀y∈a.toList,lt (kf y) (kf b[0])=false:=fun y hy=>z2J T sa (i:=0) (x:=a[0]) (by simp[ha]) (T.asy _ _ hfirst) y (by simpa using hy);have leA:∀i (hi:i<a.size) (y:Keyed),lt (kf y) (kf a[i])=false->∀z∈a.toList.take (i+1),lt (kf y) (kf z)=false:=fun i hi y q=>z3o T sa (by simp[hi]) q;have leB:∀i (hi:i<b.size) (y:Keyed),lt (kf y) (kf b[i])=false->∀z∈b.toList.take (i+1),lt (kf y) (kf z)=false:=fun i hi y q=>z3o T sb (by simp[hi]) q;obtain⟨m,hm⟩:∃m,a.size=m+1:=⟨a.size-1,by lia⟩;have hm1:a.size-1=m:=by lia
 have M0:MH kf lt a b #[] (m+1) b.size:=⟨by lia,y0d _,y2N,fun y hy=>by simp at hy,by rw[<-hm,y0x (by simp),y0x (by simp)];simp⟩;have M1:MH kf lt a b #[a[m]] m b.size:=M0.pushA sa T (by lia) (fun x hx=>hl x (y0U hx) _ (by rw[hm1];exact ea m (by lia)));refine y0n (wpS_lift (y2R ⟨rfl,?_⟩));rw[hm1];refine y0n (z0t (ea m (by lia)) ?_);dsimp -zeta only;by_cases c1:m=0
 .rw[if_pos (by simpa using c1)];refine y0v (h _ _ (StG.refl st) ?_);subst c1;exact M1.doneA sb
 rw[if_neg (by simpa using c1)];by_cases c2:b.size=1
 .rw[if_pos (by simpa using c2)];refine y0v (h _ _ (StG.refl st) ?_);rw[c2]at M1;have:=M1.firstB sa hb hf;rw[<-c2]at this;exact this
 rw[if_neg (by simpa using c2)];refine y0n (y3R ?_);refine y0n (y2l (y1m (I:=fun x c st'=>StG st st'/\∃na nb out mg,c=(none,na,nb,out,mg)/\MH kf lt a b out na nb/\1<=na/\2<=nb/\x<out.size)
  (Q:=fun c st'=>StG st st'/\∃r,c.1=some r/\Mgd kf lt a b r) ?step ?fin ⟨StG.refl st,_,_,_,_,rfl,M1,by lia,by lia,by simp⟩) ?post)
 case fin =>
  rintro c st' ⟨hG,na,nb,out,mg,rfl,M,q1,q2,q3⟩;have:=M.size;lia
 case post =>
  rintro⟨c1,c2⟩ st' ⟨hG,r,e,hr⟩;dsimp -zeta only at e⊢;subst e;exact y0v (h r st' hG hr)
 case step =>
  rintro x c st1 _ hx ⟨hG,na,nb,out,mg,rfl,M,q1,q2,q3⟩;dsimp -zeta only;refine y0n (y2l (y1m (I:=fun y c st'=>st'=st1/\∃na nb out ac bc,c=(none,na,nb,out,ac,bc)/\MH kf lt a b out na nb/\1<=na/\2<=nb/\x+y<out.size)
   (Q:=fun c st'=>st'=st1/\((∃r,c.1=some r/\Mgd kf lt a b r)\/∃na nb out ac bc,c=(none,na,nb,out,ac,bc)/\MH kf lt a b out na nb/\1<=na/\2<=nb/\x+1<out.size)) ?istep ?ifin ⟨rfl,_,_,_,_,_,rfl,M,q1,q2,by lia⟩) ?ipost)
  case ifin =>
   rintro c st' ⟨rfl,na,nb,out,ac,bc,rfl,M,q1,q2,q3⟩;exact⟨rfl,.inr ⟨na,nb,out,ac,bc,rfl,M,q1,q2,by lia⟩⟩
  case istep =>
   rintro y c st' _ hy ⟨rfl,na,nb,out,ac,bc,rfl,M,q1,q2,q3⟩;obtain⟨p,rfl⟩:∃p,na=p+1:=⟨na-1,by lia⟩;obtain⟨r,rfl⟩:∃r,nb=r+2:=⟨nb-2,by lia⟩;have hp:p<a.size:=by have:=M.la;lia
   have hr:r+1<b.size:=by have:=M.lb;lia
   have z1:p+1-1=p:=rfl;have z2:r+2-1=r+1:=rfl;dsimp -zeta only;simp only[z1,z2];refine y0n (z0t (eb (r+1) hr) ?_);refine y0n (z0t (ea p hp) ?_);refine y0n (hA _ _ _ _ (hG.kind.trans hk) (hSb (r+1) hr) (hSa p hp) ?_);dsimp -zeta only;cases e:lt (kf b[r+1]) (kf a[p])with
   |true =>
    simp only[y22];refine y0n (z0t (ea p hp) ?_);have M':=M.pushA sa T hp (leB (r+1) hr _ (T.asy _ _ e));have hs:(out.push a[p]).size=out.size+1:=y1Z ..;by_cases d1:p=0
    .rw[if_pos (by simpa using d1)];refine y0v ⟨rfl,.inl ⟨_,rfl,?_⟩⟩;subst d1;exact M'.doneA sb
    rw[if_neg (by simpa using d1)];split
    .exact y0v ⟨rfl,.inr ⟨_,_,_,_,_,rfl,M',by lia,by lia,by lia⟩⟩
    .exact y0v ⟨rfl,_,_,_,_,_,rfl,M',by lia,by lia,by lia⟩
   |false =>
    simp only[y06,y0W];refine y0n (z0t (eb (r+1) hr) ?_);have M':=M.pushB sb T hr (leA p hp _ e);have hs:(out.push b[r+1]).size=out.size+1:=y1Z ..;by_cases d1:r+1=1
    .rw[if_pos (by simpa using d1)];refine y0v ⟨rfl,.inl ⟨_,rfl,?_⟩⟩;have d1':r=0:=by lia
     subst d1';exact M'.firstB sa hb hf
    rw[if_neg (by simpa using d1)];split
    .exact y0v ⟨rfl,.inr ⟨_,_,_,_,_,rfl,M',by lia,by lia,by lia⟩⟩
    .exact y0v ⟨rfl,_,_,_,_,_,rfl,M',by lia,by lia,by lia⟩
  case ipost =>
   rintro c st' ⟨h9,hc⟩;rw[h9];rcases hc with⟨r,e,hr⟩|⟨na,nb,out,ac,bc,rfl,M,q1,q2,q3⟩
   .obtain⟨c1,c2⟩:=c;dsimp -zeta only at e⊢;subst e;exact y0v ⟨hG,r,rfl,hr⟩
   dsimp -zeta only;refine y0n (wpS_lift (y2R ⟨rfl,?_⟩));refine y0n (y2l (y1m (I:=fun y c st'=>StG st st'/\∃na nb out mg ac bc,c=(none,na,nb,out,mg,ac,bc)/\MH kf lt a b out na nb/\1<=na/\2<=nb/\x+1<out.size)
    (Q:=fun c st'=>StG st st'/\((∃r,c.1=some r/\Mgd kf lt a b r)\/∃na nb out mg ac bc,c=(none,na,nb,out,mg,ac,bc)/\MH kf lt a b out na nb/\1<=na/\2<=nb/\x+1<out.size)) ?gstep ?gfin ⟨hG,_,_,_,_,_,_,rfl,M,q1,q2,q3⟩) ?gpost)
   case gfin =>
    rintro c st' ⟨hG,na,nb,out,mg,ac,bc,rfl,M,q1,q2,q3⟩;exact⟨hG,.inr ⟨na,nb,out,mg,ac,bc,rfl,M,q1,q2,q3⟩⟩
   case gpost =>
    rintro c st' ⟨hG,hc⟩;rcases hc with⟨r,e,hr⟩|⟨na,nb,out,mg,ac,bc,rfl,M,q1,q2,q3⟩
    .obtain⟨c1,c2⟩:=c;dsimp -zeta only at e⊢;subst e;exact y0v ⟨hG,r,rfl,hr⟩
    dsimp -zeta only;refine y0n (z45 hG fun st3 hG2=>?_);exact y0v ⟨hG2,na,nb,out,_,rfl,M,q1,q2,q3⟩
   case gstep =>
    rintro y c st2 _ hy ⟨hG,na,nb,out,mg,ac,bc,rfl,M,q1,q2,q3⟩;obtain⟨p,rfl⟩:∃p,na=p+1:=⟨na-1,by lia⟩;obtain⟨r,rfl⟩:∃r,nb=r+2:=⟨nb-2,by lia⟩;have hp:p<a.size:=by have:=M.la;lia
    have hr:r+1<b.size:=by have:=M.lb;lia
    have hs0:=M.size;refine z8F fun QG hQ=>?_;dsimp -zeta only
    extract_lets -underBinder s1 i1 s2 b1 s3 o1 s4 m1 s5 a1 c1 jp
    subst c1 a1 s5 m1 s4 o1 s3 b1 s2 i1 s1;refine z9Y (j:=jp ()) fun m'=>?_;dsimp -zeta only [jp];clear jp;refine y0n (z45 hG fun st3 hG2=>?_);refine y0n (z0t (eb (r+1) hr) ?_);refine y0n (z3D T hA (hG2.kind.trans hk) (hSb (r+1) hr) (by lia) (fun i hi _ _=>hSa i hi) (z8s T sa) (by lia) fun a1 ha1 f1 f2=>?_);have f1':∀i (hi:i<a.size),i<a1->lt (kf b[r+1]) (kf a[i])=false:=fun i hi u=>by have:=f1 i hi (y0B _) (by lia);unfold bey at this;simpa using this
    have f2':∀i (hi:i<a.size),a1<=i->i<p+1->lt (kf b[r+1]) (kf a[i])=true:=fun i hi u1 u2=>by have:=f2 i hi (by lia) (by lia);unfold bey at this;simpa using this
    dsimp -zeta only
    extract_lets -underBinder k1 k2 jp o9 i9
    subst i9 o9 k2 k1;have hj:∀(p1:Nat)(o:Array Keyed),p1+1<=p+1->MH kf lt a b o (p1+1) (r+2)->(∀i (hi:i<a.size),i<p1+1->lt (kf b[r+1]) (kf a[i])=false)->x+1<o.size+1->wpS (model prog w) A E s (jp () (p1+1) o) QG st3:=by
     intro p1 o hp1 M2 f1 ho;dsimp -zeta only [jp];clear jp
     extract_lets -underBinder b2
     subst b2;refine y0n (z0t (eb (r+1) hr) ?_);have HA:∀x∈a.toList.take (p1+1),lt (kf b[r+1]) (kf x)=false:=fun x hx=>by
      obtain⟨j,hj,e⟩:=y0E.mp hx;rw[y1W]at e;have hj':j<p1+1/\j<a.size:=by simp at hj;lia
      have:=f1 j hj'.2 hj'.1;rw[<-e];simpa using this
     have M3:=M2.pushB sb T hr HA
     extract_lets -underBinder o2
     subst o2;by_cases d3:r+1=1
     .rw[if_pos (by simpa using d3)];refine y0v (hQ _ _ ⟨hG2,.inl ⟨_,rfl,?_⟩⟩);have d3':r=0:=by lia
      subst d3';exact M3.firstB sa hb hf
     rw[if_neg (by simpa using d3)];refine y0n (z0t (ea p1 (by lia)) ?_);refine y0n (z3D T hA (hG2.kind.trans hk) (hSa p1 (by lia)) (by lia) (fun i hi _ _=>hSb i hi) (z8s T sb) (by lia) fun a2 ha2 g1 g2=>?_);have g1':∀i (hi:i<b.size),i<a2->lt (kf b[i]) (kf a[p1])=true:=fun i hi u=>by have:=g1 i hi (y0B _) (by lia);unfold bey at this;simpa using this
     have g2':∀i (hi:i<b.size),a2<=i->i<r+1->lt (kf b[i]) (kf a[p1])=false:=fun i hi u1 u2=>by have:=g2 i hi (by lia) (by lia);unfold bey at this;simpa using this
     dsimp -zeta only
     extract_lets -underBinder k1 k2 jp o9 i9
     subst i9 o9 k2 k1;have hj:∀(b':Nat)(o':Array Keyed),2<=b'+1->MH kf lt a b o' (p1+1) b'->b'=a2->2<=b'->x+1<o'.size+1->wpS (model prog w) A E s (jp () b' o') QG st3:=by
      intro b' o' _ MB eb2 h2 ho';subst eb2;have HB:∀x∈b.toList.take b',lt (kf a[p1]) (kf x)=false:=fun x hx=>by
       obtain⟨j,hj,e⟩:=y0E.mp hx;rw[y1W]at e;have hj':j<b'/\j<b.size:=by simp at hj;lia
       have:=T.asy _ _ (g1' j hj'.2 hj'.1);rw[<-e];simpa using this
      dsimp only[jp];clear jp;refine y0n (z0t (ea p1 (by lia)) ?_);have M5:=MB.pushA sa T (by lia:p1<a.size) HB;have hs5:(o'.push (a[p1]'(by lia))).size=o'.size+1:=y1Z ..;by_cases d6:p1=0
      .rw[if_pos (by simpa using d6)];refine y0v (hQ _ _ ⟨hG2,.inl ⟨_,rfl,?_⟩⟩);subst d6;exact M5.doneA sb
      rw[if_neg (by simpa using d6)];split
      .exact y0v (hQ _ _ ⟨hG2,.inr ⟨_,_,_,_,_,_,rfl,M5,by lia,by lia,by lia⟩⟩)
      .exact y0v (hQ _ _ ⟨hG2,_,_,_,_,_,_,rfl,M5,by lia,by lia,by lia⟩)
     clear_value jp
     have hs3:(o.push b[r+1]).size=o.size+1:=y1Z ..;by_cases d4:r+2-1-a2>0
     .rw[if_pos d4];have MB:=MH.chunkB sb T (r+1) _ (by lia:a2<=r+1) M3 (fun i hi u1 u2=>leA p1 (by lia) _ (g2' i hi u1 u2));have hs4:=MB.size;have hs2:=M3.size;by_cases d5:a2=1
      .rw[if_pos (by simpa using d5)];refine y0v (hQ _ _ ⟨hG2,.inl ⟨_,rfl,?_⟩⟩);subst d5;exact MB.firstB sa hb hf
      rw[if_neg (by simpa using d5)];by_cases d5':a2=0
      .rw[if_pos (by simpa using d5')];refine y0v (hQ _ _ ⟨hG2,.inl ⟨_,rfl,?_⟩⟩);subst d5';exact MB.doneB sa
      rw[if_neg (by simpa using d5')];have h9:x+1<(o.push b[r+1]++(b.extract a2 (r+1)).reverse).size+1:=by lia
      exact hj _ _ (by lia) MB rfl (by lia) h9
     .rw[if_neg d4];have hk0:a2=r+1:=by lia
      exact hj _ _ (by lia) M3 hk0.symm (by lia) (by lia)
    clear_value jp
    by_cases d1:p+1-a1>0
    .rw[if_pos d1];have M2:=MH.chunkA sa T (p+1) _ (by lia:a1<=p+1) M (fun i hi u1 u2=>leB (r+1) hr _ (T.asy _ _ (f2' i hi u1 u2)));have hs2:=M2.size;by_cases d2:a1=0
     .rw[if_pos (by simpa using d2)];refine y0v (hQ _ _ ⟨hG2,.inl ⟨_,rfl,?_⟩⟩);subst d2;exact M2.doneA sb
     rw[if_neg (by simpa using d2)];obtain⟨p1,rfl⟩:∃p1,a1=p1+1:=⟨a1-1,by lia⟩;exact hj p1 _ (by lia) M2 f1' (by lia)
    .rw[if_neg d1];have hk0:a1=p+1:=by lia
     subst hk0;exact hj p _ (by lia) M f1' (by lia)
end
section
variable{α:Type}(kf:Keyed->α)(lt:α->α->Bool)
def KA(xs:Array Keyed)(i:Nat):α:=kf (xs[i]?.getD (.none,.none))
def za1(xs:Array Keyed)(lo n:Nat):Prop:=∀i j,i<=j->j<n->lt (KA kf xs (lo+j)) (KA kf xs (lo+i))=false
def zem(xs:Array Keyed)(lo n:Nat):Prop:=∀i j,i<=j->j<n->lt (KA kf xs (lo+i)) (KA kf xs (lo+j))=false
end
structure SB(kd:SortKind)(p0:Array (Nat × Nat × Nat))(a₀:Array Keyed)(lo hi:Nat)(st:SortSt):Prop where
 perm:(arrOf st).Perm a₀
 kind:kindOf st=kd
 failed:failedOf st=none
 pend:pendingOf st=p0
 out:∀k:Nat,k<lo\/hi<=k->(arrOf st)[k]?=a₀[k]?
section
variable{α:Type}{kf:Keyed->α}{lt:α->α->Bool}{kd:SortKind}{p0:Array (Nat × Nat × Nat)}{a₀:Array Keyed}{lo hi:Nat}{st:SortSt}
theorem SB.size(h:SB kd p0 a₀ lo hi st):(arrOf st).size=a₀.size:=h.perm.size_eq
def SB.arr(h:SB kd p0 a₀ lo hi st){xs:Array Keyed}(hp:xs.Perm (arrOf st))(ho:∀k:Nat,k<lo\/hi<=k->xs[k]?=(arrOf st)[k]?):SB kd p0 a₀ lo hi (setArr st xs) :=
 ⟨hp.trans h.perm,h.kind,h.failed,h.pend,fun k hk=>(ho k hk).trans (h.out k hk)⟩
def z34{xs ys:Array Keyed}{i j:Nat}(h:xs[i]?=ys[j]?):KA kf xs i=KA kf ys j:=by unfold KA;rw[h]
def z4s{xs:Array Keyed}{i j:Nat}(hj:j<=xs.size)(k:Nat):KA kf (mirror xs i j ((j-i)/2)) k=if i<=k/\k<j then KA kf xs (i+j-1-k)else KA kf xs k:=by
 have e:=getElem?_mirror_all (i:=i) hj k;by_cases h1:i<=k/\k<j
 .rw[if_pos h1]at e⊢;exact z34 e
 .rw[if_neg h1]at e⊢;exact z34 e
def z0X{xs:Array Keyed}{i j:Nat}(hj:j<=xs.size)(heq:∀k,i<=k->k<j->KA kf xs k=KA kf xs (j-1))(k:Nat):KA kf (mirror xs i j ((j-i)/2)) k=KA kf xs k:=by
 rw[z4s hj];split
 .rw[heq _ (by lia) (by lia),heq k (by lia) (by lia)]
 .rfl
def z6n{xs:Array Keyed}{src d:Nat}(hs:src<xs.size)(hd:d<=src)(k:Nat):KA kf (bubble xs src d) k=if k=src-d then KA kf xs src else if src-d<k/\k<=src then KA kf xs (k-1)else KA kf xs k:=by
 have e:=getElem?_bubble hs d hd k;by_cases h1:k=src-d
 .rw[if_pos h1]at e⊢;exact z34 e
 .rw[if_neg h1]at e⊢;by_cases h2:src-d<k/\k<=src
  .rw[if_pos h2]at e⊢;exact z34 e
  .rw[if_neg h2]at e⊢;exact z34 e
def z2K{xs:Array Keyed}{i j:Nat}(hj:j<=xs.size){k:Nat}(hk:k<i\/j<=k):(mirror xs i j ((j-i)/2))[k]?=xs[k]?:=by rw[getElem?_mirror_all hj,if_neg (by lia)]
def z99{xs:Array Keyed}{src d:Nat}(hs:src<xs.size)(hd:d<=src){k:Nat}(hk:k<src-d\/src<k):(bubble xs src d)[k]?=xs[k]?:=by rw[getElem?_bubble hs d hd,if_neg (by lia),if_neg (by lia)]
end
section
variable{prog:Program}{w:World}{A:Around}{E:yyE}{s:Shared}{α:Type}{kf:Keyed->α}{lt:α->α->Bool}{kd:SortKind}{S:List Keyed}{p0:Array (Nat × Nat × Nat)}{a₀:Array Keyed}{lo hi:Nat}
def z3u(hA:z8f prog w A E s kd S kf lt)(h0:∀x∈a₀.toList,x∈S){st:SortSt}(hB:SB kd p0 a₀ lo hi st){i j:Nat}(hi':i<a₀.size)(hj:j<a₀.size){Q:Option Bool->SortSt->Prop}(h:Q (some (lt (KA kf (arrOf st) i) (KA kf (arrOf st) j))) st):wpS (model prog w) A E s (ltAt' i j) Q st:=by
 have e:∀k,k<a₀.size->∃x,(arrOf st)[k]?=some x/\x∈S/\KA kf (arrOf st) k=kf x:=fun k hk=>by
  have hk':k<(arrOf st).size:=by rw[hB.size];exact hk
  refine⟨(arrOf st)[k],y03 hk',h0 _ ((Array.perm_iff_toList_perm.mp hB.perm).mem_iff.mp (by simp)),?_⟩;unfold KA;rw[y03 hk'];rfl
 obtain⟨x,e1,x1,x2⟩:=e i hi';obtain⟨y,e2,y1,y2⟩:=e j hj;rw[ltAt'_eq];refine y0n (y3R ?_);show wpS _ _ _ _ (do let x <-elem' (arrOf st) i;let y <-elem' (arrOf st) j;lt' x y) Q st
 refine y0n (z0t e1 ?_);refine y0n (z0t e2 ?_);exact hA st x y Q hB.kind x1 y1 (by rw[<-x2,<-y2];exact h)
def z4b(T:z4Q lt)(hA:z8f prog w A E s kd S kf lt)(h0:∀x∈a₀.toList,x∈S){st:SortSt}{n ok:Nat}{Q:Bool->SortSt->Prop}(hn:lo+n<=a₀.size)(hhi:lo+n<=hi)(hok:ok<=n)(hB:SB kd p0 a₀ lo hi st)(hs:za1 kf lt (arrOf st) lo ok)(h:∀st',SB kd p0 a₀ lo hi st'->za1 kf lt (arrOf st') lo n->Q true st'):wpS (model prog w) A E s (binarySort' lo n ok) Q st:=by
 rw[binarySort'_eq];refine y0n (y2l (y1m (I:=fun k c st'=>c=(none,())/\SB kd p0 a₀ lo hi st'/\za1 kf lt (arrOf st') lo (min k n))
  (Q:=fun c st'=>c=(none,())/\SB kd p0 a₀ lo hi st'/\za1 kf lt (arrOf st') lo n) ?step ?fin ?init) ?post)
 case post =>
  rintro c st' ⟨rfl,hB',hs'⟩;exact y0v (h st' hB' hs')
 case init =>
  refine⟨rfl,hB,fun i j hij hj=>?_⟩;by_cases h1:ok=0
  .have:i=j:=by lia
   subst this;exact T.refl _
  .exact hs i j hij (by lia)
 case fin =>
  rintro c st' ⟨hc,hB',hs'⟩;refine⟨hc,hB',?_⟩
  rwa [show min (max (max ok 1) n) n=n by lia]at hs'
 case step =>
  rintro k c st' hak hkn ⟨rfl,hB',hs'⟩;rw[show min k n=k by lia]at hs';have hk:lo+k<a₀.size:=by lia
  refine y0n (y2l (y1m (I:=fun x c st''=>st''=st'/\∃l r,c=(none,l,r)/\l<=r/\r<=k/\r-l<=k-x /\
    (∀i,i<l->lt (KA kf (arrOf st') (lo+k)) (KA kf (arrOf st') (lo+i))=false)/\(∀i,r<=i->i<k->lt (KA kf (arrOf st') (lo+k)) (KA kf (arrOf st') (lo+i))=true))
   (Q:=fun c st''=>st''=st'/\∃l r,c=(none,l,r)/\l<=k /\
    (∀i,i<l->lt (KA kf (arrOf st') (lo+k)) (KA kf (arrOf st') (lo+i))=false)/\(∀i,l<=i->i<k->lt (KA kf (arrOf st') (lo+k)) (KA kf (arrOf st') (lo+i))=true)) ?istep ?ifin ?iinit) ?ipost)
  case iinit=>exact⟨rfl,0,k,rfl,by lia,by lia,by lia,fun i hi=>by lia,fun i h1 h2=>by lia⟩
  case ifin =>
   rintro c st'' ⟨rfl,l,r,rfl,hlr,hrk,hm,hlo,hhi⟩;have:l=r:=by lia
   subst this;exact⟨rfl,l,l,rfl,hrk,hlo,hhi⟩
  case istep =>
   rintro x c st'' _ hxk ⟨rfl,l,r,rfl,hlr,hrk,hm,hlo,hhi⟩;dsimp only;by_cases hge:l ≥ r
   .rw[if_pos hge];have:l=r:=by lia
    subst this;exact y0v ⟨rfl,l,l,rfl,hrk,hlo,hhi⟩
   .rw[if_neg hge];refine y0n (z3u hA h0 hB' hk (by lia) ?_);cases hless:lt (KA kf (arrOf st'') (lo+k)) (KA kf (arrOf st'') (lo+(l+r)/2));case true =>
     simp only[y22];refine y0v ⟨rfl,l,(l+r)/2,rfl,by lia,by lia,by lia,hlo,fun i h1 h2=>?_⟩;cases e:lt (KA kf (arrOf st'') (lo+k)) (KA kf (arrOf st'') (lo+i))with
     |true=>rfl
     |false=>rw[T.tr _ _ _ (hs' _ _ h1 h2) e]at hless;cases hless
    case false =>
     simp only[y06,y0W];refine y0v ⟨rfl,(l+r)/2+1,r,rfl,by lia,by lia,by lia,fun i h1=>?_,hhi⟩;exact T.tr _ _ _ (hs' i ((l+r)/2) (by lia) (by lia)) hless
  case ipost =>
   rintro c st'' ⟨rfl,l,r,rfl,hlk,hlo,hhi'⟩;show wpS _ _ _ _ (do moveDown' (lo+k) (lo+l);pure (ForInStep.yield (none,()))) _ _
   rw[moveDown'_eq];have hks:lo+k<(arrOf st'').size:=by rw[hB'.size];exact hk
   have hd:lo+k-(lo+l)<=lo+k:=by lia
   refine y0n (y3P (y0v ⟨rfl,hB'.arr (bubble_perm _ _ _) (fun k' hk'=>z99 hks hd (by lia)),?_⟩));rw[show min (k+1) n=k+1 by lia];intro i j hij hj;show lt (KA kf (bubble (arrOf st'') (lo+k) (lo+k-(lo+l))) (lo+j)) (KA kf (bubble (arrOf st'') (lo+k) (lo+k-(lo+l))) (lo+i))=false;rw[z6n hks hd,z6n hks hd,show lo+k-(lo+k-(lo+l))=lo+l by lia];have zhj:∀i,i<k+1->0<i->lo+i-1=lo+(i-1):=fun i _ _=>by lia
   repeat' split
   all_goals first
    | (exfalso;lia)
    |exact T.refl _
    |exact hlo _ (by lia)
    | (rw[show lo+j-1=lo+(j-1)by lia];exact T.asy _ _ (hhi' _ (by lia) (by lia)))
    | (rw[show lo+j-1=lo+(j-1)by lia,show lo+i-1=lo+(i-1)by lia];exact hs' _ _ (by lia) (by lia))
    | (rw[show lo+j-1=lo+(j-1)by lia];exact hs' _ _ (by lia) (by lia))
    |exact hs' _ _ (by lia) (by lia)
end
section
variable{prog:Program}{w:World}{A:Around}{E:yyE}{s:Shared}{α:Type}{kf:Keyed->α}{lt:α->α->Bool}{kd:SortKind}{S:List Keyed}{p0:Array (Nat × Nat × Nat)}{a₀:Array Keyed}{lo hi:Nat}
def z6f(T:z4Q lt)(hA:z8f prog w A E s kd S kf lt)(h0:∀x∈a₀.toList,x∈S){st:SortSt}{nrem:Nat}{Q:Option Nat->SortSt->Prop}(hn:lo+nrem<=a₀.size)(hhi:lo+nrem<=hi)(h1:1<=nrem)(hB:SB kd p0 a₀ lo hi st)(h:∀m st',SB kd p0 a₀ lo hi st'->1<=m->m<=nrem->za1 kf lt (arrOf st') lo m->Q (some m) st'):wpS (model prog w) A E s (countRun' lo nrem) Q st:=by
 rw[countRun'_eq];refine y0n (y2l (y1m (I:=fun x c st'=>st'=st/\c=(none,x)/\za1 kf lt (arrOf st) lo x)
  (Q:=fun c st'=>st'=st/\∃n,c=(none,n)/\1<=n/\n<=nrem/\za1 kf lt (arrOf st) lo n/\(n=nrem\/lt (KA kf (arrOf st) (lo+n)) (KA kf (arrOf st) (lo+n-1))=true)) ?stepA7 ?finA7 ⟨rfl,rfl,(fun i j hij hj=>by have:i=j:=(by lia);subst this;exact T.refl _)⟩) ?postA7)
 case finA7 =>
  rintro c st' ⟨e9,rfl,hs'⟩;rw[show max (1) nrem=nrem by lia]at hs'⊢;exact⟨e9,nrem,rfl,by lia,y0d _,hs',.inl rfl⟩
 case stepA7 =>
  rintro x c st' hax hxn ⟨e9,rfl,hs'⟩;rw[e9];dsimp only;refine y0n (z3u hA h0 hB (by lia) (by lia) ?_);cases hless:lt (KA kf (arrOf st) (lo+x)) (KA kf (arrOf st) (lo+x-1));case true =>
   simp only[y22];exact y0v ⟨rfl,x,rfl,hax,by lia,hs',.inr hless⟩
  case false =>
   simp only[y06,y0W];refine y0v ⟨rfl,rfl,fun i j hij hj=>?_⟩;by_cases hjx:j<x
   .exact hs' i j hij hjx
   .have hj':j=x:=by lia
    subst hj';by_cases hi':i=j
    .subst hi';exact T.refl _
    .have:=hs' i (j-1) (by lia) (by lia);rw[show lo+(j-1)=lo+j-1 by lia]at this;exact T.tr _ _ _ this hless
 case postA7 =>
  rintro c st' ⟨e9,n,rfl,hn1,hn2,hsn,hor⟩;rw[e9];dsimp only;by_cases hnn:n=nrem
  .rw[if_pos (by simpa using hnn)];exact y0v (h n st hB hn1 hn2 hsn)
  rw[if_neg (by simpa using hnn)];have hlt:=hor.resolve_left hnn;by_cases hgt:n>1;focus
   rw[if_pos hgt];refine y0n (z3u hA h0 hB (by lia) (by lia) ?_);cases hrose:lt (KA kf (arrOf st) lo) (KA kf (arrOf st) (lo+n-1));case true =>
    simp only[y22];exact y0v (h n st hB hn1 hn2 hsn)
   simp only[y06,y0W];have hsz0:lo+n<=(arrOf st).size:=by rw[hB.size];lia
   have hall:∀k,lo<=k->k<lo+n->KA kf (arrOf st) k=KA kf (arrOf st) (lo+n-1):=by intro k u1 u2;have a1:=hsn 0 (k-lo) (by lia) (by lia);have a2:=hsn (k-lo) (n-1) (by lia) (by lia);rw[show lo+(k-lo)=k by lia,y35]at a1;rw[show lo+(k-lo)=k by lia,show lo+(n-1)=lo+n-1 by lia]at a2;exact T.an _ _ (T.tr _ _ _ hrose a1) a2
   refine y0n (wpS_reverse ?_);have hB5:SB kd p0 a₀ lo hi (setArr st (mirror (arrOf st) lo (lo+n) ((lo+n-lo)/2))):=hB.arr (mirror_perm _ _ _ _) (fun k hk=>z2K hsz0 (by lia));have hs5:zem kf lt (arrOf (setArr st (mirror (arrOf st) lo (lo+n) ((lo+n-lo)/2)))) lo (n+1):=by
    intro i j hij hj;show lt (KA kf (mirror (arrOf st) _ _ _) (lo+i)) (KA kf (mirror (arrOf st) _ _ _) (lo+j))=false;rw[z0X hsz0 hall,z0X hsz0 hall];by_cases hjn:j<n
    .rw[hall (lo+i) (by lia) (by lia),hall (lo+j) (by lia) (by lia)];exact T.refl _
    .have hj':j=n:=by lia
     subst hj';by_cases hi':i=j
     .subst hi';exact T.refl _
     .rw[hall (lo+i) (by lia) (by lia)];exact T.asy _ _ hlt
   generalize setArr st (mirror (arrOf st) lo (lo+n) ((lo+n-lo)/2))=st5 at hB5 hs5⊢
  rotate_left;focus
   rw[if_neg hgt];have hn1':n=1:=by lia
   have hs5:zem kf lt (arrOf st) lo (n+1):=by
    subst hn1';intro i j hij hj;by_cases hi':i=j
    .subst hi';exact T.refl _
    .have hi0:i=0:=by lia
     have hj1:j=1:=by lia
     subst hi0;subst hj1;exact T.asy _ _ hlt
   have hB5:=hB;generalize st=st5 at hB5 hs5⊢
  all_goals
   refine y0n (wpS_lift (y2R ⟨rfl,?_⟩));refine y0n (y2l (y1m (I:=fun x c st'=>∃neq,c=(none,x,neq)/\SB kd p0 a₀ lo hi st'/\zem kf lt (arrOf st') lo x/\neq+1<=x/\(∀i,x-(neq+1)<=i->i<x->KA kf (arrOf st') (lo+i)=KA kf (arrOf st') (lo+x-1)))
    (Q:=fun c st'=>∃m neq,c=(none,m,neq)/\n+1<=m/\m<=nrem/\SB kd p0 a₀ lo hi st'/\zem kf lt (arrOf st') lo m/\neq+1<=m/\(∀i,m-(neq+1)<=i->i<m->KA kf (arrOf st') (lo+i)=KA kf (arrOf st') (lo+m-1))) ?stepD1 ?finD1 ⟨0,rfl,hB5,hs5,by lia,fun i u1 u2=>by congr 1;lia⟩) ?postD1)
   case finD1 =>
    rintro c st' ⟨neq,rfl,hB',hs',hq,he⟩;rw[show max (n+1) nrem=nrem by lia]at hs' hq he⊢;exact⟨nrem,neq,rfl,by lia,y0d _,hB',hs',hq,he⟩
   case stepD1 =>
    rintro x c st' hax hxn ⟨neq,rfl,hB',hs',hq,he⟩;dsimp only;have hsz:lo+x<=(arrOf st').size:=by rw[hB'.size];lia
    refine y0n (z3u hA h0 hB' (by lia) (by lia) ?_);cases hless:lt (KA kf (arrOf st') (lo+x)) (KA kf (arrOf st') (lo+x-1));case true =>
     simp only[y22];have step1:∀xs:Array Keyed,(∀k,KA kf xs k=KA kf (arrOf st') k)->zem kf lt xs lo (x+1):=by
      intro xs hk i j hij hj;rw[hk,hk];by_cases hjx:j<x
      .exact hs' i j hij hjx
      .have hj':j=x:=by lia
       subst hj';by_cases hi':i=j
       .subst hi';exact T.refl _
       .have:=hs' i (j-1) (by lia) (by lia);rw[show lo+(j-1)=lo+j-1 by lia]at this;exact T.tr _ _ _ (T.asy _ _ hless) this
     have heq:∀k,lo+x-(neq+1)<=k->k<lo+x->KA kf (arrOf st') k=KA kf (arrOf st') (lo+x-1):=fun k u1 u2=>by have:=he (k-lo) (by lia) (by lia);rw[show lo+(k-lo)=k by lia]at this;exact this
     by_cases hneq:neq>0
     .rw[if_pos hneq];refine y0n (wpS_reverse (y0v ⟨0,rfl,hB'.arr (mirror_perm _ _ _ _) (fun k hk=>z2K hsz (by lia)),step1 _ (z0X hsz heq),by lia,fun i u1 u2=>by congr 1;lia⟩))
     .rw[if_neg hneq];exact y0v ⟨0,rfl,hB',step1 _ (fun _=>rfl),by lia,fun i u1 u2=>by congr 1;lia⟩
    case false =>
     simp only[y06,y0W];refine y0n (z3u hA h0 hB' (by lia) (by lia) ?_);cases hlarger:lt (KA kf (arrOf st') (lo+x-1)) (KA kf (arrOf st') (lo+x));case true =>
      simp only[y22];exact y0v ⟨x,neq,rfl,hax,by lia,hB',hs',hq,he⟩
     case false =>
      simp only[y06,y0W];have heqx:KA kf (arrOf st') (lo+x)=KA kf (arrOf st') (lo+x-1):=T.an _ _ hless hlarger;refine y0v ⟨neq+1,rfl,hB',fun i j hij hj=>?_,by lia,fun i u1 u2=>?_⟩
      .by_cases hjx:j<x
       .exact hs' i j hij hjx
       .have hj':j=x:=by lia
        subst hj';by_cases hi':i=j
        .subst hi';exact T.refl _
        .have:=hs' i (j-1) (by lia) (by lia);rw[show lo+(j-1)=lo+j-1 by lia]at this;rw[heqx];exact this
      .rw[show lo+(x+1)-1=lo+x by lia];by_cases hix:i=x
       .subst hix;rfl
       .rw[heqx];exact he i (by lia) (by lia)
   case postD1 =>
    rintro c st7 ⟨m,neq,rfl,hm1,hm2,hB7,hs7,hq,he⟩;dsimp only;have hsz:lo+m<=(arrOf st7).size:=by rw[hB7.size];lia
    have heq:∀k,lo+m-(neq+1)<=k->k<lo+m->KA kf (arrOf st7) k=KA kf (arrOf st7) (lo+m-1):=fun k u1 u2=>by have:=he (k-lo) (by lia) (by lia);rw[show lo+(k-lo)=k by lia]at this;exact this
    by_cases hneq:neq>0;focus
     rw[if_pos hneq];refine y0n (wpS_reverse ?_);have hB7':SB kd p0 a₀ lo hi (setArr st7 (mirror (arrOf st7) (lo+m-(neq+1)) (lo+m) ((lo+m-(lo+m-(neq+1)))/2))):=hB7.arr (mirror_perm _ _ _ _) (fun k hk=>z2K hsz (by lia));have hs7':zem kf lt (arrOf (setArr st7 (mirror (arrOf st7) (lo+m-(neq+1)) (lo+m) ((lo+m-(lo+m-(neq+1)))/2)))) lo m:=by intro i j hij hj;show lt (KA kf (mirror (arrOf st7) _ _ _) (lo+i)) (KA kf (mirror (arrOf st7) _ _ _) (lo+j))=false;rw[z0X hsz heq,z0X hsz heq];exact hs7 i j hij hj
     generalize setArr st7 (mirror (arrOf st7) (lo+m-(neq+1)) (lo+m) ((lo+m-(lo+m-(neq+1)))/2))=st6 at hB7' hs7'⊢
    rotate_left;focus
     rw[if_neg hneq];have hB7':=hB7;have hs7':=hs7;generalize st7=st6 at hB7' hs7'⊢
    all_goals
     have hsz3:lo+m<=(arrOf st6).size:=by rw[(hB7').size];lia
     refine y0n (wpS_reverse ?_);have hB3:SB kd p0 a₀ lo hi (setArr st6 (mirror (arrOf st6) lo (lo+m) ((lo+m-lo)/2))):=(hB7').arr (mirror_perm _ _ _ _) (fun k hk=>z2K hsz3 (by lia));have hs3:za1 kf lt (arrOf (setArr st6 (mirror (arrOf st6) lo (lo+m) ((lo+m-lo)/2)))) lo m:=by intro i j hij hj;show lt (KA kf (mirror (arrOf st6) lo (lo+m) ((lo+m-lo)/2)) (lo+j)) (KA kf (mirror (arrOf st6) lo (lo+m) ((lo+m-lo)/2)) (lo+i))=false;rw[z4s hsz3,z4s hsz3,if_pos (by lia),if_pos (by lia),show lo+(lo+m)-1-(lo+j)=lo+(m-1-j)by lia,show lo+(lo+m)-1-(lo+i)=lo+(m-1-i)by lia];exact hs7' _ _ (by lia) (by lia)
     generalize setArr st6 (mirror (arrOf st6) lo (lo+m) ((lo+m-lo)/2))=st8 at hB3 hs3⊢;refine y0n (y2l (y1m (I:=fun x c st'=>st'=st8/\c=(none,x)/\za1 kf lt (arrOf st8) lo x)
      (Q:=fun c st'=>st'=st8/\∃n,c=(none,n)/\m<=n/\n<=nrem/\za1 kf lt (arrOf st8) lo n/\(n=nrem\/lt (KA kf (arrOf st8) (lo+n)) (KA kf (arrOf st8) (lo+n-1))=true)) ?stepA2 ?finA2 ⟨rfl,rfl,hs3⟩) ?postA2)
     case finA2 =>
      rintro c st' ⟨e9,rfl,hs'⟩;rw[show max (m) nrem=nrem by lia]at hs'⊢;exact⟨e9,nrem,rfl,by lia,y0d _,hs',.inl rfl⟩
     case stepA2 =>
      rintro x c st' hax hxn ⟨e9,rfl,hs'⟩;rw[e9];dsimp only;refine y0n (z3u hA h0 hB3 (by lia) (by lia) ?_);cases hless:lt (KA kf (arrOf st8) (lo+x)) (KA kf (arrOf st8) (lo+x-1));case true =>
       simp only[y22];exact y0v ⟨rfl,x,rfl,hax,by lia,hs',.inr hless⟩
      case false =>
       simp only[y06,y0W];refine y0v ⟨rfl,rfl,fun i j hij hj=>?_⟩;by_cases hjx:j<x
       .exact hs' i j hij hjx
       .have hj':j=x:=by lia
        subst hj';by_cases hi':i=j
        .subst hi';exact T.refl _
        .have:=hs' i (j-1) (by lia) (by lia);rw[show lo+(j-1)=lo+j-1 by lia]at this;exact T.tr _ _ _ this hless
     case postA2 =>
      rintro c st' ⟨e9,n,rfl,hn1,hn2,hsn,hor⟩;rw[e9];dsimp only;exact y0v (h n st8 hB3 (by lia) hn2 hsn)
end
def ze2{M:Model}{A:Around}{E:yyE}{s:Shared}{σ:Type}{x st:σ}{Q:PUnit->σ->Prop}(h:Q ⟨⟩ x):wpS M A E s (set x:StateT σ Sem PUnit) Q st:=by unfold wpS;rw[StateT.run_set];exact y08 ⟨rfl,h⟩
theorem z55:∀(l:List Keyed)(j:Nat)(pre mid post:List Keyed)(arr:Array Keyed),mid.length=l.length->arr.toList=pre++mid++post->∀base,base+j=pre.length ->
  ((l.zipIdx j).foldl (fun a (q:Keyed × Nat)=>a.setIfInBounds (base+q.2) q.1) arr).toList=pre++l++post
 |[],j,pre,mid,post,arr,hm,e,base,hb=>by
  have:mid=[]:=y1i hm;subst this;simpa using e
 |x::l,j,pre,mid,post,arr,hm,e,base,hb=>by
  cases mid with
  |nil=>cases hm
  |cons y mid =>
   rw[List.zipIdx_cons,y1Y];have e2:(arr.setIfInBounds (base+j) x).toList=(pre++[x])++mid++post:=by rw[Array.toList_setIfInBounds,e,hb];simp[List.set_append]
   have:=z55 l (j+1) (pre++[x]) mid post _ (Nat.succ.inj hm) e2 base (by simp;lia);rw[this];simp
section
variable{prog:Program}{w:World}{A:Around}{E:yyE}{s:Shared}{α:Type}{kf:Keyed->α}{lt:α->α->Bool}{kd:SortKind}{S:List Keyed}
def z8G{x y:List Keyed}(hx:Sl kf lt x)(hy:Sl kf lt y)(h:∀a∈x,∀b∈y,lt (kf b) (kf a)=false):Sl kf lt (x++y):=y0M.mpr ⟨hx,hy,h⟩
def zbM(T:z4Q lt){l:List Keyed}(h:Sl kf lt l){i j:Nat}(hi:i<l.length)(hj:j<l.length)(hij:i<=j):lt (kf l[j]) (kf l[i])=false:=by
 rcases y10 i j with q|q
 .exact y18.mp h i j hi hj q
 .have:i=j:=by lia
  subst this;exact T.refl _
def z7W(T:z4Q lt)(hA:z8f prog w A E s kd S kf lt){st:SortSt}(hk:kindOf st=kd)(hfl:failedOf st=none){pre u v post:List Keyed}(hS:∀x∈(arrOf st).toList,x∈S)(harr:(arrOf st).toList=pre++u++v++post){i pw pw2:Nat}(hp1:(pendingOf st)[i]?=some (pre.length,u.length,pw))(hp2:(pendingOf st)[i+1]?=some (pre.length+u.length,v.length,pw2))(hu0:0<u.length)(hv0:0<v.length)(hu:Sl kf lt u)(hv:Sl kf lt v){Q:Bool->SortSt->Prop}(h:∀r st',Sl kf lt r->r.Perm (u++v)->kindOf st'=kd->failedOf st'=none->pendingOf st'=((pendingOf st).setIfInBounds i (pre.length,u.length+v.length,pw)).eraseIdxIfInBounds (i+1)->(arrOf st').toList=pre++r++post->Q true st') : wpS (model prog w) A E s (mergeAt' i) Q st:=by
 have hsz:(arrOf st).size=pre.length+u.length+v.length+post.length:=by rw[<-y0s,harr];simp;lia
 have hU:∀j (hj:j<u.length),(arrOf st)[pre.length+j]?=some u[j]:=fun j hj=>by rw[<-y0o,harr,y0q,y0q,y0Z (by lia),y2u,y16 hj,y00 hj]
 have hV:∀j (hj:j<v.length),(arrOf st)[pre.length+u.length+j]?=some v[j]:=fun j hj=>by rw[<-y0o,harr,y0q,y0Z (by simp)];rw[show pre.length+u.length+j-(pre++u).length=j by simp,y16 hj,y00 hj]
 have gU:∀j (hj:j<(arrOf st).size) (h1:pre.length<=j) (h2:j<pre.length+u.length),(arrOf st)[j]=u[j-pre.length]'(by lia):=fun j hj h1 h2=>by have:=hU (j-pre.length) (by lia);rw[show pre.length+(j-pre.length)=j by lia,y03 hj]at this;exact y0b this
 have gV:∀j (hj:j<(arrOf st).size) (h1:pre.length+u.length<=j) (h2:j<pre.length+u.length+v.length),(arrOf st)[j]=v[j-(pre.length+u.length)]'(by lia):=fun j hj h1 h2=>by have:=hV (j-(pre.length+u.length)) (by lia);rw[show pre.length+u.length+(j-(pre.length+u.length))=j by lia,y03 hj]at this;exact y0b this
 have hSi:∀j (hj:j<(arrOf st).size),(arrOf st)[j]∈S:=fun j hj=>hS _ (by simp);have hSu:∀x∈u,x∈S:=fun x hx=>hS x (by rw[harr];simp[hx]);have hSv:∀x∈v,x∈S:=fun x hx=>hS x (by rw[harr];simp[hx]);refine y0n (y3R ?_);rw[hp1,hp2];dsimp only;refine y0n (ze2 ?_);generalize hP:((pendingOf st).setIfInBounds i (pre.length,u.length+v.length,pw)).eraseIdxIfInBounds (i+1)=P at h⊢;have hk1:kindOf (setPending st P)=kd:=hk;have hv00:=hV 0 hv0;rw[y35]at hv00;refine y0n (z0t hv00 ?_);refine y0n (z3D T hA hk1 (hSv _ (y0l _)) (by lia) (fun j hj _ _=>hSi j hj) (fun a b ha hb u1 u2 u3=>by rw[gU a ha u1 (by lia),gU b hb (by lia) u3];exact zbM T hu _ _ (by lia)) hu0 fun k hk2 f1 f2=>?_);have f1':∀j (hj:j<u.length),j<k->lt (kf v[0]) (kf u[j])=false:=fun j hj hjk=>by have:=f1 (pre.length+j) (by lia) (by lia) (by lia);rw[gU (pre.length+j) (by lia) (by lia) (by lia)]at this;unfold bey at this;simpa using this
 have f2':∀j (hj:j<u.length),k<=j->lt (kf v[0]) (kf u[j])=true:=fun j hj hjk=>by have:=f2 (pre.length+j) (by lia) (by lia) (by lia);rw[gU (pre.length+j) (by lia) (by lia) (by lia)]at this;unfold bey at this;simpa using this
 have uv0:∀x∈u.take k,lt (kf v[0]) (kf x)=false:=fun x hx=>by
  obtain⟨j,hj,e⟩:=y0E.mp hx;rw[y1W]at e;have hj':j<k/\j<u.length:=by simp at hj;lia
  rw[<-e];exact f1' j hj'.2 hj'.1
 have v0v:∀y∈v,lt (kf y) (kf v[0])=false:=fun y hy=>by obtain⟨j,hj,e⟩:=y0E.mp hy;rw[<-e];exact zbM T hv hv0 hj (by lia)
 have utv:∀x∈u.take k,∀y∈v,lt (kf y) (kf x)=false:=fun x hx y hy=>T.tr _ _ _ (uv0 x hx) (v0v y hy);have stay:(arrOf (setPending st P)).toList=pre++(u++v)++post:=by show(arrOf st).toList=_;rw[harr];simp
 dsimp only;by_cases c1:u.length-k=0
 .rw[if_pos (by simpa using c1)];have hku:u.take k=u:=y0x (by lia);rw[hku]at utv;exact y0v (h (u++v) _ (z8G hu hv utv) .rfl hk hfl rfl stay)
 rw[if_neg (by simpa using c1)];have hlast:pre.length+k+(u.length-k)-1=pre.length+(u.length-1):=by lia
 rw[hlast];refine y0n (z0t (hU (u.length-1) (by lia)) ?_);refine y0n (z3D T hA hk1 (hSu _ (y0l _)) (by lia) (fun j hj _ _=>hSi j hj) (fun a b ha hb u1 u2 u3=>by rw[gV a ha u1 (by lia),gV b hb (by lia) u3];exact zbM T hv _ _ (by lia)) (by lia) fun m hm2 g1 g2=>?_);have g1':∀j (hj:j<v.length),j<m->lt (kf v[j]) (kf (u[u.length-1]'(by lia)))=true:=fun j hj hjk=>by have:=g1 (pre.length+u.length+j) (by lia) (by lia) (by lia);rw[gV (pre.length+u.length+j) (by lia) (by lia) (by lia)]at this;unfold bey at this;simpa using this
 have g2':∀j (hj:j<v.length),m<=j->lt (kf v[j]) (kf (u[u.length-1]'(by lia)))=false:=fun j hj hjk=>by have:=g2 (pre.length+u.length+j) (by lia) (by lia) (by lia);rw[gV (pre.length+u.length+j) (by lia) (by lia) (by lia)]at this;unfold bey at this;simpa using this
 have ul:∀x∈u,lt (kf (u[u.length-1]'(by lia))) (kf x)=false:=fun x hx=>by obtain⟨j,hj,e⟩:=y0E.mp hx;rw[<-e];exact zbM T hu hj (by lia) (by lia)
 have lv:∀y∈v.drop m,lt (kf y) (kf (u[u.length-1]'(by lia)))=false:=fun y hy=>by
  obtain⟨j,hj,e⟩:=y0E.mp hy;rw[y3l]at e;have hj':m+j<v.length:=by simp at hj;lia
  rw[<-e];exact g2' (m+j) hj' (by lia)
 have uvd:∀x∈u,∀y∈v.drop m,lt (kf y) (kf x)=false:=fun x hx y hy=>T.tr _ _ _ (ul x hx) (lv y hy);dsimp only;by_cases c2:m=0
 .rw[if_pos (by simpa using c2)];subst c2;rw[List.drop_zero]at uvd;exact y0v (h (u++v) _ (z8G hu hv uvd) .rfl hk hfl rfl stay)
 rw[if_neg (by simpa using c2)];have ex:((arrOf st).extract (pre.length+k) (pre.length+u.length)).toList=u.drop k:=by rw[y2Z,y2j,harr,y0q,y0q,List.drop_append,y1n (by lia),y1r,y2u,List.drop_append_of_le_length (by lia)];rw[show pre.length+u.length-(pre.length+k)=(u.drop k).length by simp;lia];exact List.take_left
 have ey:((arrOf st).extract (pre.length+u.length) (pre.length+u.length+m)).toList=v.take m:=by rw[y2Z,y2j,harr,y0q,List.drop_append,show(pre++u).length=pre.length+u.length by simp,y1n (by simp),y1r,y3N,List.drop_zero,y2u,y2y hm2]
 generalize hx:(arrOf st).extract (pre.length+k) (pre.length+u.length)=X at ex⊢;generalize hy:(arrOf st).extract (pre.length+u.length) (pre.length+u.length+m)=Y at ey⊢;have hXs:X.size=u.length-k:=by rw[<-y0s,ex];simp
 have hYs:Y.size=m:=by rw[<-y0s,ey];simp;lia
 have x0:X[0]'(by lia)=u[k]'(by lia):=by
  have:X.toList[0]?=some (u[k]'(by lia)):=by rw[ex,y2F,y35,y00 (by lia)]
  rw[y0o,y03 (by lia)]at this;exact y0b this
 have y0:Y[0]'(by lia)=v[0]:=by
  have:Y.toList[0]?=some v[0]:=by rw[ey,y21 (by lia),y00 hv0]
  rw[y0o,y03 (by lia)]at this;exact y0b this
 have hfirst:lt (kf (Y[0]'(by lia))) (kf (X[0]'(by lia)))=true:=by rw[x0,y0];exact f2' k (by lia) (y0d _)
 have hl:∀y∈Y.toList,∀z,X[X.size-1]?=some z->lt (kf z) (kf y)=false:=fun y hy z hz=>by
  have ez:z=u[u.length-1]'(by lia):=by rw[<-y0o,ex,y2F,show k+(X.size-1)=u.length-1 by lia,y00 (by lia)]at hz;exact(y0b hz).symm
  rw[ey]at hy;obtain⟨j,hj,e⟩:=y0E.mp hy;rw[y1W]at e;have hj':j<m/\j<v.length:=by simp at hj;lia
  rw[ez,<-e];exact T.asy _ _ (g1' j hj'.2 hj'.1)
 have fin:∀r st',StG (setPending st P) st'->Mgd kf lt X Y r->wpS (model prog w) A E s (do
   modify fun s=>setArr s (r.toList.zipIdx.foldl (fun a (q:Keyed × Nat)=>a.setIfInBounds (pre.length+k+q.2) q.1) (arrOf s))
   let __do_lift <-get
   pure (failedOf __do_lift).isNone) Q st':=fun r st' hG hr=>by
  obtain⟨g,rfl⟩:=hG;obtain⟨hr1,hr2⟩:=hr;rw[ex,ey]at hr2;refine y0n (y3P ?_);refine y0n (y3R (y0v ?_));have hfn:failedOf (setArr (SortSt.mk' (kindOf (setPending st P)) (arrOf (setPending st P)) (pendingOf (setPending st P)) g (failedOf (setPending st P))) (r.toList.zipIdx.foldl (fun a (q:Keyed × Nat)=>a.setIfInBounds (pre.length+k+q.2) q.1) (arrOf st)))=none:=hfl;have hw:=z55 r.toList 0 (pre++u.take k) (u.drop k++v.take m) (v.drop m++post) (arrOf st) (by rw[<-hr2.length_eq]) (by rw[harr];simp only[y0q];rw[<-y0q (u.take k) (u.drop k),y0O,<-y0q (v.take m) (v.drop m),y0O]) (pre.length+k) (by simp;lia)
  have memr:∀y∈r.toList,y∈u.drop k\/y∈v.take m:=fun y hy=>y0g.mp (hr2.mem_iff.mp hy);rw[show(failedOf (setArr (SortSt.mk' (kindOf (setPending st P)) (arrOf (setPending st P)) (pendingOf (setPending st P)) g (failedOf (setPending st P))) (r.toList.zipIdx.foldl (fun a (q:Keyed × Nat)=>a.setIfInBounds (pre.length+k+q.2) q.1) (arrOf st)))).isNone=true by rw[hfn];rfl];refine h (u.take k++(r.toList++v.drop m)) _ (z8G (hu.sublist (y1D _ _)) (z8G hr1 (hv.sublist (y2T _ _)) fun x hx y hy=>?_) fun x hx y hy=>?_) ?_ hk hfl rfl ?_
  .rcases memr x hx with z|z
   .exact uvd x (y24 z) y hy
   .have hvv:Sl kf lt (v.take m++v.drop m):=by rw[y0O];exact hv
    exact(y0M.mp hvv).2.2 x z y hy
  .rcases y0g.mp hy with z|z
   .rcases memr y z with z|z
    .have huu:Sl kf lt (u.take k++u.drop k):=by rw[y0O];exact hu
     exact(y0M.mp huu).2.2 x hx y z
    .exact utv x hx y (y0U z)
   .exact utv x hx y (y24 z)
  .have e1:(u++v).Perm (u.take k++((u.drop k++v.take m)++v.drop m)):=by
    simp only[y0q];rw[y0O,<-y0q (u.take k) (u.drop k),y0O]
   exact(y1I _ (y2a _ hr2)).trans e1.symm
  .show(r.toList.zipIdx.foldl (fun a (q:Keyed × Nat)=>a.setIfInBounds (pre.length+k+q.2) q.1) (arrOf st)).toList=_;rw[hw];simp
 split
 .exact y0n (z7M T hA hk1 (fun x hx=>hSu x (y24 (by rw[ex]at hx;exact hx))) (fun x hx=>hSv x (y0U (by rw[ey]at hx;exact hx))) (by rw[ex];exact hu.sublist (y2T _ _)) (by rw[ey];exact hv.sublist (y1D _ _)) (by lia) (by lia) hfirst hl fin)
 .exact y0n (z7Q T hA hk1 (fun x hx=>hSu x (y24 (by rw[ex]at hx;exact hx))) (fun x hx=>hSv x (y0U (by rw[ey]at hx;exact hx))) (by rw[ex];exact hu.sublist (y2T _ _)) (by rw[ey];exact hv.sublist (y1D _ _)) (by lia) (by lia) hfirst hl fin)
end
def z3T:Nat->List (List Keyed)->List (Nat × Nat)
 |_,[]=>[]
 |off,r::rs=>(off,r.length)::z3T (off+r.length) rs
theorem z3l:∀(R1 R2:List (List Keyed))(off:Nat),z3T off (R1++R2)=z3T off R1++z3T (off+R1.flatten.length) R2
 |[],R2,off=>by simp[z3T]
 |r::R1,R2,off=>by simp only[y2w,z3T,y1u,y09];rw[z3l R1 R2,y2P]
theorem z2w:∀(R:List (List Keyed))(off:Nat),(z3T off R).length=R.length
 |[],_=>rfl
 |r::R,off=>by simp only[z3T,y0H,z2w R]
theorem zd8{β:Type}:∀(P1 P2:List β)(a a' b:β),((P1++a::b::P2).set P1.length a').eraseIdx (P1.length+1)=P1++a'::P2
 |[],P2,a,a',b=>rfl
 |x::P1,P2,a,a',b=>by show x::((P1++a::b::P2).set P1.length a').eraseIdx (P1.length+1)=x::(P1++a'::P2);rw[zd8 P1 P2]
def mk2(t:Nat × Nat × Nat):Nat × Nat:=(t.1,t.2.1)
section
variable{α:Type}{kf:Keyed->α}{lt:α->α->Bool}{kd:SortKind}
structure RI(kf:Keyed->α)(lt:α->α->Bool)(kd:SortKind)(a0:List Keyed)(runs:List (List Keyed))(z1k:List Keyed)(st:SortSt):Prop where
 arr:(arrOf st).toList=runs.flatten++z1k
 perm:(arrOf st).toList.Perm a0
 kind:kindOf st=kd
 failed:failedOf st=none
 pend:(pendingOf st).toList.map mk2=z3T 0 runs
 srt:∀r∈runs,0<r.length/\Sl kf lt r
theorem RI.size{a0:List Keyed}{runs:List (List Keyed)}{z1k:List Keyed}{st:SortSt}(h:RI kf lt kd a0 runs z1k st):(arrOf st).size=a0.length:=by rw[<-y0s];exact h.perm.length_eq
def RI.len{a0:List Keyed}{runs:List (List Keyed)}{z1k:List Keyed}{st:SortSt}(h:RI kf lt kd a0 runs z1k st):runs.flatten.length+z1k.length=a0.length:=by rw[<-h.perm.length_eq,h.arr,y09]
def RI.psize{a0:List Keyed}{runs:List (List Keyed)}{z1k:List Keyed}{st:SortSt}(h:RI kf lt kd a0 runs z1k st):(pendingOf st).size=runs.length:=by have:=y1o List.length h.pend;rw[y01,z2w,y0s]at this;exact this
theorem z8C:∀(R:List (List Keyed)),(∀r∈R,0<r.length)->R.length<=R.flatten.length
 |[],_=>y0B _
 |r::R,h=>by have h1:=h r y0p;have h2:=z8C R fun q hq=>h q (y0e _ hq);simp only[y0H,y1u,y09];lia
theorem RI.push{a0:List Keyed}{runs:List (List Keyed)}{z1k r:List Keyed}{st:SortSt}(h:RI kf lt kd a0 runs (r++z1k) st)(hr:0<r.length)(hs:Sl kf lt r){pw:Nat}{lo n:Nat}(hlo:lo=runs.flatten.length)(hn:n=r.length) : RI kf lt kd a0 (runs++[r]) z1k (setPending st ((pendingOf st).push (lo,n,pw))):=by
 subst hlo hn;refine⟨?_,h.perm,h.kind,h.failed,?_,fun q hq=>?_⟩
 .show(arrOf st).toList=_;rw[h.arr];simp
 .show((pendingOf st).push _).toList.map mk2=_;rw[y0R,y0i,h.pend,z3l];simp[z3T,mk2]
 .rcases y0g.mp hq with z|z
  .exact h.srt q z
  .rw[y0c]at z;rw[z];exact⟨hr,hs⟩
def RI.power{a0:List Keyed}{runs:List (List Keyed)}{z1k:List Keyed}{st:SortSt}(h:RI kf lt kd a0 runs z1k st)(i pw:Nat) : RI kf lt kd a0 runs z1k (setPending st ((pendingOf st).modify i fun(st,len,_)=>(st,len,pw))):=by
 refine⟨h.arr,h.perm,h.kind,h.failed,?_,h.srt⟩;show((pendingOf st).modify i _).toList.map mk2=_;rw[<-h.pend];apply y1H;intro j;rw[y04,y04,y0o,y0o,Array.getElem?_modify];split
 .cases(pendingOf st)[j]? with
  |none=>rfl
  |some t=>rfl
 .rfl
end
section
variable{prog:Program}{w:World}{A:Around}{E:yyE}{s:Shared}{α:Type}{kf:Keyed->α}{lt:α->α->Bool}{kd:SortKind}{S:List Keyed}
def z4a(T:z4Q lt)(hA:z8f prog w A E s kd S kf lt){a0:List Keyed}(hS:∀x∈a0,x∈S){runs:List (List Keyed)}{z1k:List Keyed}{st:SortSt}(h:RI kf lt kd a0 runs z1k st){i:Nat}(hi:i+1<(pendingOf st).size){Q:Bool->SortSt->Prop}(hQ:∀runs' st',RI kf lt kd a0 runs' z1k st'->(pendingOf st').size+1=(pendingOf st).size->Q true st'):wpS (model prog w) A E s (mergeAt' i) Q st:=by
 have hrl:i+1<runs.length:=by rw[<-h.psize];exact hi
 obtain⟨R1,u,v,R2,e,hR1⟩:∃R1 u v R2,runs=R1++u::v::R2/\R1.length=i:=by refine⟨runs.take i,runs[i],runs[i+1],runs.drop (i+2),?_,by rw[y0w];lia⟩;rw[<-y17 hrl,<-y17 (by lia),y0O]
 have hp:=h.pend;rw[e,z3l]at hp;simp only[z3T,y1G]at hp;obtain⟨P1,P2',ep,e1,e2⟩:=List.map_eq_append_iff.mp hp;obtain⟨a,P3,ep2,e3,e4⟩:=List.map_eq_cons_iff.mp e2;obtain⟨b,P2,ep3,e5,e6⟩:=List.map_eq_cons_iff.mp e4;subst ep3 ep2;obtain⟨a1,a2,pa⟩:=a;obtain⟨b1,b2,pb⟩:=b;simp only[mk2,Prod.mk.injEq]at e3 e5;obtain⟨rfl,rfl⟩:=e3;obtain⟨rfl,rfl⟩:=e5;have hP1:P1.length=i:=by have:=y1o List.length e1;rw[y01,z2w]at this;rw[this,hR1]
 have g1:(pendingOf st)[i]?=some (R1.flatten.length,u.length,pa):=by rw[<-y0o,ep,y0Z (by lia),hP1,y3N];rfl
 have g2:(pendingOf st)[i+1]?=some (R1.flatten.length+u.length,v.length,pb):=by rw[<-y0o,ep,y0Z (by lia),hP1,y2u];rfl
 have hu:=h.srt u (by rw[e];simp);have hv:=h.srt v (by rw[e];simp);have harr:=h.arr;rw[e]at harr;refine z7W T hA h.kind h.failed (pre:=R1.flatten) (u:=u) (v:=v) (post:=R2.flatten++z1k) (fun x hx=>hS x (h.perm.mem_iff.mp hx)) (by rw[harr];simp) g1 g2 hu.1 hv.1 hu.2 hv.2 fun r st' hr1 hr2 k1 k2 k3 k4=>?_;have hel:(pendingOf st').toList=P1++(R1.flatten.length,u.length+v.length,pa)::P2:=by rw[k3,Array.toList_eraseIdxIfInBounds,Array.toList_setIfInBounds,ep,<-hP1];exact zd8 P1 P2 _ _ _
 refine hQ (R1++r::R2) st' ⟨?_,?_,k1,k2,?_,fun q hq=>?_⟩ ?_
 .rw[k4];simp
 .refine List.Perm.trans ?_ h.perm;rw[k4,harr];simp only[List.flatten_append,y1u,y0q];refine y1I _ ?_;rw[<-y0q u v];exact y2a _ hr2
 .rw[hel,y0i,y0k,e1,e6,z3l];simp only[z3T,mk2,y1G];rw[hr2.length_eq,y09,y2P]
 .rcases y0g.mp hq with z|z
  .exact h.srt q (by rw[e];exact y0m _ z)
  .rcases y0u.mp z with z|z
   .rw[z,hr2.length_eq,y09];exact⟨by lia,hr1⟩
   .exact h.srt q (by rw[e];simp[z])
 .rw[<-y0s,<-y0s,hel,ep];simp only[y09,y0H];lia
def RI.cut{a0:List Keyed}{runs:List (List Keyed)}{z1k:List Keyed}{st st':SortSt}(h:RI kf lt kd a0 runs z1k st){n:Nat}(hn:n<=z1k.length)(hB:SB kd (pendingOf st) (arrOf st) runs.flatten.length a0.length st')(hs:za1 kf lt (arrOf st') runs.flatten.length n) : ∃r rest',r.length=n/\Sl kf lt r/\r.length+rest'.length=z1k.length/\RI kf lt kd a0 runs (r++rest') st':=by
 have hsz:(arrOf st').size=a0.length:=by rw[hB.size];exact h.size
 have hl:=h.len;have ht:(arrOf st').toList.take runs.flatten.length=runs.flatten:=by
  apply y1H;intro j;rcases y10 j runs.flatten.length with q|q
  .rw[y21 q,y0o,hB.out j (.inl q),<-y0o,h.arr,y16 q]
  .rw[List.getElem?_take_eq_none q,y0A q]
 have hdl:((arrOf st').toList.drop runs.flatten.length).length=z1k.length:=by rw[y3x,y0s,hsz];lia
 refine⟨((arrOf st').toList.drop runs.flatten.length).take n,((arrOf st').toList.drop runs.flatten.length).drop n,by rw[y0w,hdl];lia,?_,by rw[<-y09,y0O,hdl],?_,?_,hB.kind,hB.failed,by rw[hB.pend];exact h.pend,h.srt⟩
 .refine y18.mpr fun i j hi hj hij=>?_;have hj':j<n:=by rw[y0w]at hj;lia
  have g:∀k (hk:k<(((arrOf st').toList.drop runs.flatten.length).take n).length),KA kf (arrOf st') (runs.flatten.length+k)=kf ((((arrOf st').toList.drop runs.flatten.length).take n)[k]):=fun k hk=>by
   have hk':k<n:=by rw[y0w]at hk;lia
   have hkl:runs.flatten.length+k<(arrOf st').toList.length:=by have:=y0s (xs:=arrOf st');lia
   unfold KA;rw[y1W,y3l,<-y0o,y00 hkl];rfl
  rw[<-g i hi,<-g j hj];exact hs i j (by lia) hj'
 .rw[y0O];conv=>lhs;rw[<-y0O runs.flatten.length (arrOf st').toList,ht]
 .exact(Array.perm_iff_toList_perm.mp hB.perm).trans h.perm
def z39(T:z4Q lt)(hA:z8f prog w A E s kd S kf lt){st:SortSt}{Q:Unit->SortSt->Prop}(hS:∀x∈(arrOf st).toList,x∈S)(hk:kindOf st=kd)(hf:failedOf st=none)(hp:pendingOf st=#[])(h:∀st',(arrOf st').toList.Perm (arrOf st).toList->failedOf st'=none->Sl kf lt (arrOf st').toList->Q () st'):wpS (model prog w) A E s sortRuns' Q st:=by
 generalize ha0:(arrOf st).toList=a0 at h hS;have hsz0:(arrOf st).size=a0.length:=by rw[<-ha0,y0s]
 have hR:RI kf lt kd a0 [] a0 st:=⟨ha0,by rw[ha0],hk,hf,by rw[hp];rfl,fun r hr=>nomatch hr⟩;rw[sortRuns'_eq];refine y0n (y3R ?_);dsimp only;simp only[hsz0];generalize hmr:minRun' a0.length a0.length 0=mr;refine y0n (y2l (y1m
  (I:=fun x c st'=>∃runs z1k lo,c=(none,lo)/\RI kf lt kd a0 runs z1k st'/\lo=runs.flatten.length/\(x<=lo\/lo=a0.length))
  (Q:=fun c st'=>∃runs lo,c=(none,lo)/\RI kf lt kd a0 runs [] st') ?step ?fin ⟨[],a0,0,rfl,hR,rfl,.inl (y0d _)⟩) ?post)
 case fin =>
  rintro c st' ⟨runs,z1k,lo,rfl,hR,hlo,hx⟩;have:=hR.len;have:z1k=[]:=y1i (by lia);subst this;exact⟨runs,lo,rfl,hR⟩
 case step =>
  rintro x c st' _ hx ⟨runs,z1k,lo,rfl,hR,hlo,hx⟩;have hlen:=hR.len;dsimp only;by_cases hge:lo ≥ a0.length
  .rw[if_pos hge];have:z1k=[]:=y1i (by lia);subst this;exact y0v ⟨runs,lo,rfl,hR⟩
  rw[if_neg hge];subst hlo;have hSx:∀x∈(arrOf st').toList,x∈S:=fun x hx=>hS x (hR.perm.mem_iff.mp hx);have hsz:=hR.size;refine y0n (z6f T hA hSx (lo:=runs.flatten.length) (hi:=a0.length) (p0:=pendingOf st') (a₀:=arrOf st') (by lia) (by lia) (by lia) ⟨.rfl,hR.kind,hR.failed,rfl,fun _ _=>rfl⟩ fun m st2 hB2 hm1 hm2 hs2=>?_);dsimp only;by_cases hlt:m<mr;focus
   rw[if_pos hlt];refine y0n (wpS_lift (y2R ⟨rfl,?_⟩));refine y0n (z4b T hA hSx (by lia) (by lia) (by lia) hB2 hs2 fun st3 hB3 hs3=>?_);simp only[y1O,y06,y0W];obtain⟨r,rest',r1,r2,r3,hR3⟩:=hR.cut (by lia) hB3 hs3
  rotate_left;focus
   rw[if_neg hlt];obtain⟨st3,rfl⟩:∃s,s=st2:=⟨_,rfl⟩;obtain⟨r,rest',r1,r2,r3,hR3⟩:=hR.cut (by lia) hB2 hs2
  all_goals
   refine y0n (y3R ?_);cases hbk:(pendingOf st3).back? with
   |none =>
    dsimp only;refine y0n (y3P (y0v ⟨runs++[r],rest',_,rfl,hR3.push (by lia) r2 rfl (by lia),by rw[List.flatten_append,y09];simp only[y1u,List.flatten_nil,y1L];lia,?_⟩));lia
   |some t =>
    obtain⟨s1,n1,p1⟩:=t;dsimp only;generalize power' _ _ _ _=pw;refine y0n (y2l (y1m (I:=fun x c st''=>c=(none,())/\∃runs',RI kf lt kd a0 runs' (r++rest') st'') (Q:=fun c st''=>c=(none,())/\∃runs',RI kf lt kd a0 runs' (r++rest') st'') ?stA (fun _ _ hh=>hh) ⟨rfl,runs,hR3⟩) ?poA);case stA =>
     rintro x c st4 _ hx ⟨rfl,runs',hR4⟩;refine y0n (y3R ?_);by_cases h1:(pendingOf st4).size>1
     .rw[if_pos h1];rw[y03 (by lia)];generalize(pendingOf st4)[(pendingOf st4).size-2]'(by lia)=t;obtain⟨t1,t2,older⟩:=t;dsimp only;by_cases h2:older<=pw
      .rw[if_pos h2];exact y0v ⟨rfl,runs',hR4⟩
      rw[if_neg h2];refine y0n (z4a T hA hS hR4 (by lia) fun runs5 st5 hR5 hsz=>?_);simp only[y1O,y06,y0W];exact y0v ⟨rfl,runs5,hR5⟩
     .rw[if_neg h1];exact y0v ⟨rfl,runs',hR4⟩
    case poA =>
     rintro c st4 ⟨rfl,runs',hR4⟩;dsimp only;have hl4:=hR4.len;rw[y09]at hl4;refine y0n (y3P ?_);refine y0n (y3P (y0v ⟨runs'++[r],rest',_,rfl,(hR4.power _ pw).push (by lia) r2 (by lia) (by lia),by rw[List.flatten_append,y09];simp only[y1u,List.flatten_nil,y1L];lia,?_⟩));lia
 case post =>
  rintro c st' ⟨runs,lo,rfl,hR⟩;dsimp only;refine y0n (y2l (y1m (I:=fun x c st''=>c=(none,())/\(∃runs,RI kf lt kd a0 runs [] st'')/\(pendingOf st'').size<=max 1 (a0.length-x)) (Q:=fun c st''=>c=(none,())/\(∃runs,RI kf lt kd a0 runs [] st'')/\(pendingOf st'').size<=1) ?_ ?_ ⟨rfl,⟨runs,hR⟩,?_⟩) ?_)
  .rintro x c st'' _ hx ⟨rfl,⟨runs,hR⟩,hm⟩;refine y0n (y3R ?_);by_cases h1:(pendingOf st'').size<=1
   .rw[if_pos h1];exact y0v ⟨rfl,⟨runs,hR⟩,h1⟩
   rw[if_neg h1];refine y0n (z4a T hA hS hR (by(repeat' split)<;>lia) fun runs' st3 hR' hsz=>?_);simp only[y1O,y06,y0W];exact y0v ⟨rfl,⟨runs',hR'⟩,by lia⟩
  .rintro c st'' ⟨rfl,hh,hm⟩;exact⟨rfl,hh,by lia⟩
  .have h1:=z8C runs fun r hr=>(hR.srt r hr).1;have h2:=hR.len;rw[hR.psize];simp only[y3a]at h2;lia
  .rintro c st'' ⟨rfl,⟨runs,hR⟩,hm⟩;dsimp only;refine y0v (h _ hR.perm hR.failed ?_);rw[hR.psize]at hm;rw[hR.arr,y1L];match runs,hm,hR.srt with
   |[],_,_=>exact y2N
   |[r],_,hs =>
    rw[show[r].flatten=r by simp];exact(hs r (y0c.mpr rfl)).2
end
open PySem.Spec
section
variable{X:Cx}{e st:Expr}{te ts:TE}{pos p2:Pos}
end
end L2
namespace Gu
open PySem L2
def lit(n:Int):Nat->Int->List Int
 |0,_=>[]
 |k+1,x=>x%n::lit n k (x/n)
def fits(n:Nat)(one:List Row)(m:Nat):Prop:=∀i,i<=m->(pw n one i).length<=60
def zfG{α:Type}{us:List α}(h:us.length=1):∃a,us=[a]:=by
 cases us with
 |nil=>cases h
 |cons a r =>
  cases r with
  |nil=>exact⟨a,rfl⟩
  |cons _ _=>simp at h
def zgh{α:Type}{us:List α}(h:us.length=2):∃a b,us=[a,b]:=by
 cases us with
 |nil=>cases h
 |cons a r =>
  obtain⟨b,rfl⟩:=zfG (show r.length=1 by simpa using h);exact⟨a,b,rfl⟩
def zhg{α:Type}{us:List α}(h:us.length=3):∃a b c,us=[a,b,c]:=by
 cases us with
 |nil=>cases h
 |cons a r =>
  obtain⟨b,c,rfl⟩:=zgh (show r.length=2 by simpa using h);exact⟨a,b,c,rfl⟩
section
variable(P:Program)(w:World)(K:yyF)(mg:yyS)(base:Heap)(CX:CXT)(k:Nat)
def zaB(Cm:V->Addr->Hp->List Row->Prop):Sp:=fun vs H Q _=>∃(f:Addr)(v0:V)(n:Nat)(rows:List Row),vs=[v0,.ref f]/\Cm v0 f H rows/\z0l n rows/\n<=60/\∀(r:Addr)(H':Hp),z0d H H'->z3P K H' r (z0L rows)->Q (.ref r) H'
def z8P(Cm:V->Addr->Hp->List Row->Prop)(Ct:Addr):Sp:=fun vs H Q E=>∃(f:Addr)(v0:V)(n:Nat)(rows:List Row),vs=[v0,.ref f]/\Cm v0 f H rows/\z0l n rows/\n<=60 /\
 ((shr rows).length<=60->z6w K H Q (D.tup (z0j (shr rows))))/\(60<(shr rows).length->TMx Ct E H)
def CmF:V->Addr->Hp->List Row->Prop:=fun v0 f H rows=>∃nm:Int->Int,v0=.int (nm 0)/\(∀x y,nm x=nm y->x=y)/\z33 P w K mg base CX k H f (zci K rows nm)
end
section
variable{P:Program}{w:World}{K:yyF}{mg:yyS}{base:Heap}{CX:CXT}{k:Nat}{Ct:Addr}
def zeZ(vs:List V)(H:Hp)(Q:VK)(E:XK)(h:zaB K (CmF P w K mg base CX k) vs H Q E):z7J P w K mg base CX k vs H Q E:=by obtain⟨f,v0,n,rows,rfl,⟨nm,rfl,ni,hV⟩,G,hn,q⟩:=h;exact⟨f,n,rows,nm,rfl,ni,hV,G,hn,q⟩
def zdt(vs:List V)(H:Hp)(Q:VK)(E:XK)(h:z60 P w K mg base CX k Ct vs H Q E):z8P K (CmF P w K mg base CX k) Ct vs H Q E:=by obtain⟨f,n,rows,nm,rfl,ni,hV,G,hn,q⟩:=h;exact⟨f,_,n,rows,rfl,⟨nm,rfl,ni,hV⟩,G,hn,q⟩
end
end Gu
namespace L2
open PySem PySem.Spec PyProof.Rows
section
variable{prog:Program}{w:World}{A:Around}{R:Result->Shared->Prop}{s:Shared}
end
section
variable{X:Cx}{pins:yyP}{σ:St}{H:Hp}{s:Shared}{N:List Str}{ix:List (Option Nat)}{scope:Scope}{elt iter tg cx:Expr}{pos:Pos}{g:TG}{tt:TT}{te:TE}{E:yyE}
end
section
variable{X:Cx}{pins:yyP}{σ:St}{H:Hp}{s:Shared}{N:List Str}{ix:List (Option Nat)}{scope:Scope}{elt iter tg cx:Expr}{pos:Pos}{te:TE}{E:yyE}
end
section
variable{X:Cx}{CX:CXT}{k:Nat}{f C:Addr}{fd:FuncData}{ps:List Str}{sp:Sp}{dvs:List V}{ds:List Value}{E:XK}{x m:Str}{p pos apos:Pos}{e o:Expr}{es:List Expr}{ta:TE}{t:TA}{σ0:St}
end
open PySem.SeqAt
open PySem.AutoSeq1 (wpAny_loadPart')
section
variable{X:Cx}(K:yyF)
end
def Ris(xs:Array Nat):Prop:=xs.toList.Pairwise (· < ·)
def Ris.lt{xs:Array Nat}(h:Ris xs){i k v u:Nat}(hik:i<k)(hi:xs[i]?=some v)(hk:xs[k]?=some u):v<u:=by obtain⟨hk',e'⟩:=y1g.mp hk;obtain⟨hi',e⟩:=y1g.mp hi;have:=y18.mp h i k (by simpa using hi') (by simpa using hk') hik;simpa[e,e']using this
def Cut(xs:Array Nat)(j p:Nat):Prop:=p<=xs.size/\(∀i,i<p->∀v,xs[i]?=some v->v<j)/\∀i,p<=i->∀v,xs[i]?=some v->j<=v
theorem z6d{xs:Array Nat}{j:Nat}(hr:Ris xs):∀(fuel lo hi:Nat),hi-lo<=fuel->lo<=hi->hi<=xs.size ->
  (∀i,i<lo->∀v,xs[i]?=some v->v<j)->(∀i,hi<=i->∀v,xs[i]?=some v->j<=v)->Cut xs j (SetTable.below.go xs j fuel lo hi)
 |0,lo,hi,hf,hl,hh,h1,h2=>by
  have e:lo=hi:=by lia
  subst e;exact⟨hh,h1,h2⟩
 |fuel+1,lo,hi,hf,hl,hh,h1,h2=>by
  unfold SetTable.below.go;by_cases hlt:lo<hi
  .rw[if_pos hlt];have hm:(lo+hi)/2<xs.size:=by lia
   have e:xs[(lo+hi)/2]?=some xs[(lo+hi)/2]:=y03 hm;have e2:xs.getD ((lo+hi)/2) j=xs[(lo+hi)/2]:=by simp[Array.getD,hm]
   simp only[e2];by_cases c:xs[(lo+hi)/2]<j
   .rw[if_pos c];refine z6d hr fuel _ _ (by lia) (by lia) hh (fun i hi' v hv=>?_) h2;rcases y10 i ((lo+hi)/2)with q|q
    .exact Nat.lt_trans (hr.lt q hv e) c
    .have:i=(lo+hi)/2:=by lia
     subst this;rw[e]at hv;cases hv;exact c
   .rw[if_neg c];refine z6d hr fuel _ _ (by lia) (by lia) (by lia) h1 (fun i hi' v hv=>?_);rcases y10 ((lo+hi)/2) i with q|q
    .have:=hr.lt q e hv;lia
    .have:i=(lo+hi)/2:=by lia
     subst this;rw[e]at hv;cases hv;lia
  .rw[if_neg hlt];have e:lo=hi:=by lia
   subst e;exact⟨hh,h1,h2⟩
def z3e{xs:Array Nat}(hr:Ris xs)(j:Nat):Cut xs j (SetTable.below xs j) :=
 z6d hr _ _ _ (by lia) (by lia) (y0d _) (fun i h=>by lia) (fun i h v hv=>by rw[y1y h]at hv;cases hv)
def zej{xs:Array Nat}{j p q:Nat}(a:Cut xs j p)(b:Cut xs j q):p=q:=by
 rcases Nat.lt_trichotomy p q with h|h|h
 .have e:=y03 (xs:=xs) (i:=p) (by have:=b.1;lia);have h1:=b.2.1 p h _ e;have h2:=a.2.2 p (y0d _) _ e;lia
 .exact h
 .have e:=y03 (xs:=xs) (i:=q) (by have:=a.1;lia);have h1:=a.2.1 q h _ e;have h2:=b.2.2 q (y0d _) _ e;lia
def z9q{xs:Array Nat}(hr:Ris xs){j:Nat}(hn:xs[SetTable.below xs j]?≠some j):Ris (SetTable.insertAt xs (SetTable.below xs j) j):=by
 obtain⟨h0,h1,h2⟩:=z3e hr j;generalize SetTable.below xs j=p at *;unfold Ris;rw[SetTable.toList_insertAt];have hr':xs.toList.Pairwise (· < ·):=hr;have gt:∀v∈xs.toList.drop p,j<v:=fun v hv=>by
  obtain⟨i,hi,e⟩:=y0E.mp hv;rw[y3l]at e;have hi':p+i<xs.size:=by simp at hi;lia
  have e1:xs[p+i]?=some v:=by rw[y03 hi',<-e];simp
  have h3:=h2 (p+i) (by lia) v e1;rcases y10 j v with q|q
  .exact q
  .have hv':v=j:=by lia
   subst hv';rcases y3c i with z|z
   .subst z;exact absurd e1 hn
   .have e2:=y03 (xs:=xs) (i:=p) (by lia);have:=hr.lt (by lia:p<p+i) e2 e1;have:=h2 p (y0d _) _ e2;lia
 have lt:∀v∈xs.toList.take p,v<j:=fun v hv=>by
  obtain⟨i,hi,e⟩:=y0E.mp hv;rw[y1W]at e;have hi':i<p/\i<xs.size:=by simp at hi;lia
  exact h1 i hi'.1 v (by rw[y03 hi'.2,<-e];simp)
 refine y0M.mpr ⟨hr'.sublist (y1D _ _),List.pairwise_cons.mpr ⟨gt,hr'.sublist (y2T _ _)⟩,fun a ha b hb=>?_⟩;have:=lt a ha;rcases y0u.mp hb with rfl|hb
 .exact this
 .have:=gt b hb;lia
def za0(t:SetTable)(d:Nat):Prop:=t.place[SetTable.below t.place d]?≠some d
def z6v{t:SetTable}{j:Nat}(h:t.slot j=.empty\/t.slot j=.dummy):za0 t j:=by
 intro e;have:t.slot j=.live (SetTable.below t.place j):=by unfold SetTable.slot;simp[e]
 rw[this]at h;rcases h with h|h<;>cases h
def z8Y{t t':SetTable}{hs:Array Int}{wanted:Nat}{o:Array Nat}(e:t.relaid hs wanted=some (t',o)):Ris t'.place/\t'.led=t.led:=by
 unfold SetTable.relaid SetTable.laid at e;generalize SetTable.sizeAbove wanted-1=m at e;cases hl:SetTable.layClean m hs with
 |none=>rw[hl]at e;cases e
 |some owner =>
  rw[hl]at e;simp only[Option.bind_eq_bind,Option.bind_some,Option.pure_def,Option.some.injEq,Prod.mk.injEq]at e;obtain⟨rfl,_⟩:=e;refine⟨?_,rfl⟩;unfold Ris;dsimp only;rw[y1E];refine List.Pairwise.filterMap (R:=(· < ·)) _ (fun a b hab p hp q hq=>?_) List.pairwise_lt_range;cases ha:owner.getD a none with
  |none=>rw[ha]at hp;cases hp
  |some u =>
   cases hb:owner.getD b none with
   |none=>rw[hb]at hq;cases hq
   |some v =>
    rw[ha]at hp;rw[hb]at hq;cases hp;cases hq;exact hab
theorem z27{α:Type}:∀{l:List α}{i:Nat}{x:α},l[i]?=some x->(x::l.eraseIdx i).Perm l
 |[],_,_,h=>by simp at h
 |y::l,0,x,h=>by simp at h;subst h;exact .rfl
 |y::l,i+1,x,h=>by simp only[List.getElem?_cons_succ]at h;simp only[List.eraseIdx_cons_succ];exact(List.Perm.swap y x _).trans ((z27 h).cons y)
theorem zac{α:Type}(next:Nat->Nat):∀(fuel k:Nat)(left:List α)(out:Array α),left.length=fuel->(pickOrder.go next fuel k left out).toList.Perm (out.toList++left)
 |0,k,left,out,h=>by
  have:left=[]:=y1i h;subst this;simp[pickOrder.go]
 |fuel+1,k,left,out,h=>by have hlt:next k%left.length<left.length:=y3H _ (by lia);have e:left[next k%left.length]?=some left[next k%left.length]:=y00 hlt;unfold pickOrder.go;rw[e];dsimp only;refine(zac next fuel _ _ _ (by rw[List.length_eraseIdx,if_pos hlt];lia)).trans ?_;rw[y0R,y0q];exact y1I _ (z27 e)
def zaK{α:Type}(next:Nat->Nat)(xs:Array α):(pickOrder next xs).toList.Perm xs.toList:=by have:=zac next xs.size 0 xs.toList #[] (by simp);simpa[pickOrder]using this
section
variable{M:Model}{A:Around}{E:yyE}
def z9G{s:Shared}{src:Source}{n:Nat}{Q:Nat->Shared->Prop}(hn:n≠0)(h:∀i d,i<n->Q i { s with drawn:=d }):wpAny M A (choose src n) Q E s :=
 fun _ _ _=>⟨hn,h _ _ (y3H _ (Nat.pos_of_ne_zero hn))⟩
theorem z3M{α:Type}:∀(n:Nat)(xs:List α)(s:Shared){Q:List α->Shared->Prop},xs.length=n->(∀ys d,ys.Perm xs->Q ys { s with drawn:=d })->wpAny M A (drawOrder n xs) Q E s
 |0,xs,s,Q,h,q=>by
  have:xs=[]:=y1i h;subst this;unfold drawOrder;exact y08 (q [] s.drawn .rfl)
 |n+1,[],s,Q,h,q=>by cases h
 |n+1,x::xs,s,Q,h,q=>by unfold drawOrder;refine y02 (z9G (by simp) fun i d hi=>?_);have e:(x::xs)[i]?=some (x::xs)[i]:=y00 hi;rw[e];dsimp only;refine y02 (z3M n _ _ (by rw[List.length_eraseIdx,if_pos hi,h];rfl) fun ys d' hp=>?_);exact y08 (q _ d' ((hp.cons _).trans (z27 e)))
end
def zdF(w:World):Bool:=!w.params.followText "set-order"
structure Sit(prog:Program)(w:World)(es:Array (Int × Value))(t:SetTable)(ks:List Int):Prop where
 elems:ElemsOf (intKind prog w) es.toList
 keysI:IntsAre (es.toList.map (·.2)) ks
 fits:t.fits es.size=true
 led:t.led=zdF w
 ris:Ris t.place
def zh2(prog:Program)(w:World)(h:Heap)(a:Addr)(ks:List Int):Prop :=
 ∃o es ep t,h.get? a=some o/\o.ExactSet/\o.data=.set es ep t/\Sit prog w es t ks
section
variable{prog:Program}{w:World}{A:Around}{E:yyE}{s:Shared}
end
section
variable{prog:Program}{w:World}{A:Around}{R:Result->Shared->Prop}{I:Addr}{fp wr:List Addr}{G:Array GenState->Array GenState->Prop}{n:Nat}{P:Nat->Value->Prop}{St:Nat->Shared->Prop}
end
section
variable{prog:Program}{w:World}{A:Around}{E:yyE}{s:Shared}
def zaX(a:Value){Q₁:yyE}(h:Q₁ (.ref s.heap.objs.size) { s with heap:=s.heap.push { cls:=.type "set",dict:=none,data:=.set #[] 0 (.fresh 0 0 (zdF w)) } }) : codeAny (model prog w) A (.call (.builtin "set.__new__") ⟨[.type "set",a],[]⟩) (wants Q₁ E) s:=by
 refine codeAny_of_tree ?_;show wpAny _ A.in1 (do checkBuiltinCall "set.__new__" ⟨[.type "set",a],[]⟩;again (.builtin "set.__new__" ⟨[.type "set",a],[]⟩)) _ _ s
 refine y02 (wpAny_of_eq (F.newCall_set_1 a) (y08 ⟨y2O F.plain_set_new _,y1M F.entry_set_new ?_⟩));rw[y1l F.plain_set_new _];unfold Builtin.«set.__new__» Builtin.Frozenset.newClass;have hsub:=sub_set_self;obtain⟨hp,g,d,tk,os⟩:=s;dsimp only
 wp_walk
 refine wpAny_askSetting (y08 ?_);dsimp only;simp only[newObj];refine y02 (wpAny_alloc (y08 ?_));exact y08 h
end
namespace SF
def slot_next:Slot "set_iterator" "__next__" "set_iterator.__next__" :=
 .of (owner:="set_iterator") (n:="__next__") (by rw[typeLookup_type,builtinLookup_eq_fast];kernel_rfl) (by decide +kernel) (by decide +kernel) (by decide +kernel)
  (by first|exact .inl (by decide +kernel)|exact .inr (by decide +kernel)) (by rw[isSubtype_type];kernel_rfl)
def slot_iter:Slot "set_iterator" "__iter__" "set_iterator.__iter__" :=
 .of (owner:="set_iterator") (n:="__iter__") (by rw[typeLookup_type,builtinLookup_eq_fast];kernel_rfl) (by decide +kernel) (by decide +kernel) (by decide +kernel)
  (by first|exact .inl (by decide +kernel)|exact .inr (by decide +kernel)) (by rw[isSubtype_type];kernel_rfl)
def entry_next:entryFor table "set_iterator.__next__"=some Builtin.«set_iterator.__next__»:=entryFor_of_tree (by kernel_rfl)
def entry_iter:entryFor table "set_iterator.__iter__"=some Builtin.«dict_keyiterator.__iter__» :=
 entryFor_alias (id':="dict_keyiterator.__iter__") (by kernel_rfl) rfl (by decide +kernel) (by kernel_rfl)
def entry_set_iter:entryFor table "set.__iter__"=some Builtin.«frozenset.__iter__» :=
 entryFor_alias (id':="frozenset.__iter__") (by kernel_rfl) rfl (by decide +kernel) (by kernel_rfl)
def z87:Manifest.owners.lookup (String.ofList ['r','o','t','a','r','e','t','i','_','t','e','s'].reverse)=some Manifest.sig_set_iterator:=by kernel_rfl
def args_next(a:Value):argsOk "set_iterator.__next__" ⟨[a],[]⟩:=by unfold argsOk;rw[signature?_of (id:="set_iterator.__next__") (n:=['_','_','t','x','e','n','_','_']) (o:=['r','o','t','a','r','e','t','i','_','t','e','s']) (by kernel_rfl) z87];kernel_rfl
def args_iter(a:Value):argsOk "set_iterator.__iter__" ⟨[a],[]⟩:=by unfold argsOk;rw[signature?_of (id:="set_iterator.__iter__") (n:=['_','_','r','e','t','i','_','_']) (o:=['r','o','t','a','r','e','t','i','_','t','e','s']) (by kernel_rfl) z87];kernel_rfl
end SF
def z2U(h:Heap)(it a:Addr)(first:Value)(i n ep:Nat):Prop:=∃o,h.get? it=some o/\o.cls=.type "set_iterator"/\o.data=.fields #[first,.int i 0,.ref a,.int n 0,.int ep 0]
def z2U.typeIs{s:Shared}{it a:Addr}{f:Value}{i n ep:Nat}(x:z2U s.heap it a f i n ep):s.TypeIs (.ref it) "set_iterator":=let⟨o,ho,hc,_⟩:=x;⟨o,ho,hc⟩
def z2U.at{h h':Heap}{it a:Addr}{f:Value}{i n ep:Nat}(x:z2U h it a f i n ep)(e:∀o,h.get? it=some o->h'.get? it=some o):z2U h' it a f i n ep:=let⟨o,ho,r⟩:=x;⟨o,e _ ho,r⟩
def z2Y(h:Heap)(a:Addr)(es:Array (Int × Value))(ep:Nat)(t:SetTable):Prop:=∃o,h.get? a=some o/\o.ExactSet/\o.data=.set es ep t
def z2Y.at{h h':Heap}{a:Addr}{es:Array (Int × Value)}{ep:Nat}{t:SetTable}(x:z2Y h a es ep t)(e:∀o,h.get? a=some o->h'.get? a=some o):z2Y h' a es ep t:=let⟨o,ho,r⟩:=x;⟨o,e _ ho,r⟩
section
variable{prog:Program}{w:World}{A:Around}{E:yyE}{s:Shared}{it a:Addr}{es:Array (Int × Value)}{ep:Nat}{t:SetTable}{i:Nat}
def z2u{f:Value}{n:Nat}{Q:yyE}(hit:z2U s.heap it a f i n ep)(h:Q (.ref it) s):wpAny (model prog w) A (pyIter (.ref it)) Q E s:=by refine wpAny_pyIter_slot hit.typeIs SF.slot_iter (y1s SF.slot_iter hit.typeIs SF.entry_iter ?_ (SF.args_iter _));show wpAny _ _ (ret (.ref it)) _ _ s;exact y08 ⟨_,rfl,"set_iterator",_,hit.typeIs,SF.slot_next.lookup,h⟩
def z8a{sl nx:Nat}{x:Value}{Q:Option Value->Shared->Prop}(hit:z2U s.heap it a (.int sl 0) i es.size ep)(hm:z2Y s.heap a es ep t)(hf:t.fits es.size=true)(hn:∀{A':Around}{E':yyE}{Q':Option (Value × Nat)->Shared->Prop},Q' (some (x,nx)) s->wpAny (model prog w) A' (setNext a sl i ep) Q' E' s)(hQ:∀h',z2U h' it a (.int nx 0) (i+1) es.size ep->Heap.SameBut it s.heap h'->Q (some x) { s with heap:=h' }):wpAny (model prog w) A (pyNext (.ref it)) Q E s:=by
 obtain⟨o,ho,hc,hd⟩:=id hit;obtain⟨os,hos,hex,hds⟩:=id hm;unfold pyNext;refine y02 (y2U (y1P (name:=Str.ofString "__next__") hit.typeIs SF.slot_next
  (y1s SF.slot_next hit.typeIs SF.entry_next ?_ (SF.args_next _))))
 unfold Builtin.«set_iterator.__next__»;refine y02 (y08 ?_);refine y02 (y3s ho hd ?_);dsimp only;refine y02 (y2v hos hds hf ?_);rw[if_neg (by simp)];simp only[y1b];refine y02 (hn ?_);dsimp only;refine y02 (y2k ho hd (by simp) ?_);have h1:(s.heap.update it (Obj.mapFields (·.setIfInBounds 0 (rawInt (nx:Nat))))).get? it=some (Obj.mapFields (·.setIfInBounds 0 (rawInt (nx:Nat))) o):=y1f _ ho (y2g (y1q hd _));have d1:=y1q hd (·.setIfInBounds 0 (rawInt (nx:Nat)));refine y02 (y2k h1 d1 (by simp) ?_);have h2:=y1f (Obj.mapFields (·.setIfInBounds 1 (rawInt ((i:Int)+1)))) h1 (y2g (y1q d1 _));refine y08 ⟨_,rfl,y08 (hQ _ ⟨_,h2,((y3m ..).trans (y3m ..)).trans hc,?_⟩ ((y0Q ..).trans (y0Q ..)))⟩;rw[y1q d1];simp[rawInt]
def zad{sl:Nat}{Q:Option Value->Shared->Prop}(hh:A.handled=none)(hit:z2U s.heap it a (.int sl 0) i es.size ep)(hm:z2Y s.heap a es ep t)(hf:t.fits es.size=true)(hn:∀{A':Around}{E':yyE}{Q':Option (Value × Nat)->Shared->Prop},Q' none s->wpAny (model prog w) A' (setNext a sl i ep) Q' E' s)(hQ:∀h',Heap.ExtBut it s.heap h'->Q none { s with heap:=h' }):wpAny (model prog w) A (pyNext (.ref it)) Q E s:=by
 obtain⟨o,ho,hc,hd⟩:=id hit;obtain⟨os,hos,hex,hds⟩:=id hm;unfold pyNext;refine y02 (y2U (y1P (name:=Str.ofString "__next__") hit.typeIs SF.slot_next
  (y1s SF.slot_next hit.typeIs SF.entry_next ?_ (SF.args_next _))))
 unfold Builtin.«set_iterator.__next__»;refine y02 (y08 ?_);refine y02 (y3s ho hd ?_);dsimp only;refine y02 (y2v hos hds hf ?_);rw[if_neg (by simp)];simp only[y1b];refine y02 (hn ?_);dsimp only;refine y02 (y2k ho hd (by simp) ?_);show wpAny _ _ (newExc (.type "StopIteration") []>>=_) _ _ _;refine y02 ?_;simp only[newExc,newTuple];refine y02 (y11 ?_ (by size_fits));refine y02 (m:=firstArgMember _ _) (wpAny_of_eq (a:=Value.none) (by first|rfl|(simp only[firstArgMember];rfl)) ?_);refine y11 ?_ (by size_fits);simp only[raiseNew];refine y02 (wpAny_handled ?_);rw[show A.in1.handled=none from hh];refine y02 (y08 (wpAny_throw ?_));refine y02 (y30 (T:="StopIteration") (b:=true) ⟨_,y0h _ rfl,rfl⟩ isSubtype_stop ?_);exact y08 (hQ _ (((y0Q ..).extBut.push _).push _))
end
end L2
namespace L2
open PySem PySem.Spec PyProof.Rows
section
variable{prog:Program}{w:World}{A:Around}{E:yyE}{s:Shared}{it a:Addr}{es:Array (Int × Value)}{ep:Nat}{t:SetTable}{i:Nat}
def z37{Q:Bool->Shared->Prop}(h:Q (w.params.followText "set-order") s):wpAny (model prog w) A setsByText Q E s:=by unfold setsByText;exact y02 (wpAny_askSetting (y08 h))
def z3I{sl:Nat}{Q:Option (Value × Nat)->Shared->Prop}(hm:z2Y s.heap a es ep t)(hf:t.fits es.size=true)(hb:w.params.followText "set-order"=true)(h:Q (((pickOrder (w.params.setOrder a ep) es)[i]?).map fun e=>(e.2,sl)) s):wpAny (model prog w) A (setNext a sl i ep) Q E s:=by obtain⟨o,ho,hex,hd⟩:=hm;unfold setNext;refine y02 (y1v ho hd hf ?_);dsimp only;refine y02 (z37 ?_);rw[hb,if_pos rfl];rw[if_neg (by simp)];refine y02 ?_;unfold setWalk;refine y02 (y1v ho hd hf ?_);dsimp only;refine y02 (z37 ?_);rw[hb,if_pos rfl];refine y02 (wpAny_askSetting (y08 ?_));exact y08 h
def z30{sl:Nat}{Q:Option (Value × Nat)->Shared->Prop}(hm:z2Y s.heap a es ep t)(hf:t.fits es.size=true)(hb:w.params.followText "set-order"=false)(hl:t.led=true)(hr:Ris t.place)(hd:¬(t.plain=false/\1<es.size))(hc:Cut t.place sl i)(h:Q (match es[i]?,t.place[i]? with|some (_,x),some j=>some (x,j+1)|_,_=>none) s):wpAny (model prog w) A (setNext a sl i ep) Q E s:=by
 obtain⟨o,ho,hex,hdt⟩:=hm;unfold setNext;refine y02 (y1v ho hdt hf ?_);dsimp only;refine y02 (z37 ?_);rw[hb,if_neg (by simp)];refine y2q (fun z=>?_) fun _=>?_
 .have z':(!t.plain&&decide (es.size>1))=true:=z;simp at z';exact absurd z' hd
 refine y02 ?_;show wpAny _ _ (if(!t.led&&!es.isEmpty)=true then unsupported "set:maker-not-led" else pure ()) _ _ _;rw[hl,if_neg (by simp)];refine y08 ?_;rw[show SetTable.below t.place sl=i from zej (z3e hr sl) hc];exact y08 h
end
section
variable{prog:Program}{w:World}{A:Around}{es:Array (Int × Value)}{ep:Nat}{t:SetTable}
def zbd(hh:A.handled=none)(I a:Addr)(hne:a≠I)(hf:t.fits es.size=true)(hb:w.params.followText "set-order"=true)(hz:(pickOrder (w.params.setOrder a ep) es).size=es.size) : Walks prog w A I [I,a] [I] es.size (fun i v=>((pickOrder (w.params.setOrder a ep) es).toList.map (·.2))[i]?=some v) (fun i h=>z2U h I a (.int (0:Nat) 0) i es.size ep/\z2Y h a es ep t) where
 sub:=fun b hb=>by simp at hb;simp[hb]
 frame:=fun _ _ _ st hk=>⟨st.1.at fun o e=>hk I (by simp) o e,st.2.at fun o e=>hk a (by simp) o e⟩
 item:=fun i s Q E hi st hQ=>by have hx:(pickOrder (w.params.setOrder a ep) es)[i]?=some (pickOrder (w.params.setOrder a ep) es)[i]:=y03 (by lia);refine z8a (nx:=0) (x:=(pickOrder (w.params.setOrder a ep) es)[i].2) st.1 st.2 hf (fun h=>z3I st.2 hf hb (by rw[hx];exact h)) fun h' hit' hs'=>?_;exact hQ _ h' s.toks (by rw[y04,y0o,hx];rfl) ⟨hit',st.2.at fun o e=>by rw[hs'.2 a hne];exact e⟩ (fun b o hb e=>by rw[hs'.2 b (fun h=>hb (by simp[h]))];exact e)
 done:=fun s Q E st hQ=>zad hh st.1 st.2 hf (fun h=>z3I st.2 hf hb (by rw[y1y (by lia)];exact h)) fun h' he'=>hQ h' s.toks fun b o hb e=>he' b o (fun h=>hb (by simp[h])) e
 self:=fun _ _ _ _ st hQ=>z2u st.1 hQ
def z9i(hh:A.handled=none)(I a:Addr)(hne:a≠I)(hf:t.fits es.size=true)(hb:w.params.followText "set-order"=false)(hl:t.led=true)(hr:Ris t.place)(hd:¬(t.plain=false/\1<es.size)) : Walks prog w A I [I,a] [I] es.size (fun i v=>(es.toList.map (·.2))[i]?=some v) (fun i h=>∃sl:Nat,z2U h I a (.int sl 0) i es.size ep/\z2Y h a es ep t/\Cut t.place sl i) where
 sub:=fun b hb=>by simp at hb;simp[hb]
 frame:=fun _ _ _ ⟨sl,st⟩ hk=>⟨sl,st.1.at fun o e=>hk I (by simp) o e,st.2.1.at fun o e=>hk a (by simp) o e,st.2.2⟩
 item:=fun i s Q E hi st hQ=>by
  obtain⟨sl,hit,hm,hc⟩:=st;have hx:es[i]?=some es[i]:=y03 (by lia);have hps:t.place.size=es.size:=by simp[SetTable.fits]at hf;exact hf.1
  have hp:t.place[i]?=some t.place[i]:=y03 (by lia);refine z8a (nx:=t.place[i]+1) (x:=es[i].2) hit hm hf (fun h=>z30 hm hf hb hl hr hd hc (by rw[hx,hp];exact h)) fun h' hit' hs'=>?_;refine hQ _ h' s.toks (by rw[y04,y0o,hx];rfl) ⟨_,hit',hm.at fun o e=>by rw[hs'.2 a hne];exact e,?_⟩ (fun b o hb e=>by rw[hs'.2 b (fun h=>hb (by simp[h]))];exact e);refine⟨by lia,fun k hk v hv=>?_,fun k hk v hv=>?_⟩
  .rcases y10 k i with q|q
   .have:=hr.lt q hv hp;lia
   .have:k=i:=by lia
    subst this;rw[hp]at hv;cases hv;lia
  .have:=hr.lt (by lia:i<k) hp hv;lia
 done:=fun s Q E st hQ=>by obtain⟨sl,hit,hm,hc⟩:=st;exact zad hh hit hm hf (fun h=>z30 hm hf hb hl hr hd hc (by rw[y1y (y0d _)];exact h)) fun h' he'=>hQ h' s.toks fun b o hb e=>he' b o (fun h=>hb (by simp[h])) e
 self:=fun _ _ _ _ ⟨_,st⟩ hQ=>z2u st.1 hQ
end
section
variable{prog:Program}{w:World}{A:Around}{E:yyE}{s:Shared}{it a:Addr}{es:Array (Int × Value)}{ep:Nat}{t:SetTable}{i:Nat}
def z9h{T:Addr}{ps:List Nat}{ot:Obj}{nt pl:Nat}{x:Int × Value}{Q:Option Value->Shared->Prop}(hit:z2U s.heap it a (.ref T) i es.size ep)(hm:z2Y s.heap a es ep t)(hf:t.fits es.size=true)(hT:s.heap.get? T=some ot)(hTd:ot.data=.seq (ps.map fun(k:Nat)=>rawInt k).toArray nt)(hp:ps[i]?=some pl)(hx:es[pl]?=some x)(hQ:∀h',z2U h' it a (.ref T) (i+1) es.size ep->Heap.SameBut it s.heap h'->Q (some x.2) { s with heap:=h' }):wpAny (model prog w) A (pyNext (.ref it)) Q E s:=by
 obtain⟨o,ho,hc,hd⟩:=id hit;obtain⟨os,hos,hex,hds⟩:=id hm;unfold pyNext;refine y02 (y2U (y1P (name:=Str.ofString "__next__") hit.typeIs SF.slot_next
  (y1s SF.slot_next hit.typeIs SF.entry_next ?_ (SF.args_next _))))
 unfold Builtin.«set_iterator.__next__»;refine y02 (y08 ?_);refine y02 (y3s ho hd ?_);dsimp only;refine y02 (y2v hos hds hf ?_);rw[if_neg (by simp)];refine y02 (y3q hT hTd ?_);have e1:(ps.map fun(k:Nat)=>rawInt k).toArray[(i:Int).toNat]?=some (.int pl 0):=by simp[hp,rawInt]
 dsimp only;rw[e1];dsimp only;refine y02 ?_;unfold setNextDrawn;refine y02 (y1v hos hds hf ?_);dsimp only;rw[if_neg (by simp)];simp only[y1b,hx];refine y08 ?_;refine y02 (y2k ho hd (by simp) ?_);have h1:=y1f (Obj.mapFields (·.setIfInBounds 1 (rawInt ((i:Int)+1)))) ho (y2g (y1q hd _));refine y08 ⟨_,rfl,y08 (hQ _ ⟨_,h1,(y3m ..).trans hc,?_⟩ (y0Q ..))⟩;rw[y1q hd];simp[rawInt]
def zaP{T:Addr}{ps:List Nat}{ot:Obj}{nt:Nat}{Q:Option Value->Shared->Prop}(hh:A.handled=none)(hit:z2U s.heap it a (.ref T) i es.size ep)(hm:z2Y s.heap a es ep t)(hf:t.fits es.size=true)(hT:s.heap.get? T=some ot)(hTd:ot.data=.seq (ps.map fun(k:Nat)=>rawInt k).toArray nt)(hp:ps.length<=i)(hQ:∀h',Heap.ExtBut it s.heap h'->Q none { s with heap:=h' }):wpAny (model prog w) A (pyNext (.ref it)) Q E s:=by
 obtain⟨o,ho,hc,hd⟩:=id hit;obtain⟨os,hos,hex,hds⟩:=id hm;unfold pyNext;refine y02 (y2U (y1P (name:=Str.ofString "__next__") hit.typeIs SF.slot_next
  (y1s SF.slot_next hit.typeIs SF.entry_next ?_ (SF.args_next _))))
 unfold Builtin.«set_iterator.__next__»;refine y02 (y08 ?_);refine y02 (y3s ho hd ?_);dsimp only;refine y02 (y2v hos hds hf ?_);rw[if_neg (by simp)];refine y02 (y3q hT hTd ?_);have e1:(ps.map fun(k:Nat)=>rawInt k).toArray[(i:Int).toNat]?=none:=by simp[hp]
 dsimp only;rw[e1];dsimp only;refine y02 (y2k ho hd (by simp) ?_);have h1:=y1f (Obj.mapFields (·.setIfInBounds 0 (rawInt 0))) ho (y2g (y1q hd _));have d1:=y1q hd (·.setIfInBounds 0 (rawInt 0));refine y02 (y2k h1 d1 (by simp) ?_);show wpAny _ _ (newExc (.type "StopIteration") []>>=_) _ _ _;refine y02 ?_;simp only[newExc,newTuple];refine y02 (y11 ?_ (by size_fits));refine y02 (m:=firstArgMember _ _) (wpAny_of_eq (a:=Value.none) (by first|rfl|(simp only[firstArgMember];rfl)) ?_);refine y11 ?_ (by size_fits);simp only[raiseNew];refine y02 (wpAny_handled ?_);rw[show A.in1.handled=none from hh];refine y02 (y08 (wpAny_throw ?_));refine y02 (y30 (T:="StopIteration") (b:=true) ⟨_,y0h _ rfl,rfl⟩ isSubtype_stop ?_);exact y08 (hQ _ ((((y0Q ..).trans (y0Q ..)).extBut.push _).push _))
def z9j(hh:A.handled=none)(I a T:Addr)(hne:a≠I)(hTI:T≠I)(hf:t.fits es.size=true)(ps:List Nat)(hps:ps.Perm (List.range es.size)) : Walks prog w A I [I,a,T] [I] es.size (fun i v=>((ps.filterMap fun k=>es[k]?).map (·.2))[i]?=some v) (fun i h=>z2U h I a (.ref T) i es.size ep/\z2Y h a es ep t/\∃ot nt,h.get? T=some ot/\ot.data=.seq (ps.map fun(k:Nat)=>rawInt k).toArray nt) where
 sub:=fun b hb=>by simp at hb;simp[hb]
 frame:=fun _ _ _ st hk=>⟨st.1.at fun o e=>hk I (by simp) o e,st.2.1.at fun o e=>hk a (by simp) o e,let⟨ot,nt,h1,h2⟩:=st.2.2;⟨ot,nt,hk T (by simp) _ h1,h2⟩⟩
 item:=fun i s Q E hi st hQ=>by
  obtain⟨hit,hm,ot,nt,hT,hTd⟩:=st;have hl:ps.length=es.size:=by rw[hps.length_eq,y1K]
  have hp:ps[i]?=some ps[i]:=y00 (by lia);have hlt:ps[i]<es.size:=y14.mp (hps.mem_iff.mp (y0l _));have hx:es[ps[i]]?=some es[ps[i]]:=y03 hlt;refine z9h hit hm hf hT hTd hp hx fun h' hit' hs'=>?_;refine hQ _ h' s.toks ?_ ⟨hit',hm.at fun o e=>by rw[hs'.2 a hne];exact e,ot,nt,by rw[hs'.2 T hTI];exact hT,hTd⟩ (fun b o hb e=>by rw[hs'.2 b (fun h=>hb (by simp[h]))];exact e);have all:∀(l:List Nat),(∀k∈l,k<es.size)->∀j:Nat,(l.filterMap fun k=>es[k]?)[j]?=l[j]?.bind fun k=>es[k]?:=by
   intro l;induction l with
   |nil=>intro _ j;simp
   |cons y l ih =>
    intro hy j;have hy':y<es.size:=hy y (y0p ..);have ey:es[y]?=some es[y]:=y03 hy';rw[List.filterMap_cons_some ey];cases j with
    |zero=>simp[ey]
    |succ j=>simp only[List.getElem?_cons_succ];exact ih (fun k hk=>hy k (y0e _ hk)) j
  rw[y04,all ps (fun k hk=>y14.mp (hps.mem_iff.mp hk)),hp];simp only[Option.bind_some,hx];rfl
 done:=fun s Q E st hQ=>by
  obtain⟨hit,hm,ot,nt,hT,hTd⟩:=st;have hl:ps.length=es.size:=by rw[hps.length_eq,y1K]
  exact zaP hh hit hm hf hT hTd (by lia) fun h' he'=>hQ h' s.toks fun b o hb e=>he' b o (fun h=>hb (by simp[h])) e
 self:=fun _ _ _ _ st hQ=>z2u st.1 hQ
end
section
variable{prog:Program}{w:World}{A:Around}{E:yyE}{s:Shared}{a:Nat}{es:Array (Int × Value)}{ep:Nat}{t:SetTable}
structure Sat(w:World)(es:Array (Int × Value))(t:SetTable):Prop where
 fits:t.fits es.size=true
 led:t.led=zdF w
 ris:Ris t.place
def z8T{Q:yyE}(hs:Sat w es t)(hm:z2Y s.heap a es ep t)(hz:es.size<scanBound)(hQ:∀(I:Nat)(h':Heap)(d:Drawn)(fp:List Addr)(vs:List Value)(St:Nat->Heap->Prop), (∀A':Around,A'.handled=none->Walks prog w A' I fp [I] es.size (fun i v=>vs[i]?=some v) St)->St 0 h'->vs.Perm (es.toList.map (·.2))->vs.length=es.size->I∈fp -> (∀b:Nat,b∈fp->b<h'.objs.size/\(b=a\/s.heap.objs.size<=b))->s.heap.objs.size<=I->(∀b o,s.heap.get? b=some o->h'.get? b=some o)->Q (.ref I) { s with heap:=h',drawn:=d }) : wpAny (model prog w) A (pyIter (.ref a)) Q E s:=by
 obtain⟨o,ho,hex,hd⟩:=id hm;have hT:s.TypeIs (.ref a) "set":=⟨o,ho,hex.1⟩;have hlt:@LT.lt Nat _ a s.heap.objs.size:=y0j ho;refine wpAny_pyIter_slot hT F.slot_set_iter (y1s F.slot_set_iter hT SF.entry_set_iter ?_ (F.args_set_iter_1 _));unfold Builtin.«frozenset.__iter__» Builtin.Frozenset.slot0 slotArgs;simp only[List.isEmpty_nil,y1O,y06,↓reduceIte,bind_assoc,y3a,y3n];unfold Builtin.Frozenset.addrOf Builtin.Frozenset.sizeOf;refine y02 (y08 ?_);try dsimp only
 refine y02 (y08 ?_);simp only[bind_assoc];refine y02 (y2v ho hd hs.fits ?_);refine y02 (y08 ?_);unfold setDrawn;simp only[bind_assoc];refine y02 (y1v ho hd hs.fits ?_);dsimp only;refine y02 (z37 ?_);refine y02 (y08 ?_);have fin:∀(first:Value)(h1:Heap)(d:Drawn)(fp:List Addr)(vs:List Value)(St:Nat->Heap->Prop),z2Y h1 a es ep t->(∀b o,s.heap.get? b=some o->h1.get? b=some o)->s.heap.objs.size<=h1.objs.size ->
   (∀A':Around,A'.handled=none->Walks prog w A' h1.objs.size fp [h1.objs.size] es.size (fun i v=>vs[i]?=some v) St) ->
   St 0 (h1.push { cls:=.type "set_iterator",data:=.fields #[first,.int (0:Nat) 0,.ref a,.int es.size 0,.int ep 0] })->vs.Perm (es.toList.map (·.2))->vs.length=es.size->h1.objs.size∈fp->(∀b:Nat,b∈fp->b<=h1.objs.size/\(b=a\/s.heap.objs.size<=b)) ->
   wpAny (model prog w) A.in1 (do
    let __do_lift <-setEpoch a;let __do_lift <-newFields "set_iterator" [first,rawInt 0,.ref a,rawInt es.size,rawInt __do_lift]
    ret __do_lift) (fun fin s'=>∃v,fin=Fin.done (Flow.ret v)/\∃T' r,s'.TypeIs v T'/\typeLookup (.type T') "__next__"=pure (some r)/\Q v s') E { s with heap:=h1,drawn:=d }:=fun first h1 d fp vs St hm1 hk1 hsz W st hp hl hI hfp=>by
  obtain⟨o1,ho1,hex1,hd1⟩:=id hm1;refine y02 (wpAny_setEpoch_of ho1 hd1 hs.fits ?_);refine y02 (y11 ?_);refine y08 ⟨_,rfl,"set_iterator",_,⟨_,y0h _ rfl,rfl⟩,SF.slot_next.lookup,?_⟩;refine hQ h1.objs.size _ d fp vs St W st hp hl hI (fun b hb=>⟨by rw[y2h];exact Nat.lt_succ_of_le (hfp b hb).1,(hfp b hb).2⟩) hsz fun b o e=>y05 _ (hk1 b o e)
 by_cases hb:w.params.followText "set-order"=true
 .rw[hb];simp only[y1O,Bool.false_and,y06,y0W];refine y02 (y08 ?_);have hpk:=zaK (w.params.setOrder a ep) es;have hpz:(pickOrder (w.params.setOrder a ep) es).size=es.size:=by rw[<-y0s,hpk.length_eq,y0s]
  exact fin _ s.heap s.drawn [s.heap.objs.size,a] _ _ hm (fun _ _ e=>e) (y0d _) (fun A' hh=>zbd hh _ a (y0y hlt) hs.fits hb hpz) ⟨⟨_,y0h _ rfl,rfl,rfl⟩,hm.at fun o e=>y05 _ e⟩ (hpk.map _) (by simp[hpz]) (by simp) (fun b hb=>by
   rcases y0u.mp hb with rfl|hb
   .exact⟨y0d _,.inr (y0d _)⟩
   .rw[y0c.mp hb];exact⟨y1k hlt,.inl rfl⟩)
 .have hb':w.params.followText "set-order"=false:=by simpa using hb
  rw[hb'];simp only[y3r,Bool.true_and];have hled:t.led=true:=by rw[hs.led];unfold zdF;rw[hb'];rfl
  refine y2q (fun z=>?_) fun z=>?_
  .have z':(!t.plain&&decide (es.size>1))=true:=z;refine y02 (z3M es.size (List.range es.size) s y1K fun ps d hps=>?_);refine y02 ?_;unfold newTuple;have hl:ps.length=es.size:=by rw[hps.length_eq,y1K]
   refine y11 ?_ (by have:=fits_of_scanBound hz;show(ps.map fun(i:Nat)=>rawInt i).toArray.size<=_;simp[hl];lia);have hTT:(s.heap.push { cls:=.type "tuple",data:=.seq (ps.map fun(i:Nat)=>rawInt i).toArray }).get? s.heap.objs.size=some { cls:=.type "tuple",data:=.seq (ps.map fun(i:Nat)=>rawInt i).toArray }:=y0h _ rfl;have hp2:(ps.filterMap fun k=>es[k]?).Perm es.toList:=(hps.filterMap _).trans (by rw[filterMap_getElem?_range]);have hsz1:(s.heap.push { cls:=.type "tuple",data:=.seq (ps.map fun(i:Nat)=>rawInt i).toArray }).objs.size=s.heap.objs.size+1:=y2h _ _;have lt1:@LT.lt Nat _ a (s.heap.push { cls:=.type "tuple",data:=.seq (ps.map fun(i:Nat)=>rawInt i).toArray }).objs.size:=by rw[hsz1];lia
   have lt2:@LT.lt Nat _ s.heap.objs.size (s.heap.push { cls:=.type "tuple",data:=.seq (ps.map fun(i:Nat)=>rawInt i).toArray }).objs.size:=by rw[hsz1];lia
   have hm1:=hm.at (h':=s.heap.push { cls:=.type "tuple",data:=.seq (ps.map fun(i:Nat)=>rawInt i).toArray }) fun o e=>y05 _ e;refine fin _ _ d [_,a,s.heap.objs.size] _ _ hm1 (fun _ _ e=>y05 _ e) (y1k lt2) (fun A' hh=>z9j hh _ a s.heap.objs.size (y0y lt1) (y0y lt2) hs.fits ps hps)
    ⟨⟨_,y0h _ rfl,rfl,rfl⟩,hm1.at fun o e=>y05 _ e,_,_,y05 _ hTT,rfl⟩ (hp2.map _) (by rw[y01,hp2.length_eq,y0s]) (by simp) (fun b hb=>?_)
   rcases y0u.mp hb with rfl|hb
   .exact⟨y0d _,.inr (y1k lt2)⟩
   rcases y0u.mp hb with rfl|hb
   .exact⟨y1k lt1,.inl rfl⟩
   .rw[y0c.mp hb];exact⟨y1k lt2,.inr (y0d _)⟩
  .have z':¬(!t.plain&&decide (es.size>1))=true:=z;refine y02 (y08 ?_);refine fin _ s.heap s.drawn [s.heap.objs.size,a] _ _ hm (fun _ _ e=>e) (y0d _) (fun A' hh=>z9i hh _ a (y0y hlt) hs.fits hb' hled hs.ris (fun⟨q1,q2⟩=>z' (by simp[q1,q2])))
    ⟨0,⟨_,y0h _ rfl,rfl,rfl⟩,hm.at fun o e=>y05 _ e,⟨y0B _,fun k hk=>by lia,fun k _ v _=>y0B _⟩⟩ .rfl (by simp) (by simp) (fun b hb=>?_)
   rcases y0u.mp hb with rfl|hb
   .exact⟨y0d _,.inr (y0d _)⟩
   .rw[y0c.mp hb];exact⟨y1k hlt,.inl rfl⟩
def zcs{Q:Bool->Shared->Prop}(hT:s.TypeIs (.ref a) "set")(h:Q false s):wpAny (model prog w) A (Builtin.List.listLengthHint (.ref a)) Q E s:=by
 unfold Builtin.List.listLengthHint;refine y02 (y2L hT PySem.F.slot_set_len.lookup ?_);generalize hid:("set.__len__":String)=id0
 wp_delta
 rw[show splitId id0=some ("set","__len__")from by subst hid;decide +kernel];subst hid;refine y02 (y30 (T:="set") (b:=true) hT (by rw[isSubtype_type];kernel_rfl) ?_);refine y2q (fun hab=>absurd hab (by decide)) (fun _=>?_);refine y2q (fun _=>?_) (fun hab=>absurd (by decide +kernel) hab);refine y02 (wpAny_typeOf hT ?_);exact y08 h
def z6m{o:Obj}{Q:List Value->Shared->Prop}(hh:A.handled=none)(ho:s.heap.get? a=some o)(hex:o.ExactSet)(hd:o.data=.set es ep t)(hs:Sat w es t)(hz:es.size<scanBound)(hQ:∀h' d tk vs,(∀b o,s.heap.get? b=some o->h'.get? b=some o)->s.heap.objs.size<=h'.objs.size->vs.Perm (es.toList.map (·.2))->Q vs { s with heap:=h',drawn:=d,toks:=tk }) : wpAny (model prog w) A (collect (.ref a)) Q E s:=by
 have hlt:@LT.lt Nat _ a s.heap.objs.size:=y0j ho;unfold collect;refine y02 (wpAny_runValue (y1M y3u ?_));rw[y1l y3v _];show wpAny _ A.in1 (newList []>>=fun l=>again (.builtin "list.__iadd__" ⟨[l,.ref a],[]⟩)) _ _ s;refine y02 (y11 ?_);refine y08 ⟨y2O y2n _,y1M F.entry_list_iadd ?_⟩;rw[y1l y2n _];have hS₁:(s.heap.push { cls:=.type "list",data:=.seq ([]:List Value).toArray }).get? s.heap.objs.size=some { cls:=.type "list",data:=.seq ([]:List Value).toArray }:=y0h _ rfl;have h1:Builtin.List.listSameRef (.ref s.heap.objs.size) (.ref a)=false:=by simp[Builtin.List.listSameRef];exact y33 hlt
 have hsz1:(s.heap.push { cls:=.type "list",data:=.seq ([]:List Value).toArray }).objs.size=s.heap.objs.size+1:=y2h _ _;have hm1:z2Y (s.heap.push { cls:=.type "list",data:=.seq ([]:List Value).toArray }) a es ep t:=⟨o,y05 _ ho,hex,hd⟩;have hT1:Shared.TypeIs { s with heap:=s.heap.push { cls:=.type "list",data:=.seq ([]:List Value).toArray } } (.ref a) "set":=⟨o,y05 _ ho,hex.1⟩;show wpAny _ A.in1 (Builtin.List.listExtendWith (.ref s.heap.objs.size) (.ref a) (.ref s.heap.objs.size)) _ _ _;unfold Builtin.List.listExtendWith;refine y02 (wpAny_typeOf hT1 ?_);rw[if_neg (by rw[h1];decide)];refine y02 (z8T hs hm1 (by lia) fun I h' d fp vs St W st hp hl hI hfp hge hk=>?_);have hT2:Shared.TypeIs { s with heap:=h',drawn:=d } (.ref a) "set":=⟨o,hk _ _ (y05 _ ho),hex.1⟩;refine y02 (y1t (zcs hT2 ?_));have hS₂:=hk _ _ hS₁;have hge0:s.heap.objs.size+1<=I:=by rw[<-hsz1];exact hge
 have hSf:s.heap.objs.size∉fp:=fun hm=>(hfp _ hm).2.elim (fun q=>absurd q (y33 hlt)) (fun q=>absurd (show(s.heap.push { cls:=.type "list",data:=.seq ([]:List Value).toArray }).objs.size<=s.heap.objs.size from q) (by rw[hsz1];lia));have hSI:s.heap.objs.size≠I:=by lia
 have W':=(W A.in1 hh).toS;have loop:∀(h2:Heap) (c2:Nat),St 0 h2->h2.get? s.heap.objs.size=some { cls:=.type "list",data:=.seq ([]:List Value).toArray c2 }->(∀b o,b≠s.heap.objs.size->h'.get? b=some o->h2.get? b=some o) ->
   codeAny (model prog w) A (.builtin "list.extend.loop" ⟨[.ref s.heap.objs.size,.ref I,.ref s.heap.objs.size],[]⟩) (wants (fun v s'=>wpAny (model prog w) A (match v with
    |Value.ref a=>do
     match (<-load a).data with
      |Data.seq xs _=>pure xs.toList
      |_=>unsupported "internal:collect"
    |_=>unsupported "internal:collect") Q E s') E) { s with heap:=h2,drawn:=d }:=fun h2 c2 st2 hS2 hk2=>by
  refine codeAny_extend_loopS W' (by have:=fits_of_scanBound hz;lia) _ hSf _ es.size 0 _ _ c2 rfl (y0B _) st2 hS2 (ItemsOf.nil _) fun s' acc' c' hm hS' hacc=>?_;show wpAny _ A (load s.heap.objs.size>>=_) _ _ s';refine y02 (wpAny_load hS' (y08 ?_));obtain⟨h'',g',d',tk',os'⟩:=s';have eg:g'=s.gens:=hm.gens;have ed:d'=d:=hm.drawn;have eo:os'=s.os:=hm.os;subst eg;subst ed;subst eo;have evs:acc'.toList=vs:=by
   refine y1H fun j=>?_;rcases y10 j acc'.size with q|q
   .have e1:acc'[j]?=some acc'[j]:=y03 q;rw[y0o,e1,hacc.2 j _ e1]
   .rw[y0o,y1y q,y0A (by rw[hl,<-hacc.1];exact q)]
  rw[evs];refine hQ h'' d' tk' vs (fun b o e=>?_) (y1k (y0j hS')) hp;have hb:@LT.lt Nat _ b s.heap.objs.size:=y0j e;have hge':s.heap.objs.size+1<=I:=by rw[<-hsz1];exact hge
  exact hm.heap b o (by simp only[y0u,y3B,or_false,not_or];exact⟨y0y hb,y0y (y0t hb (Nat.le_of_succ_le hge0))⟩) (hk2 b o (y0y hb) (hk b o (y05 _ e)))
 refine y2q (fun _=>?_) (fun _=>y08 ⟨y2O F.plain_extend_loop _,loop h' _ st hS₂ fun _ _ _ e=>e⟩);refine y02 (y2R ?_);refine y02 ?_;show wpAny _ _ (updateSeq s.heap.objs.size (·.push .none)>>=fun _=>updateSeq s.heap.objs.size (·.pop)) _ _ _;refine y02 (wpAny_updateSeq hS₂ rfl ?_);have hS₃:=y1f (Obj.mapSeq (·.push Value.none)) hS₂ rfl;refine wpAny_updateSeq hS₃ rfl ?_;have hS₄:=y1f (Obj.mapSeq (·.pop)) hS₃ rfl;have oth:∀b o,b≠s.heap.objs.size->h'.get? b=some o->((h'.update s.heap.objs.size (Obj.mapSeq (·.push Value.none))).update s.heap.objs.size (Obj.mapSeq (·.pop))).get? b=some o :=
  fun b o hb e=>(y2B _ _ (y2Y hb)).trans ((y2B _ _ (y2Y hb)).trans e)
 exact y08 ⟨y2O F.plain_extend_loop _,loop _ _ ((W A.in1 hh).frame 0 _ _ st fun b hb o e=>oth b o (fun h=>hSf (h▸hb)) e) hS₄ oth⟩
end
open PySem.SeqAt
open PySem.AutoSeq1 (wpAny_loadPart')
def zho(P:Program)(w:World)(a:Addr)(ks:List Int):HO:=.ext fun h=>zh2 P w h a ks
def Inv.drew{X:Cx}{pins:yyP}{σ:St}{H:Hp}{s:Shared}(I:Inv X pins σ H s)(d:Drawn):Inv X pins σ H { s with drawn:=d } :=
 ⟨I.ok,I.os,I.bare,I.base,I.loc,I.cell,I.free,I.freeC,I.pin,I.hok,I.len⟩
section
variable{X:Cx}(K:yyF)
end
def z0A(h:Heap)(a:Addr)(vs:List Value):Heap :=
 ((h.update a (Obj.mapSeq fun _=>#[])).push (seqObj "tuple" vs.toArray 0)).push (seqObj "list" #[] 0)
section
variable{prog:Program}{w:World}{A:Around}{E:yyE}{s:Shared}{α:Type}{kf:Keyed->α}{lt:α->α->Bool}{kd:SortKind}
def z7H{a:Addr}{vs:List Value}{n:Nat}{P:Fin->Shared->Prop}(T:z4Q lt)(ho:s.heap.get? a=some (seqObj "list" vs.toArray n))(hz:vs.length<=sizeLine)(hkk:2<=vs.length->wpAny (model prog w) A (keyKind' vs.toArray) (fun k s'=>s'={ s with heap:=z0A s.heap a vs }/\k=kd) E { s with heap:=z0A s.heap a vs })(hA:z8f prog w A E { s with heap:=z0A s.heap a vs } kd (vs.zip vs) kf lt)(h:∀xs:List Keyed,xs.Perm (vs.zip vs)->Sl kf lt xs->P (.done (.ret .none)) { s with heap:=sortedHeap s.heap a vs (xs.map (·.2)).toArray }) : wpAny (model prog w) A (Builtin.«list.sort» ⟨[.ref a],[]⟩) P E s:=by
 rw[list_sort_plain];have ha:a<s.heap.objs.size:=y0j ho;refine y02 (listItems_at ho rfl ?_);refine y02 (y2V ho rfl ?_ (by simpa using hz) (by simp));obtain⟨e1,ho1⟩:∃e1,(s.heap.update a (Obj.mapSeq fun _=>#[])).get? a=some (seqObj "list" #[] e1):=⟨_,get?_update_seq ho (fun _=>#[])⟩;refine y02 (seqEpoch_at ho1 rfl ?_);refine y02 (wpAny_newTuple ?_ (by simpa using hz));refine y02 (wpAny_newList ?_);refine y1t ?_;have ho6:(z0A s.heap a vs).get? a=some (seqObj "list" #[] e1):=by unfold z0A;rw[Heap.get?_push_ne _ _ _ (by rw[size_push',Heap.size_update];exact y0y (y3j ha)),Heap.get?_push_ne _ _ _ (by rw[Heap.size_update];exact y0y ha)];exact ho1
 show wpAny (model prog w) A _ P E { s with heap:=z0A s.heap a vs };dsimp only;have hsz:vs.toArray.size=vs.length:=by simp
 by_cases h2:vs.toArray.size<2
 .rw[if_pos h2,if_pos h2];refine y02 (y08 ?_);rw[StateT.run_pure];refine y02 (y08 ?_);dsimp only;refine y02 (seqEpoch_at ho6 rfl ?_);refine y02 (y2V ho6 rfl ?_ (hsz2:=by rw[Array.size_map];show(pairsOf vs).size<=_;rw[pairsOf_size];lia));simp only[y3n,y06,y0W];have hs:Sl kf lt (vs.zip vs):=by
   refine y18.mpr fun i j hi hj hij=>?_;have:(vs.zip vs).length=vs.length:=by simp
   lia
  have e:(Array.map (·.2) (vs.toArray.zip vs.toArray))=((vs.zip vs).map (·.2)).toArray:=by simp
  have:=h (vs.zip vs) .rfl hs;rw[<-e]at this;exact y08 this
 .rw[if_neg h2,if_neg h2];refine y02 (y1C (hkk (by lia)) ?_ fun _ _ e=>e);rintro k s' ⟨rfl,rfl⟩;refine y02 (y1C (z39 T hA (st:=SortSt.mk' k (vs.toArray.zip vs.toArray) #[] 7 none)
   (Q:=fun _ st'=>(arrOf st').toList.Perm (vs.zip vs)/\failedOf st'=none/\Sl kf lt (arrOf st').toList)
   (fun x hx=>by have:x∈(pairsOf vs).toList:=hx;rw[pairsOf_toList]at this;exact this) rfl rfl rfl fun st' a1 a2 a3=>⟨by have e:(arrOf st').toList.Perm (pairsOf vs).toList:=a1;rw[pairsOf_toList]at e;exact e,a2,a3⟩) ?_ fun _ _ e=>e)
  rintro⟨⟨⟩,st'⟩ s' ⟨rfl,hp,hf,hs⟩;dsimp only;refine y02 (seqEpoch_at ho6 rfl ?_);have hl:(arrOf st').size=vs.length:=by rw[<-y0s,hp.length_eq];simp
  refine y02 (y2V ho6 rfl ?_ (hsz2:=by rw[Array.size_map];lia));rw[hf];simp only[y3n,y06,y0W];have e:(Array.map (·.2) (arrOf st'))=(((arrOf st').toList).map (·.2)).toArray:=by rw[<-Array.toList_map]
  have:=h _ hp hs;rw[<-e]at this;exact y08 this
end
end L2
namespace Gu
open PySem L2
def z9b{K:yyF}{a:Addr}{xs:List V}{g:TG}{tb:TS}{D:z3Y}{σ:St}{H:Hp}(Pv:Nat->St->Hp->Prop)(h0:Pv 0 σ H)(hl:∀i σ H,i<=xs.length->Pv i σ H->SqL K H a xs)(hs:∀i x σ H,xs[i]?=some x->Pv i σ H->∀Ed:z3Y,(∀σ' H',Pv (i+1) σ' H'->Ed.nx σ' H')->g x σ H fun σ2 H2=>tb Ed σ2 H2)(hd:∀σ H,Pv xs.length σ H->D.nx σ H) : ∃W:Nat->Nat->St->Hp->Prop,(∃m,W 0 m σ H)/\∀i m σ H,W i m σ H -> ((Itl K a).stop i H/\D.nx σ H)\/((Itl K a).go i H/\∃N:St->Hp->Prop,(∀σ' H',N σ' H'->∃m',m'<m/\W (i+1) m' σ' H')/\∀x H',(Itl K a).yld i H x H'->g x σ H' fun σ2 H2=>tb { D with nx:=N,ct:=N,bk:=D.nx } σ2 H2) :=
 zbD Pv h0 hl (fun i x σ H hx p=>hs i x σ H hx p _ fun _ _ z=>z) hd
def zgN{K:yyF}{a:Addr}{xs:List V}{g:TG}{tb:TS}{D:z3Y}{σ:St}{H:Hp}(Pv:Nat->St->Hp->Prop)(h0:Pv 0 σ H)(hl:∀i σ H,i<=xs.length->Pv i σ H->SqT K H a xs)(hs:∀i x σ H,xs[i]?=some x->Pv i σ H->∀Ed:z3Y,(∀σ' H',Pv (i+1) σ' H'->Ed.nx σ' H')->g x σ H fun σ2 H2=>tb Ed σ2 H2)(hd:∀σ H,Pv xs.length σ H->D.nx σ H) : ∃W:Nat->Nat->St->Hp->Prop,(∃m,W 0 m σ H)/\∀i m σ H,W i m σ H -> ((Itt K a).stop i H/\D.nx σ H)\/((Itt K a).go i H/\∃N:St->Hp->Prop,(∀σ' H',N σ' H'->∃m',m'<m/\W (i+1) m' σ' H')/\∀x H',(Itt K a).yld i H x H'->g x σ H' fun σ2 H2=>tb { D with nx:=N,ct:=N,bk:=D.nx } σ2 H2) :=
 zdj Pv h0 hl (fun i x σ H hx p=>hs i x σ H hx p _ fun _ _ z=>z) hd
def zel{W:Nat->St->Hp->Prop}{m:Nat}{T:(St->Hp->Prop)->Prop}(h:∀N:St->Hp->Prop,(∀m' σ' H',m'<m->W m' σ' H'->N σ' H')->T N):∃N:St->Hp->Prop,(∀σ' H',N σ' H'->∃m',m'<m/\W m' σ' H')/\T N :=
 ⟨fun σ' H'=>∃m',m'<m/\W m' σ' H',fun _ _ z=>z,h _ fun m' σ' H' a b=>⟨m',a,b⟩⟩
def zcX{lo:Int}{n:Nat}{g:TG}{tb:TS}{D:z3Y}{σ:St}{H:Hp}(Pv:Nat->St->Hp->Prop)(h0:Pv 0 σ H)(hs:∀i σ H,i<n->Pv i σ H->∀Ed:z3Y,(∀σ' H',Pv (i+1) σ' H'->Ed.nx σ' H')->g (.int (lo+i)) σ H fun σ2 H2=>tb Ed σ2 H2)(hd:∀σ H,Pv n σ H->D.nx σ H) : ∃W:Nat->Nat->St->Hp->Prop,(∃m,W 0 m σ H)/\∀i m σ H,W i m σ H -> ((Itr lo n).stop i H/\D.nx σ H)\/((Itr lo n).go i H/\∃N:St->Hp->Prop,(∀σ' H',N σ' H'->∃m',m'<m/\W (i+1) m' σ' H')/\∀x H',(Itr lo n).yld i H x H'->g x σ H' fun σ2 H2=>tb { D with nx:=N,ct:=N,bk:=D.nx } σ2 H2) :=
 z6s Pv h0 (fun i σ H hi p=>hs i σ H hi p _ fun _ _ z=>z) hd
def zgG{c:TT}{tb:TS}{D:z3Y}{σ:St}{H:Hp}(Post:St->Hp->Prop)(h1:∀Ed:z3Y,(∀σ' H',Post σ' H'->Ed.nx σ' H')->z6Y c tb Ed σ H)(h2:∀σ' H',Post σ' H'->D.nx σ' H'):z6Y c tb D σ H:=h1 D h2
def zeq{t1 t2:TS}{D:z3Y}{σ:St}{H:Hp}(Post:St->Hp->Prop)(h1:∀Ed:z3Y,(∀σ' H',Post σ' H'->Ed.nx σ' H')->t1 Ed σ H)(h2:∀σ' H',Post σ' H'->t2 D σ' H'):zfl t1 t2 D σ H:=h1 _ h2
def z7m{t1 t2:TS}{D:z3Y}{σ:St}{H:Hp}(h1:∀Ed:z3Y,Ed.nx σ H->t1 Ed σ H)(h2:t2 D σ H):zfl t1 t2 D σ H:=h1 _ h2
def zgY{K:yyF}{a b:Addr}{xs ys:List V}{g:TG}{tb:TS}{D:z3Y}{σ:St}{H:Hp}(hlen:xs.length=ys.length)(Pv:Nat->St->Hp->Prop)(h0:Pv 0 σ H)(hl:∀i σ H,i<=xs.length->Pv i σ H->SqL K H a xs/\SqL K H b ys)(hs:∀i x y p σ H,xs[i]?=some x->ys[i]?=some y->Pv i σ H->H p=none->∀Ed:z3Y,(∀σ' H',Pv (i+1) σ' H'->Ed.nx σ' H')->g (.ref p) σ (upd H p (.tup [x,y])) fun σ2 H2=>tb Ed σ2 H2)(hd:∀σ H,Pv xs.length σ H->D.nx σ H) : ∃W:Nat->Nat->St->Hp->Prop,(∃m,W 0 m σ H)/\∀i m σ H,W i m σ H -> ((Itz K a b).stop i H/\D.nx σ H)\/((Itz K a b).go i H/\∃N:St->Hp->Prop,(∀σ' H',N σ' H'->∃m',m'<m/\W (i+1) m' σ' H')/\∀x H',(Itz K a b).yld i H x H'->g x σ H' fun σ2 H2=>tb { D with nx:=N,ct:=N,bk:=D.nx } σ2 H2) :=
 ze6 hlen Pv h0 hl (fun i x y p σ H hx hy h hp=>hs i x y p σ H hx hy h hp _ fun _ _ z=>z) hd
def fuL:List Int->List Int->Nat
 |a::as,b::bs=>if a=b then fuL as bs+1 else 0
 |_,_=>0
def pgo(m:Nat)(R S:Row):List Int:=(List.range R.2.length).map fun k=>R.2.getD k 0*(m:Int)+S.2.getD k 0
def prM(one other:List Row):List Row:=(z0x (one.length*other.length)).map fun c=>((row one (c/(other.length:Int))).1,pgo other.length (row one (c/(other.length:Int))) (row other (c%(other.length:Int))))
def z2z(one other:List Row):(prM one other).length=one.length*other.length:=by unfold prM;rw[y01,z0H]
def z7t{one other:List Row}{i:Int}(h0:0<=i)(h1:i<((one.length*other.length:Nat):Int)):row (prM one other) i=((row one (i/(other.length:Int))).1,pgo other.length (row one (i/(other.length:Int))) (row other (i%(other.length:Int)))):=by unfold prM;show(List.map _ _).getD _ _=_;rw[y07,y04,z6P h0 h1];rfl
def z3B{n N:Nat}{gs:List Int}(hl:gs.length=n)(hg:∀g∈gs,0<=g/\g<(N:Int)){k:Nat}(hk:k<n):gs[k]?=some (gs.getD k 0)/\0<=gs.getD k 0/\gs.getD k 0<(N:Int):=by have e:gs[k]?=some gs[k]:=y00 (by lia);rw[y07,e];exact⟨rfl,hg _ (y0l (by lia))⟩
def zbT{n:Nat}{one other:List Row}(G:z0l n one)(G':z0l n other)(h4:one.length*other.length<=4000):z0l n (prM one other):=by
 have h1:=G.some;have h2:=G'.some;have hm:∀r∈prM one other,∃R∈one,∃S∈other,r=(R.1,pgo other.length R S):=fun r hr=>by unfold prM at hr;obtain⟨i,hi,e⟩:=y0f.mp hr;obtain⟨i0,i1⟩:=z1d.mp hi;obtain⟨⟨a0,a1⟩,b0,b1⟩:=pix (one:=one) (other:=other) i0 i1;exact⟨_,z0n a0 a1,_,z0n b0 b1,e.symm⟩
 refine⟨by rw[z2z];exact h4,by rw[z2z];exact Nat.mul_pos h1 h2,fun r hr=>?_,fun r hr=>?_,fun r hr g hg=>?_⟩
 .obtain⟨R,hR,S,hS,rfl⟩:=hm r hr;exact G.perm R hR
 .obtain⟨R,hR,S,hS,rfl⟩:=hm r hr;show(List.map _ _).length=n;rw[y01,y1K,G.len R hR]
 .obtain⟨R,hR,S,hS,rfl⟩:=hm r hr;obtain⟨k,hk,rfl⟩:=y0f.mp (show g∈(List.range R.2.length).map _ from hg);have hk':k<n:=by have:=y14.mp hk;rw[G.len R hR]at this;exact this
  obtain⟨_,g0,g1⟩:=z3B (G.len R hR) (G.go R hR) hk';obtain⟨_,e0,e1⟩:=z3B (G'.len S hS) (G'.go S hS) hk';rw[z2z];exact zeP g0 g1 e0 e1
def zfD{m:Nat}{g e:Int}(e0:0<=e)(e1:e<(m:Int)):(g*(m:Int)+e)/(m:Int)=g/\(g*(m:Int)+e)%(m:Int)=e:=by
 constructor
 .rw[Int.add_comm,Int.add_mul_ediv_right _ _ (by lia),Int.ediv_eq_zero_of_lt e0 e1];lia
 .rw[Int.add_comm,Int.add_mul_emod_self_right,Int.emod_eq_of_lt e0 e1]
def zdu(w:List Int):List Int->List (List Int)->Nat->List Int->List (List Int)
 |_,ws,_,[]=>ws
 |o,ws,k,g::gs=>if g∈o then zdu w o ws (k+1) gs else zdu w (o++[g]) (ws++[w++[(k:Int)]]) (k+1) gs
def pb(one other:List Row):Nat->List Int->List (List Int)->Nat->Option (List Int)
 |0,_,_,_=>none
 |f+1,o,ws,i=>match o[i]?,ws[i]? with
  |some c,some w=>if(row one (c/(other.length:Int))).1=(row other (c%(other.length:Int))).1 then pb one other f (z0b o (row (prM one other) c).2) (zdu w o ws 0 (row (prM one other) c).2) (i+1)
   else some (w++[((fuL (row one (c/(other.length:Int))).1 (row other (c%(other.length:Int))).1:Nat):Int)])
  |_,_=>none
def zgb(one other:List Row):Option (List Int):=pb one other (one.length*other.length+1) [0] [[]] 0
end Gu
namespace L2
open PySem PySem.Spec PyProof.Rows
section
variable{prog:Program}{w:World}{A:Around}{E:yyE}{s:Shared}{z TI TO i1 i2:Addr}{fp1 fp2:List Addr}{n1 n2:Nat}{P1 P2:Nat->Value->Prop}{S1 S2:Nat->Heap->Prop}
end
section
variable{X:Cx}{elts:List Expr}{tk:Nat}{tp:Pos}
end
end L2
namespace Gu
open PySem L2
def zds{n:Nat}{v:List Int}{k:Nat}(h:LW n v)(hk:k<n):LW n (v++[(k:Int)]):=fun x hx=>by
 rcases y0g.mp hx with z|z
 .exact h x z
 .have:x=(k:Int):=by simpa using z
  lia
def zdr(M:List Row)(v:List Int)(l:Int):goW M 0 (v++[l])=(row M (goW M 0 v)).2.getD l.toNat 0:=by rw[zbm];rfl
end Gu
namespace L2
open PySem PySem.Spec PyProof.Rows
variable{X:Cx}
end L2
namespace Gu
open PySem L2
end Gu
namespace L2
open PySem PySem.Spec PyProof.Rows
section
variable{prog:Program}{w:World}{A:Around}{R:Result->Shared->Prop}{s:Shared}
end
section
variable{X:Cx}{pins:yyP}{σ:St}{H:Hp}{s:Shared}{N:List Str}{ix:List (Option Nat)}{scope:Scope}{elt iter tg iter2 tg2:Expr}{pos:Pos}{g g2:TG}{wi2:TI}{te:TE}{E:yyE}
end
end L2
namespace Gu
open PySem L2
def stS(M:List Row)(e:Row)(i:Nat):Int:=goW M 0 (hdW e i)
def oS(M:List Row)(e:Row)(i:Nat):Int:=(row M (stS M e i)).1.getD (lat e i).toNat 0
def zgr(M:List Row)(e:Row):Nat->Int
 |0=>goW M 0 e.1
 |t+1=>goW M (zgr M e t) e.2
end Gu
namespace L2
open PySem PySem.Spec PyProof.Rows PySem.SeqAt
section
variable{X:Cx}
end
open PySem.AutoSeq1 (wpAny_loadPart')
section
variable{X:Cx}
end
end L2
namespace Gu
open PySem L2
def kI:Int->Key:=fun a=>Sum.inl a
def z2k(M:List Row)(e:Row)(t:Nat):List Int:=(List.range t).map (zgr M e)
end Gu
namespace L2
open PySem PySem.Spec PyProof.Rows PySem.SeqAt
section
variable{X:Cx}(K:yyF)
end
end L2
namespace Gu
open PySem L2
theorem zaH{n:Nat}{M' M:List Row}{o:List Int}{h:Int->Int}(mo:Mor M' M o h)(cl:∀r∈o,∀g∈(row M' r).2,g∈o)(hl:∀r∈o,(row M' r).2.length=n):∀(w:List Int)(x:Int),x∈o->LW n w->z3s M (h x) w=z3s M' x w
 |[],_,_,_=>rfl
 |l::w,x,hx,hw=>by
  obtain⟨l0,l1⟩:=hw l y0p;have hk:l.toNat<(row M' x).2.length:=by rw[hl x hx];lia
  show(row M (h x)).1.getD l.toNat 0::z3s M ((row M (h x)).2.getD l.toNat 0) w=(row M' x).1.getD l.toNat 0::z3s M' ((row M' x).2.getD l.toNat 0) w;rw[mo x hx];show(row M' x).1.getD l.toNat 0::z3s M (((row M' x).2.map h).getD l.toNat 0) w=_;rw[zcb hk,zaH mo cl hl w _ (cl x hx _ (by rw[zdg hk];exact y0l hk)) hw.tail]
def za6{n:Nat}{M:List Row}(G:z0l n M){w:List Int}(hw:LW n w):z3s (shr M) 0 w=z3s M 0 w:=by obtain⟨h,h0,mo⟩:=zcp G;obtain⟨L,cl⟩:=z0m G;have:=zaH mo cl (fun r hr=>G.len _ (z0n (L.rg r hr).1 (L.rg r hr).2)) w 0 (by obtain⟨t,ht⟩:=L.hd;rw[ht];exact y0p) hw;rw[h0]at this;exact this
def zcT{a b:TS}{D:z3Y}{σ:St}{H:Hp}(h:∀R:TS,R=b->zfl a R D σ H):zfl a b D σ H:=h b rfl
def atR{R b:TS}{D:z3Y}{σ:St}{H:Hp}(e:R=b)(h:b D σ H):R D σ H:=by rw[e];exact h
theorem z6i{α:Type}[DecidableEq α]:∀(l:List α),(z0s l.reverse).length=l.length->l.reverse.Nodup
 |[],_=>by simp
 |x::l,h=>by
  rw[y1U,z1n]at h;rw[y1U];have hl:=z3q l.reverse;rw[List.length_reverse]at hl;by_cases hx:x∈z0s l.reverse
  .rw[z0p hx]at h;simp at h;lia
  .rw[z0q hx]at h;simp at h;have ih:=z6i l h;refine y2S.mpr ⟨ih,by simp,fun a ha b hb=>?_⟩;rw[y0c]at hb;subst hb;exact fun z=>hx (z0G.mpr (by rw[<-z];exact ha))
def z91{α:Type}[DecidableEq α]{l:List α}(h:(z0s l).length=l.length):l.Nodup:=by
 have:=z6i l.reverse (by rw[y1w,List.length_reverse];exact h)
 rwa [y1w]at this
def z8W{n:Nat}{F:List Row}(G:z0l n F)(hf:shr F=F):(∀x,0<=x->x<(F.length:Int)->x∈order F)/\∀x∈order F,∀y∈order F,beh F x=beh F y->x=y:=by
 obtain⟨L,cl⟩:=z0m G;obtain⟨h1,h2,h3⟩:=z0S (kOf F) (order F);have e1:(z0r (kOf F) (order F)).length=F.length:=by
  have:(shr F).length=(z0r (kOf F) (order F)).length:=by unfold shr z1q;rw[y01]
  rw[<-this,hf]
 have e2:=L.len;have e3:(z0s ((order F).map (kOf F))).length=((order F).map (kOf F)).length:=by rw[<-z1w,y01,y01];lia
 have nd:=z91 e3;refine⟨fun x x0 x1=>y1B fun z=>?_,fun x hx y hy e=>?_⟩
 .have:=z6M (n:=F.length) (y1a.mpr ⟨z,L.nd⟩) fun y hy=>by
   rcases y0u.mp hy with r|r
   .rw[r];exact⟨x0,x1⟩
   .exact L.rg y r
  rw[y0H]at this;lia
 .have ek:=(z20 G x hx y hy).mpr e;obtain⟨i,hi,rfl⟩:=y0E.mp hx;obtain⟨j,hj,rfl⟩:=y0E.mp hy;have:i=j:=by
   refine(List.getElem_inj (h₀:=by rw[y01];exact hi) (h₁:=by rw[y01];exact hj) nd).mp ?_;rw[y19,y19];exact ek
  subst this;rfl
def StR(n:Nat)(M:List Row)(r:Int):Prop:=row M r=(z0x n,List.replicate n r)
instance(n:Nat)(M:List Row)(r:Int):Decidable (StR n M r):=inferInstanceAs (Decidable (_=_))
def zer(M:List Row)(rs:List Int):List Int:=z0s (rs.flatMap fun r=>(row M r).2)
def mvF(n:Nat)(M:List Row)(rs:List Int):List Int:=rs.filter fun r=>!decide (StR n M r)
def mvs(n:Nat)(M:List Row):Nat->List Int
 |0=>[0]
 |k+1=>zer M (mvF n M (mvs n M k))
def dlp(n:Nat)(M:List Row):Nat->Nat->Option Nat
 |0,_=>none
 |f+1,k=>if mvF n M (mvs n M k)=[]then some k else dlp n M f (k+1)
def dep(n:Nat)(M:List Row):Option Nat:=dlp n M M.length 0
def Lp(n:Nat)(M:List Row)(r:Int):Prop:=∃v,v≠[]/\LW n v/\goW M r v=r
def z9P{n:Nat}{l:Nat}{w:List Int}(h:l<n)(lw:LW n w):LW n ((l:Int)::w):=fun x hx=>by
 rcases y0u.mp hx with q|q
 .rw[q];lia
 .exact lw x q
def z9z{n:Nat}{F:List Row}(G:z0l n F)(hf:shr F=F){x:Int}(x0:0<=x)(x1:x<(F.length:Int)):∃u,LW n u/\goW F 0 u=x:=by
 have hp:=G.some;refine(z5E G).all (C:=fun x=>(0<=x/\x<(F.length:Int))/\∃u,LW n u/\goW F 0 u=x) (fun y hy g hg=>?_) (fun y hy=>?_) x ((z8W G hf).1 x x0 x1) |>.2
 .obtain⟨⟨a,b⟩,u,lu,e⟩:=hy;refine⟨G.go _ (z0n a b) g hg,?_⟩;obtain⟨i,hi,ei⟩:=y0E.mp hg;have hn:=G.len _ (z0n a b);refine⟨u++[(i:Int)],zds lu (by lia),?_⟩;rw[zdr,e,y1b,y07,y00 hi];exact ei
 .rw[y0c.mp hy];exact⟨⟨y2i 0,by lia⟩,[],fun _ z=>by simp at z,rfl⟩
noncomputable def lpB(n:Nat)(M:List Row)(j:Nat):Bool:=@decide (Lp n M (j:Int)) (Classical.propDecidable _)
noncomputable def zh0(n:Nat)(M:List Row)(i:Nat):List (List Row):=((List.range i).filter (lpB n M)).map fun(j:Nat)=>shr (swM M (j:Int))
end Gu
namespace L2
open PySem PySem.Spec PyProof.Rows
section
variable{X:Cx}
theorem z7b{α β:Type}{F:α->β->Prop}:∀{l:List α}{r:List β}{i:Nat}{a:α}{b:β},Paired F l r->l[i]?=some a->r[i]?=some b->F a b
 |_,_,0,_,_,.cons q _,ha,hb=>by
  have e1:=y0b ha;have e2:=y0b hb;rw[<-e1,<-e2];exact q
 |_,_,_+1,_,_,.cons _ t,ha,hb=>z7b t ha hb
end
section
variable{prog:Program}{w:World}{A:Around}{R:Result->Shared->Prop}{s:Shared}
end
section
variable{X:Cx}{pins:yyP}{σ:St}{H:Hp}{s:Shared}{N:List Str}{ix:List (Option Nat)}{scope:Scope}{kx vx iter tg:Expr}{pos:Pos}{g:TG}{tk tv:TE}{E:yyE}
end
section
variable{X:Cx}{pins:yyP}{σ:St}{H:Hp}{s:Shared}{N:List Str}{ix:List (Option Nat)}{scope:Scope}{elt iter tg cx:Expr}{pos:Pos}{g:TG}{tt:TT}{te:TE}{E:yyE}
end
open PySem.SeqAt
section
variable{X:Cx}(K:yyF)
def zdf(hK:X.K=K)(hu:X.A.units+64<cLine):OpR X (compareOp .NotEq) (fun x y H Q=>∃(ds es:List D),Dr K H (.lst ds) x/\Dr K H (.lst es) y/\ds.length=es.length/\D.okL ds es/\D.depL ds<=50/\Q (.bl (!D.eq (.lst ds) (.lst es))) H):=by
 subst hK;intro pins s σ H x y v u Q I rx ry h;obtain⟨ds,es,hx,hy,hln,o,hd,q⟩:=h;simp only[Dr]at hx hy;obtain⟨l,vs,rfl,q1,r⟩:=hx;obtain⟨b,us,rfl,q2,r'⟩:=hy;cases rx;cases ry;obtain⟨its,rv,pl,_⟩:=I.list q1;obtain⟨itt,rv',pl',_⟩:=I.list q2;have e1:its.toArray.size=ds.length:=by rw[r.length,rv.length];simp
 have e2:itt.toArray.size=es.length:=by rw[r'.length,rv'.length];simp
 have R:=RcNeAt.lists (A:=X.A) (e:=D.at_ ds es) pl.isList pl'.isList (by rw[e1,e2,hln]) (by lia) (fun j h1 h2=>by
  have l1:=rv.length;have l2:=rv'.length;have l3:=r.length;have l4:=r'.length;have h1':j<its.length:=by simpa using h1
  have h2':j<itt.length:=by simpa using h2
  have e1:ds[j]?=some ds[j]:=y00 (by lia);have e2:es[j]?=some es[j]:=y00 (by lia);obtain⟨x1,g1,d1⟩:=r.get e1;obtain⟨x2,g2,d2⟩:=r'.get e2;obtain⟨u1,k1,z5⟩:=rv.get g1;obtain⟨u2,k2,z6⟩:=rv'.get g2;have z1:u1=its.toArray[j]:=by rw[y00 h1']at k1;have:=y0b k1;simpa using this.symm
  have z2:u2=itt.toArray[j]:=by rw[y00 h2']at k2;have:=y0b k2;simpa using this.symm
  have z3:D.at_ ds es j=D.eq ds[j] es[j]:=by unfold D.at_;rw[e1,e2]
  rw[z3,<-z1,<-z2];exact(zfk I 50 X.A.in1 (y0S (D.depL_get e1) hd) (by show X.A.units+1+50<cLine;lia) d1 d2 (D.okL_get o e1 e2) z5 z6).1)
 rw[e1,D.all_eqL' hln]at R;have e3:D.eq (.lst ds) (.lst es)=D.eqL ds es:=by simp only[D.eq]
 rw[e3]at q;exact R _ _ _ _ ⟨.bl _,H,I,rfl,q⟩
end
end L2
namespace Gu
open PySem L2
def z2l(rows:List Row)(i:Nat):List (List Row):=(List.range i).map fun(j:Nat)=>shr (swM rows (j:Int))
def z79(rows:List Row)(i:Nat):z2l rows (i+1)=z2l rows i++[shr (swM rows (i:Int))]:=by unfold z2l;rw[List.range_succ,y0i];rfl
def z5x(rows:List Row)(i:Nat):(z2l rows i).length=i:=by unfold z2l;rw[y01,y1K]
def fmD(gs:List (List Row)):List D:=gs.map fun g=>D.tup (z0j g)
def z3b(gs:List (List Row))(g:List Row):fmD (gs++[g])=fmD gs++[D.tup (z0j g)]:=by unfold fmD;rw[y0i];rfl
def z1v(gs:List (List Row)):(fmD gs).length=gs.length:=y01 _
theorem D.depL_le{k:Nat}:∀{ds:List D},(∀d∈ds,D.dep d<=k)->D.depL ds<=k
 |[],_=>by simp only[D.depL];lia
 |d::ds,h=>by have h1:=h d (by simp);have h2:=D.depL_le (ds:=ds) fun x hx=>h x (by simp[hx]);simp only[D.depL];lia
theorem D.fewL_of:∀{ds:List D},(∀d∈ds,D.few d)->D.fewL ds
 |[],_=>by simp only[D.fewL]
 |d::ds,h=>by simp only[D.fewL];exact⟨h d (by simp),D.fewL_of fun x hx=>h x (by simp[hx])⟩
def z0Z{H:Hp}{l:Addr}{ys:List V}{o:HO}(e:H l=some (.lst ys)):∀b xs,H b=some (.tup xs)->upd H l o b=some (.tup xs):=fun b xs h=>by rw[z06 (fun z=>by subst z;rw[e]at h;cases h)];exact h
end Gu
namespace L2
open PySem PySem.Spec PyProof.Rows
end L2
namespace Gu
open PySem L2
end Gu
namespace L2
open PySem PySem.Spec PyProof.Rows PySem.SeqAt
open PySem.AutoSeq1 (wpAny_loadPart')
section
variable{X:Cx}(K:yyF)
end
section
variable{X:Cx}{e st:Expr}{te ts:TE}{pos p2:Pos}
end
end L2
namespace Gu
open PySem L2
def zcQ{n:Nat}{M:List Row}(G:z0l n M){g:Int}(g0:0<=g)(g1:g<(M.length:Int)):∀(w:List Int),LW n w->z3s (shr (swM M g)) 0 w=z3s M g w:=fun w hw=>by
 have Gs:=z0Y G g0 g1;rw[za6 Gs hw];have key:∀(w:List Int)(x:Int),LW n w->0<=x->x<(M.length:Int)->z3s (swM M g) x w=z3s M (sw g x) w:=fun w=>by
  induction w with
  |nil=>intro x _ _ _;rfl
  |cons l w ih =>
   intro x h x0 x1;have hl:=h l y0p;have hs:=zao g0 g1 x0 x1;have hm:=z0n hs.1 hs.2;show(row (swM M g) x).1.getD l.toNat 0::z3s (swM M g) ((row (swM M g) x).2.getD l.toNat 0) w=_;rw[z7o x0 x1];have hgl:=G.len _ hm;have e2:(z6h (sw g) (row M (sw g x))).2.getD l.toNat 0=sw g ((row M (sw g x)).2.getD l.toNat 0):=by unfold z6h;rw[y07,y07,y04,y00 (by rw[hgl];lia)];rfl
   have hgo:=G.go _ hm ((row M (sw g x)).2.getD l.toNat 0) (by rw[y07,y00 (by rw[hgl];lia)];exact y0l _);have hsg:=zao g0 g1 hgo.1 hgo.2;rw[e2,ih _ (fun q hq=>h q (y0e _ hq)) hsg.1 hsg.2,zaD];rfl
 rw[key w 0 hw (y2i 0) (by have:=G.some;lia)];have:sw g 0=g:=by have h1:=z7y g;have h2:=zaD g g;rw[h1]at h2;exact h2
 rw[this]
theorem zeL{M:List Row}{P:Int->Prop}(hP:∀c,P c->∀g∈(row M c).2,P g):∀(f i:Nat)(o:List Int),(∀c∈o,P c)->∀c∈bfs M f i o,P c
 |0,_,_,h=>h
 |f+1,i,o,h=>by
  cases eo:o[i]? with
  |none=>rw[z2Z (by rw[y1X]at eo;exact eo)];exact h
  |some r =>
   rw[z3d eo];refine zeL hP f (i+1) _ fun c hc=>?_;rcases z0C.mp hc with z|z
   .exact h c z
   .exact hP r (h r (y0D eo)) c z
def zch{n:Nat}{one other:List Row}(G:z0l n one)(G':z0l n other)(h4:one.length*other.length<=4000)(h:∀w,LW n w->z3s one 0 w=z3s other 0 w):shr one=shr other:=by
 have GP:=zbT G G' h4;obtain⟨L,cl⟩:=z0m GP;have hP:∀c∈order (prM one other),(0<=c/\c<((one.length*other.length:Nat):Int))/\∀w,LW n w->z3s one (c/(other.length:Int)) w=z3s other (c%(other.length:Int)) w:=by
  refine zeL (fun c ⟨rc,hc⟩ g hg=>?_) _ _ _ fun c hc=>?_
  .have:c=0:=by simpa using hc
   subst this;refine⟨⟨y2i 0,?_⟩,fun w hw=>by rw[Int.zero_ediv,Int.zero_emod];exact h w hw⟩;have:=GP.some;rw[z2z]at this;lia
  .have rg:=GP.go _ (z0n rc.1 (by rw[z2z];exact rc.2)) g hg;rw[z2z]at rg;refine⟨rg,fun w hw=>?_⟩;rw[z7t rc.1 rc.2]at hg;obtain⟨⟨a0,a1⟩,b0,b1⟩:=pix (one:=one) (other:=other) rc.1 rc.2;have hR:=z0n a0 a1;have hS:=z0n b0 b1;obtain⟨k,hk,rfl⟩:=y0f.mp (show g∈(List.range (row one (c/(other.length:Int))).2.length).map _ from hg);have hk':k<n:=by have:=y14.mp hk;rw[G.len _ hR]at this;exact this
   obtain⟨_,e0,e1⟩:=z3B (G'.len _ hS) (G'.go _ hS) hk';rw[(zfD e0 e1).1,(zfD e0 e1).2];have:=hc ((k:Int)::w) (z9P hk' hw);exact(List.cons.inj this).2
 have hall:∀c∈order (prM one other),(row one (c/(other.length:Int))).1=(row other (c%(other.length:Int))).1:=fun c hc=>by obtain⟨rc,hw⟩:=hP c hc;obtain⟨⟨a0,a1⟩,b0,b1⟩:=pix (one:=one) (other:=other) rc.1 rc.2;have l1:=(G.perm _ (z0n a0 a1)).len;have l2:=(G'.perm _ (z0n b0 b1)).len;refine y2d (by rw[l1,l2]) fun k k1 k2=>?_;have:=(List.cons.inj (hw [(k:Int)] (z9P (by lia) fun _ z=>by simp at z))).1;rw[y1b,y07,y07,y00 k1,y00 k2]at this;exact this
 have m1:Mor (prM one other) one (order (prM one other)) fun c=>c/(other.length:Int):=fun c hc=>by
  have rc:=L.rg c hc;rw[z2z]at rc;rw[z7t rc.1 rc.2];obtain⟨⟨a0,a1⟩,b0,b1⟩:=pix (one:=one) (other:=other) rc.1 rc.2;have hR:=z0n a0 a1;have hS:=z0n b0 b1;show row one (c/(other.length:Int))=_;generalize row one (c/(other.length:Int))=R at *;generalize row other (c%(other.length:Int))=S at *;show R=(R.1,(pgo _ R S).map _);unfold pgo;rw[y0I];refine y31 rfl ?_;refine y2d (by rw[y01,y1K]) fun k k1 k2=>?_;have hk':k<n:=by rw[G.len R hR]at k1;exact k1
  obtain⟨q,_,_⟩:=z3B (G.len R hR) (G.go R hR) hk';obtain⟨_,e0,e1⟩:=z3B (G'.len S hS) (G'.go S hS) hk';rw[y19,List.getElem_range];show _=(R.2.getD k 0*_+S.2.getD k 0)/_;rw[(zfD e0 e1).1];rw[y00 k1]at q;exact y0b q
 have m2:Mor (prM one other) other (order (prM one other)) fun c=>c%(other.length:Int):=fun c hc=>by
  have rc:=L.rg c hc;rw[z2z]at rc;rw[z7t rc.1 rc.2];have ha:=hall c hc;obtain⟨⟨a0,a1⟩,b0,b1⟩:=pix (one:=one) (other:=other) rc.1 rc.2;have hR:=z0n a0 a1;have hS:=z0n b0 b1;show row other (c%(other.length:Int))=_;generalize row one (c/(other.length:Int))=R at *;generalize row other (c%(other.length:Int))=S at *;show S=(R.1,(pgo _ R S).map _);unfold pgo;rw[y0I,ha];refine y31 rfl ?_;refine y2d (by rw[y01,y1K,G.len R hR,G'.len S hS]) fun k k1 k2=>?_;have hk':k<n:=by rw[G'.len S hS]at k1;exact k1
  obtain⟨q,e0,e1⟩:=z3B (G'.len S hS) (G'.go S hS) hk';rw[y19,List.getElem_range];show _=(R.2.getD k 0*_+S.2.getD k 0)%_;rw[(zfD e0 e1).2];rw[y00 k1]at q;exact y0b q
 rw[<-z5v GP G (by rw[Int.zero_ediv]) m1,<-z5v GP G' (by rw[Int.zero_emod]) m2]
end Gu
namespace L2
open PySem PySem.Spec PyProof.Rows
def z1S(m:Nat):Nat->Nat × Nat->Nat × Nat
 |0,q=>q
 |r+1,q=>z1S m r (SetTable.leap m q.1 q.2)
def z31(m a b:Nat)(q:Nat × Nat):z1S m (a+b) q=z1S m b (z1S m a q):=by
 induction a generalizing q with
 |zero=>rw[y1G];rfl
 |succ a ih=>rw[Nat.succ_add];exact ih _
theorem z4e(m:Nat):∀(r:Nat)(q:Nat × Nat),(z1S m r q).2=q.2/32^r
 |0,q=>by simp[z1S]
 |r+1,q=>by show(z1S m r (SetTable.leap m q.1 q.2)).2=_;rw[z4e m r,Nat.pow_succ,Nat.mul_comm,<-Nat.div_div_eq_div_mul];rfl
def z7x(m i p:Nat):(SetTable.leap m i p).1<=m:=y3o (y3H _ (Nat.succ_pos m))
theorem z8h(m:Nat):∀(r:Nat)(q:Nat × Nat),q.1<=m->(z1S m r q).1<=m
 |0,q,h=>h
 |r+1,q,_=>z8h m r _ (z7x m _ _)
def z72(m:Nat):Prop:=m=7\/m=31\/m=127
def zeN(m:Nat):Bool:=(List.range (m+1)).all fun e=>(List.range (m+1)).any fun r=>(z1S m r (0,0)).1==e
def z7u{m:Nat}(h:z72 m):zeN m=true/\z1S m (m+1) (0,0)=(0,0):=by
 rcases h with rfl|rfl|rfl
 .exact⟨by decide +kernel,by decide +kernel⟩
 .exact⟨by decide +kernel,by decide +kernel⟩
 .exact⟨by decide +kernel,by decide +kernel⟩
def zfe{m:Nat}(h:z72 m){i e:Nat}(hi:i<=m)(he:e<=m):∃r,r<=m/\(z1S m r (i,0)).1=e:=by
 obtain⟨hc,hz⟩:=z7u h;have reach:∀x,x<=m->∃r,r<=m/\(z1S m r (0,0)).1=x:=fun x hx=>by have:=(y3A.mp hc) x (y14.mpr (by lia));obtain⟨r,hr,e⟩:=List.any_eq_true.mp this;exact⟨r,by have:=y14.mp hr;lia,by simpa using e⟩
 have zp:∀r,z1S m r (0,0)=((z1S m r (0,0)).1,0):=fun r=>by have:=z4e m r (0,0);simp at this;exact y31 rfl this
 obtain⟨a,ha,ea⟩:=reach i hi;obtain⟨b,hb,eb⟩:=reach e he;have ei:z1S m a (0,0)=(i,0):=by rw[zp,ea]
 rcases y10 b a with q|q
 .refine⟨m+1-a+b,by lia,?_⟩;rw[<-ei,<-z31,show a+(m+1-a+b)=(m+1)+b by lia,z31,hz,eb]
 .refine⟨b-a,by lia,?_⟩;rw[<-ei,<-z31,show a+(b-a)=b by lia,eb]
def zfx{m:Nat}(h:z72 m){i p e:Nat}(hi:i<=m)(hp:p<2^64)(he:e<=m):∃r,r<=m+13/\(z1S m r (i,p)).1=e:=by
 have h13:z1S m 13 (i,p)=((z1S m 13 (i,p)).1,0):=y31 rfl (by rw[z4e];exact Nat.div_eq_of_lt (y0t hp (by decide)))
 obtain⟨r,hr,e'⟩:=zfe h (z8h m 13 (i,p) hi) he;refine⟨13+r,by lia,?_⟩;rw[z31,h13];exact e'
def zaT(h:Int):SetTable.bits h<2^64:=by unfold SetTable.bits;have h1:=y1N h (show(2^64:Int)≠0 by decide);have h2:=y1p h (show(0:Int)<2^64 by decide);lia
structure z4u(t:SetTable)(n:Nat):Prop where
 good:z72 t.mask
 ris:Ris t.place
 size:t.place.size=n
 le:∀v∈t.place.toList,v<=t.mask
 dum:t.dummies=#[]
 room:n*5<t.mask*3
theorem z4u.fits{t:SetTable}{n:Nat}(h:z4u t n):t.fits n=true:=by have hd:=h.dum;have hr:=h.room;simp[SetTable.fits,SetTable.fill,h.size,hd];lia
def z4u.hole{t:SetTable}{n:Nat}(h:z4u t n):∃e,e<=t.mask/\e∉t.place.toList:=by
 refine y1B fun hno=>?_;have all:∀e,e<=t.mask->e∈t.place.toList:=fun e he=>y1B fun z=>hno ⟨e,he,z⟩;have key:∀k,k<=t.mask->t.place[k]?=some k:=by
  intro k;induction k using Nat.strongRecOn with
  |ind k ih =>
   intro hk;obtain⟨m,hm,em⟩:=y0E.mp (all k hk);have em':t.place[m]?=some k:=by rw[<-em,y03 (by simpa using hm)];simp
   rcases Nat.lt_trichotomy m k with q|q|q
   .have:=ih m q (by lia);rw[em']at this;simp at this;lia
   .rw[<-q]at em';rw[<-q];exact em'
   .have hmm:m<t.place.size:=by simpa using hm
    have hkm:k<t.place.size:=by lia
    have ek:=y03 hkm;have h1:=h.ris.lt q ek em';rcases y3c k with z|z
    .lia
    .have h2:=h.ris.lt (by lia:k-1<k) (ih (k-1) (by lia) (by lia)) ek;lia
 have:=key t.mask (y0d _);have hs:=(y1g.mp this).1;have:=h.room;have:=h.size;lia
def z5r{t:SetTable}(hd:t.dummies=#[]){e:Nat}(he:e∉t.place.toList):t.slot e=.empty:=by
 unfold SetTable.slot;have h1:t.place[SetTable.below t.place e]?≠some e:=fun z=>he (by obtain⟨hi,ei⟩:=y1g.mp z;rw[<-ei];simp)
 have h2:SetTable.has t.dummies e=false:=by rw[hd];simp[SetTable.has]
 simp[h1,h2]
def z4K{t:SetTable}(hd:t.dummies=#[])(e:Nat):t.slot e≠.dummy:=by
 unfold SetTable.slot;have h2:SetTable.has t.dummies e=false:=by rw[hd];simp[SetTable.has]
 dsimp only;split
 .intro z;cases z
 .rw[h2];simp
def z1C(t:SetTable):Nat->SetTable.Probe->SetTable.Probe
 |0,p=>p
 |k+1,p=>z1C t k (t.advance p)
def z1l(t:SetTable)(a b:Nat)(p:SetTable.Probe):z1C t (a+b) p=z1C t b (z1C t a p):=by
 induction a generalizing p with
 |zero=>rw[y1G];rfl
 |succ a ih=>rw[Nat.succ_add];exact ih _
def base(m:Nat)(q:Nat × Nat)(d:Option Nat):SetTable.Probe:={ j:=q.1,more:=SetTable.runEnd m q.1-q.1,i:=q.1,perturb:=q.2,dummy:=d }
def z7z(m i:Nat):SetTable.runEnd m i-i<=9:=by unfold SetTable.runEnd;split<;>lia
theorem z5z(t:SetTable):∀(k:Nat)(p:SetTable.Probe),k<=p.more->z1C t k p={ p with j:=p.j+k,more:=p.more-k }
 |0,p,_=>rfl
 |k+1,p,h=>by
  show z1C t k (t.advance p)=_;have e:t.advance p={ p with j:=p.j+1,more:=p.more-1 }:=by unfold SetTable.advance;rw[if_pos (by lia)]
  rw[e,z5z t k _ (show k<=p.more-1 by lia)];have h1:p.j+1+k=p.j+(k+1):=by lia
  have h2:p.more-1-k=p.more-(k+1):=by lia
  simp only[h1,h2]
def zbN(t:SetTable)(q:Nat × Nat)(d:Option Nat):∃s,s<=10/\z1C t s (base t.mask q d)=base t.mask (SetTable.leap t.mask q.1 q.2) d:=by have hm:=z7z t.mask q.1;refine⟨(SetTable.runEnd t.mask q.1-q.1)+1,by lia,?_⟩;rw[z1l,z5z t _ _ (show SetTable.runEnd t.mask q.1-q.1<=(base t.mask q d).more from y0d _)];show t.advance _=_;unfold SetTable.advance;rw[if_neg (by simp[base])];rfl
theorem z6F(t:SetTable)(d:Option Nat):∀(r:Nat)(q:Nat × Nat),∃s,s<=10*r/\z1C t s (base t.mask q d)=base t.mask (z1S t.mask r q) d
 |0,q=>⟨0,by lia,rfl⟩
 |r+1,q=>by obtain⟨s,hs,e⟩:=zbN t q d;obtain⟨s',hs',e'⟩:=z6F t d r (SetTable.leap t.mask q.1 q.2);refine⟨s+s',by lia,?_⟩;rw[z1l,e,e'];rfl
def z8X{t:SetTable}{n:Nat}(h:z4u t n)(hs:Int):∃k,k<=10*(t.mask+13)/\t.slot (z1C t k (t.probeStart hs)).j=.empty:=by obtain⟨e,he,hn⟩:=h.hole;have hi:SetTable.bits hs%(t.mask+1)<=t.mask:=y3o (y3H _ (Nat.succ_pos _));obtain⟨r,hr,er⟩:=zfx h.good hi (zaT hs) he;obtain⟨s,h1,h2⟩:=z6F t none r (SetTable.bits hs%(t.mask+1),SetTable.bits hs);refine⟨s,by lia,?_⟩;have e1:t.probeStart hs=base t.mask (SetTable.bits hs%(t.mask+1),SetTable.bits hs) none:=rfl;rw[e1,h2];show t.slot (z1S t.mask r _).1=_;rw[er];exact z5r h.dum hn
def Within(t:SetTable)(p:SetTable.Probe):Prop:=p.j+p.more<=t.mask/\p.dummy=none
def z4E{t:SetTable}{q:Nat × Nat}(h:q.1<=t.mask):Within t (base t.mask q none):=by refine⟨?_,rfl⟩;show q.1+(SetTable.runEnd t.mask q.1-q.1)<=t.mask;unfold SetTable.runEnd;split<;>lia
def z5c{t:SetTable}{p:SetTable.Probe}(h:Within t p):Within t (t.advance p):=by
 unfold SetTable.advance;split
 .exact⟨by have:=h.1;show p.j+1+(p.more-1)<=t.mask;lia,h.2⟩
 .have:=z4E (t:=t) (q:=SetTable.leap t.mask p.i p.perturb) (z7x _ _ _);exact⟨this.1,h.2⟩
def zf4{t:SetTable}{n j:Nat}(h:z4u t n)(hs:t.slot j=.empty)(hj:j<=t.mask):(t.put j).1.place.size=n+1/\Ris (t.put j).1.place/\(∀v∈(t.put j).1.place.toList,v<=t.mask)/\(t.put j).1.dummies=#[]/\(t.put j).1.mask=t.mask/\(t.put j).2=SetTable.below t.place j:=by
 have hnl:za0 t j:=z6v (.inl hs);have hd:SetTable.has t.dummies j=false:=by rw[h.dum];simp[SetTable.has]
 refine⟨?_,z9q h.ris hnl,fun v hv=>?_,?_,rfl,rfl⟩
 .show(SetTable.insertAt t.place (SetTable.below t.place j) j).size=n+1;rw[<-y0s,(y2C _ _ _).length_eq];simp[h.size]
 .have:=(y2C t.place (SetTable.below t.place j) j).mem_iff.mp hv;rw[y0R,y0g,y0c]at this;rcases this with z|rfl
  .exact h.le v z
  .exact hj
 .show(if SetTable.has t.dummies j then SetTable.eraseAt t.dummies (SetTable.below t.dummies j)else t.dummies)=#[];rw[hd];exact h.dum
theorem z5l{p p':Nat->Bool}{j0:Nat}(h:∀j,j≠j0->p' j=p j)(h0:p j0=false)(h1:p' j0=true):∀N,(List.range N).countP p'=(List.range N).countP p+(if j0<N then 1 else 0)
 |0=>by simp
 |N+1=>by
  rw[List.range_succ,List.countP_append,List.countP_append,z5l h h0 h1 N];by_cases e:N=j0
  .subst e;simp[h0,h1]
  .have hh:p' N=p N:=h N e;by_cases q:j0<N
   .rw[if_pos q,if_pos (by lia)];simp[hh,List.countP_cons];lia
   .rw[if_neg q,if_neg (by lia)];simp[hh,List.countP_cons]
def zfF(m:Nat)(owner:Array (Option Nat)):Nat:=(List.range (m+1)).countP fun j=>(owner.getD j none).isSome
structure z6S(m k:Nat)(owner:Array (Option Nat)):Prop where
 size:owner.size=m+1
 cnt:zfF m owner=k
 lt:∀j v,owner.getD j none=some v->v<k
def z32{owner:Array (Option Nat)}{j:Nat}(hj:j<owner.size)(d e:Option Nat):owner.getD j d=owner.getD j e:=by simp[Array.getD,hj]
def z6S.hole{m k:Nat}{owner:Array (Option Nat)}(h:z6S m k owner)(hk:k<=m):∃e,e<=m/\owner.getD e (some 0)=none:=by
 refine y1B fun hno=>?_;have all:∀e∈List.range (m+1),(owner.getD e none).isSome=true:=fun e he=>by
  have he':=y14.mp he;rw[z32 (d:=none) (e:=some 0) (by rw[h.size];exact he')];cases hq:owner.getD e (some 0)with
  |none=>exact absurd ⟨e,by lia,hq⟩ hno
  |some v=>rfl
 have:=List.countP_eq_length.mpr all;have hc:(List.range (m+1)).countP (fun j=>(owner.getD j none).isSome)=k:=h.cnt;rw[hc,y1K]at this;lia
theorem z6E{m:Nat}{owner:Array (Option Nat)}:∀(r fuel i p e:Nat),r<fuel->(z1S m r (i,p)).1=e->owner.getD e (some 0)=none->∃j,SetTable.layClean.free m owner fuel i p=some j/\owner.getD j (some 0)=none
 |r,0,i,p,e,h,_,_=>by lia
 |r,fuel+1,i,p,e,h,he,hn=>by
  unfold SetTable.layClean.free;cases hf:(List.range (SetTable.runEnd m i+1-i)).find? fun k=>(owner.getD (i+k) (some 0)).isNone with
  |some k =>
   have:=List.find?_some hf;exact⟨i+k,rfl,by simpa using this⟩
  |none =>
   dsimp only;cases r with
   |zero =>
    have hi:i=e:=he;have:=List.find?_eq_none.mp hf 0 (y14.mpr (by unfold SetTable.runEnd;split<;>lia));rw[y35,hi,hn]at this;simp at this
   |succ r=>exact z6E r fuel _ _ e (by lia) he hn
def z6S.set{m k j:Nat}{owner:Array (Option Nat)}(h:z6S m k owner)(hj:owner.getD j (some 0)=none):z6S m (k+1) (owner.setIfInBounds j (some k)):=by
 have hlt:j<owner.size:=by
  rcases y10 j owner.size with q|q
  .exact q
  .simp[Array.getD,y3Q.mpr q]at hj
 have other:∀i,i≠j->(owner.setIfInBounds j (some k)).getD i none=owner.getD i none:=fun i hi=>by simp only[y1d,y2G];rw[if_neg (fun z=>hi z.symm)]
 have self:(owner.setIfInBounds j (some k)).getD j none=some k:=by simp only[y1d,y2G];simp[hlt]
 refine⟨by simp[h.size],?_,fun i v hv=>?_⟩
 .unfold zfF;rw[z5l (p:=fun j=>(owner.getD j none).isSome) (j0:=j) (fun i hi=>by simp only[other i hi]) (by rw[z32 (e:=some 0) hlt,hj];rfl) (by simp only[self];rfl)];rw[if_pos (by rw[<-h.size];exact hlt)];rw[show(List.range (m+1)).countP (fun j=>(owner.getD j none).isSome)=k from h.cnt]
 .by_cases e:i=j
  .subst e;rw[self]at hv;cases hv;lia
  .rw[other i e]at hv;have:=h.lt i v hv;lia
def zdU(m:Nat):z6S m 0 (Array.replicate (m+1) none):=by
 have g:∀j,(Array.replicate (m+1) (none:Option Nat)).getD j none=none:=fun j=>by simp only[y1d,Array.getElem?_replicate];split<;>rfl
 refine⟨by simp,?_,fun j v hv=>by rw[g]at hv;cases hv⟩;unfold zfF;rw[List.countP_eq_zero];intro j _;rw[g];simp
def z4O{α:Type}{es:Array α}{order:Array Nat}(h:∀v∈order.toList,v<es.size):(order.filterMap fun i=>es[i]?).size=order.size/\∀e∈(order.filterMap fun i=>es[i]?).toList,e∈es.toList:=by
 constructor
 .rw[<-y0s,y2D,List.length_filterMap_eq_countP,<-y0s (xs:=order)];refine List.countP_eq_length.mpr fun v hv=>?_;rw[y03 (h v hv)];rfl
 .intro e he;rw[y2D]at he;obtain⟨v,hv,ev⟩:=y20.mp he;obtain⟨hi,rfl⟩:=y1g.mp ev;simp
section
variable{prog:Program}{w:World}{A:Around}{E:yyE}{s:Shared}
def z5e:∀(n:Nat){d:D}{v:Value}{Q:Bool->Shared->Prop},D.dep d<=n->Hd s.heap d v->Q false s->wpAny (model prog w) A (ofAClassStatement n v) Q E s:=by
 intro n;induction n with
 |zero =>
  intro d v Q hd hv h;cases d with
  |int i =>
   simp only[Hd]at hv;obtain⟨t,rfl⟩:=hv;unfold ofAClassStatement;exact y08 h
  |tup ds=>simp only[D.dep]at hd;lia
  |non=>simp only[Hd]at hv
  |bl _=>simp only[Hd]at hv
  |str _=>simp only[Hd]at hv
  |lst _=>simp only[Hd]at hv
 |succ n ih =>
  intro d v Q hd hv h;cases d with
  |int i =>
   simp only[Hd]at hv;obtain⟨t,rfl⟩:=hv;unfold ofAClassStatement;exact y08 h
  |tup ds =>
   simp only[Hd]at hv;simp only[D.dep]at hd;obtain⟨a,o,its,m,rfl,ho,hc,hdd,hi⟩:=hv;have hT:s.TypeIs (.ref a) "tuple":=⟨o,ho,hc⟩;unfold ofAClassStatement;refine y02 (wpAny_typeOf hT ?_);dsimp only;simp only[y3y,y22];refine y02 (y08 ?_);simp only[y1O,y06,y0W];refine y02 (y3q ho hdd (y02 ?_));show wpAny _ _ (forIn its _ _) _ _ s;rw[<-y2E];refine y2x _ (fun z1k r s'=>r.1=none/\s'=s/\∃left,HdL s.heap left z1k/\D.depL left<=n) _ ?_ ?_ _ _ ⟨rfl,rfl,ds,hi,by lia⟩
   .rintro x z1k r s' ⟨hr,rfl,left,hl,hdl⟩;cases left with
    |nil=>simp only[HdL]at hl;cases hl
    |cons k ks =>
     simp only[HdL]at hl;simp only[D.depL]at hdl;obtain⟨v',q,ev,q1,q2⟩:=hl;cases ev;refine y02 (ih (by lia) q1 ?_);simp only[y06,y0W];exact y08 ⟨rfl,rfl,ks,q2,by lia⟩
   .rintro⟨r1,r2⟩ s' ⟨hr,rfl,_⟩;simp only at hr;subst hr;exact y08 h
  |non=>simp only[Hd]at hv
  |bl _=>simp only[Hd]at hv
  |str _=>simp only[Hd]at hv
  |lst _=>simp only[Hd]at hv
def z9d:∀(n:Nat){d:D}{v:Value}{Q:Bool->Shared->Prop},D.dep d<=n->Hd s.heap d v->(∀b,Q b s)->wpAny (model prog w) A (hashByValue n v) Q E s:=by
 intro n;induction n with
 |zero =>
  intro d v Q hd hv h;cases d with
  |int i =>
   simp only[Hd]at hv;obtain⟨t,rfl⟩:=hv;unfold hashByValue;exact y08 (h _)
  |tup ds=>simp only[D.dep]at hd;lia
  |non=>simp only[Hd]at hv
  |bl _=>simp only[Hd]at hv
  |str _=>simp only[Hd]at hv
  |lst _=>simp only[Hd]at hv
 |succ n ih =>
  intro d v Q hd hv h;cases d with
  |int i =>
   simp only[Hd]at hv;obtain⟨t,rfl⟩:=hv;unfold hashByValue;exact y08 (h _)
  |tup ds =>
   simp only[Hd]at hv;simp only[D.dep]at hd;obtain⟨a,o,its,m,rfl,ho,hc,hdd,hi⟩:=hv;have hT:s.TypeIs (.ref a) "tuple":=⟨o,ho,hc⟩;unfold hashByValue;refine y02 (y2L hT y2Q.lookup ?_);show wpAny _ _ (seqItems? (.ref a)>>=_) _ _ s;refine y02 (y3q ho hdd (y02 ?_));show wpAny _ _ (forIn its _ _) _ _ s;rw[<-y2E];refine y2x _ (fun z1k r s'=>r.1=none/\s'=s/\∃left,HdL s.heap left z1k/\D.depL left<=n) _ ?_ ?_ _ _ ⟨rfl,rfl,ds,hi,by lia⟩
   .rintro x z1k r s' ⟨hr,rfl,left,hl,hdl⟩;cases left with
    |nil=>simp only[HdL]at hl;cases hl
    |cons k ks =>
     simp only[HdL]at hl;simp only[D.depL]at hdl;obtain⟨v',q,ev,q1,q2⟩:=hl;cases ev;refine y02 (ih (by lia) q1 fun b=>?_);cases b with
     |true =>
      simp only[y1O,y06,y0W];exact y08 ⟨rfl,rfl,ks,q2,by lia⟩
     |false =>
      simp only[y3r,y22];exact y08 (y08 (h _))
   .rintro⟨r1,r2⟩ s' ⟨hr,rfl,_⟩;simp only at hr;subst hr;exact y08 (h _)
  |non=>simp only[Hd]at hv
  |bl _=>simp only[Hd]at hv
  |str _=>simp only[Hd]at hv
  |lst _=>simp only[Hd]at hv
end
def El(h:Heap)(z2k:List D)(es:Array (Int × Value)):Prop:=∀e∈es.toList,∃d∈z2k,∃b,e.1=D.hash d/\e.2=.ref b/\Hd h d (.ref b)/\D.dep d<=8
section
variable{prog:Program}{w:World}{A:Around}{E:yyE}{s:Shared}{a x:Addr}{es:Array (Int × Value)}{ep:Nat}{t:SetTable}{z2k:List D}{d:D}
def zaL(hx:Hd s.heap d (.ref x))(hd8:D.dep d<=8){Q:Bool->Shared->Prop}(h:Q false s):∀(l:List Value),(∀y∈l,∃d' b,y=.ref b/\Hd s.heap d' (.ref b)/\D.dep d'<=8) -> wpAny (model prog w) A (searchCouldBeSeen (.ref x) l) Q E s:=by
 intro l hl;unfold searchCouldBeSeen;refine y02 (y2x _ (fun z1k r s'=>r.1=none/\s'=s/\∀y∈z1k,∃d' b,y=.ref b/\Hd s.heap d' (.ref b)/\D.dep d'<=8) _ ?_ ?_ _ _ ⟨rfl,rfl,hl⟩)
 .rintro y z1k r s' ⟨hr,rfl,hall⟩;obtain⟨d',b,rfl,hb,hb8⟩:=hall y y0p;have rest':∀y∈z1k,∃d' b,y=.ref b/\Hd s'.heap d' (.ref b)/\D.dep d'<=8:=fun y hy=>hall y (y0e _ hy);dsimp only;refine y2q (fun _=>y08 ⟨rfl,rfl,rest'⟩) fun _=>?_;refine y02 ((z1o prog w).quiet ⟨hx,hd8⟩ ?_);simp only[y1O,y06,y0W];refine y02 ((z1o prog w).quiet ⟨hb,hb8⟩ ?_);simp only[y1O,y06,y0W];refine y02 (z5e 8 hd8 hx ?_);simp only[y06,y0W];refine y02 (z5e 8 hb8 hb ?_);simp only[y06,y0W];exact y08 ⟨rfl,rfl,rest'⟩
 .rintro⟨r1,r2⟩ s' ⟨hr,rfl,_⟩;simp only at hr;subst hr;exact y08 h
end
def El.mono{h h':Heap}{z2k:List D}{es:Array (Int × Value)}(x:El h z2k es)(k:∀b o its n,h.get? b=some o->o.cls=.type "tuple"->o.data=.seq its n->h'.get? b=some o):El h' z2k es:=fun e he=>by obtain⟨d,hd,b,e1,e2,q,q8⟩:=x e he;exact⟨d,hd,b,e1,e2,Hd.keep k q,q8⟩
section
variable{prog:Program}{w:World}{A:Around}{E:yyE}{s:Shared}{a x:Addr}{z2k:List D}{d:D}
end
section
variable{prog:Program}{w:World}{A:Around}{R:Result->Shared->Prop}{I:Addr}{fp wr:List Addr}{G:Array GenState->Array GenState->Prop}{n:Nat}{P:Nat->Value->Prop}{St:Nat->Shared->Prop}
end
section
variable{prog:Program}{w:World}{A:Around}{E:yyE}{s:Shared}
def zbb(f m:Nat)(l:Bool):z4u (SetTable.fresh f m l) 0:=⟨.inl rfl,y2N,rfl,fun v hv=>by simp[SetTable.fresh]at hv,rfl,by show 0*5<7*3;decide⟩
end
open PySem.SeqAt
section
variable{X:Cx}(K:yyF)
end
end L2
namespace Gu
open PySem L2
def zfO(Ts:List Tb)(K:yyF)(H:Hp)(Q:VK)(ds:List D):Prop:=∀(l:Addr)(H':Hp)(us:List V),H l=none->SameL Ts H H'->H' l=some (.lst us)->DrL K H' ds us->Q (.ref l) H'
def z2S(Ts:List Tb)(K:yyF):Sp:=fun vs H Q _=>∃(v:V)(rows:List Row)(n:Nat),vs=[v]/\z65 Ts H/\Dr K H (D.tup (z0j rows)) v/\z0l n rows/\n<=60/\rows.length<=60/\zfO Ts K H Q (fmD (z2l rows rows.length))
def zcA{n:Nat}{rows:List Row}(G:z0l n rows)(hn:n<=60):∀d∈fmD (z2l rows rows.length),D.key d/\D.dep d<=8/\∃l,d=D.tup l:=fun d hd=>by obtain⟨g,hg,rfl⟩:=y0f.mp hd;obtain⟨j,hj,rfl⟩:=y0f.mp hg;have hj':=y14.mp hj;obtain⟨a,b⟩:=z6z (z0Y G (s:=(j:Int)) (by lia) (by lia)) hn;have:=z1N [shr (swM rows (j:Int))];simp only[y0k,y0T,D.keyL]at this;exact⟨this.1,by lia,_,rfl⟩
end Gu
namespace L2
open PySem
def SameL.free2{Ts:List Tb}{H H':Hp}{l:Addr}(s:SameL Ts H H')(h:H' l=none):H l=none\/∃ps,H l=some (.tbl ps):=by
 cases e:H l with
 |none=>exact .inl rfl
 |some o =>
  by_cases c:∃ps,o=.tbl ps
  .obtain⟨ps,rfl⟩:=c;exact .inr ⟨ps,rfl⟩
  .have:=s.at_ l o (fun ps z=>c ⟨ps,z⟩) e;rw[h]at this;cases this
def SameL.over2{Ts:List Tb}{H H':Hp}{l:Addr}{xs:List V}{o:HO}(s:SameL Ts H H')(h:H l=none\/∃ps,H l=some (.tbl ps))(e:H' l=some (.lst xs)):SameL Ts H (upd H' l o) :=
 ⟨fun b u n q=>by
  have hb:b≠l:=fun z=>by
   subst z;rcases h with h|⟨ps,h⟩
   .rw[h]at q;cases q
   .rw[h]at q;cases q;exact n ps rfl
  rw[z06 hb];exact s.at_ b u n q,fun t=>z65.over (s.tabs t) e⟩
end L2
namespace Gu
open PySem L2
def zbh{n:Nat}{M:List Row}(G:z0l n M){g:Int}(g0:0<=g)(g1:g<(M.length:Int)){w:List Int}(hw:LW n w):z3s (swM M g) 0 w=z3s M g w:=by rw[<-za6 (z0Y G g0 g1) hw,zcQ G g0 g1 w hw]
def ze7{n:Nat}{A:List Row}(G:z0l n A)(h60:A.length<=60){r:Int}(r0:0<=r)(r1:r<(A.length:Int)){w:List Int}(hw:LW n w):shr (swM (shr (swM A r)) (goW (shr (swM A r)) 0 w))=shr (swM A (goW A r w)):=by have Gg:=z2a (z0Y G r0 r1);have hg:=z4m (z0Y G r0 r1);rw[z1J]at hg;have e1:=fun(v:List Int)(hv:LW n v)=>zcQ G r0 r1 (w++v) (hw.app hv);generalize shr (swM A r)=g at Gg hg e1⊢;obtain⟨x0,x1⟩:=za2 Gg hw (y2i 0) (by have:=Gg.some;lia);obtain⟨y0,y1⟩:=za2 G hw r0 r1;refine zch (z0Y Gg x0 x1) (z0Y G y0 y1) (by rw[z1J,z1J];exact y0S (Nat.mul_le_mul (y0S hg h60) h60) (by decide)) fun v hv=>?_;rw[zbh Gg x0 x1 hv,zbh G y0 y1 hv];have e:=e1 v hv;rw[z66,z66]at e;exact(List.append_inj e (by rw[z61,z61])).2
def z2I{F f:List Row}:f∈z2l F F.length↔∃r:Int,0<=r/\r<(F.length:Int)/\f=shr (swM F r):=by
 unfold z2l;rw[y0f];constructor
 .rintro⟨j,hj,rfl⟩;exact⟨(j:Int),by lia,by have:=y14.mp hj;lia,rfl⟩
 .rintro⟨r,r0,r1,rfl⟩;exact⟨r.toNat,y14.mpr (by lia),by rw[Int.toNat_of_nonneg r0]⟩
end Gu
namespace L2
open PySem PySem.Spec PyProof.Rows PySem.SeqAt
open PySem.AutoSeq1 (wpAny_loadPart')
def zcv(A:Around)(s:Shared)(y x:Value)(b:Bool):Prop :=
 ∀(prog:Program)(w:World)(E:yyE)(Q:yyE),Q (.bool b) s->wpAny (model prog w) A (richCompare .Lt y x) Q E s
def zcv.ints{A:Around}{s:Shared}(a:Int)(t:Tok)(b:Int)(u:Tok):zcv A s (.int a t) (.int b u) (decide (a<b)):=fun prog w E Q h =>
 richCompare_gives (op:=.Lt) (typeIs_int s _ t) (typeIs_int s _ u) F.slot_int_lt F.entry_int_lt (F.args_int_lt_2 _ _) (gives_int_lt _ _ t u) (fun x=>nomatch x) h
def zae(e r:Nat->Bool)(fin:Bool):Nat->Nat->Bool
 |0,_=>fin
 |k+1,i=>if e i=true then zae e r fin k (i+1)else r i
def z9f(l b:Addr)(xs ys:Array Value)(n n2:Nat)(dd dd2:Option Addr)(sl sl2:Array (Option Value))(e r:Nat->Bool) : Meets (Builtin.«tuple.__lt__» ⟨[.ref l,.ref b],[]⟩) (fun A R s=>s.heap.get? l=some { cls:=.type "tuple",dict:=dd,data:=.seq xs n,slots:=sl }/\s.heap.get? b=some { cls:=.type "tuple",dict:=dd2,data:=.seq ys n2,slots:=sl2 } /\ (∀j (h1:j<xs.size) (h2:j<ys.size),EqAt A.in1 s xs[j] ys[j] (e j))/\(∀j (h1:j<xs.size) (h2:j<ys.size),e j=false->zcv A.in1 s xs[j] ys[j] (r j)) /\ R (.ok (.ret (.bool (zae e r (decide (xs.size<ys.size)) (min xs.size ys.size) 0)))) s) :=
 .of_wp fun prog w A R s h=>by
  obtain⟨hp,g,d,tk,os⟩:=s;obtain⟨hl,hb,he,hlt,h⟩:=h;have f2:=AutoSeq1.sub_tuple_tuple
  wp_walk using wpAny_loadPart' hl,wpAny_loadPart' hb,y2x _ (fun z1k b s'=>b.1=none/\s'=⟨hp,g,d,tk,os⟩/\∃i k,i+k=min xs.size ys.size/\z1k=(xs.toList.zip ys.toList).drop i/\R (.ok (.ret (.bool (zae e r (decide (xs.size<ys.size)) k i)))) ⟨hp,g,d,tk,os⟩) _
  case _ =>
   rintro⟨y,x⟩ z1k b' s' ⟨hn,rfl,i,k,hik,hz,hR⟩;have hi:i<(xs.toList.zip ys.toList).length:=by
    rcases y10 i (xs.toList.zip ys.toList).length with q|q
    .exact q
    .rw[y1n q]at hz;cases hz
   have hm:i<min xs.size ys.size:=by simpa using hi
   have h1:i<xs.size:=by lia
   have h2:i<ys.size:=by lia
   rw[y17 hi]at hz;injection hz with hyx hrest;obtain⟨e1,e2⟩:y=xs[i]/\x=ys[i]:=by simpa using hyx
   subst e1 e2;obtain⟨k,rfl⟩:∃k',k=k'+1:=⟨k-1,by lia⟩;refine y02 (he i h1 h2 prog w _ _ ?_);unfold zae at hR;cases c:e i with
   |true =>
    rw[c,if_pos rfl]at hR
    wp_walk
    exact⟨rfl,rfl,i+1,k,by lia,hrest,hR⟩
   |false =>
    rw[c,if_neg (by decide)]at hR;simp only[y3r,y22];refine y02 (y2R (y02 (hlt i h1 h2 c prog w _ _ ?_)));refine y02 (y08 (y08 ?_));exact y08 ⟨_,rfl,hR⟩
  case fin =>
   rintro⟨b1,b2⟩ s' ⟨hn,rfl,i,k,hik,hz,hR⟩;simp only at hn;subst hn;have hk:k=0:=by
    rcases y3c k with q|q
    .exact q
    .have hi:i<(xs.toList.zip ys.toList).length:=by simp;lia
     rw[y17 hi]at hz;cases hz
   subst hk
   wp_walk
   exact⟨_,rfl,by simpa[Builtin.Tuple.tupleCompareSizes,zae]using hR⟩
  case h =>
   exact⟨rfl,rfl,0,_,y1G _,rfl,h⟩
def zcv.tuples{A:Around}{s:Shared}{l b:Addr}{xs ys:Array Value}{e r:Nat->Bool}(hl:s.heap.IsTuple l xs)(hb:s.heap.IsTuple b ys)(hu:A.units<cLine)(he:∀j (h1:j<xs.size) (h2:j<ys.size),EqAt A.in1 s xs[j] ys[j] (e j))(hlt:∀j (h1:j<xs.size) (h2:j<ys.size),e j=false->zcv A.in1 s xs[j] ys[j] (r j)) : zcv A s (.ref l) (.ref b) (zae e r (decide (xs.size<ys.size)) (min xs.size ys.size) 0):=fun prog w E Q h=>by
 obtain⟨⟨cls,dd,data,sl⟩,ho,hc,n,hd⟩:=id hl;obtain⟨⟨cls2,dd2,data2,sl2⟩,ho2,hc2,n2,hd2⟩:=id hb;simp only at hc hd hc2 hd2;subst hc hd hc2 hd2;exact richCompare_meets_room (op:=.Lt) ⟨_,ho,rfl⟩ ⟨_,ho2,rfl⟩ F.slot_tuple_lt F.entry_tuple_lt (F.args_tuple_lt_2 _ _) (z9f l b xs ys n n2 dd dd2 sl sl2 e r)
  ⟨ho,ho2,he,hlt,show Value.bool _≠Value.notImplemented/\Q (.bool _) s from⟨(fun z=>nomatch z),h⟩⟩ hu
mutual
def D.lt:D->D->Bool
 |.int a,.int b=>decide (a<b)
 |.tup a,.tup b=>D.ltL a b
 |_,_=>false
def D.ltL:List D->List D->Bool
 |d::ds,e::es=>if D.eq d e=true then D.ltL ds es else D.lt d e
 |[],_::_=>true
 |_,[]=>false
end
theorem D.keyL_get:∀{ds:List D}{j:Nat}{d:D},D.keyL ds->ds[j]?=some d->D.key d
 |[],_,_,_,h=>by simp at h
 |_::_,0,_,h,e=>by
  simp only[D.keyL]at h;simp at e;subst e;exact h.1
 |_::ds,j+1,_,h,e=>by simp only[D.keyL]at h;exact D.keyL_get (ds:=ds) h.2 (by simpa using e)
def D.ltAt(ds es:List D)(j:Nat):Bool:=D.lt (ds.getD j .non) (es.getD j .non)
theorem z8e:∀(ds es:List D)(n:Nat)(d0 e0:List D),d0.length=n->e0.length=n->zae (D.at_ (d0++ds) (e0++es)) (D.ltAt (d0++ds) (e0++es)) (decide (ds.length<es.length)) (min ds.length es.length) n=D.ltL ds es
 |[],[],n,d0,e0,_,_=>by simp[zae,D.ltL]
 |[],e::es,n,d0,e0,_,_=>by simp[zae,D.ltL]
 |d::ds,[],n,d0,e0,_,_=>by simp[zae,D.ltL]
 |d::ds,e::es,n,d0,e0,hd,he=>by
  have ih:=z8e ds es (n+1) (d0++[d]) (e0++[e]) (by simp[hd]) (by simp[he]);rw[y0q,y0q,y3w,y3w]at ih;have hm:min (d::ds).length (e::es).length=min ds.length es.length+1:=by simp only[y0H];lia
  have hf:decide ((d::ds).length<(e::es).length)=decide (ds.length<es.length):=by simp
  rw[hm,hf];unfold zae;have g1:(d0++d::ds)[n]?=some d:=by rw[y0Z (by lia),hd,y3N];rfl
  have g2:(e0++e::es)[n]?=some e:=by rw[y0Z (by lia),he,y3N];rfl
  have g3:D.at_ (d0++d::ds) (e0++e::es) n=D.eq d e:=by unfold D.at_;rw[g1,g2]
  have g4:D.ltAt (d0++d::ds) (e0++e::es) n=D.lt d e:=by unfold D.ltAt;rw[y07,y07,g1,g2];rfl
  rw[g3,g4,ih];simp only[D.ltL]
section
variable{X:Cx}{pins:yyP}{s:Shared}{σ:St}{H:Hp}
def zg8(I:Inv X pins σ H s):∀(n:Nat)(A:Around){d e:D}{x y:V}{v u:Value},D.dep d<=n->A.units+n+1<cLine->Dr X.K H d x->Dr X.K H e y->D.ok d e->D.key d->z0N x v->z0N y u->zcv A s v u (D.lt d e):=by
 intro n;induction n with
 |zero =>
  intro A d e x y v u hd hu hx hy o hord rx ry;cases d<;>simp only[D.key]at hord
  .cases e<;>simp only[D.ok]at o;simp only[Dr]at hx hy;subst hx hy;obtain⟨t,rfl⟩:=rx;obtain⟨t',rfl⟩:=ry;simp only[D.lt];exact zcv.ints _ _ _ _
  .simp only[D.dep]at hd;lia
 |succ n ih =>
  intro A d e x y v u hd hu hx hy o hord rx ry;cases d with
  |int a=>exact ih A (by simp only[D.dep];lia) (by lia) hx hy o hord rx ry
  |tup ds =>
   cases e<;>simp only[D.ok]at o;rename_i es;have hdp:D.depL ds<=n:=by simp only[D.dep]at hd;lia
   simp only[D.key]at hord;simp only[Dr]at hx hy;obtain⟨l,vs,rfl,q,r⟩:=hx;obtain⟨b,us,rfl,q',r'⟩:=hy;cases rx;cases ry;obtain⟨its,rv,pl,_⟩:=I.tuple (SqT.of q);obtain⟨itt,rv',pl',_⟩:=I.tuple (SqT.of q');have e1:its.toArray.size=ds.length:=by rw[r.length,rv.length];simp
   have e2:itt.toArray.size=es.length:=by rw[r'.length,rv'.length];simp
   have hin:A.in1.units+n+1<cLine:=by show A.units+1+n+1<cLine;lia
   have at2:∀j (h1:j<its.toArray.size) (h2:j<itt.toArray.size),∃(dj ej:D)(x1 x2:V),ds[j]?=some dj/\es[j]?=some ej/\Dr X.K H dj x1/\Dr X.K H ej x2/\z0N x1 its.toArray[j]/\z0N x2 itt.toArray[j]:=fun j h1 h2=>by
    have g1:ds[j]?=some (ds[j]'(by lia)):=y00 (by lia);have g2:es[j]?=some (es[j]'(by lia)):=y00 (by lia);obtain⟨x1,k1,d1⟩:=r.get g1;obtain⟨x2,k2,d2⟩:=r'.get g2;obtain⟨u1,m1,q1⟩:=rv.get k1;obtain⟨u2,m2,q2⟩:=rv'.get k2;have h1':j<its.length:=by simpa using h1
    have h2':j<itt.length:=by simpa using h2
    rw[y00 h1']at m1;rw[y00 h2']at m2;cases m1;cases m2;exact⟨_,_,x1,x2,g1,g2,d1,d2,by simpa using q1,by simpa using q2⟩
   have z:=zcv.tuples (A:=A) (e:=D.at_ ds es) (r:=D.ltAt ds es) pl pl' (by lia) (fun j h1 h2=>?_) (fun j h1 h2 _=>?_)
   .rw[e1,e2]at z;have:=z8e ds es 0 [] [] rfl rfl;rw[y1r,y1r]at this;rw[this]at z;simp only[D.lt];exact z
   .obtain⟨dj,ej,x1,x2,g1,g2,d1,d2,q1,q2⟩:=at2 j h1 h2;have z3:D.at_ ds es j=D.eq dj ej:=by unfold D.at_;rw[g1,g2]
    rw[z3];exact(zfk I n A.in1 (y0S (D.depL_get g1) hdp) (by lia) d1 d2 (D.okL_get o g1 g2) q1 q2).1
   .obtain⟨dj,ej,x1,x2,g1,g2,d1,d2,q1,q2⟩:=at2 j h1 h2;have z3:D.ltAt ds es j=D.lt dj ej:=by unfold D.ltAt;rw[y07,y07,g1,g2];rfl
    rw[z3];exact ih A.in1 (y0S (D.depL_get g1) hdp) hin d1 d2 (D.okL_get o g1 g2) (D.keyL_get hord g1) q1 q2
  |non=>simp only[D.key]at hord
  |bl _=>simp only[D.key]at hord
  |str _=>simp only[D.key]at hord
  |lst _=>simp only[D.key]at hord
end
end L2
namespace L2
open PySem PySem.Spec PyProof.Rows PySem.SeqAt PySem.W
open PySem.AutoSeq1 (wpAny_loadPart')
section
variable{prog:Program}{w:World}{A:Around}{E:yyE}{s:Shared}{α:Type}{kf:Keyed->α}{lt:α->α->Bool}{kd:SortKind}
def z9s{a kS:Addr}{vs ks:List Value}{e e1:Nat}{P:PySem.Fin->Shared->Prop}(T:z4Q lt)(ha:s.heap.get? a=some (seqObj "list" #[] e1))(hk:s.heap.get? kS=some (seqObj "list" ks.toArray e))(hka:kS≠a)(hl:ks.length=vs.length)(hz:vs.length<=sizeLine)(hkk:2<=vs.length->wpAny (model prog w) A (keyKind' ks.toArray) (fun k s'=>s'=s/\k=kd) E s)(hA:z8f prog w A E s kd (ks.zip vs) kf lt)(h:∀xs:List Keyed,xs.Perm (ks.zip vs)->Sl kf lt xs->P (.done (.ret .none)) { s with heap:=(s.heap.update kS (Obj.mapSeq fun _=>#[])).update a (Obj.mapSeq fun _=>(xs.map (·.2)).toArray) }) : wpAny (model prog w) A (ksk_end a false vs.toArray e1 (.ref kS) ks.toArray) P E s:=by
 have hzl:(ks.zip vs).length=vs.length:=by simp[hl]
 have s1:=y0Q s.heap kS (Obj.mapSeq fun _=>(#[]:Array Value));have na1:(s.heap.update kS (Obj.mapSeq fun _=>(#[]:Array Value))).get? a=some (seqObj "list" #[] e1):=(s1.2 a hka.symm).trans ha;have tail:∀st:SortSt,(arrOf st).toList.Perm (ks.zip vs)->Sl kf lt (arrOf st).toList->failedOf st=none->wpAny (model prog w) A (ksk_tail a false e1 (.ref kS) st) P E s:=fun st hp hs hf=>by
  have hsz:(arrOf st).size=vs.length:=by rw[<-y0s,hp.length_eq,hzl]
  unfold ksk_tail;dsimp only;refine y02 (y2V hk rfl ?_ (by simpa[hl]using hz) (y0B _));refine y02 (wpAny_letGo ?_);refine y02 (seqEpoch_at na1 rfl ?_);refine y02 (y2V na1 rfl ?_ (y0B _) (by simp only[y06,y0W,Array.size_map];lia));rw[hf];simp only[y3n,y06,y0W];have e2:(Array.map (·.2) (arrOf st))=(((arrOf st).toList).map (·.2)).toArray:=by rw[<-Array.toList_map]
  have:=h _ hp hs;rw[<-e2]at this;exact y08 this
 unfold ksk_end;dsimp only;simp only[y06,y0W];have hv:vs.toArray.size=vs.length:=by simp
 have ez:(ks.toArray.zip vs.toArray).toList=ks.zip vs:=by simp
 by_cases h2:vs.toArray.size<2
 .rw[if_pos h2,if_pos h2];refine y02 (y08 ?_);rw[StateT.run_pure];refine y02 (y08 ?_);refine tail (SortSt.mk' general' (ks.toArray.zip vs.toArray) #[] 7 none) ?_ ?_ rfl
  .show(ks.toArray.zip vs.toArray).toList.Perm _;rw[ez]
  .show Sl kf lt (ks.toArray.zip vs.toArray).toList;rw[ez];exact y18.mpr fun i j hi hj hij=>by lia
 .rw[if_neg h2,if_neg h2];refine y02 (y1C (hkk (by lia)) ?_ fun _ _ z=>z);rintro k s' ⟨rfl,rfl⟩;refine y02 (y1C (z39 T hA (st:=SortSt.mk' k (ks.toArray.zip vs.toArray) #[] 7 none)
   (Q:=fun _ st'=>(arrOf st').toList.Perm (ks.zip vs)/\failedOf st'=none/\Sl kf lt (arrOf st').toList)
   (fun x hx=>by have:x∈(ks.toArray.zip vs.toArray).toList:=hx;rw[ez]at this;exact this) rfl rfl rfl fun st' a1 a2 a3=>⟨by have q:(arrOf st').toList.Perm (ks.toArray.zip vs.toArray).toList:=a1;rw[ez]at q;exact q,a2,a3⟩) ?_ fun _ _ z=>z)
  rintro⟨⟨⟩,st'⟩ s'' ⟨rfl,hp,hf,hs⟩;exact tail st' hp hs hf
end
section
variable{X:Cx}(K:yyF)
end
section
variable{P:Program}{w:World}
section
variable{M:Model}{A:Around}{E:yyE}{Q:Unit->Shared->Prop}{s:Shared}{fr:List Addr}{H1 H':Hp}{h1:Heap}{env:Env}{outer:List Env}{L ea C:Addr}{base:Heap}{fl:Value}
end
end
section
variable{X:Cx}{N:List Str}{scope:Scope}{cl:List (Str × Addr)}{C:Addr}{ex:List Addr}{s:Shared}{H:Hp}{E:XK}{pins:yyP}{σ:St}{H':Hp}{s':Shared}
end
section
variable{prog:Program}{w:World}{A:Around}{R:Result->Shared->Prop}{s:Shared}
end
section
variable{X:Cx}{pins:yyP}{σ:St}{H:Hp}{s:Shared}{N:List Str}{ix:List (Option Nat)}{scope:Scope}{elt iter tg:Expr}{pos:Pos}{g:TG}{te:TE}{E:yyE}
end
end L2
namespace Gu
open PySem L2
def lbf(g:Int->List Int):Nat->Nat->List Int->List Int
 |0,_,o=>o
 |f+1,i,o=>match o[i]? with
  |none=>o
  |some r=>lbf g f (i+1) (z0b o (g r))
def gof(W:List (List Int))(x:Int):List Int:=W.map fun w=>w.getD x.toNat 0
def cmp(L:Nat)(W:List (List Int))(x:Int):List Int:=lbf (gof W) (L+1) 0 [x]
section
variable{L:Nat}{W:List (List Int)}(hW:∀w∈W,IsP L w)
include hW
end
def led(L:Nat)(W:List (List Int))(x:Int):List Int:=(z0x L).filter fun y=>decide (y∈cmp L W x)
end Gu
namespace L2
open PySem PySem.Spec PyProof.Rows PySem.SeqAt
section
variable{prog:Program}{w:World}{A:Around}{E:yyE}{s:Shared}{T:String}{r d:Addr}{n:Nat}{P:Nat->Value->Prop}{OK:Heap->Prop}
def z7U{Q:List Value->Shared->Prop}(K:PySem.W.KdlSrc prog w T r d n P OK)(hh:A.handled=none)(hok:OK s.heap)(hn:n<=sizeLine)(hQ:∀h' tk acc,(∀b o,s.heap.get? b=some o->h'.get? b=some o)->ItemsOf P acc n->Q acc.toList { s with heap:=h',toks:=tk }):wpAny (model prog w) A (collect (.ref r)) Q E s:=by
 obtain⟨hr,hd⟩:=K.there _ hok;unfold collect;refine y02 (wpAny_runValue (y1M y3u ?_));rw[y1l y3v _];show wpAny _ A.in1 (newList []>>=fun l=>again (.builtin "list.__iadd__" ⟨[l,.ref r],[]⟩)) _ _ s;refine y02 (y11 ?_);refine y08 ⟨y2O y2n _,y1M F.entry_list_iadd ?_⟩;rw[y1l y2n _];have hS:(s.heap.push { cls:=.type "list",data:=.seq ([]:List Value).toArray }).get? s.heap.objs.size=some { cls:=.type "list",data:=.seq ([]:List Value).toArray }:=y0h _ rfl;show wpAny _ A.in1 (Builtin.List.listExtendWith (.ref s.heap.objs.size) (.ref r) (.ref s.heap.objs.size)) _ _ _;refine PySem.W.kdl_extend (R:=wants (fun v s'=>wpAny (model prog w) A (match v with
    |Value.ref a=>do
     match (<-load a).data with
      |Data.seq xs _=>pure xs.toList
      |_=>unsupported "internal:collect"
    |_=>unsupported "internal:collect") Q E s') E) (s:={ s with heap:=s.heap.push { cls:=.type "list",data:=.seq ([]:List Value).toArray } }) K hh (K.keep _ _ hok fun b _ o e=>y05 _ e) s.heap.objs.size (y33 hr) (y33 hd) _ 0 hS (fun h' tk acc c' hk hl hacc=>?_) hn
 show wpAny _ A (load s.heap.objs.size>>=_) _ _ _;refine y02 (wpAny_load hl (y08 (hQ h' tk acc (fun b o e=>hk b o (y0y (y0j e)) (y05 _ e)) hacc)))
end
section
variable{X:Cx}(K:yyF)
end
def z9D(h:Heap)(d:Addr)(ks:List Value)(ep:Nat):Prop:=∃o es,h.get? d=some o/\o.ExactDict/\o.data=.dict es ep/\es.toList.map (·.key)=ks
section
variable{prog:Program}{w:World}{A:Around}{E:yyE}{s:Shared}{d it:Addr}{ks:List Value}{ep i:Nat}
def z9D.at'{h h':Heap}(x:z9D h d ks ep)(k:∀o,h.get? d=some o->h'.get? d=some o):z9D h' d ks ep:=let⟨o,es,e,r⟩:=x;⟨o,es,k o e,r⟩
def z9D.typeIs(x:z9D s.heap d ks ep):s.TypeIs (.ref d) "dict":=let⟨o,_,ho,hc,_⟩:=x;⟨o,ho,hc.1⟩
def z9D.lt{h:Heap}(x:z9D h d ks ep):d<h.objs.size:=let⟨_,_,ho,_⟩:=x;y0j ho
def zdo{Q:yyE}(hd:(d==sysModules)=false)(hm:z9D s.heap d ks ep)(hQ:Q (.ref s.heap.objs.size) { s with heap:=s.heap.push { cls:=.type "dict_keyiterator",data:=.fields #[.ref d,.int 0 0,.int ks.length 0,.int ep 0] } }):wpAny (model prog w) A (pyIter (.ref d)) Q E s:=by
 have hT:=hm.typeIs;obtain⟨o,es,ho,hc,hdat,hp⟩:=hm;have hsz:es.size=ks.length:=by rw[<-hp,y01,y0s]
 refine wpAny_pyIter_slot hT F.slot_dict_iter (y1s F.slot_dict_iter hT F.entry_dict_iter ?_ (F.args_dict_iter_1 _));unfold Builtin.«dict.__iter__» Builtin.Dict.dictSlotNone;refine y02 (y02 (wpAny_notOrdered_dict hT (y08 ?_)));show wpAny _ _ (Builtin.Dict.showsAll d>>=_) _ _ s;unfold Builtin.Dict.showsAll;rw[if_neg (by rw[hd];exact y0C)];refine y02 (y08 (y02 (wpAny_dictEntries ho hdat (y02 (wpAny_dictEpoch ho hdat ?_)))));refine y02 (y11 (y08 ⟨_,rfl,"dict_keyiterator",_,⟨_,y0h _ rfl,rfl⟩,y2H.lookup,?_⟩));simpa[rawInt,hsz]using hQ
def zaI{Q:Option Value->Shared->Prop}(hh:A.handled=none)(hit:s.heap.IsKeyIter it d i ks.length ep)(hm:z9D s.heap d ks ep)(h1:∀v h',ks[i]?=some v->h'.IsKeyIter it d (i+1) ks.length ep->Heap.SameBut it s.heap h'->Q (some v) { s with heap:=h' })(h2:ks[i]?=none->∀h',Heap.ExtBut it s.heap h'->Q none { s with heap:=h' }):wpAny (model prog w) A (pyNext (.ref it)) Q E s:=by
 have hT:=hit.typeIs;obtain⟨o,ho,hc,hd⟩:=id hit;obtain⟨od,es,hod,hcd,hdd,hp⟩:=hm;have hsz:es.size=ks.length:=by rw[<-hp,y01,y0s]
 unfold pyNext;refine y02 (y2U (y1P (name:=Str.ofString "__next__") hT y2H
  (y1s y2H hT F.entry_dict_keyiterator_next ?_ (F.args_dict_keyiterator_next_1 _))))
 refine y02 (y08 (y02 (y02 ?_)));first|refine y02 (y2z hT (y08 ?_))|refine y02 (y38 hT (y08 ?_))
 refine y02 (y3s ho hd ?_);simp only[show Builtin.Dict_items.ownsTuple "dict_keyiterator"=false by decide,y06,y0W];show wpAny _ _ (if(Value.ref d==Value.none)=true then _ else _) _ _ s;rw[if_neg (show ¬((Value.ref d==Value.none)=true)from y0C)];refine y02 (y08 (y02 (wpAny_dictEntries hod hdd ?_)));rw[if_neg (by rw[hsz];simp)];refine y02 (y08 (y02 (wpAny_dictEpoch hod hdd ?_)));rw[if_neg (by simp)];refine y08 ?_;rcases y10 i es.size with hlt|hge
 .simp only[show ¬((i:Int)<0)from by lia,y0W,y1b,y03 hlt];refine y02 ?_;first|refine y02 (y2z hT (y08 ?_))|refine y02 (y38 hT (y08 ?_))
  refine y02 (wpAny_isOneOf_keyiter hT ?_);show wpAny _ _ (setField (.ref it) 1 (rawInt ((i:Int)+1))>>=_) _ _ s;refine y02 (y2k ho hd (by simp) ?_);have hit':(s.heap.update it (Obj.mapFields (·.setIfInBounds 1 (rawInt ((i:Int)+1))))).IsKeyIter it d (i+1) ks.length ep :=
   ⟨_,y1f _ ho (y2g (y1q hd _)),(y3m ..).trans hc,by rw[y1q hd];simp[rawInt]⟩
  refine y02 (y1t ?_);refine y02 (wpAny_isOneOf_keyiter (s:={ s with heap:=s.heap.update it (Obj.mapFields (·.setIfInBounds 1 (rawInt ((i:Int)+1)))) }) hit'.typeIs ?_);show wpAny _ _ (pure es[i].key) _ _ _;have hk:ks[i]?=some es[i].key:=by rw[<-hp,y04,y0o,y03 hlt];rfl
  exact y08 (y08 ⟨_,rfl,y08 (h1 _ _ hk hit' (y0Q ..))⟩)
 .simp only[show ¬((i:Int)<0)from by lia,y0W,y1b,y1y hge];refine y02 ?_;first|refine y02 (y2z hT (y08 ?_))|refine y02 (y38 hT (y08 ?_))
  show wpAny _ _ (setField (.ref it) 0 .none>>=_) _ _ s;refine y02 (y2k ho hd (by simp) ?_);show wpAny _ _ (newExc (.type "StopIteration") []>>=_) _ _ _;refine y02 ?_;simp only[newExc,newTuple];refine y02 (y11 ?_ (by size_fits));refine y02 (m:=firstArgMember _ _) (wpAny_of_eq (a:=Value.none) (by first|rfl|(simp only[firstArgMember];rfl)) ?_);refine y11 ?_ (by size_fits);simp only[raiseNew];refine y02 (wpAny_handled ?_);rw[show A.in1.handled=none from hh];refine y02 (y08 (wpAny_throw ?_));refine y02 (y30 (T:="StopIteration") (b:=true) ⟨_,y0h _ rfl,rfl⟩ isSubtype_stop ?_);exact y08 (h2 (y0A (by lia)) _ (((y0Q ..).extBut.push _).push _))
def zfu(lo:(d==sysModules)=false):PySem.W.KdlSrc prog w "dict" d d ks.length (fun i v=>ks[i]?=some v) (fun h=>z9D h d ks ep) where
 type:=fun _ hm=>hm.typeIs
 there:=fun _ hm=>⟨hm.lt,hm.lt⟩
 keep:=fun _ _ hm hk=>hm.at' fun o e=>hk d (.inl rfl) o e
 notList:=by decide
 notTuple:=by decide
 hint:=fun _ _ _ _ hm hq=>PySem.W.kdl_hint_dict hm.typeIs hq
 iter:=fun A s hh hm=>⟨_,(fun i h=>h.IsKeyIter s.heap.objs.size d i ks.length ep/\z9D h d ks ep),(fun _ _ hq=>zdo lo hm hq),
  { sub:=fun b hb=>(by simp at hb;simp[hb]),frame:=(fun _ _ _ st hk=>⟨st.1.at fun o e=>hk _ (by simp) o e,st.2.at' fun o e=>hk d (by simp) o e⟩),item:=(fun i s' Q E hi st hQ=>zaI hh st.1 st.2 (fun v h' hv a b=>hQ v h' s'.toks hv ⟨a,st.2.at' fun o e=>b.extBut d o (y0y hm.lt) e⟩ fun c o hb e=>b.extBut c o (fun h=>hb (by simp[h])) e) fun hn=>by rw[y00 hi]at hn;cases hn),done:=(fun s' Q E st hQ=>zaI hh st.1 st.2 (fun v h' hv=>by rw[y0A (y0d _)]at hv;cases hv) fun _ h' he=>hQ h' s'.toks fun b o hb e=>he b o (fun h=>hb (by simp[h])) e),self:=fun _ _ _ _ st hQ=>wpAny_pyIter_keyiter st.1 hQ },⟨⟨_,y0h _ rfl,rfl,rfl⟩,hm.at' fun o e=>y05 _ e⟩⟩
end
open PySem.W
mutual
def D.ltK:D->D->Bool
 |.int a,.int b=>decide (a<b)
 |.int _,.tup _=>true
 |.tup a,.tup b=>D.ltKL a b
 |_,_=>false
def D.ltKL:List D->List D->Bool
 |d::ds,e::es=>if D.eq d e=true then D.ltKL ds es else D.ltK d e
 |[],_::_=>true
 |_,[]=>false
end
def D.neq{a b:D}(h:a≠b):D.eq a b=false:=by
 cases e:D.eq a b with
 |false=>rfl
 |true=>exact absurd (D.eq_of e) h
mutual
theorem D.ltK_irr:∀a:D,D.ltK a a=false
 |.int a=>by simp[D.ltK]
 |.tup a=>by simp only[D.ltK];exact D.ltKL_irr a
 |.non=>rfl
 |.bl _=>rfl
 |.str _=>rfl
 |.lst _=>rfl
theorem D.ltKL_irr:∀a:List D,D.ltKL a a=false
 |[]=>rfl
 |d::ds=>by simp only[D.ltKL];rw[if_pos (D.eq_refl d)];exact D.ltKL_irr ds
end
mutual
theorem D.ltK_asy:∀a b:D,D.ltK a b=true->D.ltK b a=false
 |.int a,b,h=>by
  cases b<;>simp only[D.ltK,y3k,y06]at h⊢;simp only[decide_eq_false_iff_not];lia
 |.tup a,b,h=>by
  cases b with
  |tup b=>simp only[D.ltK]at h⊢;exact D.ltKL_asy a b h
  |_=>simp only[D.ltK,y06]at h
 |.non,b,h=>by cases b<;>simp only[D.ltK,y06]at h
 |.bl _,b,h=>by cases b<;>simp only[D.ltK,y06]at h
 |.str _,b,h=>by cases b<;>simp only[D.ltK,y06]at h
 |.lst _,b,h=>by cases b<;>simp only[D.ltK,y06]at h
theorem D.ltKL_asy:∀a b:List D,D.ltKL a b=true->D.ltKL b a=false
 |[],[],h=>by simp[D.ltKL]at h
 |[],_::_,_=>by simp[D.ltKL]
 |_::_,[],h=>by simp[D.ltKL]at h
 |d::ds,e::es,h=>by
  simp only[D.ltKL]at h⊢;by_cases q:d=e
  .subst q;rw[if_pos (D.eq_refl d)]at h⊢;exact D.ltKL_asy ds es h
  .rw[if_neg (by rw[D.neq q];decide)]at h;rw[if_neg (by rw[D.neq (y2Y q)];decide)];exact D.ltK_asy d e h
end
mutual
theorem D.ltK_an:∀a b:D,D.key a->D.key b->D.ltK a b=false->D.ltK b a=false->a=b
 |.int a,b,_,kb,h,g=>by
  cases b<;>simp only[D.key]at kb<;>simp only[D.ltK,decide_eq_false_iff_not,Bool.true_eq_false]at h g;exact y1o D.int (by lia)
 |.tup a,b,ka,kb,h,g=>by
  cases b<;>simp only[D.key]at ka kb<;>simp only[D.ltK,Bool.true_eq_false]at h g;rw[D.ltKL_an a _ ka kb h g]
 |.non,_,k,_,_,_=>by simp only[D.key]at k
 |.bl _,_,k,_,_,_=>by simp only[D.key]at k
 |.str _,_,k,_,_,_=>by simp only[D.key]at k
 |.lst _,_,k,_,_,_=>by simp only[D.key]at k
theorem D.ltKL_an:∀a b:List D,D.keyL a->D.keyL b->D.ltKL a b=false->D.ltKL b a=false->a=b
 |[],[],_,_,_,_=>rfl
 |[],_::_,_,_,h,_=>by simp[D.ltKL]at h
 |_::_,[],_,_,_,h=>by simp[D.ltKL]at h
 |d::ds,e::es,ka,kb,h,g=>by
  simp only[D.ltKL]at h g;simp only[D.keyL]at ka kb;by_cases q:d=e
  .subst q;rw[if_pos (D.eq_refl d)]at h g;rw[D.ltKL_an ds es ka.2 kb.2 h g]
  .rw[if_neg (by rw[D.neq q];decide)]at h;rw[if_neg (by rw[D.neq (y2Y q)];decide)]at g;exact absurd (D.ltK_an d e ka.1 kb.1 h g) q
end
mutual
theorem D.ltK_tr:∀a b c:D,D.ltK a b=true->D.ltK b c=true->D.ltK a c=true
 |.int a,b,c,h,g=>by
  cases b<;>simp only[D.ltK,y3k,y06]at h<;>cases c<;>simp only[D.ltK,y3k,y06]at g⊢;lia
 |.tup a,b,c,h,g=>by
  cases b<;>simp only[D.ltK,y06]at h;cases c<;>simp only[D.ltK,y06]at g⊢;exact D.ltKL_tr a _ _ h g
 |.non,b,_,h,_=>by cases b<;>simp only[D.ltK,y06]at h
 |.bl _,b,_,h,_=>by cases b<;>simp only[D.ltK,y06]at h
 |.str _,b,_,h,_=>by cases b<;>simp only[D.ltK,y06]at h
 |.lst _,b,_,h,_=>by cases b<;>simp only[D.ltK,y06]at h
theorem D.ltKL_tr:∀a b c:List D,D.ltKL a b=true->D.ltKL b c=true->D.ltKL a c=true
 |_,_,[],_,g=>by simp[D.ltKL]at g
 |_,[],_::_,h,_=>by simp[D.ltKL]at h
 |[],_::_,_::_,_,_=>by simp[D.ltKL]
 |d::ds,e::es,f::fs,h,g=>by
  simp only[D.ltKL]at h g⊢;by_cases q:d=e
  .subst q;rw[if_pos (D.eq_refl d)]at h;by_cases r:d=f
   .subst r;rw[if_pos (D.eq_refl d)]at g⊢;exact D.ltKL_tr ds es fs h g
   .rw[if_neg (by rw[D.neq r];decide)]at g⊢;exact g
  .rw[if_neg (by rw[D.neq q];decide)]at h;by_cases r:e=f
   .subst r;rw[if_neg (by rw[D.neq q];decide)];exact h
   .rw[if_neg (by rw[D.neq r];decide)]at g;have z:=D.ltK_tr d e f h g;rw[if_neg (fun w=>by rw[<-D.eq_of w]at z;rw[D.ltK_irr]at z;cases z)];exact z
end
mutual
theorem D.ltK_lt:∀a b:D,D.ok a b->D.key a->D.lt a b=D.ltK a b
 |.int a,b,o,_=>by cases b<;>simp only[D.ok]at o<;>simp only[D.lt,D.ltK]
 |.tup a,b,o,k=>by
  cases b<;>simp only[D.ok]at o<;>simp only[D.lt,D.ltK];simp only[D.key]at k;exact D.ltKL_lt a _ o k
 |.non,_,_,k=>by simp only[D.key]at k
 |.bl _,_,_,k=>by simp only[D.key]at k
 |.str _,_,_,k=>by simp only[D.key]at k
 |.lst _,_,_,k=>by simp only[D.key]at k
theorem D.ltKL_lt:∀a b:List D,D.okL a b->D.keyL a->D.ltL a b=D.ltKL a b
 |[],[],_,_=>rfl
 |[],_::_,_,_=>rfl
 |_::_,[],_,_=>rfl
 |d::ds,e::es,o,k=>by simp only[D.ltL,D.ltKL];simp only[D.okL]at o;simp only[D.keyL]at k;rw[D.ltK_lt d e o.1 k.1,D.ltKL_lt ds es o.2 k.2]
end
def D.ltK_pair(n m:Int)(d e:D):D.ltK (.tup [.int n,d]) (.tup [.int m,e])=if n=m then if D.eq d e=true then false else D.ltK d e else decide (n<m):=by
 simp only[D.ltK,D.ltKL];by_cases q:n=m
 .rw[if_pos q,if_pos (by subst q;exact D.eq_refl _)]
 .rw[if_neg q,if_neg (fun z=>q (D.int.inj (D.eq_of z)))]
abbrev DK:={ d:D // D.key d }
def DK.lt(a b:DK):Bool:=D.ltK a.1 b.1
def DK.ord:z4Q DK.lt where
 asy:=fun a b h=>D.ltK_asy a.1 b.1 h
 an:=fun a b h g=>Subtype.ext (D.ltK_an a.1 b.1 a.2 b.2 h g)
 tr:=fun a b c h g=>by
  cases e:DK.lt c a with
  |false=>rfl
  |true =>
   cases e1:DK.lt a b with
   |false =>
    have:=D.ltK_an a.1 b.1 a.2 b.2 e1 h;rw[show a=b from Subtype.ext this]at e;rw[e]at g;cases g
   |true =>
    have:=D.ltK_tr c.1 a.1 b.1 e e1;rw[show DK.lt c b=true from this]at g;cases g
noncomputable def kfH(h:Heap)(x:Keyed):DK:=open Classical in if z:∃d:DK,Hd h d.1 x.1 then z.choose else⟨.int 0,by simp only[D.key]⟩
def z3f{h:Heap}{x:Keyed}{d:D}(k:D.key d)(e:Hd h d x.1):kfH h x=⟨d,k⟩:=by have z:∃d:DK,Hd h d.1 x.1:=⟨⟨d,k⟩,e⟩;unfold kfH;rw[dif_pos z];exact Subtype.ext (Hd.inj z.choose_spec e)
section
variable{X:Cx}{pins:yyP}{s:Shared}{σ:St}{H:Hp}{prog:Program}{w:World}{A:Around}{E:yyE}
def z7R(I:Inv X pins σ H s){n:Int}{d:D}{x:V}{k:Value}(hx:Dr X.K H (.tup [.int n,d]) x)(rx:z0N x k) : ∃(a:Addr) (o:Obj) (m:Nat) (t:Tok) (y:V) (u:Value),k=.ref a/\s.heap.get? a=some o/\o.cls=.type "tuple"/\o.data=.seq #[.int n t,u] m/\Dr X.K H d y/\z0N y u:=by simp only[Dr]at hx;obtain⟨a,vs,rfl,ha,hL⟩:=hx;simp only[DrL,Dr]at hL;obtain⟨v,r,rfl,rfl,y,q,rfl,hd,rfl⟩:=hL;obtain rfl:k=.ref a:=rx;obtain⟨_,its,m,hv,e⟩:=I.hok a _ ha;obtain⟨u1,u2,rfl,⟨t,rfl⟩,ru2⟩:=zbF hv;exact⟨a,_,m,t,y,u2,rfl,e,rfl,rfl,hd,ru2⟩
def zdk(I:Inv X pins σ H s)(hu:A.units+10<cLine){n m:Int}{d e:D}{x y:V}{k l:Value}(hx:Dr X.K H (.tup [.int n,d]) x)(hy:Dr X.K H (.tup [.int m,e]) y)(rx:z0N x k)(ry:z0N y l)(o:D.ok d e)(kd:D.key d)(ke:D.key e)(h8:D.dep d<=8){Q:Bool->Shared->Prop}(h:Q (D.ltK (.tup [.int n,d]) (.tup [.int m,e])) s):wpAny (model prog w) A (keyLt' (tuples' true) k l) Q E s:=by
 obtain⟨a,oa,ma,ta,xa,ua,rfl,ga,ca,da,dra,ra⟩:=z7R I hx rx;obtain⟨b,ob,mb,tb,xb,ub,rfl,gb,cb,db,drb,rb⟩:=z7R I hy ry;rw[D.ltK_pair]at h;refine kat_lt ga da gb db (kat_cons (EqAt.int_int n ta m tb prog w _ _ (kat_go (fun q=>kat_yes (kat_cons (zas 8 A h8 (by lia) (Dr.hd I.hok kd dra ra) (Dr.hd I.hok ke drb rb) prog w _ _ (kat_go (fun q2=>kat_yes (kat_nil ?_)) fun q2=>kat_no ?_)))) fun q=>kat_no ?_)))
 .rw[if_pos (by simpa using q),if_pos q2]at h;simpa using h
 .rw[if_pos (by simpa using q),if_neg (by rw[q2];decide),<-D.ltK_lt d e o kd]at h;exact kat_one _ _ (zg8 I 8 A h8 (by lia) dra drb o kd ra rb prog w _ _ h)
 .rw[if_neg (by simpa using q)]at h;exact oneLt_int h
def z5b(I:Inv X pins σ H s)(hu:A.units+10<cLine){S:List Keyed}{sz:D->Int}(hS:∀x∈S,∃d y,Dr X.K H (.tup [.int (sz d),d]) y/\z0N y x.1/\D.key d/\D.dep d<=8)(ho:∀x∈S,∀y∈S,∀d e,Hd s.heap (.tup [.int (sz d),d]) x.1->Hd s.heap (.tup [.int (sz e),e]) y.1->D.ok d e):z8f prog w A E s (tuples' true) S (kfH s.heap) DK.lt:=by
 intro st x y Q hk hx hy h;obtain⟨d,vx,dx,rx,kx,px⟩:=hS x hx;obtain⟨e,vy,dy,ry,ky,py⟩:=hS y hy;have kx':D.key (.tup [.int (sz d),d]):=by simp only[D.key,D.keyL];exact⟨trivial,kx,trivial⟩
 have ky':D.key (.tup [.int (sz e),e]):=by simp only[D.key,D.keyL];exact⟨trivial,ky,trivial⟩
 have gx:=Dr.hd I.hok kx' dx rx;have gy:=Dr.hd I.hok ky' dy ry;rw[z3f kx' gx,z3f ky' gy]at h;rw[lt'_eq];refine y0n (y3R ?_);rw[hk];refine y0n (wpS_lift (y2U (zdk I hu dx dy rx ry (ho x hx y hy d e gx gy) kx ky px ?_)));exact⟨rfl,y0v h⟩
def z5g(I:Inv X pins σ H s){ks:List Value}(h2:0<ks.length)(hS:∀k∈ks,∃n d y,Dr X.K H (.tup [.int n,d]) y/\z0N y k){Q:SortKind->Shared->Prop}(h:Q (tuples' true) s):wpAny (model prog w) A (keyKind' ks.toArray) Q E s:=by
 have key:∀l:List Value,(∀k∈l,∃n d y,Dr X.K H (.tup [.int n,d]) y/\z0N y k)->∃fs:List Value,KatTups s.heap l fs/\fs.length=l.length/\∀v∈fs,∃n t,v=.int n t:=by
  intro l;induction l with
  |nil=>intro _;exact⟨[],.nil,rfl,by simp⟩
  |cons k l ih =>
   intro q;obtain⟨n,d,y,dr,r⟩:=q k y0p;obtain⟨a,o,m,t,x,u,rfl,g,c,da,_⟩:=z7R I dr r;obtain⟨fs,h1,h2,h3⟩:=ih fun k hk=>q k (y0e _ hk);refine⟨.int n t::fs,.cons g c da rfl h1,by simp[h2],fun v hv=>?_⟩;rcases y0u.mp hv with z|z
   .exact⟨n,t,z⟩
   .exact h3 v z
 obtain⟨fs,a1,a2,a3⟩:=key ks hS;refine kat_kind a1 (by lia) (T:=.type "int") (fun v hv=>?_) rfl h;obtain⟨n,t,rfl⟩:=a3 v hv;exact .now
end
open PySem PySem.Spec PyProof.Rows PySem.SeqAt PySem.W
abbrev prD(sz:D->Int)(d:D):D:=.tup [.int (sz d),d]
def zec(K:yyF)(ds:List D)(sz:D->Int):List V->Hp->VK->Prop:=fun vs H Q=>∃x d,vs=[x]/\d∈ds/\Dr K H d x/\∀v H',z0d H H'->Dr K H' (prD sz d) v->Q v H'
def Inv.adopt{X:Cx}{pins:yyP}{σ:St}{H:Hp}{s:Shared}{p:Addr}{o:HO}{h':Heap}{t':Nat}(I:Inv X pins σ H s)(k:∀b u,b≠p->s.heap.get? b=some u->h'.get? b=some u)(hf:z53 X pins H p)(new:z19 X.prog X.w (upd H p o) h' p o):Inv X pins σ (upd H p o) { s with heap:=h',toks:=t' }:=by
 obtain⟨hn,f1,f2,f3,f4,f5⟩:=hf;have k':∀b u,b∉[p]->s.heap.get? b=some u->h'.get? b=some u:=fun b u hb=>k b u (fun z=>hb (by simp[z]));have nc:∀b u,H b=some u->b∉[p]:=fun b u e z=>by rw[y0c.mp z,hn]at e;cases e
 have ne:∀b u,H b=some u->b≠p:=fun b u e z=>by rw[z,hn]at e;cases e
 refine I.step (g':=s.gens) (d':=s.drawn) (ch:=[p]) (fun b hb=>?_) (fun b u _ _ hc e _=>k' b u hc e) (fun b u _ _ hc e _=>⟨u.slots,k' b u hc e⟩) (fun b u hc _ n=>by rw[z06 (fun z=>hc (by simp[z]))];exact n) (fun b u hc e=>⟨u,k' b u hc e⟩)
  (fun b xs e=>by rw[z06 (ne _ _ e)];exact e) (fun b u xs e=>by rw[z06 (ne _ _ e)];exact e) (fun b ps e=>⟨#[],by rw[z06 (ne _ _ e),e];simp⟩) (fun m hm=>?_) (fun b u e=>?_) I.bare
 .rw[y0c.mp hb];exact⟨f3,f1,f4,f5⟩
 .obtain⟨ob,es,ep,ho,r⟩:=hm;exact⟨ob,es,ep,k _ ob (y2Y f1) ho,r⟩
 .by_cases hb:b=p
  .subst hb;rw[z03]at e;cases e;exact new
  .rw[z06 hb]at e;refine(I.hok b u e).stay (fun c v hc q=>k' c v ?_ q) (fun c q=>by rw[z06 (ne _ _ q)];exact q) fun c xs q=>by rw[z06 (ne _ _ q)];exact q
   rcases hc with z|z
   .rw[z];exact nc b u e
   .exact nc c _ z
def z53.un{X:Cx}{pins:yyP}{H H':Hp}{b:Addr}(h:z53 X pins H b)(n:H' b=none):z53 X pins H' b:=⟨n,h.2⟩
theorem DrL.map{K:yyF}{H:Hp}{α:Type}(f:α->D)(g:α->V):∀l:List α,(∀x∈l,Dr K H (f x) (g x))->DrL K H (l.map f) (l.map g)
 |[],_=>by simp only[y0T,DrL]
 |x::l,h=>by simp only[y0k,DrL];exact⟨g x,l.map g,rfl,h x y0p,DrL.map f g l fun y hy=>h y (y0e _ hy)⟩
def z8H{l:List D}(h:∀d∈l,D.key d):D.keyL l:=by
 induction l with
 |nil=>simp only[D.keyL]
 |cons d l ih =>
  simp only[D.keyL];exact⟨h d y0p,ih fun e he=>h e (y0e _ he)⟩
noncomputable def unK(h:Heap)(x:Keyed):D × Addr:=(match (kfH h x).1 with|.tup [_,d]=>d|_=>.non,match x.2 with|.ref a=>a|_=>0)
def z68{α:Type}(f:α->V)(g:α->Value)(l:List α)(h:∀x,z0N (f x) (g x)):z0O (l.map f) (l.map g):=by
 induction l with
 |nil=>exact .nil
 |cons x l ih=>exact .cons (h x) ih
section
variable{X:Cx}{CX:CXT}{k:Nat}{pins:yyP}{s:Shared}{σ:St}{H:Hp}{p fa:Addr}{sz:D->Int}{E:yyE}
def z9T[N:NoE CX]{A:Around}{a:Addr}{qs:List (D × Addr)}{n:Nat}{P:PySem.Fin->Shared->Prop}(I:Inv X pins σ H s)(hr:z2q k A)(hEA:∀s' H',z9C X.prog X.w X.K X.mg X.base X.A X.stack s' H'->z9C X.prog X.w X.K X.mg X.base A X.stack s' H')(ho:s.heap.get? a=some (seqObj "list" (qs.map fun q=>Value.ref q.2).toArray n))(hfp:z53 X pins H a)(hz:qs.length<=sizeLine)(hq:∀q∈qs,D.key q.1/\D.dep q.1<=8/\Dr X.K H q.1 (.ref q.2))(hok:∀q∈qs,∀r∈qs,D.ok q.1 r.1)(hf:z33 X.prog X.w X.K X.mg X.base CX k H fa (zec X.K (qs.map (·.1)) sz))(h:∀(rs:List (D × Addr)) (H':Hp) (s':Shared),rs.Perm qs->rs.Pairwise (fun x y=>D.ltK (prD sz y.1) (prD sz x.1)=false)->z0d H H'->H' a=none->Inv X pins σ (upd H' a (.lst (rs.map fun q=>.ref q.2))) s'->P (.done (.ret .none)) s') : wpAny (model X.prog X.w) A (ksk_tree a (.ref fa) false) P E s:=by
 have hu:A.units+10<cLine:=by have:=hr.un;lia
 have hvl:(qs.map fun q=>Value.ref q.2).length=qs.length:=y01 ..;have ha:a<s.heap.objs.size:=y0j ho;have s1:=y0Q s.heap a (Obj.mapSeq fun _=>(#[]:Array Value));obtain⟨e1,ho1⟩:∃e1,(s.heap.update a (Obj.mapSeq fun _=>(#[]:Array Value))).get? a=some (seqObj "list" #[] e1):=⟨_,get?_update_seq ho fun _=>#[]⟩;have I1:Inv X pins σ H { s with heap:=s.heap.update a (Obj.mapSeq fun _=>(#[]:Array Value)) }:=I.turnedL (ch:=[a]) (t':=s.toks) (fun b u hb e=>s1.extBut b u (fun z=>hb (by simp[z])) e) fun b hb=>by rw[y0c.mp hb];exact hfp
 unfold ksk_tree;refine y02 (listItems_at ho rfl ?_);refine y02 (y2V ho rfl ?_ (by rw[y0r,hvl];exact hz) (y0B _));refine y02 (seqEpoch_at ho1 rfl ?_);refine y02 (wpAny_newTuple ?_ (by rw[hvl];exact hz));refine y02 (wpAny_newList ?_ (y0B _));refine y1t ?_;show wpAny _ _ (ksk_rest a (.ref fa) false (qs.map fun q=>Value.ref q.2).toArray e1 (.ref ((s.heap.update a (Obj.mapSeq fun _=>(#[]:Array Value))).push (seqObj "tuple" (qs.map fun q=>Value.ref q.2).toArray 0)).objs.size)) P E
  { s with heap:=((s.heap.update a (Obj.mapSeq fun _=>(#[]:Array Value))).push (seqObj "tuple" (qs.map fun q=>Value.ref q.2).toArray 0)).push (seqObj "list" #[] 0) }
 have I2:=I1.kept (t':=s.toks) (h':=(s.heap.update a (Obj.mapSeq fun _=>(#[]:Array Value))).push (seqObj "tuple" (qs.map fun q=>Value.ref q.2).toArray 0)) fun b o e=>y05 _ e;have ho2:=y05 (seqObj "tuple" (qs.map fun q=>Value.ref q.2).toArray 0) ho1;generalize(s.heap.update a (Obj.mapSeq fun _=>(#[]:Array Value))).push (seqObj "tuple" (qs.map fun q=>Value.ref q.2).toArray 0)=h2 at I2 ho2⊢;have hna:a≠h2.objs.size:=y0y (y0j ho2);have I3:=I2.lnew (t':=s.toks) (ys:=[]) (its:=[]) .nil (y0B _);have hfr:H h2.objs.size=none:=I2.fresh;have I4:Inv X (pins++[(a,seqObj "list" #[] e1)]) σ (upd H h2.objs.size (.lst [])) { s with heap:=h2.push (seqObj "list" #[] 0) }:=I3.pins_of fun q hq=>by
  rcases y0g.mp hq with z|z
  .exact I3.pin q (y0z _ z)
  .rw[y0c.mp z];exact⟨y05 _ ho2,by show upd H _ _ a=none;rw[z06 hna];exact hfp.1,hfp.2.1,hfp.2.2.1,fun v z=>by cases z⟩
 have hfp4:z53 X pins (upd H h2.objs.size (.lst [])) a:=hfp.un (by rw[z06 hna];exact hfp.1);generalize h2.objs.size=kS at I4 hna hfr hfp4⊢;generalize({ s with heap:=h2.push (seqObj "list" #[] 0) }:Shared)=s4 at I4⊢;have sm:∀{H':Hp},(∀b o,b≠kS->H b=some o->H' b=some o)->z0d H H':=fun f b o e=>f b o (fun z=>by rw[z,hfr]at e;cases e) e;have up:∀{H':Hp}{ws:List V}{o:HO},H' kS=some (.lst ws)->∀b xs,H' b=some (.tup xs)->upd H' kS o b=some (.tup xs):=fun e b xs q=>by rw[z06 (fun z=>by rw[z,e]at q;cases q)];exact q
 have kp:∀q∈qs,D.key (prD sz q.1):=fun q hqm=>by simp only[prD,D.key,D.keyL];exact⟨trivial,(hq q hqm).1,trivial⟩
 unfold ksk_rest;refine y02 (y2R ?_);first
  |rw[List.forIn_toArray]
  | (rw[<-y2E];simp only[List.toList_toArray])
 refine y02 (ksk_fold (fun i s'=>∃(H':Hp) (ws:List V),Inv X (pins++[(a,seqObj "list" #[] e1)]) σ H' s'/\z0d H H'/\H' kS=some (.lst ws)/\DrL X.K H' ((qs.take i).map fun q=>prD sz q.1) ws) _ 0 s4
  ⟨_,[],I4,sm fun b o hb e=>by rw[z06 hb];exact e,z03,by simp only[List.take_zero,y0T,DrL]⟩ ?tgd ?tge)
 case tgd =>
  rintro j x s' hx ⟨H',ws,I',sm',hkS,hw⟩;simp only[y1G]at hw⊢;rw[y04]at hx;obtain⟨q,hqj,rfl⟩:=y1x.mp hx;have hqm:q∈qs:=y0D hqj;obtain⟨k1,k2,k3⟩:=hq q hqm;refine y02 (y2U ?_);refine wpAny_call (y2r (hf.2 H' sm' A X.stack s' [.ref q.2] [.ref q.2] (fun v H2=>z0d H' H2/\Dr X.K H2 (prD sz q.1) v) hr (hEA _ _ I'.env0) (.cons rfl .nil) ⟨_,q.1,rfl,y0f.mpr ⟨q,hqm,rfl⟩,k3.mono sm',fun v H2 a b=>⟨a,b⟩⟩) fun r s2 hq2=>?_);cases r with
  |error e=>exact absurd hq2 N.no
  |ok fl =>
   cases fl with
   |next=>exact False.elim hq2
   |brk=>exact False.elim hq2
   |cont=>exact False.elim hq2
   |ret u =>
    obtain⟨v,H2,I2',rv,sm2,dv⟩:=I'.after hq2;have hk2:H2 kS=some (.lst ws):=sm2 _ _ hkS;obtain⟨_,its,m,hv,hl,ek⟩:=I2'.lstM hk2;have hj:j<qs.length:=(y0a.mp hqj).1;have hwl:ws.length=j:=by have:=hw.length;rw[y01,y0w]at this;lia
    have hw1:(ws++[v]).length<=sizeLine:=by rw[y09,y3t];lia
    have et:qs.take (j+1)=qs.take j++[q]:=by rw[y0G,hqj];rfl
    refine y02 (y2V ek rfl ?_ (by rw[y0r];lia) (by rw[y1Z,y0r];lia));refine y08 ⟨rfl,_,ws++[v],I2'.lset (t':=s2.toks) (its':=its++[u]) hk2 ek (by simp) (Paired.snoc hv rv) hw1,sm fun b o hb e=>by rw[z06 hb];exact sm2 _ _ (sm' _ _ e),z03,?_⟩;rw[et,y0i,List.map_singleton];refine DrL.append ?_ (DrL.one ?_)
    .exact(hw.mono sm2).keyed (up hk2) (z8H fun d hd=>by obtain⟨q',hq',rfl⟩:=y0f.mp hd;exact kp q' (y0U hq'))
    .exact dv.keyed (up hk2) (kp q hqm)
 case tge =>
  rintro s' ⟨H',ws,I',sm',hkS,hw⟩;rw[y1G,hvl,y1j]at hw;obtain⟨_,its,m,hv,hl,ek⟩:=I'.lstM hkS;have hwl:ws.length=qs.length:=by have:=hw.length;rw[y01]at this;lia
  refine y02 (listItems_at ek rfl ?_);have ga:s'.heap.get? a=some (seqObj "list" #[] e1):=(I'.pin (a,seqObj "list" #[] e1) (by simp)).1;have at_:∀(i:Nat)(q:D × Addr),qs[i]?=some q->∃y u,its[i]?=some u/\Dr X.K H' (prD sz q.1) y/\z0N y u:=fun i q hi=>by obtain⟨y,hy,dy⟩:=hw.get (i:=i) (d:=prD sz q.1) (by rw[y04,hi];rfl);obtain⟨u,hu',ru⟩:=hv.get hy;exact⟨y,u,hu',dy,ru⟩
  have mem:∀x∈its.zip (qs.map fun q=>Value.ref q.2),∃q y,q∈qs/\x.2=.ref q.2/\Dr X.K H' (prD sz q.1) y/\z0N y x.1:=fun x hx=>by obtain⟨i,hi⟩:=y25 hx;obtain⟨x1,x2⟩:=x;rw[y0V,y04]at hi;obtain⟨q,hq',e⟩:=y1x.mp hi.2;obtain⟨y,u,eu,dy,ru⟩:=at_ i q hq';rw[hi.1]at eu;cases eu;exact⟨q,y,y0D hq',e.symm,dy,ru⟩
  have hdm:∀{q:D × Addr}{y:V}{u:Value},q∈qs->Dr X.K H' (prD sz q.1) y->z0N y u->Hd s'.heap (prD sz q.1) u:=fun hqm dy ru=>Dr.hd I'.hok (kp _ hqm) dy ru;have gq:∀x∈its.zip (qs.map fun q=>Value.ref q.2),∀q,q∈qs->x.2=.ref q.2->Hd s'.heap (prD sz q.1) x.1->unK s'.heap x=q:=fun x _ q hqm e hd=>by unfold unK;rw[z3f (kp q hqm) hd,e]
  refine z9s (kf:=kfH s'.heap) (lt:=DK.lt) (kd:=tuples' true) DK.ord ga ek (y2Y hna) (by rw[hvl];lia) (by rw[hvl];exact hz) (fun h2=>z5g I' (by rw[hvl]at h2;lia) (fun u hu'=>?_) ⟨rfl,rfl⟩) (z5b (sz:=sz) I' hu (fun x hx=>?_) fun x hx y hy d e hd he=>?_) fun xs hp hs=>?_
  .obtain⟨i,hi⟩:=y25 hu';have hil:i<qs.length:=by have:=(y0a.mp hi).1;lia
   obtain⟨y,u',e,dy,ru⟩:=at_ i qs[i] (y00 hil);rw[hi]at e;cases e;exact⟨_,_,y,dy,ru⟩
  .obtain⟨q,y,hqm,_,dy,ru⟩:=mem x hx;exact⟨q.1,y,dy,ru,(hq q hqm).1,(hq q hqm).2.1⟩
  .obtain⟨q,vx,hqm,_,dx,rx⟩:=mem x hx;obtain⟨r,vy,hrm,_,dy,ry⟩:=mem y hy;have z1:=Hd.inj hd (hdm hqm dx rx);have z2:=Hd.inj he (hdm hrm dy ry);injection z1 with z1;injection z2 with z2;simp only[y3d,and_true]at z1 z2;rw[z1.2,z2.2];exact hok q hqm r hrm
  .have mx:∀x∈xs,∃q,q∈qs/\x.2=.ref q.2/\Hd s'.heap (prD sz q.1) x.1/\unK s'.heap x=q:=fun x hx=>by
    have hx':=hp.mem_iff.mp hx;obtain⟨q,y,hqm,e,dy,ry⟩:=mem x hx';exact⟨q,hqm,e,hdm hqm dy ry,gq x hx' q hqm e (hdm hqm dy ry)⟩
   have ez:(its.zip (qs.map fun q=>Value.ref q.2)).map (unK s'.heap)=qs:=by
    refine y1H fun i=>?_;rw[y04];by_cases hi:i<qs.length
    .obtain⟨y,u,e,dy,ru⟩:=at_ i qs[i] (y00 hi);have ez':(its.zip (qs.map fun q=>Value.ref q.2))[i]?=some (u,.ref qs[i].2):=by
      rw[y0V,y04,y00 hi];exact⟨e,rfl⟩
     rw[ez',y00 hi,y3M,gq _ (y0D ez') qs[i] (y0l hi) rfl (hdm (y0l hi) dy ru)]
    .rw[y0A (l:=qs) (by lia),y0A (by rw[y2p,y01];lia)];rfl
   have ev:xs.map (·.2)=(xs.map (unK s'.heap)).map fun q=>Value.ref q.2:=by rw[y0I];refine y0L fun x hx=>?_;obtain⟨q,_,e,_,g⟩:=mx x hx;rw[Function.comp,g];exact e
   have hpr:(xs.map (unK s'.heap)).Perm qs:=by have:=hp.map (unK s'.heap);rwa [ez]at this
   have J:=(I'.pins_of (pins':=pins) fun q hq=>I'.pin q (y0z _ (y0m _ hq))).lset (t':=s'.toks) (f:=fun _=>#[]) (its':=[]) (ys:=[]) hkS ek rfl .nil (y0B _);have hHa:upd H' kS (.lst []) a=none:=by rw[z06 hna];exact(I'.pin (a,seqObj "list" #[] e1) (by simp)).2.1
   have s5:=y0Q s'.heap kS (Obj.mapSeq fun _=>(#[]:Array Value));have na5:=(s5.2 a hna).trans ga;obtain⟨e5,g5⟩:∃e5,((s'.heap.update kS (Obj.mapSeq fun _=>(#[]:Array Value))).update a (Obj.mapSeq fun _=>(xs.map (·.2)).toArray)).get? a=some (seqObj "list" (xs.map (·.2)).toArray e5):=⟨_,get?_update_seq na5 fun _=>_⟩;have s6:=y0Q (s'.heap.update kS (Obj.mapSeq fun _=>(#[]:Array Value))) a (Obj.mapSeq fun _=>(xs.map (·.2)).toArray);refine h (xs.map (unK s'.heap)) (upd H' kS (.lst [])) _ hpr ?_ (sm fun b o hb e=>by rw[z06 hb];exact sm' _ _ e) hHa
    (J.adopt (p:=a) (o:=.lst ((xs.map (unK s'.heap)).map fun q=>.ref q.2)) (t':=s'.toks) (fun b u hb e=>s6.extBut b u hb e) (hfp.un hHa) ⟨by rw[y01,hpr.length_eq];exact hz,xs.map (·.2),e5,?_,g5⟩)
   .refine y1E.mpr (y37 ?_ hs);intro x y hx hy z;obtain⟨q,hqm,_,hd,g⟩:=mx x hx;obtain⟨r,hrm,_,he,g'⟩:=mx y hy;rw[z3f (kp q hqm) hd,z3f (kp r hrm) he]at z;rw[g,g'];exact z
   .rw[ev,y0I,y0I];exact z68 _ _ _ fun x=>rfl
def z9e[N:NoE CX]{kvs:List (D × V)}{Q:VK}(I:Inv X pins σ H s)(hc:X.calm=true)(hr:z2q (k+2) X.A)(hD:DD X.prog X.w X.K H p kvs)(hf:z33 X.prog X.w X.K X.mg X.base CX k H fa (zec X.K (kvs.map (·.1)) sz))(hok:∀d∈kvs.map (·.1),∀e∈kvs.map (·.1),D.ok d e)(h:∀(xs:List D) (H':Hp) (l:Addr) (vs:List V),xs.Perm (kvs.map (·.1))->xs.Pairwise (fun a b=>D.ltK (prD sz b) (prD sz a)=false)->z0d H H'->H' l=none->DrL X.K H' xs vs->Q (.ref l) (upd H' l (.lst vs))) : wpAny (model X.prog X.w) X.A (call (.builtin "sorted") [.ref p] [(Str.ofString "key",.ref fa)]) (EP X pins σ Q) E s:=by
 obtain⟨xs,hp,kr,nd,hz⟩:=hD;obtain⟨⟨lo,o,es,ep,ho,hex,hda,hes⟩,_,_⟩:=I.hok p _ hp;have hxl:xs.length=kvs.length:=kr.length.symm;have hraw:z9D s.heap p (xs.map fun q=>.ref q.2.1) ep:=⟨o,es,ho,hex,hda,by rw[hes,y0I];rfl⟩;refine call_function_entry_kw kind_sorted plain_sorted entry_sorted (ksk_s1 _ _) ?_;unfold Builtin.«sorted»;refine y02 (m:=checkCount "sorted" 1 1 _) (y08 ?_);refine y02 (z7U (zfu lo) (I.ok.hd hc) hraw (by rw[y01,hxl];exact hz) fun h1 tk acc hk hacc=>?_);have ea:acc.toList=(xs.map fun q=>(q.1,q.2.1)).map fun q=>Value.ref q.2:=by
  rw[y0I];refine y1H fun i=>?_;by_cases hi:i<acc.size
  .rw[y0o,y03 hi];exact(hacc.2 i _ (y03 hi)).symm
  .rw[y0A (by rw[y0s];lia),y0A (by have:=hacc.1;rw[y01]at this⊢;lia)]
 rw[ea];have hql:(xs.map fun q=>(q.1,q.2.1)).length=kvs.length:=by rw[y01];exact hxl
 have hq:∀q∈(xs.map fun q=>(q.1,q.2.1)),(D.key q.1/\D.dep q.1<=8/\Dr X.K H q.1 (.ref q.2)):=fun q hq=>by
  obtain⟨r,hr,rfl⟩:=y0f.mp hq;obtain⟨i,hi⟩:=y25 hr;have hil:i<kvs.length:=by rw[<-hxl];exact(y0a.mp hi).1
  have z:=z7b kr (y00 hil) hi;rw[<-z.1];exact z.2.1
 have ek:(xs.map fun q=>(q.1,q.2.1)).map (·.1)=kvs.map (·.1):=by rw[y0I,kr.keys];rfl
 generalize xs.map (fun q=>(q.1,q.2.1))=qs at hql hq ek⊢;refine y02 (wpAny_newList ?_ (by rw[y01,hql];exact hz));have I1:Inv X pins σ H { s with heap:=h1,toks:=tk }:=I.kept (t':=tk) hk;have I2:Inv X pins σ H { s with heap:=h1.push (seqObj "list" (qs.map fun q=>Value.ref q.2).toArray 0),toks:=tk }:=I1.kept (t':=tk) fun b o e=>y05 _ e;have hoL:(h1.push (seqObj "list" (qs.map fun q=>Value.ref q.2).toArray 0)).get? h1.objs.size=some (seqObj "list" (qs.map fun q=>Value.ref q.2).toArray 0):=y0h _ rfl;show wpAny _ _ _ _ _ { s with heap:=h1.push (seqObj "list" (qs.map fun q=>Value.ref q.2).toArray 0),toks:=tk };refine y02 (y1t (wpAny_call_entry_kw slot_list_sort ⟨_,hoL,rfl⟩ entry_list_sort ?tgf (ksk_l1 _ _)));case tgf =>
  show wpAny (model X.prog X.w) X.A.in1.in1 (Builtin.«list.sort» ⟨[.ref h1.objs.size],[(Str.ofString "key",.ref fa)]⟩) _ _ _;rw[ksk_t1];refine z9T (CX:=CX) (sz:=sz) (qs:=qs) I2 hr.in1.in1 (fun _ _ e=>e.in1.in1) hoL (I1.fpOk (y0d _) I1.fresh) (by lia) hq (fun q hqm r hrm=>hok _ (by rw[<-ek];exact List.mem_map_of_mem hqm) _ (by rw[<-ek];exact List.mem_map_of_mem hrm)) (by rw[ek];exact hf) fun rs H' s' a1 a2 a3 a4 a5=>⟨_,rfl,?_⟩;refine y08 ⟨_,rfl,.ref h1.objs.size,_,a5,rfl,h (rs.map (·.1)) H' _ _ (by rw[<-ek];exact a1.map _) (y1E.mpr a2) a3 a4 (DrL.map _ _ rs fun q hqm=>(hq q (a1.mem_iff.mp hqm)).2.2.mono a3)⟩
end
open PySem PySem.Spec PyProof.Rows PySem.SeqAt PySem.W
theorem DD.monoL{P:Program}{w:World}{K:yyF}{H H':Hp}{a:Addr}{kvs:List (D × V)}{Ts:List Tb}(h:DD P w K H a kvs)(s:SameL Ts H H'):DD P w K H' a kvs:=by obtain⟨xs,e,r,n,z⟩:=h;exact⟨xs,s.at_ _ _ (fun _ z=>by cases z) e,r.mono fun _ _ _ q=>q.monoL s,n,z⟩
def zd5(P:Program)(w:World)(K:yyF)(mg:yyS)(base:Heap)(CX:CXT)(k:Nat)(Ts:List Tb)(params:Arguments)(body:Expr)(lsc:Scope)(qual:Str)(N:List Str)(sz:D->Int)(Q:VK)(v:V)(H1:Hp):Prop :=
 ∃(p:Addr)(kvs:List (D × V)),v=.ref p/\DD P w K H1 p kvs/\z65 Ts H1/\(∀d∈kvs.map (·.1),∀e∈kvs.map (·.1),D.ok d e)/\∀(fa:Addr)(H2:Hp),SameL Ts H1 H2->z5N H2 fa params body lsc qual N (N.map fun _=>none) ->
  z33 P w K mg base CX k H2 fa (zec K (kvs.map (·.1)) sz)/\∀(xs:List D)(H3:Hp)(l:Addr)(vs:List V),xs.Perm (kvs.map (·.1))->xs.Pairwise (fun a b=>D.ltK (prD sz b) (prD sz a)=false)->z0d H2 H3->H3 l=none->DrL K H3 xs vs->Q (.ref l) (upd H3 l (.lst vs))
def zf2(P:Program)(w:World)(K:yyF)(mg:yyS)(base:Heap)(CX:CXT)(k:Nat)(Ts:List Tb)(params:Arguments)(body:Expr)(lsc:Scope)(qual:Str)(N:List Str)(sz:D->Int)(t0:TE):TE:=fun σ H Q=>t0 σ H (zd5 P w K mg base CX k Ts params body lsc qual N sz Q)
section
variable{X:Cx}{CX:CXT}{k:Nat}{N:List Str}{ix:List (Option Nat)}{params:Arguments}{body:Expr}{lsc:Scope}{lpos:Pos}{c:Addr}{T:Tb}{Ts:List Tb}{p pos kp:Pos}{e0:Expr}{t0:TE}{sz:D->Int}
def zcB[NE:NoE CX](hc:X.calm=true)(hr:z2q (k+2) X.A)(hg:Gl X "sorted")(hm:X.mg "sorted"=none)(h0:PE X e0 t0)(m0:∀σ H (Q Q':VK),(∀v H1,Q v H1->Q' v H1)->t0 σ H Q->t0 σ H Q')(S:z1a X.N X.env.scope N ix lsc)(hcode:X.env.code=.ref c)(hC:PySem.W.CodeHd X.base c T.at_)(hB:z4t X.base X.mg)(hT:T∈Ts)(hTn:∀T'∈Ts,T'.at_=T.at_->T'=T)(hTp:T.pos=lpos)(hTq:T.qual=X.env.qual++"<lambda>")(hnf:∀y∈lsc.names,y.2≠.free)(hdef:defaultsOf params X.env=([],[]):=by rfl)(he:starEach [e0] X.env=(false,eval e0 X.env)::starEach [] X.env:=by rfl)(he':backTo pos (starEach [e0] X.env)=(false,eval e0 X.env)::backTo pos (starEach [] X.env):=by rfl)(hpl:(backTo pos (starEach [e0] X.env)).any (·.1)=false:=by rfl)  : PE X (.Call (.Name "sorted" p) [e0] [⟨some "key",.Lambda params body lsc lpos,kp⟩] pos) (zf2 X.prog X.w X.K X.mg X.base CX k Ts params body lsc T.qual N sz t0):=by
 intro pins s σ H Q I h;refine y2f (z4V I hg hm (u:=.builtin "sorted") (by rfl) ?_);refine callWith_kw (kws:=[⟨some "key",.Lambda params body lsc lpos,kp⟩]) ?_ he' hpl rfl rfl;refine thn (z02 h0 z05 he pos pins s σ H (fun vs H1=>∃v,vs=[v]/\zd5 X.prog X.w X.K X.mg X.base CX k Ts params body lsc T.qual N sz Q v H1) I (m0 σ H _ _ (fun v H1 q=>⟨v,rfl,q⟩) h)) fun us s1 hz8=>?_;obtain⟨vs,H1,I1,r,v,ev,a,kvs,ea,dd,tb,hok,q⟩:=hz8;subst ev ea;obtain⟨u,rfl,ru⟩:=z3U r;cases ru;refine kws_cons (thn (zd3 S hcode hC hB hT hTn hTp hTq hdef pins s1 σ H1 (fun v H2=>∃fa,v=.ref fa/\z7D Ts H1 H2 fa (z0y X.env.cells lsc.names []) params body lsc T.qual) I1 ⟨tb,fun fa H' made=>⟨fa,rfl,made⟩⟩) fun u s2 ⟨v,H2,I2,r2,fa,ef,mfr,mtb,pm,c',ctv,oc,vsc,t,m1,m2,m3,m4⟩=>kws_nil ?_);subst ef;cases r2;have sl:SameL Ts H1 H2:=⟨mfr,fun _=>mtb⟩;have no:∀x c,(z0y X.env.cells lsc.names []).lookup x=some c->False:=fun x c e=>by have:=z2D (cells:=X.env.cells) lsc.names [] x fun z=>hnf _ z rfl;rw[e]at this;cases this
 have C:z5N H2 fa params body lsc T.qual N (N.map fun _=>none):=by
  refine⟨z0y X.env.cells lsc.names [],[],pm,c',ctv,oc,vsc,t,m1,m2,m3,m4,fun x y c e=>(no x c e).elim,fun x c e=>(no x c e).elim,fun c hc=>absurd hc (by simp),fun x hx=>absurd rfl (hnf _ (y12 hx)),fun i x v _ e=>?_⟩;rw[y04]at e;cases z:N[i]? with
  |none=>rw[z]at e;cases e
  |some y=>rw[z]at e;cases e
 obtain⟨cv,q2⟩:=q fa H2 sl C;exact z9e (CX:=CX) I2 hc hr (dd.monoL sl) cv hok q2
end
open PySem PySem.Spec PyProof.Rows PySem.SeqAt PySem.W
section
variable{X:Cx}(K:yyF)
end
section
variable{X:Cx}{pins:yyP}{s:Shared}{σ:St}{H:Hp}{sz:D->Int}{E:yyE}
def z9w{A:Around}{a:Addr}{ds:List D}{vs:List V}{us:List Value}{n:Nat}{P:PySem.Fin->Shared->Prop}(I:Inv X pins σ H s)(hu:A.units+10<cLine)(ho:s.heap.get? a=some (seqObj "list" us.toArray n))(hfp:z53 X pins H a)(hz:us.length<=sizeLine)(hv:z0O vs us)(hd:DrL X.K H (ds.map (prD sz)) vs)(hq:∀d∈ds,D.key d/\D.dep d<=8)(hok:∀d∈ds,∀e∈ds,D.ok d e)(h:∀(rs:List D) (vs':List V) (s':Shared),rs.Perm ds->rs.Pairwise (fun x y=>D.ltK (prD sz y) (prD sz x)=false)->DrL X.K H (rs.map (prD sz)) vs'->Inv X pins σ (upd H a (.lst vs')) s'->P (.done (.ret .none)) s') : wpAny (model X.prog X.w) A (Builtin.«list.sort» ⟨[.ref a],[]⟩) P E s:=by
 have ha:a<s.heap.objs.size:=y0j ho;have s1:=y0Q s.heap a (Obj.mapSeq fun _=>(#[]:Array Value));have I0:Inv X pins σ H { s with heap:=z0A s.heap a us }:=I.turnedL (ch:=[a]) (t':=s.toks) (fun b u hb e=>y05 _ (y05 _ (s1.extBut b u (fun z=>hb (by simp[z])) e))) fun b hb=>by rw[y0c.mp hb];exact hfp
 have kp:∀d∈ds,D.key (prD sz d):=fun d hm=>by simp only[prD,D.key,D.keyL];exact⟨trivial,(hq d hm).1,trivial⟩
 have l1:=hd.length;have l2:=hv.length;rw[y01]at l1;have at_:∀(i:Nat)(d:D),ds[i]?=some d->∃b,us[i]?=some (.ref b)/\Dr X.K H (prD sz d) (.ref b):=fun i d hi=>by
  obtain⟨y,hy,dy⟩:=hd.get (i:=i) (d:=prD sz d) (by rw[y04,hi];rfl);obtain⟨u,hu',ru⟩:=hv.get hy;obtain⟨b,vs,e,r⟩:∃(a:Addr)(vs:List V),y=.ref a/\H a=some (.tup vs)/\DrL X.K H [.int (sz d),d] vs:=by simpa only[prD,Dr]using dy
  subst e;cases ru;exact⟨b,hu',dy⟩
 have mem:∀x∈us.zip us,∃d b,d∈ds/\x=(.ref b,.ref b)/\Dr X.K H (prD sz d) (.ref b):=fun x hx=>by
  obtain⟨i,hi⟩:=y25 hx;obtain⟨x1,x2⟩:=x;rw[y0V]at hi;have hil:i<ds.length:=by have:=(y0a.mp hi.1).1;lia
  obtain⟨b,eb,db⟩:=at_ i ds[i] (y00 hil);refine⟨ds[i],b,y0l hil,?_,db⟩;rw[eb]at hi;exact y31 (y0b hi.1).symm (y0b hi.2).symm
 have hdm:∀{d:D}{b:Addr},d∈ds->Dr X.K H (prD sz d) (.ref b)->Hd (z0A s.heap a us) (prD sz d) (.ref b):=fun hm dy=>Dr.hd I0.hok (kp _ hm) dy rfl;refine z7H (kf:=kfH (z0A s.heap a us)) (lt:=DK.lt) (kd:=tuples' true) DK.ord ho hz (fun h2=>z5g I0 (by lia) (fun u hu'=>?_) ⟨rfl,rfl⟩) (z5b (sz:=sz) I0 hu (fun x hx=>?_) fun x hx y hy d e hd he=>?_) fun xs hp hs=>?_
 .obtain⟨i,hi⟩:=y25 hu';have hil:i<ds.length:=by have:=(y0a.mp hi).1;lia
  obtain⟨b,e,db⟩:=at_ i ds[i] (y00 hil);rw[hi]at e;cases e;exact⟨_,_,_,db,rfl⟩
 .obtain⟨d,b,hm,rfl,db⟩:=mem x hx;exact⟨d,_,db,rfl,hq d hm⟩
 .obtain⟨d',b,hm,rfl,db⟩:=mem x hx;obtain⟨e',c,hm',rfl,dc⟩:=mem y hy;have z1:=Hd.inj hd (hdm hm db);have z2:=Hd.inj he (hdm hm' dc);injection z1 with z1;injection z2 with z2;simp only[y3d,and_true]at z1 z2;rw[z1.2,z2.2];exact hok d' hm e' hm'
 .have mx:∀x∈xs,∃d b,d∈ds/\x=(.ref b,.ref b)/\Dr X.K H (prD sz d) (.ref b)/\unK (z0A s.heap a us) x=(d,b):=fun x hx=>by
   obtain⟨d,b,hm,rfl,db⟩:=mem x (hp.mem_iff.mp hx);refine⟨d,b,hm,rfl,db,?_⟩;unfold unK;rw[z3f (kp d hm) (hdm hm db)]
  have ez:(us.zip us).map (fun x=>(unK (z0A s.heap a us) x).1)=ds:=by
   refine y1H fun i=>?_;rw[y04];by_cases hi:i<ds.length
   .obtain⟨b,e,db⟩:=at_ i ds[i] (y00 hi);have ez':(us.zip us)[i]?=some (.ref b,.ref b):=by rw[y0V];exact⟨e,e⟩
    rw[ez',y00 hi,y3M];unfold unK;rw[z3f (kp _ (y0l hi)) (hdm (y0l hi) db)]
   .rw[y0A (l:=ds) (by lia),y0A (by rw[y2p];lia)];rfl
  have hpr:(xs.map fun x=>(unK (z0A s.heap a us) x).1).Perm ds:=by have:=hp.map fun x=>(unK (z0A s.heap a us) x).1;rwa [ez]at this
  obtain⟨e5,g5⟩:=sortedHeap_at (out:=(xs.map (·.2)).toArray) ho;have xl:xs.length=us.length:=by rw[hp.length_eq,y2p,Nat.min_self]
  refine h _ (xs.map fun x=>V.ref (unK (z0A s.heap a us) x).2) _ hpr ?_ ?_ (I.adopt (p:=a) (o:=.lst (xs.map fun x=>V.ref (unK (z0A s.heap a us) x).2)) (t':=s.toks) (fun b u hb e=>?_) hfp ⟨by rw[y01,xl];exact hz,xs.map (·.2),e5,?_,g5⟩)
  .refine y1E.mpr (y37 ?_ hs);intro x y hx hy z;obtain⟨d,b,hm,rfl,db,g⟩:=mx x hx;obtain⟨e,c,hm',rfl,dc,g'⟩:=mx y hy;have z1:=z3f (x:=(Value.ref b,Value.ref b)) (kp d hm) (hdm hm db);have z2:=z3f (x:=(Value.ref c,Value.ref c)) (kp e hm') (hdm hm' dc);rw[z1,z2]at z;rw[g,g'];exact z
  .rw[y0I];refine DrL.map _ _ xs fun x hx=>?_;obtain⟨d,b,hm,rfl,db,g⟩:=mx x hx;rw[Function.comp,g];exact db
  .rw[sortedHeap_old hb (y0j e)];exact e
  .have ev:xs.map (·.2)=xs.map fun x=>Value.ref (unK (z0A s.heap a us) x).2:=y0L fun x hx=>by
    obtain⟨d,b,hm,rfl,db,g⟩:=mx x hx;rw[g]
   rw[ev];exact z68 _ _ _ fun x=>rfl
end
section
variable{X:Cx}(K:yyF)
end
end L2
namespace Gu
open PySem L2
def szD:D->Int
 |.tup ds=>(ds.length:Int)
 |_=>0
abbrev fD(g:List Row):D:=D.tup (z0j g)
def z8z{a b:List Row}(e:fD a=fD b):a=b:=by have:=ze9 a b;rw[show D.tup (z0j a)=D.tup (z0j b)from e,D.eq_refl]at this;exact y1c this.symm
def z5f(g:List Row):D.key (fD g):=by have:=z1N [g];simp only[y0k,y0T,D.keyL]at this;exact this.1
def zdy(a b:List Row):D.ok (fD a) (fD b):=by simp only[D.ok];exact z8D a b
abbrev UpF(fs:List (List Row)):Prop:=fs.Pairwise fun a b=>D.ltK (prD szD (fD b)) (prD szD (fD a))=false
structure z2Q(gs fs:List (List Row)):Prop where
 nd:fs.Nodup
 mem:∀f,f∈fs↔∃g∈gs,f∈z2l g g.length
 up:UpF fs
def zes{fs fs':List (List Row)}(h:fs.Perm fs')(u:UpF fs)(u':UpF fs'):fs=fs':=by
 refine List.Perm.eq_of_pairwise (fun a b _ _ h1 h2=>?_) u u' h;have k:∀g:List Row,D.key (prD szD (fD g)):=fun g=>by simp only[prD,D.key,D.keyL];exact⟨trivial,z5f g,trivial⟩
 have e:=D.ltK_an _ _ (k a) (k b) h2 h1;injection e with e;simp only[y3d,and_true]at e;exact z8z e.2
def z8S{gs gs' fs fs':List (List Row)}(h:z2Q gs fs)(h':z2Q gs' fs')(e:∀f,(∃g∈gs,f∈z2l g g.length)↔∃g∈gs',f∈z2l g g.length):fs=fs' :=
 zes ((List.perm_ext_iff_of_nodup h.nd h'.nd).mpr fun f=>by rw[h.mem,h'.mem,e]) h.up h'.up
def z9O{ks:List (List Row)}{xs:List D}(h:xs.Perm (fmD ks)):∃fs,xs=fmD fs/\fs.Perm ks:=by
 have un:∃u:D->List Row,∀g,u (fD g)=g:=⟨fun d=>open Classical in if z:∃g,fD g=d then z.choose else[],fun g=>by have z:∃g',fD g'=fD g:=⟨g,rfl⟩;simp only[dif_pos z];exact z8z z.choose_spec⟩
 obtain⟨u,hu⟩:=un;refine⟨xs.map u,?_,?_⟩
 .unfold fmD;rw[y0I];refine(List.map_id xs).symm.trans (y0L fun x hx=>?_);obtain⟨g,_,rfl⟩:=y0f.mp (h.mem_iff.mp hx);show fD g=fD (u (fD g));rw[hu]
 .have:=h.map u;unfold fmD at this;rw[y0I]at this;refine this.trans (List.Perm.of_eq ?_);refine(y0L fun g _=>hu g).trans (List.map_id ks)
def z7N:List Stmt->Pos
 |[.Return (some (.Call _ _ [⟨_,.Lambda _ _ _ p,_⟩] _)) _]=>p
 |_::r=>z7N r
 |[]=>⟨0,0,0,0⟩
def zff{k:Nat}{A:Around}(h:z2q k A):A.units+9<cLine:=by have:=h.un;lia
def zdw{k:Nat}{A:Around}(h:z2q k A):A.units+12<cLine:=by have:=h.un;lia
abbrev kvF(ks:List (List Row)):List (D × V):=ks.map fun g=>(fD g,V.bl true)
def z47(ks:List (List Row)):(kvF ks).map (·.1)=fmD ks:=by unfold kvF fmD;rw[y0I];rfl
def ze1(ks:List (List Row))(f:List Row):z2L (kvF ks) (fD f) (.bl true)=kvF (if f∈ks then ks else ks++[f]):=by
 by_cases h:f∈ks
 .rw[if_pos h];unfold z2L;rw[if_pos (List.any_eq_true.mpr ⟨(fD f,V.bl true),y0f.mpr ⟨f,h,rfl⟩,y1A rfl⟩)];refine(y0L fun kv hkv=>?_).trans (List.map_id _);obtain⟨g,_,rfl⟩:=y0f.mp hkv;by_cases e:fD g=fD f
  .rw[if_pos e];rfl
  .rw[if_neg e];rfl
 .rw[if_neg h];have:z2C (kvF ks) (fD f)=none:=by
   cases z:z2C (kvF ks) (fD f)with
   |none=>rfl
   |some v =>
    have:=zee z;rw[z47]at this;obtain⟨g,hg,e⟩:=y0f.mp this;rw[z8z e]at hg;exact absurd hg h
  rw[z5A _ this];unfold kvF;rw[y0i];rfl
def SameL.overD{P:Program}{w:World}{K:yyF}{Ts:List Tb}{H H':Hp}{p:Addr}{kvs:List (D × V)}{ob:HO}(s:SameL Ts H H')(h:H p=none)(d:DD P w K H' p kvs):SameL Ts H (upd H' p ob):=by
 obtain⟨xs,e,_⟩:=d;have up:∀{b:Addr}{o:HO},H' b=some o->o≠zdV P w p xs->upd H' p ob b=some o:=fun{b o} q ne=>by rw[z06 (fun z=>by rw[z,e]at q;exact ne (y0b q).symm)];exact q
 refine⟨fun b o no q=>by rw[z06 (fun z=>by rw[z,h]at q;cases q)];exact s.at_ b o no q,fun ht T hT=>?_⟩;rcases s.tabs ht T hT with q|⟨c',oc,vs,t,q1,q2,q3⟩
 .exact .inl (up q fun z=>by cases z)
 .exact .inr ⟨c',oc,vs,t,up q1 (fun z=>by cases z),up q2 (fun z=>by cases z),q3⟩
def zgo(Ts:List Tb)(K:yyF)(H:Hp)(Q:VK)(ds:List D):Prop:=∀(l:Addr)(H':Hp)(us:List V),(H l=none\/∃ps,H l=some (.tbl ps))->SameL Ts H H'->H' l=some (.lst us)->DrL K H' ds us->Q (.ref l) H'
def zb5(Ts:List Tb)(K:yyF):Sp:=fun vs H Q _=>∃(a:Addr)(us:List V)(gs:List (List Row))(n:Nat),vs=[.ref a]/\z65 Ts H/\H a=some (.lst us)/\DrL K H (fmD gs) us/\(∀g∈gs,z0l n g/\g.length<=60)/\n<=60/\gs.length<=60/\∀fs,z2Q gs fs->zgo Ts K H Q (fmD fs)
def z4f{n:Nat}{gs fs:List (List Row)}(h:z2Q gs fs)(hg:∀g∈gs,z0l n g/\g.length<=60):∀f∈fs,z0l n f/\shr f=f/\f.length<=60:=fun f hf=>by obtain⟨g,hm,hs⟩:=(h.mem f).mp hf;obtain⟨G,h60⟩:=hg g hm;obtain⟨r,r0,r1,rfl⟩:=z2I.mp hs;have GS:=z0Y G r0 r1;have hl:=z4m GS;rw[z1J]at hl;exact⟨z2a GS,z4H GS,by lia⟩
def zcu{a b:List D}(h:D.keyL a)(h':D.keyL b):D.keyL (a++b):=by
 induction a with
 |nil=>exact h'
 |cons d a ih =>
  simp only[D.keyL]at h;simp only[y2w,D.keyL];exact⟨h.1,ih h.2⟩
def zeU(gs:List (List Row)):D.okL (fmD gs) (fmD gs):=by
 have:∀a b:List (List Row),D.okL (fmD a) (fmD b):=fun a=>by
  induction a with
  |nil=>intro b;cases b<;>simp[fmD,D.okL]
  |cons x a ih =>
   intro b;cases b with
   |nil=>simp[fmD,D.okL]
   |cons y b =>
    have h1:=zdy x y;have h2:=ih b;unfold fmD at h2⊢;simp only[y0k,D.okL];exact⟨h1,h2⟩
 exact this gs gs
def zdP(gs:List (List Row)):D.depL (fmD gs)<=50:=D.depL_le fun d hd=>by obtain⟨g,_,rfl⟩:=y0f.mp hd;exact z9k g
end Gu
namespace L2
open PySem PySem.Spec PyProof.Rows
def zcH{t t':SetTable}(h:t.mask=t'.mask)(p:SetTable.Probe):t.advance p=t'.advance p:=by unfold SetTable.advance;rw[h]
theorem z2x{t t':SetTable}(h:t.mask=t'.mask):∀(k:Nat)(p:SetTable.Probe),z1C t k p=z1C t' k p
 |0,_=>rfl
 |k+1,p=>by show z1C t k (t.advance p)=z1C t' k (t'.advance p);rw[zcH h,z2x h k]
def z2A{t t':SetTable}(h:t.mask=t'.mask)(x:Int):t.probeStart x=t'.probeStart x:=by unfold SetTable.probeStart;rw[h]
def Rch(t:SetTable)(x:Int)(j:Nat):Prop:=∃K,(z1C t K (t.probeStart x)).j=j/\∀k,k<K->(z1C t k (t.probeStart x)).j∈t.place.toList
def Rch.mono{t t':SetTable}{x:Int}{j:Nat}(hm:t.mask=t'.mask)(hs:∀v∈t.place.toList,v∈t'.place.toList)(r:Rch t x j):Rch t' x j:=by obtain⟨K,e,a⟩:=r;refine⟨K,by rw[<-z2x hm,<-z2A hm];exact e,fun k hk=>?_⟩;rw[<-z2x hm,<-z2A hm];exact hs _ (a k hk)
def Hs(t:SetTable)(es:Array (Int × Value)):Prop:=∀(i:Nat)(e:Int × Value)(j:Nat),es[i]?=some e->t.place[i]?=some j->Rch t e.1 j
def z6V{t:SetTable}(hr:Ris t.place){e:Nat}(he:e∈t.place.toList):∃i,t.slot e=.live i/\t.place[i]?=some e:=by
 obtain⟨m,hm,em⟩:=y0E.mp he;have em':t.place[m]?=some e:=by rw[<-em,y03 (by simpa using hm)];simp
 obtain⟨c1,c2,c3⟩:=z3e hr e;have hmp:SetTable.below t.place e<=m:=Nat.le_of_not_lt fun z=>by have:=c2 m z e em';lia
 have hlt:SetTable.below t.place e<t.place.size:=by have:=(y1g.mp em').1;lia
 have eb:=y03 hlt;have hb:t.place[SetTable.below t.place e]?=some e:=by
  rcases y10 (SetTable.below t.place e) m with q|q
  .have:=hr.lt q eb em';have:=c3 _ (y0d _) _ eb;lia
  .rw[show SetTable.below t.place e=m by lia];exact em'
 refine⟨_,?_,hb⟩;unfold SetTable.slot;simp[hb]
def zcE{t:SetTable}(hd:t.dummies=#[])(hr:Ris t.place)(e:Nat):t.slot e≠.empty↔e∈t.place.toList:=by
 constructor
 .intro h;exact y1B fun z=>h (z5r hd z)
 .intro h;obtain⟨i,ei,_⟩:=z6V hr h;rw[ei];simp
theorem z8i{t:SetTable}(hd:t.dummies=#[]){f:Nat->Int}{h:Int}:∀(fuel K:Nat)(p:SetTable.Probe),K<fuel->(t.slot (z1C t K p).j=.empty\/∃i,t.slot (z1C t K p).j=.live i/\f i=h)->Within t p ->
  ∃M,M<=K/\(∀k,k<M->t.slot (z1C t k p).j≠.empty)/\Within t (z1C t M p)/\((t.slot (z1C t M p).j=.empty/\SetTable.probe.go t f h fuel p=some (.empty (z1C t M p).j none))\/∃i,t.slot (z1C t M p).j=.live i/\f i=h/\SetTable.probe.go t f h fuel p=some (.candidate (z1C t M p).j i (z1C t (M+1) p)))
 |0,K,p,hk,_,_=>by lia
 |fuel+1,K,p,hk,he,hw=>by
  unfold SetTable.probe.go;cases hs:t.slot p.j with
  |empty=>exact⟨0,y0B _,fun k z=>by lia,hw,.inl ⟨hs,by rw[hw.2];rfl⟩⟩
  |dummy=>exact absurd hs (z4K hd _)
  |live i =>
   dsimp only;by_cases e:f i=h
   .rw[if_pos (by simp[e])];exact⟨0,y0B _,fun k z=>by lia,hw,.inr ⟨i,hs,e,rfl⟩⟩
   .rw[if_neg (by simp[e])];cases K with
    |zero =>
     rcases he with he|⟨i',he,e'⟩
     .rw[show z1C t 0 p=p from rfl,hs]at he;cases he
     .rw[show z1C t 0 p=p from rfl,hs]at he;cases he;exact absurd e' e
    |succ K =>
     obtain⟨M,a,b,c,d⟩:=z8i hd fuel K (t.advance p) (by lia) he (z5c hw);refine⟨M+1,by lia,fun k hk=>?_,c,d⟩;cases k with
     |zero=>rw[show z1C t 0 p=p from rfl,hs];simp
     |succ k=>exact b k (by lia)
def z96{t:SetTable}{j i:Nat}(hs:t.slot j=.live i):t.place[i]?=some j:=by
 unfold SetTable.slot at hs;dsimp only at hs;split at hs
 .rename_i hb;cases hs;simpa using hb
 .split at hs<;>cases hs
section
variable{prog:Program}{w:World}{A:Around}{E:yyE}{s:Shared}{a x:Addr}{es:Array (Int × Value)}{ep:Nat}{t:SetTable}{z2k:List D}{d:D}
def z94{α:Type}{led:Bool}{l:List Value}{msg:String}{m:Sem α}{Q:α->Shared->Prop}(hx:Hd s.heap d (.ref x))(hd8:D.dep d<=8)(hm:wpAny (model prog w) A m Q E s)(hl:∀y∈l,∃d' b,y=.ref b/\Hd s.heap d' (.ref b)/\D.dep d'<=8) :
  wpAny (model prog w) A (if(!led)=true then do
   let b <-searchCouldBeSeen (.ref x) l;if b=true then do
    unsupported msg
    m
   else m
   else m) Q E s:=by
 refine y2q (fun _=>y02 (zaL hx hd8 ?_ _ hl)) fun _=>hm;simp only[y06,y0W];exact hm
theorem z3x{o:Obj}(hu:A.units+8<cLine)(ho:s.heap.get? a=some o)(hdt:o.data=.set es ep t)(hT:z4u t es.size)(hel:El s.heap z2k es)(hx:Hd s.heap d (.ref x))(hd8:D.dep d<=8){Q:SetFound->Shared->Prop}{P0:SetTable.Probe}(hP0:P0=t.probeStart (D.hash d))
  (hq1:d∉z2k->∀M,t.slot (z1C t M P0).j=.empty->(z1C t M P0).j<=t.mask->(∀k,k<M->t.slot (z1C t k P0).j≠.empty)->Q (.free (z1C t M P0).j false) s) (hq2:d∈z2k->Q (.there none) s):∀(fuel N K:Nat)(stand:Option SetTable.Probe),K<fuel->K<10*SetTable.turns t.mask ->
  stand.getD P0=z1C t N P0->(∀k,k<N->t.slot (z1C t k P0).j≠.empty)->Within t (z1C t N P0)->(d∉z2k->t.slot (z1C t (N+K) P0).j=.empty) ->
  (d∈z2k->(∀k,k<N+K->t.slot (z1C t k P0).j≠.empty)/\∃i b,t.slot (z1C t (N+K) P0).j=.live i/\es[i]?=some (D.hash d,.ref b)/\Hd s.heap d (.ref b)) ->
  wpAny (model prog w) A (setSearchFrom a (.ref x) (D.hash d) true fuel stand) Q E s
 |0,N,K,stand,hk,_,_,_,_,_,_=>by lia
 |fuel+1,N,K,stand,hk,hk2,hst,hne,hw,h1,h2=>by
  unfold setSearchFrom;refine y02 (y1v ho hdt hT.fits ?_);dsimp only;have hg:t.gaveWay=false:=by unfold SetTable.gaveWay;rcases hT.good with e|e|e<;>rw[e]<;>rfl
  rw[hg,<-hP0,hst];simp only[y06,y0W];have tgt:t.slot (z1C t K (z1C t N P0)).j=.empty\/∃i,t.slot (z1C t K (z1C t N P0)).j=.live i/\(fun i=>(es[i]?.map (·.1)).getD 0) i=D.hash d:=by
   rw[<-z1l];by_cases c:d∈z2k
   .obtain⟨_,i,b,z1,z2,_⟩:=h2 c;exact .inr ⟨i,z1,by show(es[i]?.map (·.1)).getD 0=_;rw[z2];rfl⟩
   .exact .inl (h1 c)
  obtain⟨M,hM,hb,hwM,sp⟩:=z8i (f:=fun i=>(es[i]?.map (·.1)).getD 0) (h:=D.hash d) hT.dum (10*SetTable.turns t.mask) K _ hk2 tgt hw;have hb':∀k,k<N+M->t.slot (z1C t k P0).j≠.empty:=fun k hk=>by
   rcases y10 k N with q|q
   .exact hne k q
   .have:=hb (k-N) (by lia);rw[<-z1l,show N+(k-N)=k by lia]at this;exact this
  rw[<-z1l]at sp hwM;split
  .rename_i met hmet;rcases sp with⟨hs,e⟩|⟨i,hs,hfi,e⟩
   .have:=y0b (hmet.symm.trans e);subst this;dsimp only;refine y08 (hq1 (fun c=>?_) _ hs (by have:=hwM.1;lia) hb');obtain⟨z,i,b,z1,_⟩:=h2 c;rcases y10 M K with q|q
    .exact z _ (by lia) hs
    .rw[show M=K by lia,z1]at hs;cases hs
   .have:=y0b (hmet.symm.trans e);subst this;dsimp only;have hpi:=z96 hs;have hi:i<es.size:=by have:=(y1g.mp hpi).1;have:=hT.size;lia
    have hei:es[i]?=some es[i]:=y03 hi;obtain⟨d',hd',b,e1,e2,hb2,hb8⟩:=hel es[i] (by simp);refine z94 hx hd8 ?_ fun y hy=>?_
    .rw[hei];dsimp only;rw[e2];refine y02 (y1t ((z1o prog w).eqBool (x:=d') (y:=d) hu ⟨hb2,hb8⟩ ⟨hx,hd8⟩ ?_));refine y02 (y1v ho hdt hT.fits ?_);dsimp only;by_cases c:d'=d
     .rw[y1A c];simp only[Bool.and_self,y22];exact y08 (hq2 (c▸hd'))
     rw[y1z c];simp only[Bool.and_false,y06,y0W];have hsm:t.sameMemory t.moves t.mask=some true:=by unfold SetTable.sameMemory;simp
     rw[hsm];dsimp only;simp only[y22];rw[<-z1l,hs];dsimp only;rw[hei];dsimp only;rw[e2];refine y02 (wpAny_isSame_ref_self (y02 (y08 ?_)));simp only[y22];have hMK:M<K:=by
      refine Nat.lt_of_le_of_ne hM fun z=>?_;subst z;by_cases cs:d∈z2k
      .obtain⟨_,i',b',z1,z2,z3⟩:=h2 cs;rw[hs]at z1;cases z1;rw[hei]at z2;have z4:es[i]=(D.hash d,Value.ref b'):=y0b z2;rw[z4]at e2;cases e2;exact c (Hd.inj hb2 z3)
      .rw[h1 cs]at hs;cases hs
     refine z3x hu ho hdt hT hel hx hd8 hP0 hq1 hq2 fuel (N+(M+1)) (K-(M+1)) _ (by lia) (by lia) (by rw[z1l];rfl) (fun k hk=>?_) ?_ ?_ ?_
     .rcases y10 k (N+M)with q|q
      .exact hb' k q
      .rw[show k=N+M by lia,hs];simp
     .rw[<-y2P,show N+M+1=(N+M)+1 from rfl,z1l];exact z5c hwM
     .rw[show N+(M+1)+(K-(M+1))=N+K by lia];exact h1
     .rw[show N+(M+1)+(K-(M+1))=N+K by lia];exact h2
    .obtain⟨e',he',rfl⟩:=y0f.mp hy;have he'':e'∈es.toList:=by
      have:=y3D.mp he';exact y3D.mpr (Array.mem_filter.mp this).1
     obtain⟨d2,_,b2,_,z2,z3,z4⟩:=hel e' he'';exact⟨d2,b2,z2,z3,z4⟩
  .rename_i hmet;rcases sp with⟨_,e⟩|⟨i,_,_,e⟩
   .exact absurd e (hmet _)
   .exact absurd e (hmet _)
end
def z9F{m i:Nat}(h:i<=m):SetTable.runEnd m i<=m:=by unfold SetTable.runEnd;split<;>lia
def zbi(m i:Nat):i<=SetTable.runEnd m i:=by unfold SetTable.runEnd;split<;>lia
theorem z6O{t:SetTable}{owner:Array (Option Nat)}(hsz:owner.size=t.mask+1):∀(fuel:Nat)(q:Nat × Nat)(j:Nat),q.1<=t.mask->SetTable.layClean.free t.mask owner fuel q.1 q.2=some j ->
  ∃K,(z1C t K (base t.mask q none)).j=j/\∀i,i<K->(owner.getD (z1C t i (base t.mask q none)).j none).isSome=true
 |0,q,j,_,h=>by unfold SetTable.layClean.free at h;cases h
 |fuel+1,q,j,hq,h=>by
  unfold SetTable.layClean.free at h;have hre:=z9F hq;have hle:=zbi t.mask q.1;have run:∀k,k<=SetTable.runEnd t.mask q.1-q.1->(z1C t k (base t.mask q none)).j=q.1+k:=fun k hk=>by rw[z5z t k _ (show k<=(base t.mask q none).more from hk)];rfl
  have sw:∀k,q.1+k<=t.mask->((owner.getD (q.1+k) (some 0)).isNone=false)->(owner.getD (q.1+k) none).isSome=true:=fun k hk e=>by
   rw[z32 (e:=some 0) (by lia)];cases z:owner.getD (q.1+k) (some 0)with
   |none=>rw[z]at e;cases e
   |some v=>rfl
  cases hf:(List.range (SetTable.runEnd t.mask q.1+1-q.1)).find? fun k=>(owner.getD (q.1+k) (some 0)).isNone with
  |some k =>
   rw[hf]at h;cases h;obtain⟨h1,h2,h3⟩:=List.find?_range_eq_some.mp hf;have hk:=y14.mp h2;refine⟨k,run k (by lia),fun i hi=>?_⟩;rw[run i (by lia)];exact sw i (by lia) (by simpa using h3 i hi)
  |none =>
   rw[hf]at h;have hn:=List.find?_eq_none.mp hf;obtain⟨K,e,a⟩:=z6O hsz fuel (SetTable.leap t.mask q.1 q.2) j (z7x _ _ _) h;have hb:z1C t (SetTable.runEnd t.mask q.1-q.1+1) (base t.mask q none)=base t.mask (SetTable.leap t.mask q.1 q.2) none:=by rw[z1l,z5z t _ _ (show SetTable.runEnd t.mask q.1-q.1<=(base t.mask q none).more from y0d _)];show t.advance _=_;unfold SetTable.advance;rw[if_neg (by simp[base])];rfl
   refine⟨SetTable.runEnd t.mask q.1-q.1+1+K,by rw[z1l,hb];exact e,fun i hi=>?_⟩;rcases y10 i (SetTable.runEnd t.mask q.1-q.1+1)with c|c
   .rw[run i (by lia)];exact sw i (by lia) (by have:=hn i (y14.mpr (by lia));cases z:(owner.getD (q.1+i) (some 0)).isNone with|false=>rfl|true=>exact absurd z this)
   .have:=a (i-(SetTable.runEnd t.mask q.1-q.1+1)) (by lia);rw[<-hb,<-z1l,show SetTable.runEnd t.mask q.1-q.1+1+(i-(SetTable.runEnd t.mask q.1-q.1+1))=i by lia]at this;exact this
structure zfI(t:SetTable)(hv:Nat->Int)(k:Nat)(owner:Array (Option Nat)):Prop where
 hit:∀v,v<k->∃j,owner.getD j none=some v
 rch:∀j v,owner.getD j none=some v->∃K,(z1C t K (t.probeStart (hv v))).j=j/\∀i,i<K->(owner.getD (z1C t i (t.probeStart (hv v))).j none).isSome=true
def z46{owner:Array (Option Nat)}{j k i:Nat}(hlt:j<owner.size):(owner.setIfInBounds j (some k)).getD i none=if i=j then some k else owner.getD i none:=by
 simp only[y1d,y2G];by_cases e:i=j
 .subst e;simp[hlt]
 .rw[if_neg (fun z=>e z.symm),if_neg e]
theorem z77{t:SetTable}(hm:z72 t.mask){hv:Nat->Int}:∀(hs:List Int)(k:Nat)(owner:Array (Option Nat)),z6S t.mask k owner->zfI t hv k owner->k+hs.length<=t.mask->(∀i x,hs[i]?=some x->hv (k+i)=x) ->
  ∃owner',(hs.foldl (fun(acc:Option (Array (Option Nat) × Nat)) h=>do
   let(owner,k) <-acc;let j <-SetTable.layClean.free t.mask owner (SetTable.turns t.mask) (SetTable.bits h%(t.mask+1)) (SetTable.bits h)
   pure (owner.setIfInBounds j (some k),k+1)) (some (owner,k)))=some (owner',k+hs.length)/\z6S t.mask (k+hs.length) owner'/\zfI t hv (k+hs.length) owner'
 |[],k,owner,h,h2,_,_=>⟨owner,rfl,h,h2⟩
 |x::hs,k,owner,h,h2,hk,hx=>by
  rw[y0H]at hk;obtain⟨e,he,hn⟩:=h.hole (by lia);have hi:SetTable.bits x%(t.mask+1)<=t.mask:=y3o (y3H _ (Nat.succ_pos _));obtain⟨r,hr,er⟩:=zfx hm hi (zaT x) he;obtain⟨j,hf,hj⟩:=z6E (m:=t.mask) r (SetTable.turns t.mask) _ _ e (by unfold SetTable.turns;lia) er hn;obtain⟨K,eK,aK⟩:=z6O h.size _ (SetTable.bits x%(t.mask+1),SetTable.bits x) j hi hf;have hlt:j<owner.size:=by
   rcases y10 j owner.size with q|q
   .exact q
   .simp[Array.getD,y3Q.mpr q]at hj
  have hxk:hv k=x:=hx 0 x rfl;have hjn:owner.getD j none=none:=by rw[z32 (e:=some 0) hlt];exact hj
  have up:∀i,(owner.getD i none).isSome=true->((owner.setIfInBounds j (some k)).getD i none).isSome=true:=fun i z=>by
   rw[z46 hlt];split
   .rfl
   .exact z
  have n2:zfI t hv (k+1) (owner.setIfInBounds j (some k)):=by
   refine⟨fun v hv'=>?_,fun i v z=>?_⟩
   .rcases y10 v k with q|q
    .obtain⟨i,ei⟩:=h2.hit v q;refine⟨i,?_⟩;rw[z46 hlt,if_neg (fun z=>by rw[z,hjn]at ei;cases ei)];exact ei
    .refine⟨j,?_⟩;rw[z46 hlt,if_pos rfl,show v=k by lia]
   .rw[z46 hlt]at z;split at z
    .rename_i c;cases z;subst c;refine⟨K,by rw[hxk];exact eK,fun i hi=>up _ ?_⟩;rw[hxk];exact aK i hi
    .obtain⟨K',e',a'⟩:=h2.rch i v z;exact⟨K',e',fun i hi=>up _ (a' i hi)⟩
  obtain⟨o',e1,e2,e3⟩:=z77 hm hs (k+1) (owner.setIfInBounds j (some k)) (h.set hj) n2 (by lia) (fun i y hy=>by rw[<-hx (i+1) y hy];congr 1;lia);refine⟨o',?_,by rw[y0H];rw[show k+(hs.length+1)=k+1+hs.length by lia];exact⟨e2,e3⟩⟩;rw[y1Y,y0H,show k+(hs.length+1)=k+1+hs.length by lia,<-e1];simp only[Option.bind_eq_bind,Option.bind_some,hf,Option.pure_def]
def zcc(t:SetTable)(hv:Nat->Int):zfI t hv 0 (Array.replicate (t.mask+1) none):=by refine⟨fun v h=>by lia,fun j v h=>?_⟩;simp only[y1d,Array.getElem?_replicate]at h;split at h<;>cases h
def z9o{t:SetTable}{hs:Array Int}{wanted n:Nat}(hn:hs.size=n)(hm:z72 (SetTable.sizeAbove wanted-1))(hr:n*5<(SetTable.sizeAbove wanted-1)*3) : ∃t' order,t.relaid hs wanted=some (t',order)/\z4u t' n/\t'.led=t.led/\order.size=n/\(∀v∈order.toList,v<n)/\(∀v,v<n->v∈order.toList)/\∀(x j v:Nat),t'.place[x]?=some j->order[x]?=some v->Rch t' (hs.getD v 0) j:=by
 generalize hmm:SetTable.sizeAbove wanted-1=m at *;generalize ht:({ SetTable.fresh 0 0 true with mask:=m }:SetTable)=tm;have htm:tm.mask=m:=by rw[<-ht]
 obtain⟨owner,e1,e2,e3⟩:=z77 (t:=tm) (hv:=fun v=>hs.getD v 0) (by rw[htm];exact hm) hs.toList 0 _ (by rw[htm];exact zdU m) (zcc tm _) (by rw[y0s,htm];lia) (fun i x hx=>by rw[y1G,y1d,<-y0o,hx];rfl);rw[y1G,y0s,hn]at e1 e2 e3;rw[htm]at e1 e2;have hl:SetTable.layClean m hs=some owner:=by unfold SetTable.layClean;rw[<-Array.foldl_toList];rw[e1];rfl
 have hlen:((List.range (m+1)).filterMap fun j=>(owner.getD j none).map (j,·)).length=n:=by rw[List.length_filterMap_eq_countP];rw[<-e2.cnt];unfold zfF;congr 1;funext j;cases owner.getD j none<;>rfl
 have hmem:∀x:Nat × Nat,x∈(List.range (m+1)).filterMap (fun j=>(owner.getD j none).map (j,·))↔owner.getD x.1 none=some x.2:=fun x=>by
  rw[y20];constructor
  .rintro⟨j,_,ex⟩;obtain⟨v,ev,rfl⟩:=y1x.mp ex;exact ev
  .intro e;have hx:x.1<owner.size:=by
    rcases y10 x.1 owner.size with q|q
    .exact q
    .simp[Array.getD,y3Q.mpr q]at e
   exact⟨x.1,y14.mpr (by rw[<-e2.size];exact hx),by rw[e];rfl⟩
 have er:t.relaid hs wanted=some ({ mask:=m,place:=(((List.range (m+1)).filterMap fun j=>(owner.getD j none).map (j,·)).map (·.1)).toArray,dummies:=#[],finger:=t.finger,led:=t.led,moves:=t.movedTo m,plain:=t.plain },(((List.range (m+1)).filterMap fun j=>(owner.getD j none).map (j,·)).map (·.2)).toArray):=by unfold SetTable.relaid SetTable.laid;rw[hmm,hl];rfl
 generalize(List.range (m+1)).filterMap (fun j=>(owner.getD j none).map (j,·))=live at hlen hmem er;refine⟨_,_,er,⟨hm,(z8Y er).1,by rw[y0r,y01];exact hlen,fun v hv=>?_,rfl,hr⟩,rfl,by rw[y0r,y01];exact hlen,fun v hv=>?_,fun v hv=>?_,fun x j v hj hv=>?_⟩
 .have hv':v∈live.map (·.1):=by simpa using hv
  obtain⟨x,hx,rfl⟩:=y0f.mp hv';have e:=(hmem x).mp hx;have hx:x.1<owner.size:=by
   rcases y10 x.1 owner.size with q|q
   .exact q
   .simp[Array.getD,y3Q.mpr q]at e
  show x.1<=m;have:=e2.size;lia
 .have hv':v∈live.map (·.2):=by simpa using hv
  obtain⟨x,hx,rfl⟩:=y0f.mp hv';exact e2.lt _ _ ((hmem x).mp hx)
 .obtain⟨j,ej⟩:=e3.hit v hv;have:v∈live.map (·.2):=y0f.mpr ⟨(j,v),(hmem (j,v)).mpr ej,rfl⟩;simpa using this
 .have hj':(live.map (·.1))[x]?=some j:=by simpa using hj
  have hv':(live.map (·.2))[x]?=some v:=by simpa using hv
  rw[y04]at hj' hv';obtain⟨z,ez,z1⟩:=y1x.mp hj';rw[ez]at hv';cases hv';subst z1;obtain⟨K,eK,aK⟩:=e3.rch z.1 z.2 ((hmem z).mp (y0D ez));have key:∀i,(owner.getD i none).isSome=true->i∈live.map (·.1):=fun i z=>by obtain⟨v,ev⟩:=y34.mp z;exact y0f.mpr ⟨(i,v),(hmem (i,v)).mpr ev,rfl⟩
  refine⟨K,?_,fun k hk=>?_⟩
  .rw[z2x (t':=tm) htm.symm,z2A (t':=tm) htm.symm];exact eK
  .rw[z2x (t':=tm) htm.symm,z2A (t':=tm) htm.symm];have:=key _ (aK k hk);simpa using this
theorem z3k{α β:Type}{f:α->Option β}:∀{l:List α},(∀v∈l,(f v).isSome=true)->∀i:Nat,(l.filterMap f)[i]?=(l[i]?).bind f
 |[],_,i=>by simp
 |x::l,h,i=>by
  obtain⟨y,hy⟩:=y34.mp (h x y0p);rw[List.filterMap_cons_some hy];cases i with
  |zero=>simp[hy]
  |succ i=>simpa using z3k (fun v hv=>h v (y0e _ hv)) i
def z3G{α:Type}{xs:Array α}{p:Nat}{x:α}(hp:p<=xs.size)(i:Nat):(SetTable.insertAt xs p x)[i]?=if i<p then xs[i]? else if i=p then some x else xs[i-1]?:=by
 unfold SetTable.insertAt;rw[Array.getElem?_append];have hs:((xs.extract 0 p).push x).size=p+1:=by simp;lia
 rw[hs];by_cases c:i<p+1
 .rw[if_pos c,Array.getElem?_push];have h2:(xs.extract 0 p).size=p:=by simp;lia
  rw[h2];by_cases e:i=p
  .subst e;simp
  .rw[if_neg e,if_pos (by lia),Array.getElem?_extract];simp;lia
 .rw[if_neg c,if_neg (by lia),if_neg (by lia),Array.getElem?_extract];by_cases z:i-1<xs.size
  .rw[if_pos (by rw[Nat.min_self];lia)];congr 1;lia
  .rw[if_neg (by rw[Nat.min_self];lia),y1y (by lia)]
def z9B(z2k:List D)(d:D):List D:=if d∈z2k then z2k else z2k++[d]
def Fl(h:Heap)(z2k:List D)(es:Array (Int × Value)):Prop:=∀d∈z2k,∃e∈es.toList,e.1=D.hash d/\∃b,e.2=.ref b/\Hd h d (.ref b)
def zbv(w:World)(Ps:Value->Prop)(h0 h:Heap)(a:Addr)(z2k:List D):Prop:=∃o es ep t,h.get? a=some o/\o.ExactSet/\o.data=.set es ep t/\z4u t es.size/\t.led=zdF w/\es.size=z2k.length/\El h0 z2k es/\Fl h0 z2k es/\Hs t es/\∀e∈es.toList,Ps e.2
def z5I{m n:Nat}(hm:z72 m)(h1:n*5<m*3)(h2:(n+1)*5 ≥ m*3)(h60:n+1<=70):z72 (SetTable.sizeAbove (SetTable.grown (n+1))-1)/\(n+1)*5<(SetTable.sizeAbove (SetTable.grown (n+1))-1)*3/\SetTable.sizeAbove (SetTable.grown (n+1))<=128:=by
 rcases hm with rfl|rfl|rfl
 .have:n=4:=by lia
  subst this;exact⟨.inr (.inl (by decide)),by decide,by decide⟩
 .have:n=18:=by lia
  subst this;exact⟨.inr (.inr (by decide)),by decide,by decide⟩
 .lia
section
variable{prog:Program}{w:World}{A:Around}{E:yyE}{s:Shared}{a x:Addr}{z2k:List D}{d:D}
def zck{Ps:Value->Prop}{h0:Heap}(hps:Ps (.ref x))(hu:A.units+8<cLine)(k0:∀b o,h0.get? b=some o->s.heap.get? b=some o)(hS:zbv w Ps h0 s.heap a z2k)(hx0:Hd h0 d (.ref x))(hd8:D.dep d<=8)(h60:d∉z2k->z2k.length+1<=70){Q:Bool->Shared->Prop}(h:∀b h',Heap.SameBut a s.heap h'->zbv w Ps h0 h' a (z9B z2k d)->Q b { s with heap:=h' }) : wpAny (model prog w) A (setAddHashed a (.ref x) (D.hash d)) Q E s:=by
 obtain⟨o,es,ep,t,ho,hex,hdt,hT,hled,hsz,hel0,hfl0,hhs,hpp⟩:=hS;have hel:El s.heap z2k es:=hel0.mono fun b o _ _ e _ _=>k0 b o e;have hx:Hd s.heap d (.ref x):=Hd.keep (fun b o _ _ e _ _=>k0 b o e) hx0;have line:∀n,n<=128->n<=sizeLine:=fun n hn=>by rw[y3J];lia
 unfold setAddHashed setAddHashedIn;refine y1t (y02 (y1v ho hdt hT.fits ?_));dsimp only;have hsc:byScan (.ref x) es=false:=by simp[byScan,Value.scannable]
 rw[hsc];simp only[y06,y0W];obtain⟨K,hK,eK⟩:=z8X hT (D.hash d);have hm:t.mask<=127:=by rcases hT.good with e|e|e<;>lia
 have hi:SetTable.bits (D.hash d)%(t.mask+1)<=t.mask:=y3o (y3H _ (Nat.succ_pos _));have hw0:Within t (t.probeStart (D.hash d)):=z4E (t:=t) (q:=(SetTable.bits (D.hash d)%(t.mask+1),SetTable.bits (D.hash d))) hi;have sI:=zcE hT.dum hT.ris;unfold setSearch;by_cases cs:d∈z2k
 .obtain⟨e,he,z1,b,z2,z3⟩:=hfl0 d cs;obtain⟨i,hi',ei⟩:=y0E.mp he;have hi2:i<es.size:=by simpa using hi'
  have hei:es[i]?=some e:=by rw[y03 hi2,<-ei];simp
  have hpz:=hT.size;have hpi:t.place[i]?=some t.place[i]:=y03 (by lia);have hpm:t.place[i]'(by lia)∈t.place.toList:=by simp
  obtain⟨T,eT,aT⟩:=hhs i e _ hei hpi;rw[z1]at eT aT;obtain⟨i2,s2,s3⟩:=z6V hT.ris hpm;have ei2:i2=i:=by
   rcases Nat.lt_trichotomy i2 i with q|q|q
   .have:=hT.ris.lt q s3 hpi;lia
   .exact q
   .have:=hT.ris.lt q hpi s3;lia
  subst ei2;have hTK:T<=K:=Nat.le_of_not_lt fun z=>(sI _).mpr (aT K z) eK;refine y02 (z3x hu ho hdt hT hel hx hd8 rfl (fun z=>absurd cs z) (fun _=>?_) 100000 0 T none (by lia) (by unfold SetTable.turns;lia) rfl (fun k z=>by lia) hw0 (fun z=>absurd cs z) fun _=>⟨fun k hk=>(sI _).mpr (aT k (by lia)),i2,b,?_,?_,Hd.keep (fun b o _ _ e _ _=>k0 b o e) z3⟩)
  .refine y08 (h false s.heap (Heap.SameBut.refl _ _) ?_);unfold z9B;rw[if_pos cs];exact⟨o,es,ep,t,ho,hex,hdt,hT,hled,hsz,hel0,hfl0,hhs,hpp⟩
  .rw[y1G,eT];exact s2
  .rw[hei];exact y1o some (y31 z1 z2)
 have h60:=h60 cs;unfold z9B at h;rw[if_neg cs]at h;refine y02 (z3x hu ho hdt hT hel hx hd8 rfl (fun _ M hs hj hb=>?_) (fun z=>absurd z cs) 100000 0 K none (by lia) (by unfold SetTable.turns;lia) rfl (fun k z=>by lia) hw0 (fun _=>by rw[y1G];exact eK) fun z=>absurd z cs);have hR:Rch t (D.hash d) (z1C t M (t.probeStart (D.hash d))).j:=⟨M,rfl,fun k hk=>(sI _).mp (hb k hk)⟩;generalize(z1C t M (t.probeStart (D.hash d))).j=j at hs hj hR;dsimp only;refine y02 (y1v ho hdt hT.fits ?_);dsimp only;obtain⟨p1,p2,p3,p4,p5,p6⟩:=zf4 hT hs hj;have pled:(t.put j).1.led=t.led:=rfl;have hbl:SetTable.below t.place j<=t.place.size:=(z3e hT.ris j).1;have ppl:(t.put j).1.place=SetTable.insertAt t.place (SetTable.below t.place j) j:=rfl;generalize hput:t.put j=tp at p1 p2 p3 p4 p5 p6 pled ppl;obtain⟨t1,pl⟩:=tp;dsimp only at p1 p2 p3 p4 p5 p6 pled ppl⊢;have key:∀t2:SetTable,t2.place=t1.place->t2.dummies=t1.dummies->t2.mask=t1.mask->t2.led=t1.led->wpAny (model prog w) A (do
   storeSet a (SetTable.insertAt es pl (D.hash d,.ref x)) t2
   if(!false&&t2.tooFull)=true then do
     setRelay a (SetTable.grown (es.size+1))
     pure true
    else pure true) Q E s:=fun t2 q1 q2 q3 q4=>by
  have hperm:=y2C es pl (D.hash d,Value.ref x);have hsz2:(SetTable.insertAt es pl (D.hash d,Value.ref x)).size=es.size+1:=by rw[<-y0s,hperm.length_eq];simp
  have hins:=fun i=>z3G (xs:=es) (p:=pl) (x:=(D.hash d,Value.ref x)) (by rw[p6,<-hT.size];exact hbl) i;generalize SetTable.insertAt es pl (D.hash d,Value.ref x)=es2 at hperm hsz2 hins;have hpp2:∀e∈es2.toList,Ps e.2:=fun e he=>by
   have:=hperm.mem_iff.mp he;rw[y0R,y0g,y0c]at this;rcases this with z|rfl
   .exact hpp e z
   .exact hps
  have hfl2:Fl h0 (z2k++[d]) es2:=fun d' hd'=>by
   rcases y0g.mp hd' with z|z
   .obtain⟨e,he,r⟩:=hfl0 d' z;exact⟨e,hperm.mem_iff.mpr (by rw[y0R];exact y0m _ he),r⟩
   .rw[y0c.mp z];exact⟨(D.hash d,.ref x),hperm.mem_iff.mpr (by rw[y0R];simp),rfl,x,rfl,hx0⟩
  have hhs2:Hs t2 es2:=fun i e j' he hj'=>by
   have hsub:∀v∈t.place.toList,v∈t2.place.toList:=fun v hv=>by rw[q1,ppl,(y2C _ _ _).mem_iff,y0R];exact y0m _ hv
   rw[hins]at he;rw[q1,ppl,z3G hbl,<-p6]at hj';by_cases c1:i<pl
   .rw[if_pos c1]at he hj';exact(hhs i e j' he hj').mono (by rw[q3,p5]) hsub
   .rw[if_neg c1]at he hj';by_cases c2:i=pl
    .rw[if_pos c2]at he hj';cases he;cases hj';exact hR.mono (by rw[q3,p5]) hsub
    .rw[if_neg c2]at he hj';exact(hhs (i-1) e j' he hj').mono (by rw[q3,p5]) hsub
  have hel2:El h0 (z2k++[d]) es2:=fun e he=>by
   have:=hperm.mem_iff.mp he;rw[y0R,y0g,y0c]at this;rcases this with z|rfl
   .obtain⟨d',hd',r⟩:=hel0 e z;exact⟨d',y0m _ hd',r⟩
   .exact⟨d,by simp,x,rfl,rfl,hx0,hd8⟩
  refine y02 (wpAny_storeSet_of ho hdt ?_ (line _ (by lia)));have put:∀(h0:Heap)(o0:Obj)(es0:Array (Int × Value))(ep0:Nat)(t0:SetTable),h0.get? a=some o0->o0.data=.set es0 ep0 t0->∀es' t',(h0.update a (Obj.putSet es' t')).get? a=some { o0 with data:=.set es' (ep0+1) t' }:=fun h0 o0 es0 ep0 t0 ho0 hd0 es' t'=>by have:=y1f (Obj.putSet es' t') ho0 (by rw[putSet_of es' t' hd0];rfl);rw[putSet_of es' t' hd0]at this;exact this
  have ho1:=put s.heap o es ep t ho hdt es2 t2;have sb1:=y0Q s.heap a (Obj.putSet es2 t2);have hf2:t2.fits es2.size=true:=by have:=hT.room;simp[SetTable.fits,SetTable.fill,q1,q2,q3,p1,p4,p5,hsz2];lia
  have hful:t2.fill=es.size+1:=by simp[SetTable.fill,q1,q2,p1,p4]
  by_cases c:t2.tooFull=true
  .rw[c];simp only[y3r,Bool.true_and,y22];have c':(es.size+1)*5 ≥ t.mask*3:=by
    unfold SetTable.tooFull at c;rw[hful,q3,p5]at c;simpa using c
   obtain⟨w1,w2,w3⟩:=z5I hT.good hT.room c' (by lia);obtain⟨t3,order,er,hT3,hl3,hos,hov,hall,hrc⟩:=z9o (t:=t2) (hs:=es2.map (·.1)) (wanted:=SetTable.grown (es.size+1)) (n:=es.size+1) (by simp[hsz2]) w1 w2;refine y02 ?_;unfold setRelay;refine y02 (y1v ho1 rfl hf2 ?_);dsimp only;rw[if_neg (y3Q.mpr (line _ w3))];rw[er];obtain⟨f1,f2⟩:=z4O (es:=es2) (order:=order) (fun v hv=>by rw[hsz2];exact hov v hv);refine y02 ?_;show wpAny _ _ (if((order.filterMap fun i=>es2[i]?).size != es2.size)=true then unsupported "internal:set-table-lost-an-element" else pure ((order.filterMap fun i=>es2[i]?),t3)) _ _ _;have hne:¬((order.filterMap fun i=>es2[i]?).size != es2.size)=true:=by rw[f1,hos,hsz2];simp
   rw[if_neg hne];refine y08 ?_;dsimp only;clear hne;have hget:∀i:Nat,(order.filterMap fun i=>es2[i]?)[i]?=(order[i]?).bind fun i=>es2[i]?:=fun i=>by have:=z3k (f:=fun i=>es2[i]?) (l:=order.toList) (fun v hv=>by rw[y03 (by rw[hsz2];exact hov v hv)];rfl) i;rw[<-y2D,y0o,y0o]at this;exact this
   have hfl3:Fl h0 (z2k++[d]) (order.filterMap fun i=>es2[i]?):=fun d' hd'=>by
    obtain⟨e,he,r⟩:=hfl2 d' hd';obtain⟨v,hv,ev⟩:=y0E.mp he;have hv2:v<es2.size:=by simpa using hv
    refine⟨e,?_,r⟩;rw[y2D];exact y20.mpr ⟨v,hall v (by lia),by rw[y03 hv2,<-ev];simp⟩
   have hhs3:Hs t3 (order.filterMap fun i=>es2[i]?):=fun i e j' he hj'=>by rw[hget]at he;obtain⟨v,ev,e2'⟩:=Option.bind_eq_some_iff.mp he;have:=hrc i j' v hj' ev;rw[y1d,Array.getElem?_map,e2']at this;exact this
   generalize(order.filterMap fun i=>es2[i]?)=es3 at f1 f2 hfl3 hhs3⊢;refine wpAny_storeSet_of ho1 rfl ?_ (line _ (by lia));have ho3:=put _ _ es2 (ep+1) t2 ho1 rfl es3 t3;have sb2:=y0Q (s.heap.update a (Obj.putSet es2 t2)) a (Obj.putSet es3 t3);refine y08 (h true _ (sb1.trans sb2) ⟨_,es3,_,t3,ho3,hex,rfl,by rw[f1,hos];exact hT3,hl3.trans (q4.trans (pled.trans hled)),by rw[f1,hos,y09,hsz];rfl,fun e he=>hel2 e (f2 e he),hfl3,hhs3,fun e he=>hpp2 e (f2 e he)⟩)
  .have c':t2.tooFull=false:=by simpa using c
   rw[c'];simp only[Bool.and_false,y06,y0W];have hT2:z4u t2 es2.size:=by
    refine⟨by rw[q3,p5];exact hT.good,by rw[q1];exact p2,by rw[q1,p1,hsz2],fun v hv=>?_,by rw[q2];exact p4,?_⟩
    .rw[q1]at hv;rw[q3,p5];exact p3 v hv
    .unfold SetTable.tooFull at c';rw[hful,q3,p5]at c';rw[q3,p5,hsz2];simpa using c'
   exact y08 (h true _ sb1 ⟨_,es2,_,t2,ho1,hex,rfl,hT2,q4.trans (pled.trans hled),by rw[hsz2,y09,hsz];rfl,hel2,hfl2,hhs2,hpp2⟩)
 split
 .refine y02 (z9d 8 hd8 hx fun b=>?_);exact key _ (by split<;>rfl) (by split<;>rfl) (by split<;>rfl) (by split<;>rfl)
 .refine y02 (y08 ?_);exact key _ rfl rfl rfl rfl
def zbv.at{Ps:Value->Prop}{h0 h h':Heap}(x:zbv w Ps h0 h a z2k)(k:∀o,h.get? a=some o->h'.get? a=some o):zbv w Ps h0 h' a z2k:=by obtain⟨o,es,ep,t,ho,r⟩:=x;exact⟨o,es,ep,t,k _ ho,r⟩
end
def ddp(ds:List D):List D:=ds.foldl z9B []
def zc6(ds:List D)(d:D):ddp (ds++[d])=z9B (ddp ds) d:=by unfold ddp;rw[y2o];rfl
def zc2{s:List D}{d x:D}:x∈z9B s d↔x∈s\/x=d:=by
 unfold z9B;split
 .rename_i h;constructor
  .exact .inl
  .rintro(z|rfl)
   .exact z
   .exact h
 .rw[y0g,y0c]
theorem z8q(x:D):∀(ds s:List D),x∈ds.foldl z9B s↔x∈s\/x∈ds
 |[],s=>by simp
 |d::ds,s=>by rw[y1Y,z8q x ds,zc2,y0u,or_assoc]
def z67{ds:List D}{x:D}:x∈ddp ds↔x∈ds:=by unfold ddp;rw[z8q];simp
theorem z59:∀(ds s:List D),s.Nodup->(ds.foldl z9B s).Nodup
 |[],s,h=>h
 |d::ds,s,h=>by
  rw[y1Y];refine z59 ds _ ?_;unfold z9B;split
  .exact h
  .rename_i c;exact y2S.mpr ⟨h,y1a.mpr ⟨by simp,y2A⟩,fun a ha b hb e=>c (by rw[y0c.mp hb]at e;rw[<-e];exact ha)⟩
def z4g(ds:List D):(ddp ds).Nodup:=z59 ds [] y2A
theorem z5P{α:Type}[DecidableEq α]:∀{l m:List α},l.Nodup->(∀x∈l,x∈m)->l.length<=m.length
 |[],_,_,_=>y0B _
 |x::l,m,h,s=>by have hx:=s x y0p;have hn:=y1a.mp h;have:=z5P (l:=l) (m:=m.erase x) hn.2 fun y hy=>(List.mem_erase_of_ne (fun(e:y=x)=>hn.1 (e▸hy))).mpr (s y (y0e _ hy));rw[y36 hx]at this;have:=y29 hx;rw[y0H];lia
section
variable{prog:Program}{w:World}{A:Around}{R:Result->Shared->Prop}{I:Addr}{fp wr:List Addr}{G:Array GenState->Array GenState->Prop}{n:Nat}{P:Nat->Value->Prop}{St:Nat->Shared->Prop}{Ps:Value->Prop}
def z9K(hu:A.in1.units+8<cLine)(W:WalksS prog w A.in1 I fp wr G n P St)(S:Addr)(hSf:S∉fp)(h0:Heap)(hS0:h0.get? S=none)(hwr:∀b∈wr,h0.get? b=none)(ds:List D)(hval:∀i v,P i v->∃d b,ds[i]?=some d/\v=.ref b/\Hd h0 d (.ref b)/\D.dep d<=8/\Ps v)(hln:ds.length=n)(hb:∀i,(ddp (ds.take i)).length<=70) : ∀(k i:Nat) (s:Shared),n-i=k->i<=n->St i s->(∀b o,h0.get? b=some o->s.heap.get? b=some o)->zbv w Ps h0 s.heap S (ddp (ds.take i)) -> (∀s',Moved (S::wr) G s s'->zbv w Ps h0 s'.heap S (ddp ds)->R (.ok (.ret .none)) s') -> codeAny (model prog w) A (.builtin "set.update.loop" ⟨[.ref S,.ref I],[]⟩) R s:=by
 have hSw:S∉wr:=fun h=>hSf (W.sub _ h);have hsub:∀b∈wr,b∈S::wr:=fun b hb=>y0e _ hb;intro k;induction k with
 |zero =>
  intro i s hk hi hst hk0 hS hR;have hin:i=n:=by lia
  subst hin;refine y1M F.entry_set_update_loop ?_;rw[y1l y3e _];show wpAny _ A.in1 (pyNext (.ref I)>>=_) _ _ s;refine y02 (W.done s _ _ hst fun s' hm=>?_);show wpAny _ A.in1 (ret Value.none) _ _ s';rw[y0x (by lia)]at hS;exact y08 (hR s' (hm.mono hsub) (hS.at fun o e=>hm.heap S _ hSw e))
 |succ k ih =>
  intro i s hk hi hst hk0 hS hR;have hlt:i<n:=by lia
  refine y1M F.entry_set_update_loop ?_;rw[y1l y3e _];show wpAny _ A.in1 (pyNext (.ref I)>>=_) _ _ s;refine y02 (W.item i s _ _ hlt hst fun v s' hP hst' hm=>?_);obtain⟨d,x,hx,rfl,hHd,hd8,hps⟩:=hval i v hP;have k1:∀b o,h0.get? b=some o->s'.heap.get? b=some o:=fun b o e=>hm.heap b o (fun z=>by rw[hwr b z]at e;cases e) (hk0 b o e);have hS':zbv w Ps h0 s'.heap S (ddp (ds.take i)):=hS.at fun o e=>hm.heap S _ hSw e;show wpAny _ A.in1 (holding [Value.ref x] (setAdd S (.ref x))>>=_) _ _ s';refine y02 (y1t ?_);unfold setAdd;refine y1t ?_;have hHd':Hd s'.heap d (.ref x):=Hd.keep (fun b o _ _ e _ _=>k1 b o e) hHd;refine y02 ((z1o prog w).pyHash (k:=d) hu ⟨hHd',hd8⟩ ?_);have e:ddp (ds.take (i+1))=z9B (ddp (ds.take i)) d:=by rw[y0G,hx,Option.toList_some,zc6]
  refine zck hps (s:={ s' with toks:=s'.toks+(z1o prog w).draws d }) hu k1 hS' hHd hd8 (fun c=>?_) fun bb h' hsb hS2=>?_
  .have:=hb (i+1);rw[e]at this;unfold z9B at this;rw[if_neg c,y09]at this;exact this
  have k2:∀b o,h0.get? b=some o->h'.get? b=some o:=fun b o e=>by rw[hsb.2 b (fun z=>by rw[z,hS0]at e;cases e)];exact k1 b o e
  refine y08 ⟨y2O y3e _,ih (i+1) _ (by lia) hlt (W.frame _ s' _ _ hst' (Nat.le_add_right _ _) fun b hb o e=>?_) k2 (by rw[e];exact hS2) fun s'' hm'' hS''=>?_⟩
  .rw[hsb.2 b (fun h:b=S=>hSf (by rw[<-h];exact hb))];exact e
  .refine hR s'' (Moved.trans W.gtrans ((hm.mono hsub).then_heap (Nat.le_add_right _ _) fun b o hb e=>?_) hm'') hS'';rw[hsb.2 b (fun h:b=S=>hb (by rw[h];exact y0p))];exact e
end
section
variable{prog:Program}{w:World}{A:Around}{E:yyE}{s:Shared}
set_option maxHeartbeats 3200000 in
def z9a{Ps:Value->Prop}{l:Addr}{items:Array Value}{ds:List D}{Q:yyE}(hh:A.handled=none)(hu:A.units+20<cLine)(hl:s.heap.IsList l items)(hln:ds.length=items.size)(hb:∀i,(ddp (ds.take i)).length<=70)(hit:∀(i:Nat) (v:Value),items[i]?=some v->∃d b,ds[i]?=some d/\v=.ref b/\Hd s.heap d (.ref b)/\D.dep d<=8/\Ps v)(h:∀(h':Heap) (tk:Nat),zbv w Ps s.heap h' s.heap.objs.size (ddp ds) -> (∀b o,b<s.heap.objs.size->s.heap.get? b=some o->h'.get? b=some o)->Q (.ref s.heap.objs.size) { s with heap:=h',toks:=tk }) : wpAny (model prog w) A (call (.type "set") [.ref l]) Q E s:=by
 obtain⟨c,tl,hmro⟩:=y2M.mro;have hmade:=y2M.made;have hsub:=y2M.sub;refine wpAny_call (codeAny_of_tree ?_);show wpAny _ _ (callAny (.type "set") _) _ _ _;refine y08 ⟨Code.quiet_builtin _ (by decide +kernel),y1M F.entry_type_call ?_⟩;rw[Around.under_plain (weight_type_call_type "set" [.ref l] []) rfl];have h1:=y2M.notType;have h2:=y2M.canCreate;have hct:=F.typeCall_set_1 (.ref l);repeat (any_goals (first|assumption|wp_step))
 refine y2r (zaX (.ref l) (E:=E) (Q₁:=fun obj s₁=>obj=.ref s.heap.objs.size/\s₁={ s with heap:=s.heap.push { cls:=.type "set",dict:=none,data:=.set #[] 0 (.fresh 0 0 (zdF w)) } }) ⟨rfl,rfl⟩) fun r s₁ hr=>?_;cases r with
 |error e=>exact hr
 |ok fl =>
  cases fl with
  |ret obj =>
   obtain⟨rfl,rfl⟩:=hr;generalize hled:zdF w=led;have hS:(s.heap.push { cls:=.type "set",dict:=none,data:=.set #[] 0 (.fresh 0 0 led) }).get? s.heap.objs.size=some { cls:=.type "set",dict:=none,data:=.set #[] 0 (.fresh 0 0 led) }:=y0h _ rfl;have hT:Shared.TypeIs { s with heap:=s.heap.push { cls:=.type "set",dict:=none,data:=.set #[] 0 (.fresh 0 0 led) } } (.ref s.heap.objs.size) "set":=⟨_,hS,rfl⟩;have hli:=y2M.init.lookup;have hbi:=y2M.init.bind (.ref s.heap.objs.size);repeat (any_goals (first|assumption|wp_step))
   refine y2r (codeAny_call_builtin (R:=wants (fun r s₂=>r=.none/\∃h' tk,s₂={ s with heap:=h',toks:=tk } /\
     zbv w Ps s.heap h' s.heap.objs.size (ddp ds) /\
     (∀b o,b<s.heap.objs.size->s.heap.get? b=some o->h'.get? b=some o)) E) y2M.init.plain F.entry_set_init (check_set_init_1 hT ?_)) fun r₂ s₂ hr₂=>?_
   .obtain⟨ol,hol,hcl,nl,hdl⟩:=hl;obtain⟨ocls,odict,odata,oslots⟩:=ol;simp only at hcl hdl;subst hcl;subst hdl;have hol':(s.heap.push { cls:=.type "set",dict:=none,data:=.set #[] 0 (.fresh 0 0 led) }).get? l=some { cls:=.type "list",dict:=odict,data:=.seq items nl,slots:=oslots }:=y05 _ hol;have hsls:=F.sub_list_set;have hslf:=F.sub_list_frozenset;have hne:(Value.type "list" == Value.type "dict")=false:=by decide
    have hl1:(s.heap.push { cls:=.type "set",dict:=none,data:=.set #[] 0 (.fresh 0 0 led) }).IsList l items:=⟨_,hol',rfl,nl,rfl⟩;unfold Builtin.«set.__init__» noKeywords Builtin.Frozenset.updateFrom;generalize hPI:pyIter=PI
    wp_walk
    subst hPI;refine wpAny_pyIter_list hl1 ?_;refine y02 (wpAny_runValue ?_);have hlS:l<s.heap.objs.size:=y0j hol;have hh3:A.in1.in1.in1.handled=none:=by simp[hh]
    have hneI:l≠(s.heap.push { cls:=.type "set",dict:=none,data:=.set #[] 0 (.fresh 0 0 led) }).objs.size:=by rw[y2h];exact y0y (y3j hlS)
    have hSf:s.heap.objs.size∉[(s.heap.push { cls:=.type "set",dict:=none,data:=.set #[] 0 (.fresh 0 0 led) }).objs.size,l]:=by rw[y2h];simp only[y0u,y0c,y3B,or_false,not_or];exact⟨y0y (Nat.lt_succ_self _),y33 hlS⟩
    have none_at:∀b:Nat,s.heap.objs.size<=b->s.heap.get? b=none:=fun b hb'=>by
     cases e:s.heap.get? b with
     |none=>rfl
     |some o=>exact absurd (y0j e) (y3Q.mpr hb')
    refine z9K (by simp only[Around.in1_units];lia) ((Walks.list hh3 _ l hneI items).toS) s.heap.objs.size
     hSf s.heap (none_at _ (y0d _)) (fun b hb'=>none_at b (by rw[y0c.mp hb',y2h];exact Nat.le_succ _)) ds hit hln hb (items.size-0) 0 _ (by lia) (y0B _)
     ⟨⟨_,y0h _ rfl,rfl,rfl⟩,(hl1.push _)⟩ (fun b o e=>y05 _ (y05 _ e)) ?hS0 ?hR
    case hS0 =>
     have hget:((s.heap.push { cls:=.type "set",dict:=none,data:=.set #[] 0 (.fresh 0 0 led) }).push { cls:=.type "list_iterator",data:=.fields #[.ref l,.int 0 0] }).get? s.heap.objs.size
       = some { cls:=.type "set",dict:=none,data:=.set #[] 0 (.fresh 0 0 led) }:=y05 _ hS
     exact⟨_,#[],0,_,hget,⟨rfl,rfl,rfl⟩,rfl,zbb 0 0 led,hled.symm,rfl,(fun e he=>by simp at he),(fun d hd=>by simp[ddp]at hd),(fun i e j he=>by simp at he),fun e he=>by simp at he⟩
    case hR =>
     intro s' hm hS';obtain⟨h',g',d',tk',os'⟩:=s';have eg:g'=s.gens:=hm.gens;have ed:d'=s.drawn:=hm.drawn;have eo:os'=s.os:=hm.os;subst eg;subst ed;subst eo;show wpAny _ _ _ _ _ _;refine y08 ?_;show wpAny _ _ (ret Value.none) _ _ _;refine y08 ⟨rfl,h',tk',rfl,hS',fun b o hb e=>?_⟩;have hb1:b≠s.heap.objs.size:=y0y hb;have hb2:b≠(s.heap.push { cls:=.type "set",dict:=none,data:=.set #[] 0 (.fresh 0 0 led) }).objs.size:=by rw[y2h];exact y0y (y3j hb)
     exact hm.heap b o (by simp only[y0u,y0c,y3B,or_false,not_or];exact⟨hb1,hb2⟩) (y05 _ (y05 _ e))
   .cases r₂ with
    |error e=>exact hr₂
    |ok fl₂ =>
     cases fl₂ with
     |ret r =>
      obtain⟨rfl,h',tk,rfl,hS',hk'⟩:=hr₂;repeat (any_goals (first|assumption|wp_step))
      exact h _ _ hS' hk'
     |_=>exact hr₂.elim
  |_=>exact hr.elim
end
open PySem.SeqAt PySem.W
theorem z7j{α:Type}[DecidableEq α]:∀{l m:List α},l.Nodup->(∀x∈l,x∈m)->m.length=l.length->l.Perm m
 |[],m,_,_,e=>by rw[List.length_eq_zero_iff.mp e]
 |x::l,m,h,s,e=>by have hx:=s x y0p;have hn:=y1a.mp h;refine(List.Perm.cons x (z7j (l:=l) (m:=m.erase x) hn.2 (fun y hy=>(List.mem_erase_of_ne (fun(e:y=x)=>hn.1 (e▸hy))).mpr (s y (y0e _ hy))) ?_)).trans (List.perm_cons_erase hx).symm;rw[y36 hx,e];rfl
def z5K{K:yyF}{H:Hp}{f:D->D}{ds:List D}{b:Addr}{bs:List Addr}(h:DrL K H (ds.map f) ((b::bs).map V.ref)):∃d ds',ds=d::ds'/\Dr K H (f d) (.ref b)/\DrL K H (ds'.map f) (bs.map V.ref):=by
 cases ds with
 |nil=>simp[DrL]at h
 |cons d ds =>
  simp only[y0k,DrL]at h;obtain⟨v,r,e,q1,q2⟩:=h;cases e;exact⟨d,ds,rfl,q1,q2⟩
def zce{K:yyF}{H:Hp}{f:D->D}{vs us:List Value}(p:vs.Perm us):∀{bs:List Addr}{ds:List D},us=bs.map Value.ref->DrL K H (ds.map f) (bs.map V.ref)->∃(bs':List Addr)(rs:List D),vs=bs'.map Value.ref/\rs.Perm ds/\DrL K H (rs.map f) (bs'.map V.ref):=by
 induction p with
 |nil=>exact fun{bs ds} e h=>⟨bs,ds,e,.refl _,h⟩
 |cons x p ih =>
  intro bs ds e h;cases bs with
  |nil=>cases e
  |cons b bs =>
   injection e with e1 e2;obtain⟨d,ds',rfl,q1,q2⟩:=z5K h;obtain⟨bs',rs,z1,z2,z3⟩:=ih e2 q2;exact⟨b::bs',d::rs,by rw[e1,z1];rfl,.cons d z2,DrL.cons q1 z3⟩
 |swap x y l =>
  intro bs ds e h;cases bs with
  |nil=>cases e
  |cons b bs =>
   cases bs with
   |nil=>cases e
   |cons c bs =>
    injection e with e1 e2;injection e2 with e2 e3;obtain⟨d,ds',rfl,q1,q2⟩:=z5K h;obtain⟨d2,ds'',rfl,q3,q4⟩:=z5K q2;exact⟨c::b::bs,d2::d::ds'',by rw[e1,e2,e3];rfl,.swap d d2 ds'',DrL.cons q3 (DrL.cons q1 q4)⟩
 |trans p1 p2 ih1 ih2 =>
  intro bs ds e h;obtain⟨bs1,rs1,z1,z2,z3⟩:=ih2 e h;obtain⟨bs2,rs2,y1,y2,y3⟩:=ih1 z1 z3;exact⟨bs2,rs2,y1,y2.trans z2,y3⟩
def zeK(w:World)(h:Heap)(a:Addr)(bs:List Addr):Prop:=∃o es ep t,h.get? a=some o/\o.ExactSet/\o.data=.set es ep t/\Sat w es t/\es.toList.map (·.2)=bs.map Value.ref
def zfX(w:World)(a:Addr)(bs:List Addr):HO:=.ext fun h=>zeK w h a bs
section
variable{X:Cx}(K:yyF)
def zgd(hK:X.K=K)(hc:X.calm=true)(hu:X.A.units+64<cLine):z2j X (.type "set") (fun xs H Q=>∃(p:Addr) (vs:List V) (ds:List D),xs=[.ref p]/\SqL K H p vs/\DrL K H ds vs /\ (∀d∈ds,D.key d/\D.dep d<=8/\∃l,d=D.tup l)/\(∀i,(ddp (ds.take i)).length<=70)/\∀(S:Addr) (rs:List D) (bs:List Addr) (o:HO),o=zfX X.w S bs->H S=none->rs.Perm (ddp ds)->DrL K H rs (bs.map V.ref)->Q (.ref S) (upd H S o)):=by
 subst hK;intro pins s σ H xs us Q I r h;obtain⟨p,vs,ds,rfl,hp,hds,hall,hb,q⟩:=h;obtain⟨u,rfl,ru⟩:=z3U r;cases ru;obtain⟨its,rv,⟨o,n,ho,hcl,_,hd⟩,hz⟩:=I.list hp;have hl1:ds.length=vs.length:=hds.length;have hl2:vs.length=its.length:=rv.length;have at_:∀(i:Nat)(v:Value),its[i]?=some v->∃d b,ds[i]?=some d/\v=.ref b/\Dr X.K H d (.ref b)/\Hd s.heap d (.ref b)/\D.dep d<=8:=fun i v hv=>by
  have hi:i<ds.length:=by have:=(y0a.mp hv).1;lia
  have ed:ds[i]?=some ds[i]:=y00 hi;obtain⟨x,ex,dx⟩:=hds.get ed;obtain⟨k1,k2,l,e3⟩:=hall ds[i] (y0l _);have dx':=dx;rw[e3]at dx';simp only[Dr]at dx';obtain⟨b,_,rfl,_⟩:=dx';obtain⟨u0,eu,r0⟩:=z0O.get rv ex;rw[hv]at eu;cases eu;cases r0;exact⟨ds[i],b,ed,rfl,dx,Dr.hd I.hok k1 dx rfl,k2⟩
 refine z9a (Ps:=fun v=>v∈its) (ds:=ds) (items:=its.toArray) (I.ok.hd hc) (by lia) ⟨o,ho,hcl,n,hd⟩ (by simp;lia) hb (fun i v hv=>?_) fun h' tk hS hk=>?_
 .obtain⟨d,b,z1,z2,_,z3,z4⟩:=at_ i v (by simpa using hv);exact⟨d,b,z1,z2,z3,z4,y0D (i:=i) (by simpa using hv)⟩
 .obtain⟨o',es,ep,t,e1,e2,e3,e4,el,e5,e6,e8,_,e7⟩:=hS;have pick:∀e∈es.toList,∃d b,d∈ddp ds/\e.2=Value.ref b/\Dr X.K H d (.ref b)/\e.1=D.hash d:=fun e he=>by
   obtain⟨d,hd',b,z1,z2,z3,_⟩:=e6 e he;obtain⟨i,hi⟩:=y25 (e7 e he);obtain⟨d2,b2,_,y2,y3,y4,_⟩:=at_ i _ hi;rw[z2]at y2;cases y2;rw[<-Hd.inj z3 y4]at y3;exact⟨d,b,hd',z2,y3,z1⟩
  obtain⟨f,hf⟩:∃f:Int × Value->D × Addr,∀e∈es.toList,(f e).1∈ddp ds/\e.2=Value.ref (f e).2/\Dr X.K H (f e).1 (.ref (f e).2)/\e.1=D.hash (f e).1:=by refine⟨fun e=>open Classical in if z:∃db:D × Addr,db.1∈ddp ds/\e.2=Value.ref db.2/\Dr X.K H db.1 (.ref db.2)/\e.1=D.hash db.1 then z.choose else(.non,0),fun e he=>?_⟩;obtain⟨d,b,z⟩:=pick e he;have z':∃db:D × Addr,db.1∈ddp ds/\e.2=Value.ref db.2/\Dr X.K H db.1 (.ref db.2)/\e.1=D.hash db.1:=⟨(d,b),z⟩;simp only[dif_pos z'];exact z'.choose_spec
  have hev:es.toList.map (·.2)=(es.toList.map fun e=>(f e).2).map Value.ref:=by rw[y0I];exact y0L fun e he=>(hf e he).2.1
  have hdr:DrL X.K H (es.toList.map fun e=>(f e).1) ((es.toList.map fun e=>(f e).2).map V.ref):=by rw[y0I];exact DrL.map _ _ _ fun e he=>(hf e he).2.2.1
  have hpm:(es.toList.map fun e=>(f e).1).Perm (ddp ds):=by refine(z7j (z4g ds) (fun d hd'=>?_) (by rw[y01,y0s];exact e5)).symm;obtain⟨e,he,z1,b,z2,z3⟩:=e8 d hd';obtain⟨y1,y2,y3,_⟩:=hf e he;refine y0f.mpr ⟨e,he,?_⟩;rw[z2]at y2;have hk':=(hall _ (z67.mp y1)).1;injection y2 with y2;rw[<-y2]at y3;exact Hd.inj (Dr.hd I.hok hk' y3 rfl) z3
  refine⟨.ref _,_,I.laid (o:=zfX X.w s.heap.objs.size (es.toList.map fun e=>(f e).2)) (t':=tk) (fun b u e=>hk b u (y0j e) e) (y0d _) ⟨⟨o',es,ep,t,e1,e2,e3,⟨e4.fits,el,e4.ris⟩,hev⟩,⟨o',e1⟩,fun h1 h2 x e=>?_⟩,rfl,q _ _ _ _ rfl I.fresh hpm hdr⟩;obtain⟨o2,es2,ep2,t2,z,zz⟩:=x;exact⟨o2,es2,ep2,t2,e _ z,zz⟩
def zdm(sz:D->Int)(hK:X.K=K)(hc:X.calm=true)(hu:X.A.units+12<cLine):z2j X (.builtin "sorted") (fun xs H Q=>∃(p:Addr) (bs:List Addr) (ds:List D),xs=[.ref p]/\H p=some (zfX X.w p bs)/\DrL K H (ds.map (prD sz)) (bs.map V.ref)/\(∀d∈ds,D.key d/\D.dep d<=8)/\(∀d∈ds,∀e∈ds,D.ok d e)/\bs.length<=1000 /\ ∀(rs:List D) (vs':List V) (l:Addr),rs.Perm ds->rs.Pairwise (fun x y=>D.ltK (prD sz y) (prD sz x)=false)->DrL K H (rs.map (prD sz)) vs'->H l=none->Q (.ref l) (upd H l (.lst vs'))):=by
 subst hK;intro pins s σ H xs us Q I r h;obtain⟨p,bs,ds,rfl,hp,hd,hq,hok,hlen,q⟩:=h;obtain⟨u,rfl,ru⟩:=z3U r;cases ru;obtain⟨o,es,ep,t,ho,hex,hdt,hs,hev⟩:=(I.hok p _ hp).1;have hel:es.size=bs.length:=by have:=y1o List.length hev;simpa using this
 refine Calls.call_function_entry kind_sorted plain_sorted entry_sorted (args_sorted1 _) ?_;unfold Builtin.«sorted»;refine y02 (m:=checkCount "sorted" 1 1 _) (y08 ?_);refine y02 (z6m (I.ok.hd hc) ho hex hdt hs (by show es.size<4096;lia) fun h1 d tk vs hk hsz hpv=>?_);rw[hev]at hpv;obtain⟨vs2,rv,rs0,hrp,hdr⟩:∃vs2,z0O vs2 vs/\∃rs0:List D,rs0.Perm ds/\DrL X.K H (rs0.map (prD sz)) vs2:=by obtain⟨bs',rs,e,hrp,hdr⟩:=zce (f:=prD sz) hpv rfl hd;subst e;exact⟨bs'.map V.ref,z68 _ _ _ fun x=>rfl,rs,hrp,hdr⟩
 have hvl:vs.length=bs.length:=by rw[hpv.length_eq,y01]
 have hz':vs.length<=sizeLine:=y1k (z22 (by lia));refine y02 (wpAny_newList ?_ (by simpa using hz'));have I1:Inv X pins σ H { s with heap:=h1,drawn:=d,toks:=tk }:=(I.kept (t':=tk) hk).drew d;have I2:Inv X pins σ H { s with heap:=h1.push (seqObj "list" vs.toArray 0),drawn:=d,toks:=tk }:=I1.kept (t':=tk) fun b o e=>y05 _ e;have hoL:(h1.push (seqObj "list" vs.toArray 0)).get? h1.objs.size=some (seqObj "list" vs.toArray 0):=y0h _ rfl;show wpAny _ _ _ _ _ { s with heap:=h1.push (seqObj "list" vs.toArray 0),drawn:=d,toks:=tk };refine y02 (y1t (y1s slot_list_sort ⟨_,hoL,rfl⟩ entry_list_sort
  (z9w (sz:=sz) I2 (by show X.A.units+1+1+10<cLine;lia) hoL (I1.fpOk (y0d _) I1.fresh) hz' rv hdr (fun d hd=>hq d (hrp.mem_iff.mp hd)) (fun d hd e he=>hok d (hrp.mem_iff.mp hd) e (hrp.mem_iff.mp he)) fun rs vs' s' a1 a2 a3 a4=>⟨_,rfl,?_⟩) (args_list_sort _)))
 exact y08 ⟨_,rfl,.ref h1.objs.size,_,a4,rfl,q rs vs' _ (a1.trans hrp) a2 a3 I1.fresh⟩
end
end L2
namespace Gu
open PySem L2
def z88{n:Nat}{A f h:List Row}(G:z0l n A)(h60:A.length<=60)(hf:f∈z2l A A.length)(hh:h∈z2l f f.length):h∈z2l A A.length:=by obtain⟨r,r0,r1,rfl⟩:=z2I.mp hf;have GS:=z0Y G r0 r1;obtain⟨x,x0,x1,rfl⟩:=z2I.mp hh;obtain⟨w,hw,rfl⟩:=z9z (z2a GS) (z4H GS) x0 x1;rw[ze7 G h60 r0 r1 hw];obtain⟨y0,y1⟩:=za2 G hw r0 r1;exact z2I.mpr ⟨_,y0,y1,rfl⟩
def zaw{n:Nat}{A:List Row}(G:z0l n A)(hf:shr A=A):A∈z2l A A.length:=z2I.mpr ⟨0,y2i 0,by have:=G.some;lia,by rw[zcz G,hf]⟩
def z3F(gs:List (List Row)):List (List Row):=gs.flatMap fun g=>z2l g g.length
def z3j{gs:List (List Row)}{f:List Row}:f∈z3F gs↔∃g∈gs,f∈z2l g g.length:=by unfold z3F;rw[List.mem_flatMap]
def zaO(gs:List (List Row))(g:List Row):z3F (gs++[g])=z3F gs++z2l g g.length:=by unfold z3F;rw[List.flatMap_append];simp
def z44{gs:List (List Row)}{k:Nat}(h:∀g∈gs,g.length<=k):(z3F gs).length<=gs.length*k:=by
 unfold z3F;induction gs with
 |nil=>simp
 |cons g gs ih =>
  rw[List.flatMap_cons,y09,z5x,y0H,Nat.succ_mul];have:=ih fun x hx=>h x (y0e _ hx);have:=h g y0p;lia
def zdZ{gs due:List (List Row)}(nd:due.Nodup)(hm:∀f,f∈due↔f∈z3F gs)(up:UpF due):z2Q gs due:=⟨nd,fun f=>by rw[hm,z3j],up⟩
def zaA{gs fs fs':List (List Row)}(h:z2Q gs fs)(h':z2Q gs fs'):fs=fs':=z8S h h' fun _=>Iff.rfl
def zbe{n:Nat}{gs fs fs':List (List Row)}(hg:∀g∈gs,z0l n g/\g.length<=60)(h:z2Q gs fs)(h':z2Q fs fs'):fs'=fs:=by
 refine(z8S h h' fun f=>?_).symm;constructor
 .rintro⟨g,hgm,hf⟩;have hfs:=(h.mem f).mpr ⟨g,hgm,hf⟩;obtain⟨G,e,_⟩:=z4f h hg f hfs;exact⟨f,hfs,zaw G e⟩
 .rintro⟨g,hgm,hf⟩;obtain⟨a,ha,hga⟩:=(h.mem g).mp hgm;exact⟨a,ha,z88 (hg a ha).1 (hg a ha).2 hga hf⟩
def zdG{a b:List Row}(e:prD szD (fD a)=prD szD (fD b)):a=b:=by unfold prD at e;injection e with e;simp only[y3d,and_true]at e;exact z8z e.2
theorem zeF:∀{rs:List D},(∀r∈rs,∃f:List Row,r=prD szD (fD f))->∃ks:List (List Row),rs=(fmD ks).map (prD szD)
 |[],_=>⟨[],rfl⟩
 |r::rs,h=>by obtain⟨f,rfl⟩:=h r y0p;obtain⟨ks,rfl⟩:=zeF (rs:=rs) fun x hx=>h x (y0e _ hx);exact⟨f::ks,rfl⟩
def zbj{ks:List (List Row)}{f:List Row}:prD szD (fD f)∈(fmD ks).map (prD szD)↔f∈ks:=by
 unfold fmD;rw[y0I,y0f];constructor
 .rintro⟨g,hg,e⟩;rw[<-zdG (show prD szD (fD g)=prD szD (fD f)from e)];exact hg
 .exact fun h=>⟨f,h,rfl⟩
def zbw{ks:List (List Row)}{r:D}(h:r∈(fmD ks).map (prD szD)):∃f∈ks,r=prD szD (fD f):=by obtain⟨d,hd,rfl⟩:=y0f.mp h;obtain⟨f,hf,rfl⟩:=y0f.mp hd;exact⟨f,hf,rfl⟩
def zdY{ks L:List (List Row)}(hL:L.length<=70)(h:∀f∈ks,f∈L)(i:Nat):(ddp (((fmD ks).map (prD szD)).take i)).length<=70:=by
 have:=z5P (m:=(fmD L).map (prD szD)) (z4g (((fmD ks).map (prD szD)).take i)) fun x hx=>by obtain⟨f,hf,rfl⟩:=zbw (y0U (z67.mp hx));exact zbj.mpr (h f hf)
 rw[y01,z1v]at this;lia
def zft{ks:List (List Row)}{rs:List D}(h:rs.Perm (ddp ((fmD ks).map (prD szD)))):∃us:List (List Row),rs=(fmD us).map (prD szD)/\us.Nodup/\∀f,f∈us↔f∈ks:=by
 obtain⟨us,rfl⟩:=zeF (rs:=rs) fun r hr=>by obtain⟨f,_,e⟩:=zbw (z67.mp (h.mem_iff.mp hr));exact⟨f,e⟩
 refine⟨us,rfl,?_,fun f=>?_⟩
 .have nd:=h.nodup_iff.mpr (z4g _);unfold fmD at nd;rw[y0I,y1S,y1E]at nd;exact y1S.mpr (List.Pairwise.imp (fun{a b} hab e=>hab (by rw[e])) nd)
 .rw[<-zbj,h.mem_iff,z67,zbj]
def z92{n:Nat}{fs:List (List Row)}(h:∀f∈fs,z0l n f/\shr f=f)(hn:n<=60)(hl:fs.length<=5000):D.dep (D.lst (fmD fs))<5/\D.few (D.lst (fmD fs)):=by
 have h:∀d∈fmD fs,D.dep d<=3/\D.few d:=fun d hd=>by obtain⟨g,hg,rfl⟩:=y0f.mp hd;obtain⟨G,e⟩:=h g hg;obtain⟨a,b⟩:=z6z G hn;rw[e]at a b;exact⟨by lia,b⟩
 have h1:=D.depL_le fun d hd=>(h d hd).1;refine⟨by simp only[D.dep];lia,?_⟩;simp only[D.few];exact⟨by rw[z1v];exact hl,D.fewL_of fun d hd=>(h d hd).2⟩
def z7G(a b:List (List Row)):fmD (a++b)=fmD a++fmD b:=y0i
def z83(a:List (List Row))(k:Nat):fmD (a.take k)=(fmD a).take k:=List.map_take
theorem DrL.takeL{K:yyF}{H:Hp}:∀{ds:List D}{vs:List V},DrL K H ds vs->∀k,DrL K H (ds.take k) (vs.take k)
 |_,_,_,0=>by rw[List.take_zero,List.take_zero];exact DrL.nil
 |[],_,h,k+1=>by simp only[DrL]at h;subst h;exact DrL.nil
 |d::ds,_,h,k+1=>by simp only[DrL]at h;obtain⟨v,r,rfl,q1,q2⟩:=h;exact DrL.cons q1 (DrL.takeL q2 k)
def z6U(xs:List V)(k:Nat):zbt xs none (some (k:Int))=xs.take k:=by
 unfold zbt;rw[HT.sIx_none,HT.sIx_nat,List.drop_zero,Nat.sub_zero];rcases Nat.le_total k xs.length with z|z
 .rw[y3b z]
 .rw[Nat.min_eq_right z,y1j,y0x z]
section
variable{P:Program}{w:World}{K:yyF}{mg:yyS}{base:Heap}{f g:Addr}{fd gd:FuncData}{CX:CXT}[NoE CX]
abbrev zfn:Scope:=csc [("at",.local),("guise",.free)]
def zgg:z0z ["guise","row"] ["guise","row"] (z08 z4P):={}
def zfN:z1a ["guise","row"] (z08 z4P) ["at","guise"] [none,some 0] zfn:={}
def zgk:zfE ["at","guise"] ["at"] zfn:={}
def ze3{k Ct cc:Addr}{kd:FuncData}{Ts:List Tb}{T0:Tb}(F:Fun K "section_at" "section_at" z4P f fd)(hcd:fd.code=.ref cc)(hC:PySem.W.CodeHd base cc T0.at_)(hB:z4t base mg)(hT:T0∈Ts)(hTn:∀T'∈Ts,T'.at_=T0.at_->T'=T0)(hTp:T0.pos=zaC (z0Q z4P))(hTq:T0.qual=("section_at.<locals>."++"<lambda>":Str))(T:z0K P w K mg base (CXx P w) 6 k kd ["first","row_at"] (z60 P w K mg base (CXx P w) 4 Ct))(bT:z0u K kd ["first","row_at"] [])(kT:PySem.W.keepIn K (.ref k)=true)(mT:mg "least_form"=some (.ref k)):z0K P w K mg base (CXx P w) 7 f fd ["guise","row"] (z9Q Ts K):=by
 refine F.okL hcd zgg (fun vs H Q E h=>?_) (fun A outer s H vs Q E hr h=>?_)
 .obtain⟨v,rows,n,g,rfl,_⟩:=h;rfl
 obtain⟨v,rows,n,g,rfl,hTb,dv,GM,hn,h60,g0,g1,gv⟩:=h;refine⟨_,z0a (z0I (zcI (Ts:=Ts) (T:=T0) T hr rfl mT kT bT (zet fun _ _ _ z=>z) (pv 1) (fun σ H Q Q' h ⟨v,e,q⟩=>⟨v,e,h _ _ q⟩) zfN rfl hC hB (fun _=>rfl) hT hTn hTp hTq)),?_⟩;obtain⟨av,us,rfl,eav,dus⟩:∃(av:Addr)(us:List V),v=.ref av/\H av=some (.tup us)/\DrL K H (z0j rows) us:=by simp only[Dr]at dv;exact dv
 have G2:=z0Y GM g0 g1;refine(exA rfl ⟨hTb,fun fa H4 cs f1 f2 f3 C=>?_⟩);have fin:∀{H5:Hp},z0d H4 H5->SameL Ts H (utk H5 cs):=fun s5=>(z0d.l (z0d.refl H)).trans (f2 _ s5);have eav4:=f1 _ _ (fun _ z=>by cases z) ((z0d.refl H) _ _ eav);have dus4:DrL K H4 (z0j rows) us:=(dus.mono (z0d.refl H)).monoL (Ts:=[]) ⟨f1,fun _ _ h=>absurd h (by simp)⟩;have RN:=z4v (s:=g) g0 g1 dus4;refine⟨fa,n,swM rows g,sw g,(by rw[z4J]),zaz g,?_,G2,hn,fun h6 v H5 s5 d=>gv v _ (fin s5) (d.nfr (NFr.utk f3 s5)),fun h6=>absurd h6 (by have:=z4m G2;rw[z1J]at this;lia)⟩;refine z33.lam (k:=3) C zgk (fun _ _ _ _ us hl=>by obtain⟨a9,rfl⟩:=zfG hl;rfl) rfl (fun vs H Q h=>?_) (fun H' s' A outer s cd clos cs vs Q hr nf h=>?_)
 .obtain⟨i,rfl,_⟩:=h;rfl
 obtain⟨i,rfl,h0,h1',gq⟩:=h;obtain⟨j0,v,ev,dv'⟩:=RN i h0 h1';refine⟨_,z0W z2N (pv 1) (pv 0) (fun _ _=>rfl),?_⟩;refine(exA rfl (exA rfl (exD av us (sw g i) v rfl rfl (SqT.of (nf _ _ (fun _ z=>by cases z) (s' _ _ eav4))) (z3Q j0 ev) (fun hc=>?_))));have sr:=z0d.rtk (H:=H') (H1:=utk H' cs) (cs:=cs) (z0d.refl _);exact gq v _ sr ((dv'.mono s').mono sr)
abbrev zgB:List Str:=["guise"]
def zg9:z0z zgB ["guise"] (z08 z2n):={}
def zfa:z1a zgB (z08 z2n) ["row","guise"] [none,some 0] (csc [(".0",.local),("row",.local),("section_at",.globalImplicit),("guise",.free)]):={}
def z78{k:Addr}{kd:FuncData}{Ts:List Tb}(ml:mg "len"=none)(mr:mg "range"=none)(F:Fun K "sections" "sections" z2n f fd)(T:z0K P w K mg base (CXx P w) 7 k kd ["guise","row"] (z9Q Ts K))(bT:z0u K kd ["guise","row"] [])(kT:PySem.W.keepIn K (.ref k)=true)(mT:mg "section_at"=some (.ref k)):z0K P w K mg base (CXx P w) 8 f fd ["guise"] (z2S Ts K):=by
 refine F.okc zg9 (fun vs H Q E h=>?_) (fun cdv A outer s H vs Q E hr h=>?_)
 .obtain⟨v,rows,n,rfl,_⟩:=h;rfl
 obtain⟨v,rows,n,rfl,hTb,dv,GM,hn,h60,gv⟩:=h;refine⟨_,z0a (z0I (z1h rfl zfa (z1b rfl mr (z02 (z0h z0f rfl ml y0F (z02 (pv 0) z05)) z05)) (fun _ _ _ _ _=>z0k (i:=0) zfa.nd rfl (Or.inl rfl)) (fun _ _ _ _ _=>z0i T hr rfl mT kT bT .nil z0T (z02 (pv 1) (z02 (pv 0) z05))))),?_⟩;obtain⟨av,us,rfl,eav,dus⟩:∃(av:Addr)(us:List V),v=.ref av/\H av=some (.tup us)/\DrL K H (z0j rows) us:=by simp only[Dr]at dv;exact dv
 have hlu:us.length=rows.length:=by rw[<-dus.length];unfold z0j;rw[y01]
 refine(exA rfl (exG av rfl (.inr (SqT.of eav)) ?_));rw[hlu];refine⟨((rows.length:Nat):Int),rfl,by lia,by lia,fun l hl=>z1i (n:=((rows.length:Nat):Int).toNat) (fun i ys H2=>ys.length=i/\i<=rows.length/\SameL Ts H H2/\DrL K H2 (fmD (z2l rows i)) ys) ⟨rfl,y0B _,z0d.l (z07 (z0d.refl H) hl),DrL.nil⟩ (by rw[y1b];exact z0M (by lia)) (fun i ys H2 h=>h.1) (fun i ys H2 hi h hy=>?_) (fun ys H2 h hy=>?_)⟩
 .obtain⟨hyl,_,s2,d2⟩:=h;have hi':i<rows.length:=by lia
  refine(exA rfl (exA rfl ⟨.ref av,rows,n,(i:Int),(by rw[Int.zero_add];rfl),s2.tabs hTb,dv.monoL s2,GM,hn,h60,by lia,by lia,fun x H3 s3 d3=>?_⟩));have e3:=s3.g hy;refine⟨e3,by rw[y09,hyl];rfl,by lia,SameL.over (s2.trans s3) hl e3,?_⟩;rw[z79,z3b];refine DrL.append ((d2.monoL s3).keyed (z0Z e3) (z1N _)) (DrL.one (d3.keyed (z0Z e3) ?_));have:=z1N [shr (swM rows (i:Int))];simp only[y0k,y0T,D.keyL]at this;exact this.1
 .obtain⟨hyl,_,s2,d2⟩:=h;rw[y1b]at d2;exact gv l _ _ hl s2 hy d2
abbrev zgC:List Str:=["guises","seen","guise","section"]
def zcC:z0z zgC ["guises"] (z08 z4M):={}
abbrev zfy:Scope:=csc [("section",.local),("len",.globalImplicit)]
def zeO:z1a zgC (z08 z4M) ["section"] [none] zfy:={}
def zg3:zfE ["section"] ["section"] zfy:={}
def zed{cc:Addr}{Ts:List Tb}{T0:Tb}(ml:mg "len"=none)(mso:mg "sorted"=none)(F:Fun K "crew" "crew" z4M f fd)(hcd:fd.code=.ref cc)(hC:PySem.W.CodeHd base cc T0.at_)(hB:z4t base mg)(hT:T0∈Ts)(hTn:∀T'∈Ts,T'.at_=T0.at_->T'=T0)(hTp:T0.pos=z7N (z0Q z4M))(hTq:T0.qual=("crew.<locals>."++"<lambda>":Str)){aS:Addr}{dS:FuncData}(S:z0K P w K mg base (CXx P w) 8 aS dS ["guise"] (z2S Ts K))(bS:z0u K dS ["guise"] [])(kS:PySem.W.keepIn K (.ref aS)=true)(mS:mg "sections"=some (.ref aS)):z0K P w K mg base (CXx P w) 9 f fd ["guises"] (zb5 Ts K):=by
 refine F.okL hcd zcC (fun vs H Q E h=>?_) (fun A outer s H vs Q E hr h=>?_)
 .obtain⟨a,us,gs,n,rfl,_⟩:=h;rfl
 obtain⟨a,us,gs,n,rfl,hTb,ea,dus,hgs,hn,hgl,gv⟩:=h;have hu9:=zff hr;refine⟨_,z04 (z0g (i:=1) zcC.nd rfl (Or.inl rfl) (z7I (K:=K)))
  (z04 (z2g y3p rfl (z1z (pv 0)) (z0k (i:=2) zcC.nd rfl (Or.inl rfl))
   (z0a (z2g y3p rfl (z1z (z0i S hr rfl mS kS bS .nil z0T (z02 (pv 2) z05))) (z0k (i:=3) zcC.nd rfl (Or.inl rfl))
    (z0a (z7C (K:=K) hu9 (pv 1) (pv 3) zbV)))))
  (z0a (z0I (zcB (CX:=CXx P w) (k:=2) (Ts:=Ts) (T:=T0) (sz:=szD) rfl (hr.mono (by decide)) rfl mso (pv 1) (fun σ H Q Q' h ⟨v,e,q⟩=>⟨v,e,h _ _ q⟩) zeO rfl hC hB hT hTn hTp hTq (by decide +kernel))))),?_⟩
 refine fun p hp ob hdd=>?_;have hap:a≠p:=z0e ea hp;refine⟨_,rfl,a,rfl,⟨_,SqL.of (by rw[z06 hap];exact ea)⟩,z9b (xs:=us) (fun j σ H1=>∃(ks:List (List Row))(u2 u3:Option V),σ=[some (.ref a),some (.ref p),u2,u3]/\SameL Ts H H1/\DD P w K H1 p (kvF ks)/\ks.Nodup/\ks.length<=60*j/\∀f,f∈ks↔∃g∈gs.take j,f∈z2l g g.length)
  ⟨[],_,_,rfl,z0d.l (z07 (z0d.refl H) hp),hdd,y2A,y0B _,fun f=>by simp⟩ (fun j σ H1 _ h=>by obtain⟨_,_,_,_,s1,_⟩:=h;exact SqL.of (s1.g ea)) (fun j v σ H1 hx h Ed nx=>?_) (fun σ H1 h=>?_)⟩
 .obtain⟨ks,u2,u3,rfl,s1,d1,nd1,kl1,mem1⟩:=h;have hul:us.length=gs.length:=by have:=dus.length;rw[z1v]at this;lia
  have hjl:j<gs.length:=by have:=(y0a.mp hx).1;lia
  have eg:gs[j]?=some gs[j]:=y00 hjl;have hgm:gs[j]∈gs:=y0l hjl;have etk:gs.take (j+1)=gs.take j++[gs[j]]:=by rw[y0G,eg];rfl
  generalize gs[j]=g at eg hgm etk;obtain⟨G,h60⟩:=hgs g hgm;obtain⟨v',ev,dv⟩:=dus.get (show(fmD gs)[j]?=some (fD g)by unfold fmD;rw[y04,eg];rfl);rw[hx]at ev;cases ev;refine(exA rfl ⟨v,g,n,rfl,s1.tabs hTb,dv.monoL s1,G,hn,h60,fun l H2 us2 fl s2 el dl=>⟨l,rfl,⟨_,SqL.of el⟩,?_⟩⟩);have hlp:l≠p:=fun z=>by obtain⟨xs,e,_⟩:=d1;rw[<-z,fl]at e;cases e
  have hsl:=z5x g g.length;have hl2:us2.length=g.length:=by have:=dl.length;rw[z1v]at this;lia
  refine z9b (xs:=us2) (fun i σ H3=>∃(ks:List (List Row))(u3:Option V),σ=[some (.ref a),some (.ref p),some v,u3]/\SameL Ts H H3/\H3 l=some (.lst us2)/\DrL K H3 (fmD (z2l g g.length)) us2/\DD P w K H3 p (kvF ks)/\ks.Nodup/\ks.length<=60*j+i/\∀f,f∈ks↔(∃g∈gs.take j,f∈z2l g g.length)\/f∈(z2l g g.length).take i)
   ⟨ks,_,rfl,s1.trans s2,el,dl,d1.monoL s2,nd1,by lia,fun f=>by rw[mem1];simp⟩ (fun i σ H3 _ h=>by obtain⟨_,_,_,_,e3,_⟩:=h;exact SqL.of e3) (fun i y σ H3 hy h Ed2 nx2=>?_) (fun σ H3 h=>?_)
  .obtain⟨ks,u3,rfl,s3,e3,dl3,d3,nd3,kl3,mem3⟩:=h;have hil:i<(z2l g g.length).length:=by have:=(y0a.mp hy).1;lia
   have ef:(z2l g g.length)[i]?=some (z2l g g.length)[i]:=y00 hil;have hfm:=y0l hil;have eft:(z2l g g.length).take (i+1)=(z2l g g.length).take i++[(z2l g g.length)[i]]:=by rw[y0G,ef];rfl
   generalize(z2l g g.length)[i]=f at ef hfm eft;obtain⟨y',ey,dy⟩:=dl3.get (show(fmD (z2l g g.length))[i]?=some (fD f)by unfold fmD;rw[y04,ef];rfl);rw[hy]at ey;cases ey;obtain⟨k1,k2,_⟩:=zcA G hn (fD f) (y0f.mpr ⟨f,hfm,rfl⟩);obtain⟨b,rfl⟩:∃b,y=.ref b:=by simp only[Dr]at dy;obtain⟨b,_,e,_⟩:=dy;exact⟨b,e⟩
   have hklen:(kvF ks).length=ks.length:=y01 ..;refine(exA rfl (exA rfl ⟨p,_,fD f,rfl,d3,⟨⟨b,rfl⟩,k1,k2,dy⟩,by rw[hklen];exact y0t (by lia:ks.length<4000) (by decide),fun ob d4=>?_⟩));rw[ze1]at d4;refine nx2 _ _ (exB rfl ⟨SameL.overD s3 hp d3,by rw[z06 hlp];exact e3,dl3.keyed (fun c ys ec=>by rw[z06 (z8I d3 c ys ec)];exact ec) (z1N _),d4,?_,?_,fun f'=>?_⟩)
   .by_cases z:f∈ks
    .rw[if_pos z];exact nd3
    .rw[if_neg z];exact y2S.mpr ⟨nd3,y1a.mpr ⟨by simp,y2A⟩,fun c hc d hd e=>z (by rw[y0c.mp hd]at e;rw[<-e];exact hc)⟩
   .by_cases z:f∈ks
    .rw[if_pos z];lia
    .rw[if_neg z,y09,y3t];lia
   .rw[eft,y0g,y0c];by_cases z:f∈ks
    .rw[if_pos z,mem3];constructor
     .rintro(q|q)
      .exact .inl q
      .exact .inr (.inl q)
     .rintro(q|q|q)
      .exact .inl q
      .exact .inr q
      .rw[q];exact(mem3 f).mp z
    .rw[if_neg z,y0g,y0c,mem3,or_assoc]
  .obtain⟨ks,u3,rfl,s3,e3,dl3,d3,nd3,kl3,mem3⟩:=h;refine nx _ _ ⟨ks,exB rfl ⟨s3,d3,nd3,by lia,fun f=>?_⟩⟩;rw[mem3,etk];have et:(z2l g g.length).take us2.length=z2l g g.length:=y0x (by lia);rw[et];constructor
   .rintro(⟨g',hg',q⟩|q)
    .exact⟨g',y0m _ hg',q⟩
    .exact⟨g,y0z _ (y0c.mpr rfl),q⟩
   .rintro⟨g',hg',q⟩;rcases y0g.mp hg' with z|z
    .exact .inl ⟨g',z,q⟩
    .rw[y0c.mp z]at q;exact .inr q
 .obtain⟨ks,u2,u3,rfl,s1,d1,nd1,kl1,mem1⟩:=h;have hul:us.length=gs.length:=by have:=dus.length;rw[z1v]at this;lia
  have et:gs.take us.length=gs:=y0x (by lia);rw[et]at mem1;refine(exA rfl ⟨p,exA rfl ⟨d1,s1.tabs hTb,fun d hd e he=>?_,fun fa H2 s2 C=>⟨?_,fun xs H3 l vs hp3 hs3 s3 fl3 dv3=>?_⟩⟩⟩)
  .rw[z47]at hd he;obtain⟨g,_,rfl⟩:=y0f.mp hd;obtain⟨g',_,rfl⟩:=y0f.mp he;exact zdy g g'
  .rw[z47];refine z33.lam (k:=1) C zg3 (fun _ _ _ _ us hl=>match us,hl with|[_],_=>rfl) rfl (fun vs H Q h=>?_) (fun H' s' A outer s cd clos cs vs Q hr nf h=>?_)
   .obtain⟨x,d,rfl,_⟩:=h;rfl
   obtain⟨x,d,rfl,hd,dx,gq⟩:=h;obtain⟨g,_,rfl⟩:=y0f.mp hd;obtain⟨b,ys,rfl,eb,dys⟩:∃(b:Addr)(ys:List V),x=.ref b/\H' b=some (.tup ys)/\DrL K H' (z0j g) ys:=by simp only[Dr]at dx;exact dx
   have eb':=nf _ _ (fun _ z=>by cases z) eb;refine⟨_,z3c (z02 (z0h z0f rfl ml y0F (z02 (pv 0) z05)) (z02 (pv 0) z05)),?_⟩;refine(exA rfl ⟨b,ys,rfl,.inr (SqT.of eb'),exA rfl ?_⟩);refine⟨show 2<=sizeLine by decide,fun q hq hcs=>?_⟩;have s0:z0d (utk H' cs) (upd (utk H' cs) q (.tup [.int (ys.length:Nat),.ref b])):=z07 (z0d.refl _) hq;have sr:=z0d.rtk s0;have eq:rtk H' (upd (utk H' cs) q (.tup [.int (ys.length:Nat),.ref b])) cs q=some (.tup [.int (ys.length:Nat),.ref b]):=by rw[z2v (fun z=>by have:=hcs q z;rw[z03]at this;cases this),z03]
   refine gq _ _ sr ?_;have hyl:(ys.length:Int)=szD (fD g):=by have:=dys.length;show(ys.length:Int)=((z0j g).length:Int);lia
   simp only[prD,Dr];exact⟨q,exA rfl ⟨eq,DrL.cons (by simp only[Dr];rw[hyl]) (DrL.one (dx.mono sr))⟩⟩
  .rw[z47]at hp3;obtain⟨fs,rfl,hpf⟩:=z9O hp3;have s13:SameL Ts H H3:=(s1.trans s2).trans (z0d.l s3);refine gv fs ⟨hpf.nodup_iff.mpr nd1,fun f=>by rw[hpf.mem_iff,mem1],y1E.mp hs3⟩ l _ vs (s13.free2 fl3) (Gu.SameL.up s13 fl3) z03 (dv3.keyed (fun b ys e=>by rw[z06 (fun z=>by rw[z,fl3]at e;cases e)];exact e) (z1N _))
abbrev zfb:List Str:=["_law_script","_law_letters_here","_law_guises","_law_great","_law_some","_law_one","_law_due","_law_handed","_law_found","_law_again"]
def z3z:z0z zfb ["_law_script"] (z08 z8n):={}
def zfz:z1a zfb (z08 z8n) ["_law_pair"] [none] (csc [(".0",.local),("_law_pair",.local)]):={}
def zcL:z1a zfb (z08 z8n) ["_law_one"] [none] (csc [(".0",.local),("_law_one",.local),("len",.globalImplicit)]):={}
def zd4:z1a zfb (z08 z8n) ["_law_at","_law_one"] [none,some 5] (csc [(".0",.local),("_law_at",.local),("_law_shrunk",.globalImplicit),("_law_one",.free)]):={}
def zcP:z1a zfb (z08 z8n) ["_law_k","_law_letters_here","_law_script"] [none,some 1,some 0] (csc [(".0",.local),("_law_k",.local),("_law_guise",.globalImplicit),("_law_cell",.globalImplicit),("_law_letters_here",.free),("_law_script",.free)]):={}
def zfC{Ts:List Tb}(ml:mg "len"=none)(mr:mg "range"=none)(mso:mg "sorted"=none)(mset:mg "set"=none)(mli:mg "list"=none)(F:Fun K "law" "law" z8n f fd){aC:Addr}{dC:FuncData}(C:z0K P w K mg base (CXx P w) 9 aC dC ["_law_script","_law_at"] (z8J K))(bC:z0u K dC ["_law_script","_law_at"] [])(kC:PySem.W.keepIn K (.ref aC)=true)(mC:mg "_law_cell"=some (.ref aC)){aL:Addr}{dL:FuncData}(L:z0K P w K mg base (CXx P w) 9 aL dL ["_law_script","_law_at"] (z4I K))(bL:z0u K dL ["_law_script","_law_at"] [])(kL:PySem.W.keepIn K (.ref aL)=true)(mL:mg "_law_letters"=some (.ref aL)){aG:Addr}{dG:FuncData}(G:z0K P w K mg base (CXx P w) 9 aG dG ["_law_letters_here","_law_cell_here"] (z5w K))(bG:z0u K dG ["_law_letters_here","_law_cell_here"] [])(kG:PySem.W.keepIn K (.ref aG)=true)(mG:mg "_law_guise"=some (.ref aG)){aA0:Addr}{dA0:FuncData}(A0:z0K P w K mg base (CXx P w) 9 aA0 dA0 ["_law_letters_here","_law_cell_here"] (z80 K))(bA0:z0u K dA0 ["_law_letters_here","_law_cell_here"] [])(kA0:PySem.W.keepIn K (.ref aA0)=true)(mA0:mg "_law_ample"=some (.ref aA0)){aZ:Addr}{dZ:FuncData}(Z:z0K P w K mg base (CXx P w) 9 aZ dZ ["_law_rows_here","_law_start"] (z3a K))(bZ:z0u K dZ ["_law_rows_here","_law_start"] [])(kZ:PySem.W.keepIn K (.ref aZ)=true)(mZ:mg "_law_shrunk"=some (.ref aZ)){aCr:Addr}{dCr:FuncData}(Cr:z0K P w K mg base (CXx P w) 9 aCr dCr ["guises"] (zb5 Ts K))(bCr:z0u K dCr ["guises"] [])(kCr:PySem.W.keepIn K (.ref aCr)=true)(mCr:mg "crew"=some (.ref aCr)){aI:Addr}{dI:FuncData}(I:z0K P w K mg base (CXx P w) 9 aI dI ["_law_found","_law_due"] (z4o K 5))(bI:z0u K dI ["_law_found","_law_due"] [])(kI:PySem.W.keepIn K (.ref aI)=true)(mI:mg "_law_like"=some (.ref aI)):z0K P w K mg base (CXx P w) 10 f fd ["_law_script"] (z8j Ts K):=by
 refine F.okc z3z (fun vs H Q E h=>?_) (fun cdv A' outer s H vs Q E' hr h=>?_)
 .obtain⟨a,ns,rfl,_⟩:=h;rfl
 obtain⟨a,ns,rfl,hS,h63,hTb,q⟩:=h;have hu:=hr.units;have hu12:=zdw hr;have n2:=zdv ns 0;have n5:=ze0 ns 0;refine⟨_,z04 (z0g (i:=1) z3z.nd rfl (Or.inr rfl) (z0i L hr rfl mL kL bL .nil z0T (z02 (pv 0) (z02 z09 z05))))
  (z04 (z7v (i:=2) rfl zcP (z1b rfl mr (z02 (z0o z0U (z0i C hr rfl mC kC bC .nil z0T (z02 (pv 0) (z02 z09 z05))) z09) z05)) (fun _ _ _ _ _=>z0k (i:=0) zcP.nd rfl (Or.inl rfl)) (fun _ _ _ _ _=>z0i G hr rfl mG kG bG .nil z0T (z02 (pv 1) (z02 (z0i C hr rfl mC kC bC .nil z0T (z02 (pv 2) (z02 (z0o z1c z09 (pv 0)) z05))) z05))) z3z.nd rfl rfl)
  (z04 (z1M (z1K (z2O (z0o z0U (z0i C hr rfl mC kC bC .nil z0T (z02 (pv 0) (z02 z09 z05))) z09) z09)) (z0a (z0g (i:=2) z3z.nd rfl (Or.inl rfl) (z0o zcN (pv 2) (z62 z7q (pv 2) zaW (z5U z09))))) z0E)
  (z04 (z1M (z1K (z2O (z0o z0U (z0i C hr rfl mC kC bC .nil z0T (z02 (pv 0) (z02 z09 z05))) z09) z09)) (z04 (z0g (i:=3) z3z.nd rfl (Or.inl rfl) (z0i A0 hr rfl mA0 kA0 bA0 .nil z0T (z02 (pv 1) (z02 (z0i C hr rfl mC kC bC .nil z0T (z02 (pv 0) (z02 z09 z05))) z05))))
   (z0a (z0g (i:=2) z3z.nd rfl (Or.inl rfl) (z0o zcN (z1Q (z02 (pv 3) (z02 (z0i Z hr rfl mZ kZ bZ .nil z0T (z02 (pv 3) (z02 (z0W z2N (z0W z2N (z0W z2N (pv 3) z09 (fun _ _=>rfl)) z09 (fun _ _=>rfl)) z09 (fun _ _=>rfl)) z05))) z05))) (z62 z7q (pv 2) zaW (z5U z09)))))) z0E)
  (z04 (z0g (i:=4) z3z.nd rfl (Or.inl rfl) (z1Q z05))
  (z04 (z2g y1e rfl (z1z (pv 2)) (z0k (i:=5) z3z.nd rfl (Or.inr rfl))
   (z0a (z1A (z3V y0J PySem.F.slot_list_extend PySem.F.type_list_extend zaS (pv 4) (z02 (z1h rfl zd4 (z1b rfl mr (z02 (z0h z0f rfl ml y0F (z02 (pv 5) z05)) z05)) (fun _ _ _ _ _=>z0k (i:=0) zd4.nd rfl (Or.inl rfl)) (fun _ _ _ _ _=>z0i Z hr rfl mZ kZ bZ .nil z0T (z02 (pv 1) (z02 (pv 0) z05)))) z05)))))
  (z04 (z7v (i:=6) rfl zfz (z1z (z0h (zdm K szD rfl rfl hu12) rfl mso PyProof.Rows.boot_sorted (z02 (z0w (zgd K rfl rfl hu) rfl mset PyProof.Rows.boot_set (z02 (z1h rfl zcL (z1z (pv 4)) (fun _ _ _ _ _=>z0k (i:=0) zcL.nd rfl (Or.inl rfl)) (fun _ _ _ _ _=>z3c (z02 (z0h (zgP K rfl) rfl ml y0F (z02 (pv 0) z05)) (z02 (pv 0) z05)))) z05)) z05))) (fun _ _ _ _ _=>z0k (i:=0) zfz.nd rfl (Or.inl rfl)) (fun _ _ _ _ _=>z0W (ixT K rfl) (pv 0) z09 (fun _ _=>rfl)) z3z.nd rfl rfl)
  (z04 (z0g (i:=7) z3z.nd rfl (Or.inl rfl) (z0w z3K rfl mli y2b (z02 (pv 2) z05)))
  (z04 (z0g (i:=8) z3z.nd rfl (Or.inl rfl) (z0i Cr hr rfl mCr kCr bCr .nil z0T (z02 (pv 7) z05)))
  (z04 (z1M (PW.pt (zdn (zfo (z6k (z0i I hr rfl mI kI bI .nil z0T (z02 (pv 8) (z02 (pv 6) z05))))) (zaF (z1p (zdf K rfl hu) (pv 7) (pv 2) (z1j _))))) (z0a (z0I zbV)) z0E)
  (z04 (z0g (i:=9) z3z.nd rfl (Or.inl rfl) (pv 6))
  (z04 (z1M (z1p z7p (z0h z0f rfl ml y0F (z02 (pv 6) z05)) z09 (z1j _)) (z0a (z0g (i:=9) z3z.nd rfl (Or.inl rfl) (z0i Cr hr rfl mCr kCr bCr .nil z0T (z02 (z0w z3K rfl mli y2b (z02 (pv 8) z05)) z05)))) z0E)
  (z04 (z1A (zfm y0J PySem.F.slot_list_reverse PySem.F.type_list_reverse z9v (pv 8)))
  (z0a (z0I (z4c (z0i I hr rfl mI kI bI .nil z0T (z02 (pv 9) (z02 (pv 6) z05))) (z4c (z0i I hr rfl mI kI bI .nil z0T (z02 (z0i Cr hr rfl mCr kCr bCr .nil z0T (z02 (pv 7) z05)) (z02 (pv 6) z05))) (z56 (z0i I hr rfl mI kI bI .nil z0T (z02 (z0i Cr hr rfl mCr kCr bCr .nil z0T (z02 (z1Q z05) z05)) (z02 (z1Q z05) z05)))))))))))))))))))),?_⟩
 generalize hn:zd6 ns 0=n at *;refine zcT fun R1 hR1=>?_;refine(exA rfl ⟨a,ns,0,rfl,hS,h63,by lia,?_⟩);rw[hn];refine atR (R:=R1) hR1 ?_;clear hR1;refine zeq (fun σ H'=>∃(lg:Addr)(ug:List V)(gs:List (List Row)),σ=[some (.ref a),some (.int n),some (.ref lg),none,none,none,none,none,none,none]/\z0d H H'/\H' lg=some (.lst ug)/\DrL K H' (fmD gs) ug/\gs.length<=5/\∀g∈gs,z0l n g/\shr g=g/\g.length<=8) (fun Ed nxE=>?_) (fun σ H1 h=>?_)
 .refine(exA rfl ⟨a,ns,1,rfl,hS,h63,by lia,exC rfl rfl ⟨z6C,?_⟩⟩);have m0:=y1N (cell ns 1) (show(6:Int)≠0 by decide);have m1:=y1p (cell ns 1) (show(0:Int)<6 by decide);refine(exA rfl ⟨by lia,by lia,fun l hl=>z1i (n:=(cell ns 1%6).toNat) (fun i ys H2=>ys.length=i/\z0d H H2/\∃gs:List (List Row),gs.length=i/\DrL K H2 (fmD gs) ys/\∀g∈gs,z0l n g/\shr g=g/\g.length<=8) ⟨rfl,z07 (z0d.refl H) hl,[],rfl,DrL.nil,fun _ z=>by cases z⟩ (z0M (by lia)) (fun i ys H2 h=>h.1) (fun i ys H2 hi h hy=>?_) (fun ys H2 h hy=>?_)⟩)
  .obtain⟨hyl,s2,gs,hgl,dg,hg⟩:=h;refine(exA rfl (exA rfl (exA rfl (exC rfl rfl ⟨a,ns,2+i,(by rw[Int.zero_add];rfl),s2.seq hS,h63,by lia,n,exA rfl ⟨n2,n5,fun v H3 r s3 G3 l3 d3=>?_⟩⟩))));have e3:=s3 _ _ hy;refine⟨e3,by rw[y09,hyl];rfl,z0c (s2.trans s3) hl,gs++[shr r],by rw[y09,hgl];rfl,?_,fun g hgm=>?_⟩
   .rw[z3b];exact DrL.append ((dg.mono s3).keyed (z0Z e3) (z1N _)) (DrL.one (d3.keyed (z0Z e3) (z5f _)))
   .rcases y0g.mp hgm with z|z
    .exact hg g z
    .rw[y0c.mp z];exact⟨z2a G3,z4H G3,by have:=z4m G3;lia⟩
  .obtain⟨hyl,s2,gs,hgl,dg,hg⟩:=h;exact nxE _ _ ⟨l,ys,gs,rfl,s2,hy,dg,by lia,hg⟩
 obtain⟨lg,ug,gs,rfl,s1,eg,dg,hgl,hg⟩:=h;refine zeq (fun σ H'=>∃(lg:Addr)(ug:List V)(gs:List (List Row)),σ=[some (.ref a),some (.int n),some (.ref lg),none,none,none,none,none,none,none]/\z0d H H'/\H' lg=some (.lst ug)/\DrL K H' (fmD gs) ug/\gs.length<=7/\(∀g∈gs,z0l n g/\shr g=g/\g.length<=8)/\∃L:List (List Row),L.length<=40/\∀f∈z3F gs,f∈L) (fun Ed nxE=>?_) (fun σ H2 h=>?_)
 .have hL:(z3F gs).length<=40:=y0S (z44 fun g h=>(hg g h).2.2) (by lia);refine(exA rfl ⟨a,ns,8,rfl,s1.seq hS,h63,by lia,exC rfl rfl ⟨z6C,exC rfl rfl (exA rfl (z3H (fun _=>?_) (fun _=>?_)))⟩⟩)
  .refine(exA rfl (exA rfl ⟨2,rfl,lg,exA rfl ⟨SqL.of eg,fun lp hlp=>?_⟩⟩));rw[show zbt ug none (some 2)=ug.take 2 from z6U ug 2];have s2:z0d H1 (upd H1 lp (.lst (ug.take 2))):=z07 (z0d.refl H1) hlp;have e2:upd H1 lp (.lst (ug.take 2)) lp=some (.lst (ug.take 2)):=z03;generalize upd H1 lp (.lst (ug.take 2))=H2 at s2 e2⊢;have hul:ug.length=gs.length:=by have:=dg.length;rw[z1v]at this;lia
   refine⟨lg,lp,exC rfl rfl ⟨s2 _ _ eg,e2,y0S (show ug.length+(ug.take 2).length<=7 by rw[y0w];lia) (by decide),fun l3 hl3=>?_⟩⟩;have s3:z0d H2 (upd H2 l3 (.lst (ug++ug.take 2))):=z07 (z0d.refl H2) hl3;have e3:upd H2 l3 (.lst (ug++ug.take 2)) l3=some (.lst (ug++ug.take 2)):=z03;generalize upd H2 l3 (.lst (ug++ug.take 2))=H3 at s3 e3⊢;have s13:=s2.trans s3;have sub:∀g∈gs++gs.take 2,g∈gs:=fun g h=>by
    rcases y0g.mp h with z|z
    .exact z
    .exact y0U z
   refine nxE _ _ ⟨l3,_,gs++gs.take 2,rfl,s1.trans s13,e3,?_,by rw[y09,y0w];lia,fun g h=>hg g (sub g h),z3F gs,hL,fun f hf=>?_⟩
   .rw[z7G,z83];exact(dg.mono s13).append (DrL.takeL (dg.mono s13) 2)
   .obtain⟨g,hgm,z⟩:=z3j.mp hf;exact z3j.mpr ⟨g,sub g hgm,z⟩
  .exact nxE _ _ ⟨lg,ug,gs,rfl,s1,eg,dg,by lia,hg,z3F gs,hL,fun _ z=>z⟩
 clear eg dg hg hgl s1 lg ug gs;obtain⟨lg,ug,gs,rfl,s2,eg,dg,hgl,hg,L0,hL0,hLm⟩:=h;refine zeq (fun σ H'=>∃(lg:Addr)(ug:List V)(gs:List (List Row))(u3:Option V),σ=[some (.ref a),some (.int n),some (.ref lg),u3,none,none,none,none,none,none]/\z0d H H'/\H' lg=some (.lst ug)/\DrL K H' (fmD gs) ug/\gs.length<=7/\(∀g∈gs,z0l n g/\shr g=g/\g.length<=48)/\∃L:List (List Row),L.length<=70/\∀f∈z3F gs,f∈L) (fun Ed nxE=>?_) (fun σ H3 h=>?_)
 .refine(exA rfl ⟨a,ns,9,rfl,s2.seq hS,h63,by lia,exC rfl rfl ⟨z6C,exC rfl rfl (exA rfl (z3H (fun _=>?_) (fun _=>?_)))⟩⟩)
  .refine(exA rfl (exA rfl ⟨a,ns,10,rfl,s2.seq hS,h63,by lia,n,exA rfl ⟨n2,n5,fun v3 H3 r3 s3 G3 l3 d3=>?_⟩⟩));have GA:=z2a G3;have fA:=z4H G3;have hA:(shr r3).length<=48:=by have:=z4m G3;lia
   generalize shr r3=RA at *;obtain⟨a3,u3,rfl,ea3,du3⟩:∃(av:Addr)(us:List V),v3=.ref av/\H3 av=some (.tup us)/\DrL K H3 (z0j RA) us:=by simp only[Dr]at d3;exact d3
   have h1:=GA.some;have er0:=z7X (rows:=RA) (r:=0) (by lia) (by lia);obtain⟨y0,ey0,dy0⟩:=z3v du3 er0;obtain⟨t0,z0,rfl,et0,dz0⟩:∃(t0:Addr)(z0:List V),y0=.ref t0/\H3 t0=some (.tup z0)/\DrL K H3 [D.its (row RA 0).1,D.its (row RA 0).2] z0:=by simp only[z5d,Dr]at dy0;exact dy0
   obtain⟨y1,ey1,dy1⟩:=dz0.get (i:=1) rfl;obtain⟨t1,z1,rfl,et1,dz1⟩:∃(t1:Addr)(z1:List V),y1=.ref t1/\H3 t1=some (.tup z1)/\DrL K H3 ((row RA 0).2.map D.int) z1:=by simp only[D.its,Dr]at dy1;exact dy1
   have hr0m:=z0n (rows:=RA) (r:=0) (by lia) (by lia);have hrl:=GA.len _ hr0m;obtain⟨g0,eg0⟩:∃g0,(row RA 0).2[0]?=some g0:=⟨_,y00 (by lia)⟩;obtain⟨g00,g01⟩:=GA.go _ hr0m g0 (y0D eg0);have ez1:=DrL.ints_inv dz1;subst ez1;refine(exA rfl (exA rfl (exA rfl ⟨a3,_,_,.ref t0,rfl,rfl,SqT.of ea3,(z0v (j:=0) ey0),t0,_,_,.ref t1,rfl,rfl,SqT.of et0,(z0v (j:=1) ey1),t1,_,_,.int g0,rfl,rfl,SqT.of et1,(z0v (j:=0) (by rw[y04,eg0];rfl)),?_⟩)));have G2:=z0Y GA (s:=g0) g00 g01;refine⟨a3,n,swM RA g0,sw g0,u3,(by rw[z4J];rfl),.inr (SqT.of ea3),z4v g00 g01 du3,zaz g0,G2,by lia,fun v4 H4 s4 d4=>?_⟩;refine⟨show 2<=sizeLine by decide,fun l5 hl5=>?_⟩;have s5:z0d H4 (upd H4 l5 (.lst [.ref a3,v4])):=z07 (z0d.refl H4) hl5;have e5:upd H4 l5 (.lst [.ref a3,v4]) l5=some (.lst [.ref a3,v4]):=z03;generalize upd H4 l5 (.lst [.ref a3,v4])=H5 at s5 e5⊢;have s35:=s4.trans s5;refine(exA rfl ⟨2,rfl,lg,exA rfl ⟨SqL.of ((s3.trans s35) _ _ eg),fun lp hlp=>?_⟩⟩);rw[show zbt ug none (some 2)=ug.take 2 from z6U ug 2];have s6:z0d H5 (upd H5 lp (.lst (ug.take 2))):=z07 (z0d.refl H5) hlp;have e6:upd H5 lp (.lst (ug.take 2)) lp=some (.lst (ug.take 2)):=z03;generalize upd H5 lp (.lst (ug.take 2))=H6 at s6 e6⊢;have hul:ug.length=gs.length:=by have:=dg.length;rw[z1v]at this;lia
   refine⟨l5,lp,exC rfl rfl ⟨s6 _ _ e5,e6,y0S (show 2+(ug.take 2).length<=7 by rw[y0w];lia) (by decide),fun l7 hl7=>?_⟩⟩;have s7:z0d H6 (upd H6 l7 (.lst ([.ref a3,v4]++ug.take 2))):=z07 (z0d.refl H6) hl7;have e7:upd H6 l7 (.lst ([.ref a3,v4]++ug.take 2)) l7=some (.lst ([.ref a3,v4]++ug.take 2)):=z03;generalize upd H6 l7 (.lst ([.ref a3,v4]++ug.take 2))=H7 at s7 e7⊢;have s37:=s35.trans (s6.trans s7);have gS:=z4m G2;rw[z1J]at gS;refine nxE _ _ ⟨l7,_,[RA,shr (swM RA g0)]++gs.take 2,exA rfl ⟨s2.trans (s3.trans s37),e7,?_,by rw[y09,y0w];show 2+_<=7;lia,fun g h=>?_,z2l RA RA.length++z3F (gs.take 2),?_,fun f hf=>?_⟩⟩
   .rw[z7G,z83];exact DrL.append (DrL.cons (d3.mono s37) (DrL.one (d4.mono (s5.trans (s6.trans s7))))) (DrL.takeL (dg.mono (s3.trans s37)) 2)
   .simp only[y2w,y1r,y0u]at h;rcases h with rfl|rfl|z
    .exact⟨GA,fA,hA⟩
    .exact⟨z2a G2,z4H G2,by lia⟩
    .obtain⟨z1,z2,z3⟩:=hg g (y0U z);exact⟨z1,z2,by lia⟩
   .rw[y09,z5x];have:=z44 (gs:=gs.take 2) (k:=8) fun g h=>(hg g (y0U h)).2.2;rw[y0w]at this;have h16:min 2 gs.length*8<=16:=by lia
    lia
   .obtain⟨g,hgm,z⟩:=z3j.mp hf;simp only[y2w,y1r,y0u]at hgm;rcases hgm with rfl|rfl|y
    .exact y0m _ z
    .exact y0m _ (z88 GA (by lia) (z2I.mpr ⟨g0,g00,g01,rfl⟩) z)
    .exact y0z _ (z3j.mpr ⟨g,y,z⟩)
  .exact nxE _ _ ⟨lg,ug,gs,exA rfl ⟨s2,eg,dg,hgl,fun g h=>⟨(hg g h).1,(hg g h).2.1,by have:=(hg g h).2.2;lia⟩,L0,by lia,hLm⟩⟩
 clear eg dg hg hgl s2 lg ug gs hLm hL0 L0;obtain⟨lg,ug,gs,u3,rfl,s3,eg,dg,hgl,hg,L,hL,hLm⟩:=h;have hg60:∀g∈gs,z0l n g/\g.length<=60:=fun g h=>⟨(hg g h).1,by have:=(hg g h).2.2;lia⟩;have hul:ug.length=gs.length:=by have:=dg.length;rw[z1v]at this;lia
 refine zcT fun R4 hR4=>?_;refine⟨y0B _,fun ls hls=>?_⟩;have s4:z0d H3 (upd H3 ls (.lst [])):=z07 (z0d.refl H3) hls;have e4:upd H3 ls (.lst []) ls=some (.lst []):=z03;have hlsH:=hls;generalize upd H3 ls (.lst [])=H4 at s4 e4⊢;refine atR (R:=R4) hR4 ?_;clear hR4;refine zeq (fun σ H'=>∃(us:List V)(u5:Option V),σ=[some (.ref a),some (.int n),some (.ref lg),u3,some (.ref ls),u5,none,none,none,none]/\z0d H3 H'/\H' ls=some (.lst us)/\DrL K H' (fmD (z3F gs)) us) (fun Ed nxE=>?_) (fun σ H5 h=>?_)
 .refine⟨_,rfl,lg,rfl,⟨_,SqL.of (s4 _ _ eg)⟩,z9b (xs:=ug) (fun j σ H'=>∃(us:List V)(u5:Option V),σ=[some (.ref a),some (.int n),some (.ref lg),u3,some (.ref ls),u5,none,none,none,none]/\z0d H3 H'/\H' ls=some (.lst us)/\DrL K H' (fmD (z3F (gs.take j))) us) ⟨[],_,rfl,s4,e4,DrL.nil⟩ (fun j σ H' _ h=>by obtain⟨_,_,_,t,_⟩:=h;exact SqL.of (t _ _ eg)) (fun j x σ H' hx h Ed2 nx2=>?_) (fun σ H' h=>?_)⟩
  .obtain⟨us,u5,rfl,t4,es,ds⟩:=h;have hjl:j<gs.length:=by have:=(y0a.mp hx).1;lia
   have egj:gs[j]?=some gs[j]:=y00 hjl;have hgm:gs[j]∈gs:=y0l hjl;have etk:gs.take (j+1)=gs.take j++[gs[j]]:=by rw[y0G,egj];rfl
   generalize gs[j]=g at egj hgm etk;obtain⟨x',ex,dx⟩:=dg.get (show(fmD gs)[j]?=some (fD g)by unfold fmD;rw[y04,egj];rfl);rw[hx]at ex;cases ex;obtain⟨G,fg,h48⟩:=hg g hgm;obtain⟨av,uv,rfl,eav,duv⟩:∃(av:Addr)(us:List V),x=.ref av/\H3 av=some (.tup us)/\DrL K H3 (z0j g) us:=by simp only[Dr]at dx;exact dx
   have hlu:uv.length=g.length:=by rw[<-duv.length];unfold z0j;rw[y01]
   have husl:us.length<=7*48:=by have h1:=ds.length;rw[z1v]at h1;have h2:=z44 (gs:=gs.take j) (k:=48) fun g h=>(hg g (y0U h)).2.2;have h3:(gs.take j).length*48<=7*48:=Nat.mul_le_mul_right 48 (by rw[y0w];lia);lia
   refine(exA rfl ⟨.inl ⟨rfl,_,SqL.of es⟩,exA rfl (exG av rfl (.inr (SqT.of (t4 _ _ eav))) ?_)⟩);rw[hlu];refine⟨((g.length:Nat):Int),rfl,by lia,by lia,fun l2 hl2=>z1i (n:=((g.length:Nat):Int).toNat) (fun i ys H2=>ys.length=i/\i<=g.length/\z0d H' H2/\DrL K H2 (fmD (z2l g i)) ys) ⟨rfl,y0B _,z07 (z0d.refl H') hl2,DrL.nil⟩ (by rw[y1b];exact z0M (by lia)) (fun i ys H2 h=>h.1) (fun i ys H2 hi h hy=>?_) (fun ys H2 h hy=>?_)⟩
   .obtain⟨hyl,_,s2',d2'⟩:=h;have hi':i<g.length:=by lia
    have G2:=z0Y G (s:=(i:Int)) (by lia) (by lia);refine(exA rfl (exA rfl ⟨av,n,swM g i,sw i,uv,(by rw[z4J,Int.zero_add];rfl),.inr (SqT.of (s2' _ _ (t4 _ _ eav))),z4v (by lia) (by lia) ((duv.mono t4).mono s2'),zaz i,G2,by lia,fun x H3' s3' d3=>?_⟩));have e3:=s3' _ _ hy;refine⟨e3,by rw[y09,hyl];rfl,by lia,z0c (s2'.trans s3') hl2,?_⟩;rw[z79,z3b];exact DrL.append ((d2'.mono s3').keyed (z0Z e3) (z1N _)) (DrL.one (d3.keyed (z0Z e3) (z5f _)))
   .obtain⟨hyl,_,s2',d2'⟩:=h;rw[y1b]at d2' hyl;refine⟨ls,l2,us,ys,rfl,rfl,s2' _ _ es,hy,y0S (show us.length+ys.length<=400 by lia) (by decide),?_⟩;refine nx2 _ _ (exB rfl ⟨z0c (t4.trans s2') hlsH,z03,?_⟩);rw[etk,zaO,z7G];exact((ds.mono s2').append d2').keyed (z0Z (s2' _ _ es)) (zcu (z1N _) (z1N _))
  .obtain⟨us,u5,rfl,t4,es,ds⟩:=h;rw[y0x (by lia)]at ds;exact nxE _ _ ⟨us,exA rfl ⟨t4,es,ds⟩⟩
 clear s4 e4;obtain⟨us,u5,rfl,s5,es,ds⟩:=h;have husl:us.length=(z3F gs).length:=by have:=ds.length;rw[z1v]at this;lia
 have hall:(z3F gs).length<=7*48:=y0S (z44 fun g h=>(hg g h).2.2) (Nat.mul_le_mul_right 48 hgl);have kp:∀g:List Row,D.key (prD szD (fD g)):=fun g=>by simp only[prD,D.key,D.keyL];exact⟨trivial,z5f g,trivial⟩
 have kpL:∀ks:List (List Row),D.keyL ((fmD ks).map (prD szD)):=fun ks=>z8H fun d hd=>by obtain⟨f,_,rfl⟩:=zbw hd;exact kp f
 have fdep:∀g:List Row,D.dep (fD g)<=3:=fun g=>by have:=z3Z g;simp only[D.dep];lia
 refine zcT fun R5 hR5=>?_;refine(exA rfl ⟨ls,rfl,⟨_,SqL.of es⟩,fun lq hlq=>z21 (xs:=us) (fun i ys H'=>ys.length=i/\i<=us.length/\z0d H5 H'/\DrL K H' ((fmD ((z3F gs).take i)).map (prD szD)) ys) ⟨rfl,y0B _,z07 (z0d.refl H5) hlq,DrL.nil⟩ (fun i ys H' _ h=>SqL.of (h.2.2.1 _ _ es)) (z0M (by lia)) (fun i ys H' h=>h.1) (fun i x ys H' hx h hy=>?_) (fun ys H6 h hy=>?_)⟩)
 .obtain⟨hyl,_,t6,dd⟩:=h;have hil:i<(z3F gs).length:=by have:=(y0a.mp hx).1;lia
  have egi:(z3F gs)[i]?=some (z3F gs)[i]:=y00 hil;have etk:(z3F gs).take (i+1)=(z3F gs).take i++[(z3F gs)[i]]:=by rw[y0G,egi];rfl
  generalize(z3F gs)[i]=f at egi etk;obtain⟨x',ex,dx⟩:=ds.get (show(fmD (z3F gs))[i]?=some (fD f)by unfold fmD;rw[y04,egi];rfl);rw[hx]at ex;cases ex;obtain⟨b,zs,rfl,eb,dzs⟩:∃(b:Addr)(zs:List V),x=.ref b/\H5 b=some (.tup zs)/\DrL K H5 (z0j f) zs:=by simp only[Dr]at dx;exact dx
  refine(exA rfl ⟨b,zs,rfl,.inr (SqT.of (t6 _ _ eb)),exA rfl ?_⟩);refine⟨show 2<=sizeLine by decide,fun q hq=>?_⟩;have s7:z0d H' (upd H' q (.tup [.int (zs.length:Nat),.ref b])):=z07 (z0d.refl H') hq;have e7:upd H' q (.tup [.int (zs.length:Nat),.ref b]) q=some (.tup [.int (zs.length:Nat),.ref b]):=z03;generalize upd H' q (.tup [.int (zs.length:Nat),.ref b])=H7 at s7 e7⊢;have ey:=s7 _ _ hy;refine⟨ey,by rw[y09,hyl];rfl,by lia,z0c (t6.trans s7) hlq,?_⟩;rw[etk,z3b,y0i,List.map_singleton];refine DrL.append ((dd.mono s7).keyed (z0Z ey) (kpL _)) (DrL.one (Dr.keyed (z0Z ey) (kp f) ?_));have hzl:(zs.length:Int)=szD (fD f):=by have:=dzs.length;show(zs.length:Int)=((z0j f).length:Int);lia
  simp only[prD,Dr];exact⟨q,exA rfl ⟨e7,DrL.cons (by simp only[Dr];rw[hzl]) (DrL.one (dx.mono (t6.trans s7)))⟩⟩
 obtain⟨_,_,s6,dd⟩:=h;rw[y0x (by lia)]at dd;refine⟨lq,ys,exA rfl ⟨SqL.of hy,dd,fun d hd=>?_,zdY hL hLm,fun S rs bs oS hoS hS hrp hdr=>?_⟩⟩
 .obtain⟨f,_,rfl⟩:=zbw hd;refine⟨kp f,?_,_,rfl⟩;have:=fdep f;simp only[prD,D.dep,D.depL]at this⊢;lia
 obtain⟨ks,rfl,hknd,hkm⟩:=zft hrp;have hkl:ks.length<=70:=by have:=z5P hknd fun f hf=>hLm f ((hkm f).mp hf);lia
 have s7:z0d H6 (upd H6 S oS):=z07 (z0d.refl H6) hS;have hbl:bs.length=ks.length:=by have:=hdr.length;rw[y01,z1v,y01]at this;lia
 refine⟨S,bs,fmD ks,rfl,(by rw[z03,hoS]),hdr.mono s7,fun d hd=>?_,fun d hd e he=>?_,by lia,fun rs vs' lt hrp2 hrs drs hlt=>?_⟩
 .obtain⟨g,_,rfl⟩:=y0f.mp hd;exact⟨z5f g,y0S (fdep g) (by decide)⟩
 .obtain⟨g,_,rfl⟩:=y0f.mp hd;obtain⟨g',_,rfl⟩:=y0f.mp he;exact zdy g g'
 obtain⟨due,rfl,hdp⟩:=z9O hrp2;have hup:UpF due:=y1E.mp hrs;have hdc:z2Q gs due:=zdZ (hdp.nodup_iff.mpr hknd) (fun f=>by rw[hdp.mem_iff,hkm]) hup;have hdl:due.length<=70:=by rw[hdp.length_eq];exact hkl
 generalize upd H6 S oS=H7 at s7 drs hlt⊢;have s8:z0d H7 (upd H7 lt (.lst vs')):=z07 (z0d.refl H7) hlt;have e8:upd H7 lt (.lst vs') lt=some (.lst vs'):=z03;generalize upd H7 lt (.lst vs')=H8 at s8 e8⊢;replace drs:=drs.mono s8;have hvl:vs'.length=due.length:=by have:=drs.length;rw[y01,z1v]at this;lia
 have s38:z0d H3 H8:=s5.trans (s6.trans (s7.trans s8));clear hrp hrp2 hrs hlt dd hy s6 s7 hdr hS hkm hknd hdp hkl hbl ds es s5;refine⟨lt,rfl,⟨_,SqL.of e8⟩,fun ld hld=>z21 (xs:=vs') (fun i ys H'=>ys.length=i/\i<=due.length/\z0d H8 H'/\DrL K H' (fmD (due.take i)) ys) ⟨rfl,y0B _,z07 (z0d.refl H8) hld,DrL.nil⟩ (fun i ys H' _ h=>SqL.of (h.2.2.1 _ _ e8)) (z0M (by lia)) (fun i ys H' h=>h.1) (fun i x ys H' hx h hy=>?_) (fun ud H9 h ed=>?_)⟩
 .obtain⟨hyl,_,s11,dd⟩:=h;have hil:i<due.length:=by have:=(y0a.mp hx).1;lia
  have egi:due[i]?=some due[i]:=y00 hil;have etk:due.take (i+1)=due.take i++[due[i]]:=by rw[y0G,egi];rfl
  generalize due[i]=f at egi etk;obtain⟨x',ex,dx⟩:=drs.get (show((fmD due).map (prD szD))[i]?=some (prD szD (fD f))by unfold fmD;rw[y04,y04,egi];rfl);rw[hx]at ex;cases ex;obtain⟨b,zs,rfl,eb,dzs⟩:∃(b:Addr)(zs:List V),x=.ref b/\H8 b=some (.tup zs)/\DrL K H8 [.int (szD (fD f)),fD f] zs:=by simp only[prD,Dr]at dx;exact dx
  obtain⟨y,ey,dy⟩:=dzs.get (i:=1) rfl;refine(exA rfl (exD b _ _ y rfl rfl (SqT.of (s11 _ _ eb)) (z0v (j:=1) ey) ⟨hy,by rw[y09,hyl];rfl,by lia,z0c s11 hld,?_⟩));rw[etk,z3b];exact DrL.append (dd.keyed (z0Z hy) (z1N _)) (DrL.one ((dy.mono s11).keyed (z0Z hy) (z5f _)))
 obtain⟨_,_,s9,dd⟩:=h;rw[y0x (by lia)]at dd;have s39:=s38.trans s9;clear drs e8 s9 s38 s8;refine atR (R:=R5) hR5 ?_;clear hR5;refine zcT fun R6 hR6=>?_;refine(exA rfl ⟨lg,ug,rfl,.inl (SqL.of (s39 _ _ eg)),fun lh hlh=>?_⟩);have s10:z0d H9 (upd H9 lh (.lst ug)):=z07 (z0d.refl H9) hlh;have e10:upd H9 lh (.lst ug) lh=some (.lst ug):=z03;generalize upd H9 lh (.lst ug)=H10 at s10 e10⊢;have s310:=s39.trans s10;have t10:SameL Ts H H10:=z0d.l (s3.trans s310);have hsm:=z92 (n:=n) (fs:=due) (fun f hf=>by obtain⟨z1,z2,_⟩:=z4f hdc hg60 f hf;exact⟨z1,z2⟩) (by lia) (by lia);refine atR (R:=R6) hR6 ?_;clear hR6;refine zcT fun R7 hR7=>?_;refine(exA rfl ⟨lh,ug,gs,n,rfl,t10.tabs hTb,e10,dg.mono s310,hg60,by lia,by lia,fun fs hcr lf H11 uf flf s11 ef df=>?_⟩);have efs:=zaA hcr hdc;subst efs;refine atR (R:=R7) hR7 ?_;clear hR7;refine zcT fun R8 hR8=>?_;have ed11:=s11.g (s10 _ _ ed);have dd11:=(dd.mono s10).monoL s11;refine(exA rfl (exA rfl ⟨_,_,D.lst (fmD fs),rfl,Dr.lst ef df,Dr.lst ed11 dd11,hsm.1,hsm.2,fun H12 s12=>⟨true,rfl,z36 ?_⟩⟩));have t1012:SameL Ts H10 H12:=s11.trans (z0d.l s12);have eh12:=t1012.g e10;have dg12:=(dg.mono s310).monoL t1012;refine(exA rfl (exA rfl ⟨fmD gs,fmD gs,Dr.lst eh12 dg12,Dr.lst (t1012.g (s310 _ _ eg)) dg12,rfl,zeU gs,zdP gs,?_⟩));rw[D.eq_refl];refine(exA rfl (z36 ?_));refine atR (R:=R8) hR8 ?_;clear hR8;have ef12:=s12 _ _ ef;have df12:=df.mono s12;have ed12:=s12 _ _ ed11;have dd12:=dd11.mono s12;have hfd:ld≠lf:=fun z=>by rw[<-z,s10 _ _ ed]at flf;rcases flf with c|⟨_,c⟩<;>cases c
 have hfh:lh≠lf:=fun z=>by rw[<-z,e10]at flf;rcases flf with c|⟨_,c⟩<;>cases c
 refine zcT fun R9 hR9=>?_;refine(exA rfl ?_);refine atR (R:=R9) hR9 ?_;clear hR9;have hul2:ud.length=fs.length:=by have:=dd.length;rw[z1v]at this;lia
 refine zeq (fun σ H'=>∃(la:Addr)(ua:List V),σ=[some (.ref a),some (.int n),some (.ref lg),u3,some (.ref ls),u5,some (.ref ld),some (.ref lh),some (.ref lf),some (.ref la)]/\SameL Ts H12 H'/\H' la=some (.lst ua)/\DrL K H' (fmD fs) ua/\la≠lf) (fun Ed nxE=>?_) (fun σ H13 h=>?_)
 .refine(exA rfl (exG ld rfl (.inl (SqL.of ed12)) (exC rfl rfl (exA rfl (z3H (fun c=>?_) (fun _=>nxE _ _ ⟨ld,ud,rfl,SameL.refl _,ed12,dd12,hfd⟩))))));have c':(ud.length:Int)<13:=y1c c;refine(exA rfl ⟨lf,uf,rfl,.inl (SqL.of ef12),fun l13 hl13=>?_⟩);have s13:z0d H12 (upd H12 l13 (.lst uf)):=z07 (z0d.refl H12) hl13;have e13:upd H12 l13 (.lst uf) l13=some (.lst uf):=z03;generalize upd H12 l13 (.lst uf)=H13 at s13 e13⊢;refine⟨l13,uf,fs,n,rfl,((t10.trans t1012).trans (z0d.l s13)).tabs hTb,e13,df12.mono s13,(fun f hf=>by obtain⟨z1,_,z2⟩:=z4f hdc hg60 f hf;exact⟨z1,z2⟩),by lia,by lia,fun fs' hcr' la H14 ua fla s14 ea da=>?_⟩;have efs:=zbe hg60 hcr hcr';subst efs;exact nxE _ _ ⟨la,ua,rfl,(z0d.l s13).trans s14,ea,da,fun z=>by rw[z,s13 _ _ ef12]at fla;rcases fla with c|⟨_,c⟩<;>cases c⟩
 obtain⟨la,ua,rfl,s13,ea,da,hal⟩:=h;refine zcT fun R10 hR10=>?_;have ef13:=s13.g ef12;refine(exA rfl ⟨.inl ⟨rfl,_,SqL.of ef13⟩,lf,uf,rfl,rfl,ef13,?_⟩);have t14:SameL Ts H10 (upd H13 lf (.lst uf.reverse)):=(t1012.trans s13).over2 flf ef13;have ea14:upd H13 lf (.lst uf.reverse) la=some (.lst ua):=by rw[z06 hal];exact ea
 have ed14:upd H13 lf (.lst uf.reverse) ld=some (.lst ud):=by rw[z06 hfd];exact s13.g ed12
 have da14:DrL K (upd H13 lf (.lst uf.reverse)) (fmD fs) ua:=da.keyed (z0Z ef13) (z1N _);have dd14:DrL K (upd H13 lf (.lst uf.reverse)) (fmD fs) ud:=(dd12.monoL s13).keyed (z0Z ef13) (z1N _);generalize upd H13 lf (.lst uf.reverse)=H14 at t14 ea14 ed14 da14 dd14⊢;refine atR (R:=R10) hR10 ?_;clear hR10;refine(exA rfl (exA rfl ⟨_,_,D.lst (fmD fs),rfl,Dr.lst ea14 da14,Dr.lst ed14 dd14,hsm.1,hsm.2,fun H15 s15=>⟨true,rfl,z7n ?_⟩⟩));have t15:=t14.trans (z0d.l s15);refine(exA rfl ⟨lh,ug,gs,n,rfl,(t10.trans t15).tabs hTb,t15.g e10,(dg.mono s310).monoL t15,hg60,by lia,by lia,fun fs' hcr' lk H16 uk _ s16 ek dk=>?_⟩);have efs:=zaA hcr' hcr;subst efs;refine(exA rfl ⟨_,_,D.lst (fmD fs'),rfl,Dr.lst ek dk,Dr.lst (s16.g (s15 _ _ ed14)) ((dd14.mono s15).monoL s16),hsm.1,hsm.2,fun H17 s17=>⟨true,rfl,z7n ?_⟩⟩);have t17:=(t15.trans s16).trans (z0d.l s17);refine⟨y0B _,fun l18 hl18=>?_⟩;have s18:z0d H17 (upd H17 l18 (.lst [])):=z07 (z0d.refl H17) hl18;have e18:upd H17 l18 (.lst []) l18=some (.lst []):=z03;generalize upd H17 l18 (.lst [])=H18 at s18 e18⊢;refine⟨l18,[],[],n,rfl,((t10.trans t17).trans (z0d.l s18)).tabs hTb,e18,DrL.nil,(fun _ z=>by cases z),by lia,by show 0<=60;decide,fun fs0 hcr0 lz H19 uz _ s19 ez dz=>?_⟩;have ef0:fs0=[]:=by
  cases fs0 with
  |nil=>rfl
  |cons f _ =>
   obtain⟨g,hgm,_⟩:=(hcr0.mem f).mp y0p;cases hgm
 subst ef0;refine⟨y0B _,fun l20 hl20=>?_⟩;have s20:z0d H19 (upd H19 l20 (.lst [])):=z07 (z0d.refl H19) hl20;have e20:upd H19 l20 (.lst []) l20=some (.lst []):=z03;generalize upd H19 l20 (.lst [])=H20 at s20 e20⊢;refine⟨_,_,D.lst [],rfl,Dr.lst (s20 _ _ ez) (dz.mono s20),Dr.lst e20 DrL.nil,by simp only[D.dep,D.depL];lia,by simp only[D.few,D.fewL];exact⟨by simp,trivial⟩,fun H21 s21=>q _⟩
def z3y:z0z ["things","numbers","thing"] ["things"] (z08 z1Z):={}
def z52:z1a ["things","numbers","thing"] (z08 z1Z) ["thing","numbers"] [none,some 1] (csc [(".0",.local),("thing",.local),("numbers",.free)]):={}
def z7F(F:Fun K "numbered" "numbered" z1Z f fd)(ml:mg "len"=none):z0K P w K mg base CX 1 f fd ["things"] (z3A K):=by
 refine F.okc z3y (fun vs H Q E h=>?_) (fun cdv A outer s H vs Q E hr h=>?_)
 .obtain⟨a,us,ds,rfl,_⟩:=h;rfl
 obtain⟨a,us,ds,rfl,ha,hd,hT,hlen,q⟩:=h;have hu9:(A.deeper (PyProof.Rows.envOfC "numbered" (z08 z1Z) s.heap.objs.size f cdv)).units+9<cLine:=by have:=hr.units;lia
 refine⟨_,z04 (z0g (i:=1) z3y.nd rfl (Or.inr rfl) (z7I (K:=K)))
  (z04 (z2g y1e rfl (z1z (pv 0)) (z0k (i:=2) z3y.nd rfl (Or.inl rfl))
   (z0a (z1M (z1K (zaq (K:=K) hu9 (pv 2) (pv 1))) (z0a (z7C (K:=K) hu9 (pv 1) (pv 2) (z0h (zbH K) rfl ml y0F (z02 (pv 1) z05)))) z0E)))
  (z0a (z0I (z1h rfl z52 (z1z (pv 0)) (fun _ _ _ _ _=>z0k (i:=0) z52.nd rfl (Or.inl rfl)) (fun _ _ _ _ _=>zf8 P w K rfl rfl hu9 (pv 1) (pv 0) (fun _ _=>rfl)))))),?_⟩
 intro d hd0 ob0 g0;have hul:ds.length=us.length:=hd.length;have s0:z0d H (upd H d ob0):=z07 (z0d.refl H) hd0;refine⟨_,rfl,a,rfl,⟨_,SqL.of (s0 _ _ ha)⟩,z9b (xs:=us) (fun i σ H2=>∃v:Option V,σ=[some (.ref a),some (.ref d),v]/\z0d H H2/\DD P w K H2 d (prs id (z0s (ds.take i))))
  ⟨none,rfl,s0,g0⟩ (fun i σ H2 _ h=>by obtain⟨_,_,s2,_⟩:=h;exact SqL.of (s2 _ _ ha)) (fun i x σ H2 hx h Ed nx3=>?_) (fun σ H2 h=>?_)⟩
 .obtain⟨v,rfl,s2,g⟩:=h;have hiu:i<us.length:=(y0a.mp hx).1;have ed:ds[i]?=some ds[i]:=y00 (by lia);obtain⟨x',ex,dx⟩:=hd.get ed;rw[hx]at ex;cases ex;have hk:=hT _ (y0l (show i<ds.length by lia));generalize ds[i]=di at ed dx hk;have et:z0s (ds.take (i+1))=z2b (z0s (ds.take i)) di:=by
   unfold z0s;rw[y0G,ed];exact z1F _ _ _
  have hlu:(z0s (ds.take i)).length<=4900:=by have:=z1Y (ds.take i) [];rw[y0w]at this;unfold z0s;simp at this;lia
  refine(exA rfl (exA rfl ⟨d,_,di,rfl,g,zeo hk (dx.mono s2),exA rfl ?_⟩));have hv:z2C (prs id (z0s (ds.take i))) di=_:=z2d id (fun _ _ e=>e) (z0s (ds.take i)) di;by_cases hm:di∈z0s (ds.take i)
  .rw[hv,if_pos hm];refine z36 (nx3 _ _ (exA rfl ⟨s2,?_⟩));rw[et,z0p hm];exact g
  .rw[hv,if_neg hm];refine z7n (exA rfl ⟨d,exA rfl ⟨g,exA rfl (exA rfl ⟨d,_,di,rfl,g,zeo hk (dx.mono s2),by rw[z1O];exact z2s hlu,fun ob g2=>nx3 _ _ (exA rfl ⟨z0c s2 hd0,?_⟩)⟩)⟩⟩);rw[et,z0q hm,<-z6b id (fun _ _ e=>e) hm];rw[z1O]at g2;exact g2
 .obtain⟨v,rfl,s2,g⟩:=h;rw[y0x (by lia)]at g;refine(exA rfl ⟨a,rfl,⟨_,SqL.of (s2 _ _ ha)⟩,fun l hl0=>z21 (xs:=us) (fun i ys H3=>i<=ds.length/\ys=((z2h ds).take i).map V.int/\z0d H2 H3) ⟨y0B _,rfl,z07 (z0d.refl H2) hl0⟩ (fun i ys H3 _ h=>SqL.of (h.2.2 _ _ (s2 _ _ ha))) (z0M (by lia)) (fun i ys H3 h=>?_) (fun i x ys H3 hx h hy=>?_) (fun ys H3 h hy=>?_)⟩)
  .obtain⟨hi,rfl,_⟩:=h;unfold z2h;rw[y01,y0w,y01];lia
  .obtain⟨_,rfl,s3⟩:=h;have hiu:i<us.length:=(y0a.mp hx).1;have ed:ds[i]?=some ds[i]:=y00 (by lia);obtain⟨x',ex,dx⟩:=hd.get ed;rw[hx]at ex;cases ex;have hmem:ds[i]∈ds:=y0l (show i<ds.length by lia);have hk:=hT _ hmem;generalize ds[i]=di at ed dx hk hmem;have hm:di∈z0s ds:=z0C.mpr (.inr hmem);have hv:z2C (prs id (z0s ds)) di=_:=z2d id (fun _ _ e=>e) (z0s ds) di;rw[if_pos hm]at hv;refine(exA rfl (exA rfl ⟨d,_,di,exA rfl ⟨g.mono s3,zeo hk (dx.mono (s2.trans s3)),hv,hy,by lia,?_,z0c s3 hl0⟩⟩));have en:(z2h ds)[i]?=some (((z0s ds).idxOf di:Nat):Int):=by unfold z2h;rw[y04,ed];rfl
   rw[z1x _ en]
  .obtain⟨_,rfl,s3⟩:=h;have e:((z2h ds).take us.length)=z2h ds:=y0x (by unfold z2h;rw[y01];lia);rw[e]at hy;exact q l H3 (s2.trans s3) hy
def zeV:z0z ["_law_script","_law_at"] ["_law_script","_law_at"] (z08 zbO):={}
def ze5(F:Fun K "_law_cell" "_law_cell" zbO f fd)(ml:mg "len"=none):z0K P w K mg base CX 1 f fd ["_law_script","_law_at"] (z8J K):=by
 refine F.okc zeV (fun vs H Q E h=>?_) (fun cdv A outer s H vs Q E hr h=>?_)
 .obtain⟨a,ns,i,rfl,_⟩:=h;rfl
 obtain⟨a,ns,i,rfl,hS,h63,hi,q⟩:=h;refine⟨_,z04 (z1M (z1p z7p (pv 1) (z0h z0f rfl ml y0F (z02 (pv 0) z05)) (z1j _)) (z0a (z0I (z0W z1t (pv 0) (pv 1) (fun _ _=>rfl)))) z0E)
  (z04 (z1M (z1p zav (z0h z0f rfl ml y0F (z02 (pv 0) z05)) z09 (z1j _)) (z0a (z0I (z0o z1c (z0o z38 z09 (pv 1)) z09))) z0E)
  (z0a (z0I (z0o z1c (z0o z0U (z0W z1t (pv 0) (z0o z0U (pv 1) (z0h z0f rfl ml y0F (z02 (pv 0) z05))) (fun _ _=>rfl)) z09) (z0o z38 z09 (pv 1)))))),?_⟩
 have hl:(ns.map V.int).length=ns.length:=y01 _;refine(exA rfl (exA rfl ⟨a,exA rfl ⟨.inl hS,exC rfl rfl (exA rfl ?_)⟩⟩));refine z3H (fun c=>?_) (fun c=>?_)
 .have c':(i:Int)<(((ns.map V.int).length:Nat):Int):=y1c c;rw[hl]at c';have hin:i<ns.length:=by lia
  refine(exA rfl (exA rfl ⟨a,_,_,V.int (ns.getD i 0),rfl,rfl,hS,z0v (by simp[hin]),?_⟩));have e:cell ns i=ns.getD i 0:=by unfold cell;rw[if_pos hin]
  rw[e]at q;exact q
 .have c':¬(i:Int)<(((ns.map V.int).length:Nat):Int):=y1R (y1F.mpr c);rw[hl]at c';have hin:¬i<ns.length:=by lia
  refine(exA rfl ⟨a,exA rfl ⟨.inl hS,rfl,exA rfl ?_⟩⟩);refine z3H (fun c=>?_) (fun c=>?_)
  .have c2:=y1c c;rw[hl]at c2;have hz:ns.length=0:=by injection c2 with c2;lia
   refine(exA rfl (exC rfl rfl ⟨.inl ⟨by decide,by decide⟩,exC rfl rfl ?_⟩));have e:cell ns i=29*i+5:=by unfold cell;rw[if_neg hin,if_pos hz]
   rw[e]at q;exact q
  .have c2:=y1R (y1F.mpr c);rw[hl]at c2;have hz:¬ns.length=0:=fun z=>c2 (y1o V.int (by lia));have hpos:(0:Int)<ns.length:=by lia
   have hm:i%ns.length<ns.length:=y3H _ (by lia);have em:(i:Int)%(((ns.map V.int).length:Nat):Int)=((i%ns.length:Nat):Int):=by rw[hl];exact(Int.natCast_emod i ns.length).symm
   refine(exA rfl (exA rfl (exA rfl ⟨a,exA rfl ⟨.inl hS,exC rfl rfl ⟨by rw[hl];exact hpos,a,_,_,V.int (ns.getD (i%ns.length) 0),rfl,rfl,hS,(by rw[em];exact z0v (by simp[hm])),exC rfl rfl ⟨(by show(0:Int)<1000003;decide),exA rfl (exC rfl rfl ⟨.inl ⟨by decide,by decide⟩,exC rfl rfl ?_⟩)⟩⟩⟩⟩)));have e:cell ns i=ns.getD (i%ns.length) 0%1000003+103*i:=by unfold cell;rw[if_neg hin,if_neg hz]
   rw[e]at q;exact q
def zak:z0z ["_law_script","_law_at"] ["_law_script","_law_at"] (z08 z48):={}
def z9m(F:Fun K "_law_letters" "_law_letters" z48 f fd)(G:z0K P w K mg base CX 1 g gd ["_law_script","_law_at"] (z8J K))(bG:z0u K gd ["_law_script","_law_at"] [])(kG:PySem.W.keepIn K (.ref g)=true)(mG:mg "_law_cell"=some (.ref g)) : z0K P w K mg base CX 2 f fd ["_law_script","_law_at"] (z4I K):=by
 refine F.okc zak (fun vs H Q E h=>?_) (fun cdv A outer s H vs Q E hr h=>?_)
 .obtain⟨a,ns,i,rfl,_⟩:=h;rfl
 obtain⟨a,ns,i,rfl,hS,h63,hi,q⟩:=h;refine⟨_,z0a (z0I (z0o z1c z09 (z0o z0U (z0i G hr rfl mG kG bG .nil z0T (z02 (pv 0) (z02 (pv 1) z05))) z09))),?_⟩;rw[zbG]at q;exact(exA rfl (exA rfl ⟨a,ns,i,rfl,hS,h63,hi,exC rfl rfl ⟨(by show(0:Int)<4;decide),exC rfl rfl q⟩⟩))
def z5a:z0z ["_law_pick","_law_letters_here","_law_left","_law_made","_law_k","_law_many"] ["_law_pick","_law_letters_here"] (z08 zc9):={}
def zdq(F:Fun K "_law_rearranged" "_law_rearranged" zc9 f fd)(ml:mg "len"=none)(mt:mg "tuple"=none)(mr:mg "range"=none)(mls:mg "list"=none):z0K P w K mg base CX 1 f fd ["_law_pick","_law_letters_here"] (z8x K):=by
 refine F.okc z5a (fun vs H Q E h=>?_) (fun cdv A outer s H vs Q E hr h=>?_)
 .obtain⟨pick,n,rfl,_⟩:=h;rfl
 obtain⟨pick,n,rfl,hn,k⟩:=h;refine⟨_,z04 (z0g (i:=2) z5a.nd rfl (Or.inl rfl) (z0w (z5Q rfl) rfl mls y2b (z02 (z0w z8p rfl mr PyProof.Rows.boot_range (z02 (pv 1) z05)) z05)))
  (z04 (z0g (i:=3) z5a.nd rfl (Or.inl rfl) (z1Q z05))
  (z04 (z2g y1e rfl (z1b rfl mr (z02 (pv 1) z05)) (z0k (i:=4) z5a.nd rfl (Or.inl rfl))
   (z04 (z0g (i:=5) z5a.nd rfl (Or.inl rfl) (z0h z0f rfl ml y0F (z02 (pv 2) z05)))
   (z04 (z1A (z3V y0J y0X y0Y z0V (pv 3) (z02 (z3V y0J PySem.F.slot_list_pop PySem.F.type_list_pop zbE (pv 2) (z02 (z0o z0U (pv 0) (pv 5)) z05)) z05)))
   (z0a (z0g (i:=0) z5a.nd rfl (Or.inl rfl) (z0o z5y (pv 0) (pv 5)))))))
  (z0a (z0I (z0w z0B rfl mt y0K (z02 (pv 3) z05)))))),?_⟩
 refine(exA rfl ⟨(n:Int),rfl,by lia,by lia,fun p hp=>⟨p,0,(n:Int),rfl,z03,⟨by decide,by decide,by lia,by lia⟩,by lia,fun l hl=>⟨by show 0<=sizeLine;decide,fun m hm=>?_⟩⟩⟩);have e:((n:Int)-0).toNat=n:=by lia
 rw[e,z6Q]at hm⊢;have s1:z0d H (upd H p (.rng 0 n)):=z07 (z0d.refl H) hp;have s2:z0d H (upd (upd H p (.rng 0 n)) l (.lst ((z0x n).map V.int))):=z07 s1 hl;have hl0:H l=none:=s1.free hl;have hm0:H m=none:=s2.free hm;have hlm:l≠m:=z0e z03 hm;have s3:z0d H (upd (upd (upd H p (.rng 0 n)) l (.lst ((z0x n).map V.int))) m (.lst [])):=z07 s2 hm;refine⟨_,rfl,(n:Int),rfl,by lia,by lia,zcX (n:=(n:Int).toNat) (fun i σ H2=>∃(u v:Option V)(pk:Int)(left made:List Int),σ=[some (.int pk),some (.int n),some (.ref l),some (.ref m),u,v]/\z0d H H2/\H2 l=some (.lst (left.map V.int))/\H2 m=some (.lst (made.map V.int)) /\
   left.length+i=n/\made.length=i/\z9n pick n=made++zd0 left.length pk left)
  ⟨none,none,pick,z0x n,[],rfl,s3,(by rw[z06 hlm,z03]),z03,z0H n,rfl,by rw[z0H];rfl⟩ (fun i σ H2 hi h Ed nx3=>?_) (fun σ H2 h=>?_)⟩
 .obtain⟨u,v,pk,left,made,rfl,t2,gl,gm,e1,e2,e3⟩:=h;have hin:i<n:=by simpa using hi
  have hpos:0<left.length:=by lia
  have hL:(left.map V.int).length=left.length:=y01 _;obtain⟨ix,hixe,hix⟩:∃ix:Nat,pk%(((left.map V.int).length:Nat):Int)=(ix:Int)/\ix<left.length:=by rw[hL];have h0:=y1N pk (show(left.length:Int)≠0 by lia);have h1:=y1p pk (show(0:Int)<left.length by lia);exact⟨(pk%(left.length:Int)).toNat,by lia,by lia⟩
  have hsq:PySem.seqIndex? (pk%(((left.map V.int).length:Nat):Int)) (left.map V.int).length=some ix:=by rw[hixe,hL,PySem.seqIndex_of (by lia) (by lia)];simp
  refine(exA rfl (exG l rfl (.inl (SqL.of gl)) (exA rfl ⟨.inl ⟨rfl,_,SqL.of gm⟩,exA rfl ⟨.inl ⟨rfl,_,SqL.of gl⟩,exA rfl (exA rfl (exC rfl rfl ⟨by rw[hL];lia,?_⟩))⟩⟩)));refine⟨l,_,_,ix,V.int (left.getD ix 0),rfl,rfl,gl,by rw[hixe];lia,by rw[hixe];lia,hsq,by simp[hix],m,exC rfl rfl ⟨by rw[z06 (y2Y hlm)];exact gm,by rw[y01];exact z22 (by lia),?_⟩⟩;refine(exA rfl (exA rfl (exC rfl rfl ⟨⟨by rw[hL];lia,by rw[hL];lia⟩,?_⟩)));refine nx3 _ _ ⟨_,_,pk/(((left.map V.int).length:Nat):Int),left.eraseIdx ix,made++[left.getD ix 0],rfl,z0c (z0c t2 hl0) hm0,?_,?_,?_,by simp[e2],?_⟩
  .rw[z06 hlm,z03];congr 2;exact z70 V.int left ix
  .rw[z03,y0i];rfl
  .rw[y2X hix];lia
  .rw[e3,y0q];congr 1;obtain⟨q,hq⟩:∃q,left.length=q+1:=⟨left.length-1,by lia⟩;have e5:(left.eraseIdx ix).length=q:=by rw[y2X hix];lia
   rw[e5,hL];rw[hL]at hixe;have e6:(pk%(left.length:Int)).toNat=ix:=by lia
   have e7:zd0 (q+1) pk left=left.getD (pk%(left.length:Int)).toNat 0::zd0 q (pk/(left.length:Int)) (left.eraseIdx (pk%(left.length:Int)).toNat):=rfl;rw[hq,e7,e6];rw[hq];rfl
 .obtain⟨u,v,pk,left,made,rfl,t2,gl,gm,e1,e2,e3⟩:=h;refine(exA rfl ⟨m,exA rfl (.inl ⟨SqL.of gm,fun t ht=>?_⟩)⟩);have e9:(n:Int).toNat=n:=by lia
  have e4:left.length=0:=by lia
  rw[e4]at e3;have e5:z9n pick n=made:=by rw[e3];unfold zd0;simp
  rw[<-e5];exact k _ _ (z07 t2 ht) (Dr.tup z03 (DrL.ints _))
abbrev nAm:List Str:=["_law_letters_here","_law_cell_here","_law_nums","_law_many","_law_rows_here","_law_at","_law_goings"]
def zek:z0z nAm ["_law_letters_here","_law_cell_here"] (z08 z73):={}
def zgE:z1a nAm (z08 z73) ["_law_k","_law_at","_law_letters_here","_law_many","_law_nums"] [none,some 5,some 0,some 3,some 2] (csc [(".0",.local),("_law_k",.local),("_law_at",.free),("_law_letters_here",.free),("_law_many",.free),("_law_nums",.free)]):={}
def zcl{k u v:Addr}{kd ud vd:FuncData}(F:Fun K "_law_ample" "_law_ample" z73 f fd)(mr:mg "range"=none)(mt:mg "tuple"=none)(G:z0K P w K mg base CX 3 g gd ["_law_cell_here","_law_many"] (z3h K))(bG:z0u K gd ["_law_cell_here","_law_many"] [])(kG:PySem.W.keepIn K (.ref g)=true)(mG:mg "_law_numbers"=some (.ref g))(T:z0K P w K mg base CX 3 k kd ["_law_pick","_law_letters_here"] (z8x K))(bT:z0u K kd ["_law_pick","_law_letters_here"] [])(kT:PySem.W.keepIn K (.ref k)=true)(mT:mg "_law_rearranged"=some (.ref k))(U:z0K P w K mg base CX 3 u ud ["_law_rows_here","_law_start"] (z5G K))(bU:z0u K ud ["_law_rows_here","_law_start"] [])(kU:PySem.W.keepIn K (.ref u)=true)(mU:mg "_law_shrunk"=some (.ref u))(V':z0K P w K mg base CX 3 v vd ["_law_letters_here","_law_cell_here"] (z5w K))(bV:z0u K vd ["_law_letters_here","_law_cell_here"] [])(kV':PySem.W.keepIn K (.ref v)=true)(mV:mg "_law_guise"=some (.ref v)):z0K P w K mg base CX 4 f fd ["_law_letters_here","_law_cell_here"] (z80 K):=by
 refine F.okc zek (fun vs H Q E h=>?_) (fun cdv A outer s H vs Q E hr h=>?_)
 .obtain⟨n,c,rfl,_⟩:=h;rfl
 obtain⟨n,c,rfl,hn2,hn5,q⟩:=h;refine⟨_,z04 (z1M (z1K (zeQ (z0o z0U (pv 1) z09) z09)) (z0a (z0I (z0i V' hr rfl mV kV' bV .nil z0T (z02 (pv 0) (z02 (pv 1) z05))))) z0E)
  (z04 (z0g (i:=2) zek.nd rfl (Or.inr rfl) (z0i G hr rfl mG kG bG .nil z0T (z02 (pv 1) (z02 z09 z05))))
  (z04 (z0g (i:=3) zek.nd rfl (Or.inr rfl) (z0o z1c z09 (z0o z0U (z0W z1t (pv 2) z09 (fun _ _=>rfl)) z09)))
  (z04 (z0g (i:=4) zek.nd rfl (Or.inl rfl) (z1Q z05))
  (z04 (z2g y1e rfl (z1b rfl mr (z02 (pv 3) z05)) (z0k (i:=5) zek.nd rfl (Or.inr rfl))
   (z04 (z7v (i:=6) rfl zgE (z1b rfl mr (z02 (pv 0) z05)) (fun _ _ _ _ _=>z0k (i:=0) zgE.nd rfl (Or.inl rfl))
    (fun _ _ _ _ _=>z0o z0U (z0o z1c (z0W (ixL K rfl) (pv 4) (z0o z1c z09 (z0o z0U (z0o z1c (z0o z38 (pv 1) (pv 2)) (pv 0)) z09)) (fun _ _=>rfl)) (z0o z38 (pv 1) (pv 0))) (pv 3)) zek.nd rfl rfl)
   (z04 (zd1 (z0o z0U (z0o z1c (pv 5) z09) (pv 3)) (zeR (pv 6) (z0o z0U (pv 5) (pv 0)) zbz))
   (z0a (z1A (z3V y0J y0X y0Y z0V (pv 4) (z02 (z3c (z02 (z0i T hr rfl mT kT bT .nil z0T (z02 (z0W z1t (pv 2) (z0o z1c z09 (z0o z0U (z0o z1c (z0o z38 z09 (pv 5)) (z0W z1t (pv 2) z09 (fun _ _=>rfl))) z09)) (fun _ _=>rfl)) (z02 (pv 0) z05)))
    (z02 (z0w z0B rfl mt y0K (z02 (pv 6) z05)) z05))) z05)))))))
  (z0a (z0I (z0i U hr rfl mU kU bU .nil z0T (z02 (pv 4) (z02 z09 z05))))))))),?_⟩
 refine(exA rfl (exC rfl rfl ⟨z6C,exC rfl rfl (exA rfl (z3H (fun _=>(exA rfl (exA rfl ⟨n,c,rfl,hn2,hn5,fun v H1 rows s1 G1 h8 d=>q v H1 rows s1 G1 (by lia) d⟩))) (fun _=>?_)))⟩));refine(exA rfl ⟨c,131,rfl,by lia,fun ln H1 nn s1 e1 hnn=>?_⟩);have hnl:=hnn.1;have gn:∀k,k<131->∃x:Int,nn[k]?=some x/\0<=x/\x<1009:=fun k hk=>⟨nn[k]'(by lia),y00 (by lia),hnn.2 _ (y0l _)⟩;have gi:∀{k:Nat}{x:Int},nn[k]?=some x->atI (nn.map V.int) (k:Int)=some (V.int x):=fun e=>z0v (by rw[y04,e];rfl);obtain⟨z0,ez0,z00,z01⟩:=gn 0 (by lia);obtain⟨z130,ez130,y0,y1⟩:=gn 130 (by lia);obtain⟨m,hm⟩:=z6y (x:=(9:Int)+z0%40) (by lia);refine(exA rfl ⟨ln,_,_,V.int z0,rfl,rfl,SqL.of e1,gi (k:=0) ez0,exC rfl rfl ⟨z6C,exC rfl rfl ⟨by show 0<=sizeLine;decide,fun lr hlr=>?_⟩⟩⟩);have s3:=z07 (o:=HO.lst []) (z0d.refl H1) hlr;refine⟨_,rfl,(m:Int),(by rw[<-hm]),by lia,by lia,z6s (n:=(m:Int).toNat) (fun i σ H3=>∃(u5 u6:Option V)(us:List V)(rs:List Row),σ=[some (.int n),some (.int c),some (.ref ln),some (.int m),some (.ref lr),u5,u6]/\z0d H1 H3/\H3 lr=some (.lst us)/\DrL K H3 (z0j rs) us/\rs.length=i/\GR n m rs)
  ⟨_,_,[],[],(by rw[<-hm];rfl),s3,z03,DrL.nil,rfl,fun r hr=>by simp at hr⟩ (fun i σ H3 hi h=>?_) (fun σ H3 h=>?_)⟩
 .obtain⟨u5,u6,us,rs,rfl,t3,elr,drs,hrl,gr⟩:=h;have e0:(0:Int)+(i:Int)=(i:Int):=by lia
  rw[e0];have hnn3:=t3 _ _ e1;have hil:(i:Int)<2^64:=by lia
  refine(exA rfl ⟨(n:Int),rfl,by lia,by lia,fun lg hlg=>z1i (n:=(n:Int).toNat) (GI m H3) (GI.nil hlg) (z0M (by lia)) (fun j ys H h=>h.len) (fun j ys H4 hj h hy=>?_) (fun ys H4 h hy=>?_)⟩)
  .have e0:(0:Int)+(j:Int)=(j:Int):=by lia
   rw[e0];obtain⟨_,_,_,_,s4⟩:=id h;obtain⟨ix,hix⟩:=z6y (x:=(1:Int)+((i:Int)*(n:Int)+(j:Int))%127) (by lia);obtain⟨x,ex,x0,x1⟩:=gn ix (by lia);refine(exA rfl (exA rfl (exA rfl (exC rfl rfl ⟨.inl ⟨by lia,hil⟩,exA rfl (exC rfl rfl (exC rfl rfl ⟨z6C,exC rfl rfl (exD ln _ _ (V.int x) rfl rfl (SqL.of (s4 _ _ hnn3)) ((by rw[hix];exact gi ex)) (exA rfl (exA rfl (exC rfl rfl ⟨.inl ⟨by lia,hil⟩,exC rfl rfl (exA rfl (exC rfl rfl ⟨by lia,hy,h.snoc hlg ⟨y1N _ (by lia),y1p _ (by lia)⟩⟩))⟩))))⟩))⟩))))
  obtain⟨gs,rfl,hgl,hgr,s4⟩:=h;have hgn:gs.length=n:=by lia
  obtain⟨jx,hjx⟩:=z6y (x:=(i:Int)%(n:Int)) (y1N _ (by lia));have hjl:jx<n:=by have:=y1p (i:Int) (show(0:Int)<(n:Int)by lia);lia
  have ixj:ixN (gs.map V.int).length ((i:Int)%(n:Int))=some jx:=by rw[hjx,y01,hgn];unfold ixN;rw[if_pos (by lia),if_pos (by lia)];congr 1
  have hlg4:H4 lg=some (.lst (gs.map V.int)):=hy;refine(exA rfl (exC rfl rfl (exA rfl (exC rfl rfl ⟨by lia,exA rfl (exA rfl (exA rfl (exC rfl rfl ⟨by lia,lg,_,_,jx,rfl,rfl,hlg4,ixj,?_⟩)))⟩))));have hgr':∀g∈gs.set jx (((i:Int)+1)%(m:Int)),0<=g/\g<(m:Int):=fun g hg=>by
   rcases List.mem_or_eq_of_mem_set hg with hg|hg
   .exact hgr g hg
   .rw[hg];exact⟨y1N _ (by lia),y1p _ (by lia)⟩
  have hgl':(gs.set jx (((i:Int)+1)%(m:Int))).length=n:=by rw[List.length_set];exact hgn
  have s5:z0d H3 (upd H4 lg (.lst ((gs.map V.int).set jx (V.int (((i:Int)+1)%(m:Int)))))):=z0c s4 hlg;have elg:upd H4 lg (.lst ((gs.map V.int).set jx (V.int (((i:Int)+1)%(m:Int))))) lg=some (.lst ((gs.set jx (((i:Int)+1)%(m:Int))).map V.int)):=by rw[z03,List.map_set]
  generalize gs.set jx (((i:Int)+1)%(m:Int))=gs' at hgr' hgl' elg;generalize upd H4 lg (.lst ((gs.map V.int).set jx (V.int (((i:Int)+1)%(m:Int)))))=H5 at s5 elg;have elr5:=s5 _ _ elr;obtain⟨ix,hix⟩:=z6y (x:=(1:Int)+(3*(i:Int)+z130)%127) (by lia);obtain⟨x,ex,x0,x1⟩:=gn ix (by lia);have hnn5:=s5 _ _ hnn3;refine(exA rfl ⟨.inl ⟨rfl,_,SqL.of elr5⟩,exA rfl (exA rfl (exC rfl rfl ⟨.inl ⟨by decide,by decide⟩,exA rfl ⟨ln,_,_,V.int z130,rfl,rfl,SqL.of hnn5,gi (k:=130) ez130,exC rfl rfl (exC rfl rfl ⟨z6C,exC rfl rfl (exD ln _ _ (V.int x) rfl rfl (SqL.of hnn5) ((by rw[hix];exact gi ex)) (exA rfl ⟨x,n,rfl,by lia,fun vf H6 s6 df=>?_⟩))⟩)⟩⟩))⟩);refine(exA rfl ⟨lg,exA rfl (.inl ⟨SqL.of (s6 _ _ elg),fun t4 ht4=>⟨by show 2<=sizeLine;decide,fun t5' ht5=>?_⟩⟩)⟩);obtain⟨b0,rfl,eb0⟩:=Dr.its_inv df;have s9:=z07 (o:=HO.tup (gs'.map V.int)) (z0d.refl H6) ht4;have s10:=z07 (o:=HO.tup [.ref b0,.ref t4]) s9 ht5;have elr10:=s10 _ _ (s6 _ _ elr5);have hul:us.length=i:=by have:=drs.length;unfold z0j at this;rw[y01]at this;lia
  refine⟨lr,us,.ref t5',rfl,rfl,elr10,z22 (by lia),?_⟩;have kk:z1m H6 (upd (upd (upd H6 t4 (.tup (gs'.map V.int))) t5' (.tup [.ref b0,.ref t4])) lr (.lst (us++[.ref t5']))):=z1m.up (z1m.of s10) elr10 (fun _ z=>by cases z);have nt5:t5'≠lr:=z3r z03 elr10 (by intro z;cases z);have nt4:t4≠t5':=z0e z03 ht5;have nt4f:t4≠lr:=z3r (show upd (upd H6 t4 (.tup (gs'.map V.int))) t5' (.tup [.ref b0,.ref t4]) t4=some (.tup (gs'.map V.int))by rw[z06 nt4];exact z03) elr10 (by intro z;cases z);refine⟨_,_,us++[.ref t5'],rs++[(z9n x n,gs')],rfl,z0c (t3.trans (s5.trans (s6.trans s10))) hlr,z03,?_,by rw[y09,hrl];rfl,gr.snoc ⟨z57 x n,hgl',hgr'⟩⟩;unfold z0j;rw[y0i];refine DrL.append ((drs.mono (s5.trans s6)).keyed kk (z2e _)) (DrL.one (z4x (r:=(z9n x n,gs')) (b:=b0) (c:=t4) ?_ (kk _ _ eb0) ?_))
  .rw[z06 nt5];exact z03
  .rw[z06 nt4f,z06 nt4];exact z03
 .obtain⟨u5,u6,us,rs,rfl,t3,elr,drs,hrl,gr⟩:=h;have G':z0l n rs:=gr.good (by lia) (by lia) (by lia);exact(exA rfl ⟨lr,n,rs,rfl,⟨us,elr,drs⟩,G',by lia,fun v H4 s4 d=>q v H4 rs (s1.trans (t3.trans s4)) G' (by lia) d⟩)
def zfp:z0z ["kinds","goings"] ["kinds","goings"] (z08 zar):={}
def zcM:z1a ["kinds","goings"] (z08 zar) ["going","kinds"] [none,some 0] (csc [(".0",.local),("going",.local),("kinds",.free)]):={}
def zdD(F:Fun K "kinds_gone_to" "kinds_gone_to" zar f fd)(mt:mg "tuple"=none):z0K P w K mg base CX 1 f fd ["kinds","goings"] (z8o K):=by
 refine F.okc zfp (fun vs H Q E h=>?_) (fun cdv A outer s H vs Q E hr h=>?_)
 .obtain⟨a,b,ks,gs,rfl,_⟩:=h;rfl
 obtain⟨a,b,ks,gs,rfl,ha,hb,hg,hl,q⟩:=h;refine⟨_,z0a (z0I (z0w z0B rfl mt y0K (z02 (z1h rfl zcM (z54 (pv 1)) (fun _ _ _ _ _=>z0k (i:=0) zcM.nd rfl (Or.inl rfl)) (fun _ _ _ _ _=>z0W (ixL K rfl) (pv 1) (pv 0) (fun _ _=>rfl))) z05))),?_⟩;obtain⟨b,rfl,eb⟩:=Dr.its_inv hb;refine(exA rfl ⟨b,rfl,⟨_,SqT.of eb⟩,fun l hl0=>z49 (xs:=gs.map V.int) (fun i ys H2=>i<=gs.length/\ys=((gs.take i).map fun g=>ks.getD g.toNat 0).map V.int/\z0d H H2) ⟨y0B _,rfl,z07 (z0d.refl H) hl0⟩ (fun i ys H2 _ h=>SqT.of (h.2.2 _ _ eb)) (by rw[y01];exact z0M (by lia)) (fun i ys H2 h=>?_) (fun i x ys H2 hx h hy=>?_) (fun ys H2 h hy=>?_)⟩)
 .obtain⟨hi,rfl,_⟩:=h;rw[y01,y01,y0w];lia
 .obtain⟨hi,rfl,s2⟩:=h;have hil:i<gs.length:=by have:=(y0a.mp hx).1;rwa [y01]at this
  have eg:gs[i]?=some gs[i]:=y00 hil;obtain⟨h0,h1⟩:=hg _ (y0l hil);generalize gs[i]=gi at eg h0 h1;have ex:x=V.int gi:=by rw[y04,eg]at hx;exact(y0b hx).symm
  subst ex;have hk:gi.toNat<ks.length:=by lia
  refine(exA rfl (exA rfl (exD a _ gi (V.int (ks.getD gi.toNat 0)) rfl rfl (SqL.of (s2 _ _ ha)) (z3Q h0 (by simp[hk])) ⟨hy,hil,?_,z0c s2 hl0⟩)));rw[z1x _ eg,y0i];rfl
 .obtain⟨_,rfl,s2⟩:=h;refine⟨l,exA rfl (.inl ⟨SqL.of hy,fun t ht=>?_⟩)⟩;rw[y01,y1j];exact q _ _ (z07 s2 ht) (Dr.tup z03 (DrL.ints _))
abbrev zd7:List Str:=["first","row_at","order","places","found","rearranging","goings","going"]
def z2V:z0z zd7 ["first","row_at"] (z08 zbk):={}
def zan:z1a zd7 (z08 zbk) ["going","places"] [none,some 3] (csc [(".0",.local),("going",.local),("places",.free)]):={}
def zbY(F:Fun K "rows_come_to" "rows_come_to" zbk f fd)(ml:mg "len"=none)(mt:mg "tuple"=none):z0K P w K mg base CX 5 f fd ["first","row_at"] (z7J P w K mg base CX 4):=by
 refine F.okc z2V (fun vs H Q E h=>?_) (fun cdv A outer s H vs Q E hr h=>?_)
 .obtain⟨a,n,rows,nm,rfl,_⟩:=h;rfl
 obtain⟨fa,n,rows,nm,rfl,ni,hV,G,hn,q⟩:=h;have hu:=zea hr;refine⟨_,z04 (z0g (i:=2) z2V.nd rfl (Or.inl rfl) (z1Q (z02 (pv 0) z05)))
  (z04 (z0g (i:=3) z2V.nd rfl (Or.inr rfl) (z9W (z8k (pv 0) z09 zam) rfl rfl (by simp) (by decide)))
  (z04 (z0g (i:=4) z2V.nd rfl (Or.inl rfl) (z1Q z05))
  (z04 (z2B y1e (z1p z7p (z0h z0f rfl ml y0F (z02 (pv 4) z05)) (z0h z0f rfl ml y0F (z02 (pv 2) z05)) (z1j _))
   (z04 (zd1 (zbW (CX:=CX) 1 hr (z02 (z0W z1t (pv 2) (z0h z0f rfl ml y0F (z02 (pv 4) z05)) (fun _ _=>rfl)) z05)) (z8v rfl (z1e (z0k (i:=5) z2V.nd rfl (Or.inl rfl)) (z1e (z0k (i:=6) z2V.nd rfl (Or.inl rfl)) z3E))))
   (z04 (z2g y1e rfl (z54 (pv 6)) (z0k (i:=7) z2V.nd rfl (Or.inl rfl))
    (z0a (z1M (z1K (z4A hu (pv 7) (pv 3)))
     (z04 (z5C hu (pv 3) (pv 7) (z0h z0f rfl ml y0F (z02 (pv 2) z05)) rfl)
     (z0a (z1A (z3V y0J y0X y0Y z0V (pv 2) (z02 (pv 7) z05))))) z0E)))
   (z0a (z1A (z3V y0J y0X y0Y z0V (pv 4) (z02 (z3c (z02 (pv 5) (z02 (z0w z0B rfl mt y0K
    (z02 (z1h rfl zan (z54 (pv 6)) (fun _ _ _ _ _=>z0k (i:=0) zan.nd rfl (Or.inl rfl)) (fun _ _ _ _ _=>z2R hu (pv 1) (pv 0) (fun _ _=>rfl))) z05)) z05))) z05)))))))
  (z0a (z0I (pv 4)))))),?_⟩
 refine(exA rfl ⟨by show 1<=sizeLine;decide,fun lo hlo=>fun lp hlp=>(exA rfl ⟨z03,[(Sum.inl (nm 0),V.int 0)],rfl,by simp,by show 0<=sizeLine;decide,fun lf hlf=>?_⟩)⟩);have s1:z0d H (upd H lo (.lst [.int (nm 0)])):=z07 (z0d.refl H) hlo;have hlp0:H lp=none:=s1.free hlp;have nlo:lo≠lp:=z0e z03 hlp;have s2:z0d H (upd (upd (upd H lo (.lst [.int (nm 0)])) lp (.dK [])) lp (.dK (z3S [] [(Sum.inl (nm 0),V.int 0)]))):=z0c (z07 s1 hlp) hlp0;have hlf0:H lf=none:=s2.free hlf;have nlf:lo≠lf:=z0e (show upd (upd (upd H lo (.lst [.int (nm 0)])) lp (.dK [])) lp (.dK (z3S [] [(Sum.inl (nm 0),V.int 0)])) lo=_ by rw[z06 nlo,z06 nlo];exact z03) hlf;have nlpf:lp≠lf:=z0e z03 hlf;have s3:=z07 (o:=HO.lst []) s2 hlf;have OL:=z0m G;have hol:=OL.1.len;have h400:=G.few;refine⟨fun m σ H2=>∃(i:Nat)(o:List Int)(u1 u2 u3:Option V)(fs:List V),m=rows.length+1-i/\σ=[some (.int (nm 0)),some (.ref fa),some (.ref lo),some (.ref lp),some (.ref lf),u1,u2,u3]/\z0d H H2/\H2 lo=some (.lst (o.map (nV nm)))/\H2 lp=some (.dK (prs (kN nm) o))/\H2 lf=some (.lst fs) /\
   DrL K H2 (z0j ((z0L rows).take i)) fs/\z7l rows o/\i<=o.length/\bfs rows (rows.length+1-i) i o=order rows,⟨_,0,[0],none,none,none,[],rfl,rfl,s3,?_,?_,z03,DrL.nil,zcK G,by simp,rfl⟩,?_⟩
 .rw[z06 nlf,z06 nlo,z06 nlo];exact z03
 .rw[z06 nlpf];exact z03
 rintro m σ H2 ⟨i,o,u1,u2,u3,fs,rfl,rfl,t2,glo,glp,glf,df,L,hi,hb⟩;have hfl:fs.length=i:=by
  have:=df.length;unfold z0j at this;rw[y01,y0w]at this;obtain⟨mm,em⟩:=z64 rows (rows.length+1-i) i o;rw[hb]at em;have:(z0L rows).length=(order rows).length:=by unfold z0L z25;rw[y01]
  have:o.length<=(order rows).length:=by rw[em,y09];lia
  lia
 refine(exA rfl (exG lf rfl (.inl (SqL.of glf)) (exA rfl (exG lo rfl (.inl (SqL.of glo)) (exC rfl rfl (exA rfl ?_))))));have hol2:(o.map (nV nm)).length=o.length:=y01 _;refine z3H (fun c=>?_) (fun c=>?_)
 .have c':=y1c c;rw[hfl,hol2]at c';have hio:i<o.length:=by lia
  have eo:o[i]?=some o[i]:=y00 hio;have hro:o[i]∈o:=y0l hio;generalize o[i]=r at eo hro;obtain⟨r0,r1⟩:=L.rg r hro;have hrow:=z0n r0 r1;have hgl:=G.len _ hrow;have hgo:=G.go _ hrow;have hlen:=L.len;refine zel fun N nx2=>?_;refine⟨fa,zci K rows nm,rfl,(hV.mono t2).1,exA rfl (exA rfl (exG lf rfl (.inl (SqL.of glf)) (exD lo _ _ (V.int (nm r)) rfl rfl (SqL.of glo) (z0v (by rw[y04,hfl,eo];rfl)) ⟨hV.mono t2,r,rfl,r0,r1,fun v Hc sc dv=>?_⟩)))⟩;obtain⟨t,b,cc,rfl,et,eb,ec⟩:=z1D dv;have t2:=t2.trans sc;have glo:=sc _ _ glo;have glp:=sc _ _ glp;have glf:=sc _ _ glf;have df:=df.mono sc;refine(exF t rfl (SqT.of et) rfl (exB rfl (exC rfl rfl ?_)));unfold z6h at eb ec;simp only at eb ec;generalize hgs:(row rows r).2=gs at *;refine⟨_,rfl,cc,rfl,⟨_,SqT.of ec⟩,zgN (xs:=(gs.map nm).map V.int) (fun j σ H3=>∃u:Option V,σ=[some (.int (nm 0)),some (.ref fa),some (.ref lo),some (.ref lp),some (.ref lf),some (.ref b),some (.ref cc),u]/\z0d H H3/\z1m Hc H3/\H3 lo=some (.lst ((z0b o (gs.take j)).map (nV nm)))/\H3 lp=some (.dK (prs (kN nm) (z0b o (gs.take j))))/\H3 lf=some (.lst fs))
   ⟨_,rfl,t2,z1m.refl _,glo,glp,glf⟩ (fun j σ H3 _ h=>by obtain⟨_,_,_,k3,_⟩:=h;exact SqT.of (k3 _ _ ec)) (fun j x σ H3 hx h Ed nx3=>?_) (fun σ H3 h=>?_)⟩
  .obtain⟨u,rfl,t3,k3,e1,e2,e3⟩:=h;have hjl:j<gs.length:=by have:=(y0a.mp hx).1;rwa [y01,y01]at this
   have eg:gs[j]?=some gs[j]:=y00 hjl;generalize gs[j]=gj at eg;have ex:x=V.int (nm gj):=by rw[y04,y04,eg]at hx;exact(y0b hx).symm
   subst ex;have et':z0b o (gs.take (j+1))=z2b (z0b o (gs.take j)) gj:=by rw[y0G,eg];exact z1F _ _ _
   have hal:(z0b o (gs.take j)).length<=4500:=by have:=z1Y (gs.take j) o;rw[y0w]at this;lia
   generalize z0b o (gs.take j)=oj at *;refine(exA rfl (exA rfl ⟨lp,exA rfl ⟨z4Y.k (k:=kN nm gj) e2,exA rfl ?_⟩⟩));have hv:=z2d (κ:=Key) (kN nm) (zaV ni) oj gj;by_cases hm:gj∈oj
   .rw[hv,if_pos hm];refine z36 (nx3 _ _ (exA rfl ⟨t3,k3,?_,?_,e3⟩))
    .rw[et',z0p hm];exact e1
    .rw[et',z0p hm];exact e2
   .rw[hv,if_neg hm];have nlop:lo≠lp:=z3r e1 e2 (by intro z;cases z);refine z7n (exA rfl (exG lo rfl (.inl (SqL.of e1)) (exA rfl (exA rfl ⟨lp,exA rfl ⟨zcZ.k (k:=kN nm gj) e2 (by rw[z1O];exact z2s (by lia)),?_⟩⟩))));have e1':upd H3 lp (.dK (z2L (prs (kN nm) oj) (kN nm gj) (V.int ((oj.map (nV nm)).length:Nat)))) lo=some (.lst (oj.map (nV nm))):=by rw[z06 nlop];exact e1
    refine(exA rfl ⟨.inl ⟨rfl,_,SqL.of e1'⟩,exA rfl ⟨lo,exC rfl rfl ⟨e1',by rw[y01];exact z2s (by lia),?_⟩⟩⟩);refine nx3 _ _ (exA rfl ⟨z0c (z0c t3 hlp0) hlo,z1m.up (z1m.up k3 e2 (fun _ z=>by cases z)) e1' (fun _ z=>by cases z),?_,?_,?_⟩)
    .rw[z03,et',z0q hm,y0i];rfl
    .rw[z06 nlop.symm,z03,et',z0q hm,y01,z6b (kN nm) (zaV ni) hm]
    .rw[z06 nlf.symm,z06 nlpf.symm];exact e3
  .obtain⟨u,rfl,t3,k3,e1,e2,e3⟩:=h;rw[y01,y01,y1j]at e1 e2;obtain⟨mm,em⟩:=z64 rows (rows.length+1-(i+1)) (i+1) (z0b o gs);have hb':bfs rows (rows.length+1-(i+1)) (i+1) (z0b o gs)=order rows:=by
    rw[<-hb,show rows.length+1-i=(rows.length+1-(i+1))+1 by lia,z3d eo,hgs]
   rw[hb']at em;have L':z7l rows (z0b o gs):=by rw[<-hgs];exact L.add G hro
   obtain⟨m1,em1⟩:=z0F gs o;have hoi:(order rows)[i]?=some r:=by rw[em,em1,y0q,y16 hio];exact eo
   have hi':i+1<=(z0b o gs).length:=by rw[em1,y09];lia
   have hmem:∀g∈gs,g∈z0b o gs:=fun g hg=>z0C.mpr (.inr hg);have efound:(z0L rows).take (i+1)=(z0L rows).take i++[((row rows r).1,gs.map fun g=>(((z0b o gs).idxOf g:Nat):Int))]:=by
    have e4:(z0L rows)[i]?=some ((row rows r).1,gs.map fun g=>(((z0b o gs).idxOf g:Nat):Int)):=by unfold z0L z25;rw[y04,hoi];show some ((row rows r).1,(row rows r).2.map fun g=>(((order rows).idxOf g:Nat):Int))=_;rw[hgs];congr 2;refine y0L fun g hg=>?_;rw[em,z6K (hmem g hg)]
    rw[y0G,e4];rfl
   generalize z0b o gs=o' at *;refine(exA rfl ⟨.inl ⟨rfl,_,SqL.of e3⟩,exA rfl (exA rfl ⟨cc,rfl,⟨_,SqT.of (k3 _ _ ec)⟩,fun l4 hl4=>z49 (xs:=(gs.map nm).map V.int) (fun j ys H4=>j<=gs.length/\ys=((gs.take j).map fun g=>((o'.idxOf g:Nat):Int)).map V.int/\z0d H3 H4) ⟨y0B _,rfl,z07 (z0d.refl H3) hl4⟩ (fun j ys H4 _ h=>SqT.of (h.2.2 _ _ (k3 _ _ ec))) (by rw[y01,y01];exact z0M (by lia)) (fun j ys H4 h=>?_) (fun j x ys H4 hx h hy=>?_) (fun ys H4 h hy=>?_)⟩)⟩)
   .obtain⟨hj,rfl,_⟩:=h;rw[y01,y01,y0w];lia
   .obtain⟨hj,rfl,s4⟩:=h;have hjl:j<gs.length:=by have:=(y0a.mp hx).1;rwa [y01,y01]at this
    have eg:gs[j]?=some gs[j]:=y00 hjl;have hgm:=hmem _ (y0l hjl);generalize gs[j]=gj at eg hgm;have ex:x=V.int (nm gj):=by rw[y04,y04,eg]at hx;exact(y0b hx).symm
    subst ex;have hv:=z2d (κ:=Key) (kN nm) (zaV ni) o' gj;rw[if_pos hgm]at hv;refine(exA rfl (exA rfl ⟨lp,exA rfl ⟨(by rw[<-hv];exact z4Y.k (k:=kN nm gj) (s4 _ _ e2)),hy,hjl,?_,z0c s4 hl4⟩⟩));rw[z1x _ eg,y0i];rfl
   .obtain⟨_,rfl,s4⟩:=h;rw[y01,y01,y1j]at hy;refine⟨l4,exA rfl (.inl ⟨SqL.of hy,fun t4 ht4=>⟨by show 2<=sizeLine;decide,fun t5 ht5=>?_⟩⟩)⟩;have s5:=z07 (o:=HO.tup ((gs.map fun g=>((o'.idxOf g:Nat):Int)).map V.int)) s4 ht4;have s6:=z07 (o:=HO.tup [.ref b,.ref t4]) s5 ht5;have e3':=s6 _ _ e3;refine⟨lf,fs,.ref t5,rfl,rfl,e3',by rw[hfl];exact z2s (by lia),?_⟩;have kk:z1m Hc (upd (upd (upd H4 t4 (.tup ((gs.map fun g=>((o'.idxOf g:Nat):Int)).map V.int))) t5 (.tup [.ref b,.ref t4])) lf (.lst (fs++[.ref t5]))):=z1m.up (k3.trans (z1m.of s6)) e3' (fun _ z=>by cases z);have nt5:t5≠lf:=z3r z03 e3' (by intro z;cases z);have nt4:t4≠t5:=z0e z03 ht5;have nt4f:t4≠lf:=z3r (show upd (upd H4 t4 (.tup ((gs.map fun g=>((o'.idxOf g:Nat):Int)).map V.int))) t5 (.tup [.ref b,.ref t4]) t4=some (.tup ((gs.map fun g=>((o'.idxOf g:Nat):Int)).map V.int))by rw[z06 nt4];exact z03) e3' (by intro z;cases z);refine nx2 (rows.length+1-(i+1)) _ _ (by lia) ⟨i+1,o',_,_,_,fs++[.ref t5],rfl,rfl,z0c (t3.trans s6) hlf0,?_,?_,z03,?_,L',hi',hb'⟩
    .rw[z06 nlf];exact s6 _ _ e1
    .rw[z06 nlpf];exact s6 _ _ e2
    .rw[efound];unfold z0j;rw[y0i];refine DrL.append (df.keyed kk (z2e _)) (DrL.one (z4x (b:=b) (c:=t4) ?_ (kk _ _ eb) ?_))
     .rw[z06 nt5];exact z03
     .rw[z06 nt4f,z06 nt4];exact z03
 .have c':=y1R (y1F.mpr c);rw[hfl,hol2]at c';have e:order rows=o:=by rw[<-hb];exact z2Z (by lia)
  have e2:(z0L rows).take i=z0L rows:=y0x (by unfold z0L z25;rw[y01,e];lia);rw[e2]at df;exact(exA rfl (q lf H2 t2 ⟨fs,glf,df⟩))
def z4n:z0z ["rows","kinds","count"] ["rows"] (z08 z5j):={}
def z69:z1a ["rows","kinds","count"] (z08 z5j) ["rearranging","goings"] [none,none] (csc [(".0",.local),("rearranging",.local),("goings",.local)]):={}
def z43:z1a ["rows","kinds","count"] (z08 z5j) ["kind","rearranging","goings","kinds"] [none,none,none,some 1] (csc [(".0",.local),("kind",.local),("rearranging",.local),("goings",.local),("kinds_gone_to",.globalImplicit),("kinds",.free)]):={}
def zau{k Ct:Addr}{kd:FuncData}{tm:Tok}{bmB:List Value}{B newId initId:String}(mC:mg "TooMany"=some (.ref Ct))(xC:PySem.W.excIn K Ct bmB newId=true)(hB:ExcBaseFacts B newId initId bmB)(F:Fun K "kinds_of_rows" "kinds_of_rows" z5j f fd)(mz:mg "zip"=none)(mx:mg "max"=none)(mM:mg "MOST_FORM_ROWS"=some (.int 60 tm))(G:z0K P w K mg base (CXx P w) 1 g gd ["things"] (z3A K))(bG:z0u K gd ["things"] [])(kG:PySem.W.keepIn K (.ref g)=true)(mG:mg "numbered"=some (.ref g))(T:z0K P w K mg base (CXx P w) 1 k kd ["kinds","goings"] (z8o K))(bT:z0u K kd ["kinds","goings"] [])(kT:PySem.W.keepIn K (.ref k)=true)(mT:mg "kinds_gone_to"=some (.ref k)):z0K P w K mg base (CXx P w) 2 f fd ["rows"] (z5O K Ct):=by
 refine F.okx z4n (fun vs H Q E h=>?_) (fun cdv A outer s H vs Q E hr h=>?_)
 .obtain⟨a,n,rows,rfl,_⟩:=h;rfl
 obtain⟨a,n,rows,rfl,⟨us,ea,da⟩,GF,hn,q,qx⟩:=h;have h400:=GF.few;refine⟨_,z04 (z0g (i:=1) z4n.nd rfl (Or.inr rfl) (z0i G hr rfl mG kG bG .nil z0T (z02 (z1h rfl z69 (z1z (pv 0)) (fun _ _ _ _ _=>pgT K (n:=2) rfl rfl (z1e (z0k (i:=0) z69.nd rfl (Or.inl rfl)) (z1e (z0k (i:=1) z69.nd rfl (Or.inl rfl)) z3E))) (fun _ _ _ _ _=>pv 0)) z05)))
  (z04 (z0g (i:=2) z4n.nd rfl (Or.inl rfl) z09)
  (z04 (z2B y3p (z1p z7p (pv 2) (z0o z1c (z0h (zgx K rfl rfl) rfl mx PyProof.Rows.boot_max (z02 (pv 1) z05)) z09) (z1j _))
   (z04 (z0g (i:=2) z4n.nd rfl (Or.inl rfl) (z0o z1c (z0h (zgx K rfl rfl) rfl mx PyProof.Rows.boot_max (z02 (pv 1) z05)) z09))
   (z04 (z1M (z1p zde (pv 2) (zdL (v:=.int 60) rfl mM ⟨_,rfl⟩) (z1j _)) (z0a (zbQ mC rfl xC hB zf7)) z0E)
   (z0a (z0g (i:=1) z4n.nd rfl (Or.inr rfl) (z0i G hr rfl mG kG bG .nil z0T (z02 (z1h rfl z43 (zga K rfl rfl mz (z02 (pv 1) (z02 (pv 0) z05)))
    (fun _ _ _ _ _=>pgT K (n:=2) rfl rfl (z1e (z0k (i:=0) z43.nd rfl (Or.inl rfl)) (z1e (pgT K (n:=2) rfl rfl (z1e (z0k (i:=1) z43.nd rfl (Or.inl rfl)) (z1e (z0k (i:=2) z43.nd rfl (Or.inl rfl)) z3E))) z3E)))
    (fun _ _ _ _ _=>z3c (z02 (pv 0) (z02 (z0i T hr rfl mT kT bT .nil z0T (z02 (pv 3) (z02 (pv 2) z05))) z05)))) z05)))))))
  (z0a (z0I (pv 1))))),?_⟩
 have hul:us.length=rows.length:=by have:=da.length;unfold z0j at this;rw[y01]at this;exact this.symm
 have hrs:=GF.some;refine(exA rfl ⟨a,rfl,⟨_,SqL.of ea⟩,fun l1 hl1=>z21 (xs:=us) (fun i ys H2=>i<=us.length/\ys.length=i/\z0d H H2/\DrL K H2 ((rows.take i).map fun r=>D.its r.1) ys) ⟨y0B _,rfl,z07 (z0d.refl H) hl1,DrL.nil⟩ (fun i ys H2 _ h=>SqL.of (h.2.2.1 _ _ ea)) (z0M (by lia)) (fun i ys H2 h=>h.2.1) (fun i x ys H2 hx h hy=>?_) (fun ys H2 h hy=>?_)⟩)
 .obtain⟨hi,hyl,s2,d2⟩:=h;have hil:i<us.length:=(y0a.mp hx).1;have er:rows[i]?=some rows[i]:=y00 (by lia);obtain⟨x',ex,dx⟩:=z3v da er;rw[hx]at ex;cases ex;generalize rows[i]=ri at er dx;obtain⟨t,b,c,rfl,et,eb,ec⟩:=z1D (dx.mono s2);refine(exF t rfl (SqT.of et) rfl (exB rfl (exC rfl rfl (exA rfl ⟨hy,hil,by rw[y09,hyl];rfl,z0c s2 hl1,?_⟩))));rw[z1x _ er];have kk:z1m H2 (upd H2 l1 (.lst (ys++[.ref b]))):=z1m.up (z1m.refl _) hy (fun _ z=>by cases z);exact DrL.append (d2.keyed kk (by have:=z8l ((rows.take i).map (·.1));rw[y0I]at this;exact this)) (DrL.one (Dr.tup (kk _ _ eb) (DrL.ints _)))
 obtain⟨_,hyl,s2,d2⟩:=h;rw[y0x (by lia)]at d2;have e1:(rows.map fun r=>D.its r.1)=(rows.map (·.1)).map D.its:=by rw[y0I];rfl
 rw[e1]at d2;refine⟨l1,ys,exA rfl ⟨hy,d2,fun d hd=>?_,by rw[y01,y01];lia,fun l2 H3 s3 e3=>?_⟩⟩
 .obtain⟨p,_,rfl⟩:=y0f.mp hd;exact⟨z2T p,by rw[zba];decide,_,rfl⟩
 rw[z8K D.its (fun _ _=>z4w)]at e3;have K0:=zdb GF;refine⟨fun m σ H4=>∃(c:Int)(ks:List Int)(l:Addr),σ=[some (.ref a),some (.ref l),some (.int c)]/\z0d H H4/\H4 l=some (.lst (ks.map V.int))/\z4S rows ks/\zbp rows ks/\(c=0\/c<=60)/\0<=c/\(rows.length:Int)+1<=m+c/\z4U rows m c ks=z2M rows,
  ⟨rows.length+1,0,_,l2,rfl,s2.trans s3,e3,K0,zeC rows,.inl rfl,y2i _,by lia,rfl⟩,?_⟩
 rintro m σ H4 ⟨c,ks,l,rfl,t4,e4,GK,NK,hc6,hc0,hm,hk⟩;obtain⟨x1,x2⟩:=z7s (zfg GF GK) fun k hk=>(GK.rg k hk).1;obtain⟨c1,c2⟩:=zfw (zfg GF GK) GK.rg;have ec:cnt ks-1+1=cnt ks:=by lia
 refine(exA rfl (exA rfl ⟨l,ks,cnt ks-1,rfl,SqL.of e4,x1,x2,exC rfl rfl (exC rfl rfl (exA rfl ?_))⟩));refine z3H (fun cc=>?_) (fun cc=>?_)
 .have c':=y1c cc;rw[ec]at c';refine zel fun N nx2=>?_;refine(exA rfl ⟨l,ks,cnt ks-1,rfl,SqL.of e4,x1,x2,exC rfl rfl (exA rfl (exC rfl rfl (exA rfl ?_)))⟩);have hmono:=z5m GF m c ks NK GK;rw[hk]at hmono;refine z3H (fun cc2=>?_) (fun cc2=>?_)
  .have c'':=y1c cc2;exact fun ea=>qx (by lia) ea H4 t4
  have c60:=y1R (y1F.mpr cc2);have hkl:=GK.len;have hsl:=z6X GK;have hn400:=GF.few;refine(exA rfl (exA rfl ⟨l,a,rfl,⟨_,SqL.of e4⟩,⟨_,SqL.of (t4 _ _ ea)⟩,fun l5 hl5=>zbA (xs:=ks.map V.int) (zs:=us) (by rw[y01];lia) (fun i ys H5=>i<=rows.length/\ys.length=i/\z0d H4 H5/\DrL K H5 (((z3W ks rows).take i).map z4T) ys) ⟨y0B _,rfl,z07 (z0d.refl H4) hl5,DrL.nil⟩ (fun i ys H5 _ h=>⟨SqL.of (h.2.2.1 _ _ e4),SqL.of (h.2.2.1 _ _ (t4 _ _ ea))⟩) (by rw[y01];exact z0M (by lia)) (fun i ys H5 h=>h.2.1) (fun i x y p ys H5 hx hz h hy hp=>?_) (fun ys H5 h hy=>?_)⟩))
  .obtain⟨hi,hyl,s5,d5⟩:=h;have hil:i<rows.length:=by have:=(y0a.mp hz).1;lia
   have er:rows[i]?=some rows[i]:=y00 hil;have ek:ks[i]?=some ks[i]:=y00 (by lia);have hrm:rows[i]∈rows:=y0l hil;obtain⟨y',ey,dy⟩:=z3v da er;rw[hz]at ey;cases ey;have es:(z3W ks rows)[i]?=some (ks[i],rows[i].2.map fun g=>ks.getD g.toNat 0):=by unfold z3W;rw[y04,y0V (z:=(ks[i],rows[i])) |>.mpr ⟨ek,er⟩];rfl
   generalize rows[i]=ri at er dy es hrm;generalize ks[i]=ki at ek es;have ex:x=V.int ki:=by rw[y04,ek]at hx;exact(y0b hx).symm
   subst ex;have sp:z0d H (upd H5 p (.tup [V.int ki,y])):=(t4.trans s5).trans (z07 (z0d.refl H5) hp);have sp5:z0d H5 (upd H5 p (.tup [V.int ki,y])):=z07 (z0d.refl H5) hp;obtain⟨t,b,c,rfl,et,eb,ec⟩:=z1D (dy.mono sp);refine(exF p rfl (SqT.of z03) rfl (exB rfl (exB rfl (exF t rfl (SqT.of et) rfl (exB rfl (exC rfl rfl ⟨rfl,exA rfl (exA rfl (exA rfl ⟨l,.ref c,ks,ri.2,rfl,sp5 _ _ (s5 _ _ e4),Dr.tup ec (DrL.ints _),fun g hg=>by rw[hkl];exact GF.go ri hrm g hg,by rw[GF.len ri hrm];lia,fun v H6 s6 dv=>⟨by show 2<=sizeLine;decide,fun t7 ht7=>?_⟩⟩))⟩))))));have s67:=z07 (o:=HO.tup [V.int ki,v]) s6 ht7;have hy7:=s67 _ _ (sp5 _ _ hy);refine⟨hy7,hil,by rw[y09,hyl];rfl,z0c (s5.trans (sp5.trans s67)) hl5,?_⟩;rw[z1x _ es];have kk:z1m H5 (upd (upd H6 t7 (.tup [V.int ki,v])) l5 (.lst (ys++[.ref t7]))):=z1m.up (z1m.of (sp5.trans s67)) hy7 (fun _ z=>by cases z);have k6:z1m H6 (upd (upd H6 t7 (.tup [V.int ki,v])) l5 (.lst (ys++[.ref t7]))):=z1m.up (z1m.of (z07 (z0d.refl H6) ht7)) hy7 (fun _ z=>by cases z);have nt7:t7≠l5:=z3r z03 hy7 (by intro z;cases z);refine DrL.append (d5.keyed kk (z6o _)) (DrL.one ?_);exact Dr.tup (vs:=[V.int ki,v]) (by rw[z06 nt7];exact z03) (DrL.cons (Dr.int ki) (DrL.one (dv.keyed k6 (z2T _))))
  obtain⟨_,hyl5,s5,d5⟩:=h;rw[y01,hkl,y0x (by lia)]at d5;refine⟨l5,ys,exA rfl ⟨hy,d5,fun d hd=>?_,by rw[y01];lia,fun l6 H6 s6 e6=>?_⟩⟩
  .obtain⟨p,_,rfl⟩:=y0f.mp hd;exact⟨z8y p,zbL p,_,rfl⟩
  rw[z8K z4T zaY]at e6;cases m with
  |zero=>lia
  |succ m =>
   refine nx2 m _ _ (Nat.lt_succ_self m) ⟨cnt ks,_,l6,(by show[some (V.ref a),some (V.ref l6),some (V.int (cnt ks-1+1))]=_;rw[ec]),(t4.trans s5).trans s6,e6,zb1 GK,zda hkl,.inr (by lia),by lia,by lia,?_⟩;rw[<-hk];exact(if_pos c').symm
 .have c':=y1R (y1F.mpr cc);rw[ec]at c';have hkk:z2M rows=ks:=by
   rw[<-hk];cases m with
   |zero=>rfl
   |succ m=>exact if_neg c'
  refine(exA rfl (q (by rw[hkk];lia) l H4 t4 ?_));rw[hkk];exact e4
abbrev zdS:List Str:=["first","row_at","found","kinds","least","rearranging","goings","kind"]
def z26:z0z zdS ["first","row_at"] (z08 z8m):={}
def z9U{Cm:V->Addr->Hp->List Row->Prop}{k q Ct:Addr}{kd qd:FuncData}(F:Fun K "least_form" "least_form" z8m f fd)(ml:mg "len"=none)(mt:mg "tuple"=none)(mz:mg "zip"=none)(G:z0K P w K mg base (CXx P w) 5 g gd ["first","row_at"] (zaB K Cm))(bG:z0u K gd ["first","row_at"] [])(kG:PySem.W.keepIn K (.ref g)=true)(mG:mg "rows_come_to"=some (.ref g))(T:z0K P w K mg base (CXx P w) 5 k kd ["rows"] (z5O K Ct))(bT:z0u K kd ["rows"] [])(kT:PySem.W.keepIn K (.ref k)=true)(mT:mg "kinds_of_rows"=some (.ref k))(U:z0K P w K mg base (CXx P w) 5 q qd ["kinds","goings"] (z8o K))(bU:z0u K qd ["kinds","goings"] [])(kU:PySem.W.keepIn K (.ref q)=true)(mU:mg "kinds_gone_to"=some (.ref q)):z0K P w K mg base (CXx P w) 6 f fd ["first","row_at"] (z8P K Cm Ct):=by
 refine F.okx z26 (fun vs H Q E h=>?_) (fun cdv A outer s H vs Q E hr h=>?_)
 .obtain⟨a,v0,n,rows,rfl,_⟩:=h;rfl
 obtain⟨fa,v0,n,rows,rfl,hC,GM,hn,gv,gx⟩:=h;have hsc:=zdH GM;have h400:=GM.few;refine⟨_,z04 (z0g (i:=2) z26.nd rfl (Or.inl rfl) (z0i G hr rfl mG kG bG .nil z0T (z02 (pv 0) (z02 (pv 1) z05))))
  (z04 (z0g (i:=3) z26.nd rfl (Or.inl rfl) (z0i T hr rfl mT kT bT .nil (zet fun _ _ _ z=>z) (z02 (pv 2) z05)))
  (z04 (z0g (i:=4) z26.nd rfl (Or.inl rfl) (z1Q z05))
  (z04 (z2g y3p rfl (zcS rfl mz (z02 (pv 2) (z02 (pv 3) z05)))
   (z8v rfl (z1e (z8v rfl (z1e (z0k (i:=5) z26.nd rfl (Or.inl rfl)) (z1e (z0k (i:=6) z26.nd rfl (Or.inl rfl)) z3E))) (z1e (z0k (i:=7) z26.nd rfl (Or.inl rfl)) z3E)))
   (z0a (z1M (z1K (z2O (pv 7) (z0h z0f rfl ml y0F (z02 (pv 4) z05))))
    (z0a (z1A (z3V y0J y0X y0Y z0V (pv 4) (z02 (z3c (z02 (pv 5) (z02 (z0i U hr rfl mU kU bU .nil z0T (z02 (pv 3) (z02 (pv 6) z05))) z05))) z05)))) z0E)))
  (z0a (z0I (z0w z0B rfl mt y0K (z02 (pv 4) z05))))))),?_⟩
 have GF:=z2F GM;have hfl:=zc5 GM;refine(exA rfl (exA rfl ⟨fa,v0,n,rows,rfl,hC,GM,hn,fun lf H1 s1 rf=>?_⟩));refine(exA rfl ⟨lf,n,z0L rows,rfl,rf,GF,hn,fun h6 lk H2 s2 ek=>?_,fun h6 ea H' s'=>gx (by lia) ea H' (s1.trans s')⟩);have gv:=gv (by lia);rw[<-z6A GM]at gv;clear hsc h6;have GK:=z3C GF;have hkl:=GK.len;unfold zbU at gv;generalize z2M (z0L rows)=ks at *;generalize z0L rows=fs at *;obtain⟨us,ef,df⟩:=rf.mono s2;have hul:us.length=fs.length:=by have:=df.length;unfold z0j at this;rw[y01]at this;exact this.symm
 have s12:=s1.trans s2;refine⟨by show 0<=sizeLine;decide,fun ll hll=>(exA rfl (exA rfl ⟨lf,lk,rfl,?_⟩))⟩;have hll0:H2 ll=none:=hll;have s3:z0d H2 (upd H2 ll (.lst [])):=z07 (z0d.refl H2) hll;refine⟨⟨_,SqL.of (s3 _ _ ef)⟩,⟨_,SqL.of (s3 _ _ ek)⟩,zgY (xs:=us) (ys:=ks.map V.int) (by rw[y01];lia) (fun i σ H3=>∃(u1 u2 u3:Option V)(ws:List V),σ=[some v0,some (.ref fa),some (.ref lf),some (.ref lk),some (.ref ll),u1,u2,u3]/\z0d H2 H3/\H3 ll=some (.lst ws)/\DrL K H3 (z0j (z24 fs ks i)) ws)
  ⟨_,_,_,[],rfl,s3,z03,DrL.nil⟩ (fun i σ H3 _ h=>by obtain⟨_,_,_,_,_,t3,_,_⟩:=h;exact⟨SqL.of (t3 _ _ ef),SqL.of (t3 _ _ ek)⟩) (fun i x y p σ H3 hx hy h hp Ed nx3=>?_) (fun σ H3 h=>?_)⟩
 .obtain⟨u1,u2,u3,ws,rfl,t3,e3,d3⟩:=h;have hil:i<fs.length:=by have:=(y0a.mp hx).1;lia
  have er:fs[i]?=some fs[i]:=y00 hil;have ek':ks[i]?=some ks[i]:=y00 (by lia);have hrm:fs[i]∈fs:=y0l hil;obtain⟨x',ex,dx⟩:=z3v df er;rw[hx]at ex;cases ex;generalize fs[i]=ri at er dx hrm;generalize ks[i]=ki at ek';have ey:y=V.int ki:=by rw[y04,ek']at hy;exact(y0b hy).symm
  subst ey;have hst:=z4k er ek';have hll2:=z98 fs ks i;have hwl:ws.length=(z24 fs ks i).length:=by have:=d3.length;unfold z0j at this;rw[y01]at this;exact this.symm
  generalize z24 fs ks i=lp at *;have sp3:z0d H3 (upd H3 p (.tup [x,V.int ki])):=z07 (z0d.refl H3) hp;have sp:z0d H2 (upd H3 p (.tup [x,V.int ki])):=t3.trans sp3;obtain⟨t,b,c,rfl,et,eb,ec⟩:=z1D (dx.mono sp);refine(exF p rfl (SqT.of z03) rfl (exB rfl (exF t rfl (SqT.of et) rfl (exB rfl (exC rfl rfl (exC rfl rfl (exA rfl (exA rfl (exG ll rfl (.inl (SqL.of (sp3 _ _ e3))) (exC rfl rfl (exA rfl ?_)))))))))));refine z3H (fun c'=>?_) (fun c'=>?_)
  .have c'':=y1c c';have hst2:z24 fs ks (i+1)=lp++[(ri.1,ri.2.map fun g=>ks.getD g.toNat 0)]:=by
    rw[hst];unfold z6a;exact if_pos (by rw[<-hwl];exact c'')
   refine(exA rfl ⟨.inl ⟨rfl,_,SqL.of (sp3 _ _ e3)⟩,exA rfl (exA rfl (exA rfl ⟨lk,.ref c,ks,ri.2,rfl,sp _ _ ek,Dr.tup ec (DrL.ints _),fun g hg=>by rw[hkl];exact GF.go ri hrm g hg,by rw[GF.len ri hrm];lia,fun v H6 s6 dv=>⟨by show 2<=sizeLine;decide,fun t7 ht7=>?_⟩⟩))⟩);have s67:=z07 (o:=HO.tup [.ref b,v]) s6 ht7;have e7:=s67 _ _ (sp3 _ _ e3);refine⟨ll,ws,.ref t7,rfl,rfl,e7,z2s (by lia),?_⟩;have kk:z1m H3 (upd (upd H6 t7 (.tup [.ref b,v])) ll (.lst (ws++[.ref t7]))):=z1m.up (z1m.of (sp3.trans s67)) e7 (fun _ z=>by cases z);have k6:z1m H6 (upd (upd H6 t7 (.tup [.ref b,v])) ll (.lst (ws++[.ref t7]))):=z1m.up (z1m.of (z07 (z0d.refl H6) ht7)) e7 (fun _ z=>by cases z);have nt7:t7≠ll:=z3r z03 e7 (by intro z;cases z);have eb':H6 b=some (.tup (ri.1.map V.int)):=s6 _ _ eb;obtain⟨c2,rfl,ec2⟩:=Dr.its_inv dv;refine nx3 _ _ ⟨_,_,_,ws++[.ref t7],rfl,z0c (sp.trans s67) hll0,z03,?_⟩;rw[hst2];unfold z0j;rw[y0i];refine DrL.append (d3.keyed kk (z2e _)) (DrL.one (z4x (b:=b) (c:=c2) ?_ (k6 _ _ eb') (k6 _ _ ec2)));rw[z06 nt7];exact z03
  .have c'':=y1R (y1F.mpr c');have hst2:z24 fs ks (i+1)=lp:=by
    rw[hst];unfold z6a;exact if_neg (by rw[<-hwl];exact c'')
   refine nx3 _ _ ⟨_,_,_,ws,rfl,sp,sp3 _ _ e3,?_⟩;rw[hst2];exact d3.mono sp3
 .obtain⟨u1,u2,u3,ws,rfl,t3,e3,d3⟩:=h;rw[hul,z51 hkl]at d3;refine(exA rfl ⟨ll,exA rfl (.inl ⟨SqL.of e3,fun t ht=>?_⟩)⟩);exact gv _ _ ((s12.trans t3).trans (z07 (z0d.refl H3) ht)) (Dr.tup z03 (d3.mono (z07 (z0d.refl H3) ht)))
def zdh:z0z ["_law_found"] ["_law_found"] (z08 z8E):={}
def zc1(F:Fun K "_law_whole" "_law_whole" z8E f fd)(B:Blt mg):z0K P w K mg base CX 1 f fd ["_law_found"] (z6c K):=by
 refine F.okc zdh (fun vs H Q E h=>?_) (fun cdv A outer s H vs Q E hr h=>?_)
 .obtain⟨i,rfl,_⟩:=h;rfl
 obtain⟨i,rfl,q⟩:=h;refine⟨_,z0a (z0I (z4c (zaf K rfl (pv 0) B.isi B.int PyProof.Rows.boot_int)
  (z56 (zeu (zaf K rfl (pv 0) B.isi B.bl y3g))))),?_⟩
 exact(exA rfl ⟨_,exB rfl ⟨.of (.int i),rfl,exA rfl (z7n (exA rfl ⟨_,exB rfl ⟨.of (.int i),rfl,exA rfl q⟩⟩))⟩⟩)
def zew:z0z ["_law_found","_law_due"] ["_law_found","_law_due"] (z08 z9y):={}
def zcO:z1a ["_law_found","_law_due"] (z08 z9y) ["_law_k","_law_due","_law_found"] [none,some 1,some 0] (csc [(".0",.local),("_law_k",.local),("_law_like",.globalImplicit),("_law_due",.free),("_law_found",.free)]):={}
def zdM{n:Nat}(F:Fun K "_law_like" "_law_like" z9y f fd)(B:Blt mg)(G:z0K P w K mg base CX 1 g gd ["_law_found"] (z6c K))(bG:z0u K gd ["_law_found"] [])(kG:PySem.W.keepIn K (.ref g)=true)(mG:mg "_law_whole"=some (.ref g))(L:z0K P w K mg base CX (n+1) f fd ["_law_found","_law_due"] (z4o K n))(bL:z0u K fd ["_law_found","_law_due"] [])(kL:PySem.W.keepIn K (.ref f)=true)(mL:mg "_law_like"=some (.ref f)):z0K P w K mg base CX (n+2) f fd ["_law_found","_law_due"] (z4o K (n+1)):=by
 refine F.okc zew (fun vs H Q E h=>?_) (fun cdv A outer s H vs Q E hr h=>?_)
 .obtain⟨a,b,d,rfl,_⟩:=h;rfl
 obtain⟨a,b,d,rfl,da,db,hd,hfew,q⟩:=h;have hr1:z2q 1 _:=hr.mono (by lia);refine⟨_,z04 (z1M (z1p zcU (pv 1) zdd (z1j _)) (z0a (z0I (z3m zcU (pv 0) zdd (z1j _)))) z0E)
  (z04 (z1M (z6k (zaf K rfl (pv 1) B.isi B.bl y3g))
   (z0a (z0I (z4c (zaf K rfl (pv 0) B.isi B.bl y3g) (z56 (z3m zav (pv 0) (pv 1) (z1j _)))))) z0E)
  (z04 (z1M (z6k (zaf K rfl (pv 1) B.isi B.int PyProof.Rows.boot_int))
   (z0a (z0I (z4c (z0i G hr1 rfl mG kG bG .nil z0T (z02 (pv 0) z05)) (z56 (z3m zav (pv 0) (pv 1) (z1j _)))))) z0E)
  (z04 (z1M (z6k (zaf K rfl (pv 1) B.isi B.str PyProof.Rows.boot_str))
   (z0a (z0I (z4c (zaf K rfl (pv 0) B.isi B.str PyProof.Rows.boot_str) (z56 (z3m zav (pv 0) (pv 1) (z1j _)))))) z0E)
  (z04 (z1M (PW.pt (zdn (z1p zfv (zaf K rfl (pv 1) B.isi B.lst y2b)
     (zaf K rfl (pv 0) B.isi B.lst y2b) (z1j _))
    (zaF (z1p zfv (zaf K rfl (pv 1) B.isi B.tup y0K)
     (zaf K rfl (pv 0) B.isi B.tup y0K) (z1j _)))))
   (z0a (z0I zbV)) z0E)
  (z0a (z0I (z4c (z3m zav (z0h z0f rfl B.len y0F (z02 (pv 0) z05)) (z0h z0f rfl B.len y0F (z02 (pv 1) z05)) (z1j _))
   (z56 (z0h (zhi K rfl rfl) rfl B.all PyProof.Rows.boot_all (z02 (z1h rfl zcO (z1b rfl B.rng (z02 (z0h z0f rfl B.len y0F (z02 (pv 1) z05)) z05)) (fun _ _ _ _ _=>z0k (i:=0) zcO.nd rfl (Or.inl rfl))
    (fun _ _ _ _ _=>z0i L hr rfl mL kL bL .nil z0T (z02 (z0W ((ixL K rfl).or (ixT K rfl)) (pv 2) (pv 0) (fun _ _=>rfl)) (z02 (z0W ((ixL K rfl).or (ixT K rfl)) (pv 1) (pv 0) (fun _ _=>rfl)) z05)))) z05)))))))))),?_⟩
 have kit:∀t c b,PySem.W.kitOne K (.type t) (.type c)=some b->PySem.W.kitOne K (.type t) (.type c)=some b:=fun _ _ _ h=>h;cases d with
 |non =>
  simp only[Dr]at da db;subst da db;exact(exA rfl ⟨rfl,exA rfl (z7n (exA rfl ⟨rfl,q _ (z0d.refl H)⟩))⟩)
 |bl x =>
  simp only[Dr]at da db;subst da db;refine z7m (fun Ed nx=>(exA rfl ⟨rfl,exA rfl (z36 nx)⟩)) ?_;refine(exA rfl ⟨_,exB rfl ⟨.of (.bl x),rfl,exA rfl (z7n (exA rfl ⟨_,exB rfl ⟨.of (.bl x),rfl,exA rfl (z7n (exA rfl (exA rfl ⟨rfl,?_⟩)))⟩⟩))⟩⟩);rw[y1A rfl];exact q _ (z0d.refl H)
 |int x =>
  simp only[Dr]at da db;subst da db;refine z7m (fun Ed nx=>(exA rfl ⟨rfl,exA rfl (z36 nx)⟩)) (z7m (fun Ed nx=>(exA rfl ⟨_,exB rfl ⟨.of (.int x),rfl,exA rfl (z36 nx)⟩⟩)) ?_);refine(exA rfl ⟨_,exB rfl ⟨.of (.int x),rfl,exA rfl (z7n (exA rfl ⟨x,rfl,exA rfl (z7n (exA rfl (exA rfl ⟨rfl,?_⟩)))⟩))⟩⟩);rw[y1A rfl];exact q _ (z0d.refl H)
 |str x =>
  simp only[Dr]at da db;subst da db;refine z7m (fun Ed nx=>(exA rfl ⟨rfl,exA rfl (z36 nx)⟩)) (z7m (fun Ed nx=>(exA rfl ⟨_,exB rfl ⟨.of (.str x),rfl,exA rfl (z36 nx)⟩⟩)) (z7m (fun Ed nx=>(exA rfl ⟨_,exB rfl ⟨.of (.str x),rfl,exA rfl (z36 nx)⟩⟩)) ?_));refine(exA rfl ⟨_,exB rfl ⟨.of (.str x),rfl,exA rfl (z7n (exA rfl ⟨_,exB rfl ⟨.of (.str x),rfl,exA rfl (z7n (exA rfl (exA rfl ⟨rfl,?_⟩)))⟩⟩))⟩⟩);rw[y1A rfl];exact q _ (z0d.refl H)
 |tup ds =>
  simp only[Dr]at da db;obtain⟨a,vs,rfl,sa,ra⟩:=da;obtain⟨b,us,rfl,sb,rb⟩:=db;replace sa:=SqT.of (K:=K) sa;replace sb:=SqT.of (K:=K) sb;simp only[D.few]at hfew;simp only[D.dep]at hd;refine z7m (fun Ed nx=>(exA rfl ⟨rfl,exA rfl (z36 nx)⟩)) (z7m (fun Ed nx=>(exA rfl ⟨_,exB rfl ⟨.tup sb,rfl,exA rfl (z36 nx)⟩⟩)) (z7m (fun Ed nx=>(exA rfl ⟨_,exB rfl ⟨.tup sb,rfl,exA rfl (z36 nx)⟩⟩)) (z7m (fun Ed nx=>(exA rfl ⟨_,exB rfl ⟨.tup sb,rfl,exA rfl (z36 nx)⟩⟩)) (z7m (fun Ed nx=>(exA rfl ⟨_,exB rfl ⟨.tup sb,rfl,exA rfl ⟨_,exB rfl ⟨.tup sa,rfl,rfl,exA rfl (z36 (exA rfl ⟨_,exB rfl ⟨.tup sb,rfl,exA rfl ⟨_,exB rfl ⟨.tup sa,rfl,rfl,exA rfl (z36 nx)⟩⟩⟩⟩))⟩⟩⟩⟩)) ?_))));have lav:ds.length=vs.length:=ra.length;have lbu:ds.length=us.length:=rb.length;refine(exA rfl ⟨a,exA rfl ⟨.inr sa,exA rfl ⟨b,exA rfl ⟨.inr sb,rfl,true,y1o V.bl (y1A (y1o V.int (by lia))),z7n ?_⟩⟩⟩⟩);refine⟨_,rfl,b,_,rfl,.inr sb,(us.length:Int),rfl,by lia,by lia,fun l hl0=>z1i (n:=(us.length:Int).toNat) (fun i ys H2=>i<=us.length/\ys=List.replicate i (V.bl true)/\z0d H H2) ⟨y0B _,rfl,z07 (z0d.refl H) hl0⟩ (z0M (by lia)) (fun i ys H2 h=>by obtain⟨_,rfl,_⟩:=h;exact y2K)
   (fun i ys H2 hi h hy=>?_) (fun ys H2 h hy=>?_)⟩
  .obtain⟨_,rfl,s2⟩:=h;have hiu:i<us.length:=by lia
   have e0:(0:Int)+(i:Int)=(i:Int):=by lia
   have ed:ds[i]?=some ds[i]:=y00 (by lia);obtain⟨x,ex,dx⟩:=ra.get ed;obtain⟨y,ey,dy⟩:=rb.get ed;have dl:=D.depL_get ed;refine(exA rfl (exA rfl (.inr ⟨a,_,_,x,rfl,rfl,s2.tupl sa,(by rw[e0];exact z0v ex),?_⟩)));refine(exA rfl (exA rfl (.inr ⟨b,_,_,y,rfl,rfl,s2.tupl sb,(by rw[e0];exact z0v ey),?_⟩)));refine⟨x,y,ds[i],rfl,dx.mono s2,dy.mono s2,by lia,D.fewL_get hfew.2 ed,fun H3 s3=>⟨s3 _ _ hy,hiu,?_,z0c (s2.trans s3) hl0⟩⟩;rw[List.replicate_succ']
  .obtain⟨_,rfl,s2⟩:=h;refine⟨l,List.replicate ((us.length:Int).toNat) true,rfl,?_,?_⟩
   .rw[List.map_replicate];exact SqL.of hy
   .have e:(List.replicate ((us.length:Int).toNat) true).all id=true:=by simp
    rw[e];exact q _ s2
 |lst ds =>
  simp only[Dr]at da db;obtain⟨a,vs,rfl,sa,ra⟩:=da;obtain⟨b,us,rfl,sb,rb⟩:=db;simp only[D.few]at hfew;simp only[D.dep]at hd;refine z7m (fun Ed nx=>(exA rfl ⟨rfl,exA rfl (z36 nx)⟩)) (z7m (fun Ed nx=>(exA rfl ⟨_,exB rfl ⟨.lst sb,rfl,exA rfl (z36 nx)⟩⟩)) (z7m (fun Ed nx=>(exA rfl ⟨_,exB rfl ⟨.lst sb,rfl,exA rfl (z36 nx)⟩⟩)) (z7m (fun Ed nx=>(exA rfl ⟨_,exB rfl ⟨.lst sb,rfl,exA rfl (z36 nx)⟩⟩)) (z7m (fun Ed nx=>(exA rfl ⟨_,exB rfl ⟨.lst sb,rfl,exA rfl ⟨_,exB rfl ⟨.lst sa,rfl,rfl,exA rfl (z36 (exA rfl ⟨_,exB rfl ⟨.lst sb,rfl,exA rfl ⟨_,exB rfl ⟨.lst sa,rfl,rfl,exA rfl (z36 nx)⟩⟩⟩⟩))⟩⟩⟩⟩)) ?_))));have lav:ds.length=vs.length:=ra.length;have lbu:ds.length=us.length:=rb.length;refine(exA rfl ⟨a,exA rfl ⟨.inl sa,exA rfl ⟨b,exA rfl ⟨.inl sb,rfl,true,y1o V.bl (y1A (y1o V.int (by lia))),z7n ?_⟩⟩⟩⟩);refine⟨_,rfl,b,_,rfl,.inl sb,(us.length:Int),rfl,by lia,by lia,fun l hl0=>z1i (n:=(us.length:Int).toNat) (fun i ys H2=>i<=us.length/\ys=List.replicate i (V.bl true)/\z0d H H2) ⟨y0B _,rfl,z07 (z0d.refl H) hl0⟩ (z0M (by lia)) (fun i ys H2 h=>by obtain⟨_,rfl,_⟩:=h;exact y2K)
   (fun i ys H2 hi h hy=>?_) (fun ys H2 h hy=>?_)⟩
  .obtain⟨_,rfl,s2⟩:=h;have hiu:i<us.length:=by lia
   have e0:(0:Int)+(i:Int)=(i:Int):=by lia
   have ed:ds[i]?=some ds[i]:=y00 (by lia);obtain⟨x,ex,dx⟩:=ra.get ed;obtain⟨y,ey,dy⟩:=rb.get ed;have dl:=D.depL_get ed;refine(exA rfl (exA rfl (.inl ⟨a,_,_,x,rfl,rfl,s2.seq sa,(by rw[e0];exact z0v ex),?_⟩)));refine(exA rfl (exA rfl (.inl ⟨b,_,_,y,rfl,rfl,s2.seq sb,(by rw[e0];exact z0v ey),?_⟩)));refine⟨x,y,ds[i],rfl,dx.mono s2,dy.mono s2,by lia,D.fewL_get hfew.2 ed,fun H3 s3=>⟨s3 _ _ hy,hiu,?_,z0c (s2.trans s3) hl0⟩⟩;rw[List.replicate_succ']
  .obtain⟨_,rfl,s2⟩:=h;refine⟨l,List.replicate ((us.length:Int).toNat) true,rfl,?_,?_⟩
   .rw[List.map_replicate];exact SqL.of hy
   .have e:(List.replicate ((us.length:Int).toNat) true).all id=true:=by simp
    rw[e];exact q _ s2
def zbl:z0K P w K mg base CX 1 f fd ["_law_found","_law_due"] (z4o K 0):=by
 have no:∀vs H Q E,¬z4o K 0 vs H Q E:=fun vs H Q E h=>by obtain⟨a,b,d,_,_,_,hd,_⟩:=h;lia
 exact⟨fun vs H Q E h=>absurd h (no vs H Q E),fun A outer s H args us vs Q E _ _ _ _ h=>absurd h (no vs H Q E)⟩
theorem z84(F:Fun K "_law_like" "_law_like" z9y f fd)(B:Blt mg)(G:z0K P w K mg base CX 1 g gd ["_law_found"] (z6c K))(bG:z0u K gd ["_law_found"] [])(kG:PySem.W.keepIn K (.ref g)=true)(mG:mg "_law_whole"=some (.ref g))
  (bL:z0u K fd ["_law_found","_law_due"] []) (kL:PySem.W.keepIn K (.ref f)=true) (mL:mg "_law_like"=some (.ref f)):∀n:Nat,z0K P w K mg base CX (n+1) f fd ["_law_found","_law_due"] (z4o K n)
 |0=>zbl
 |n+1=>zdM F B G bG kG mG (z84 F B G bG kG mG bL kL mL n) bL kL mL
def z1W:z0z ["_law_cell_here","_law_many","_law_row","_law_rest","_law_seed"] ["_law_cell_here","_law_many"] (z08 z40):={}
def z9l(F:Fun K "_law_numbers" "_law_numbers" z40 f fd)(ml:mg "len"=none):z0K P w K mg base CX 1 f fd ["_law_cell_here","_law_many"] (z3h K):=by
 refine F.okc z1W (fun vs H Q E h=>?_) (fun cdv A outer s H vs Q E hr h=>?_)
 .obtain⟨c,m,rfl,_⟩:=h;rfl
 obtain⟨c,m,rfl,hm,q⟩:=h;refine⟨_,z04 (z0g (i:=2) z1W.nd rfl (Or.inl rfl) (z1Q z05))
  (z04 (z0g (i:=3) z1W.nd rfl (Or.inl rfl) (z0o z6G (pv 0) (z0o zfA z09 z09)))
  (z04 (z2B y1e (PW.pt (z89 (z1p zde (pv 3) z09 (z1j _)) (z5M (z1p z7p (z0h z0f rfl ml y0F (z02 (pv 2) z05)) (pv 1) (z1j _)))))
   (z04 (z1A (z3V y0J y0X y0Y z0V (pv 2) (z02 (z0o z0U (pv 3) z09) z05)))
   (z0a (z0g (i:=3) z1W.nd rfl (Or.inl rfl) (z0o z5y (pv 3) z09)))))
  (z04 (z0g (i:=4) z1W.nd rfl (Or.inl rfl) (z0o z0U (pv 0) z09))
  (z04 (z2B y1e (z1p z7p (z0h z0f rfl ml y0F (z02 (pv 2) z05)) (pv 1) (z1j _))
   (z04 (z0g (i:=4) z1W.nd rfl (Or.inl rfl) (z0o z0U (z0o z1c (z0o z1c (z0o z38 (pv 4) z09) z09) (z0h z0f rfl ml y0F (z02 (pv 2) z05))) z09))
   (z0a (z1A (z3V y0J y0X y0Y z0V (pv 2) (z02 (z0o z0U (z0o z5y (z0o z0U (z0o z38 (pv 4) z09) z09) z09) z09) z05))))))
  (z0a (z0I (pv 2))))))),?_⟩
 refine⟨by show 0<=sizeLine;decide,fun l hl=>(exA rfl (exC rfl rfl ⟨⟨by decide,by decide,by decide⟩,exC rfl rfl ?_⟩))⟩;show z6Y _ _ _ _ _;refine zgG (fun σ' H'=>∃(k:Nat)(r:Int)(ns:List Int),σ'=[some (.int c),some (.int m),some (.ref l),some (.int r),none]/\z0d H H'/\H' l=some (.lst (ns.map V.int))/\k+ns.length=m/\∀x∈ns,0<=x/\x<1009) (fun Ed nx=>?_) (fun σ' H' p=>?_);rotate_left
 .obtain⟨k,r,ns,rfl,s2,e2,hk,hns⟩:=p;refine(exA rfl (exC rfl rfl ⟨z6C,?_⟩));refine⟨fun k σ H2=>∃(v:Int)(ns:List Int),σ=[some (.int c),some (.int m),some (.ref l),some (.int r),some (.int v)]/\z0d H H2/\H2 l=some (.lst (ns.map V.int))/\k+ns.length=m/\∀x∈ns,0<=x/\x<1009,
   ⟨k,_,ns,rfl,s2,e2,hk,hns⟩,?_⟩
  rintro k σ H2 ⟨v,ns,rfl,s2,e2,hk,hns⟩;have hnl:(ns.map V.int).length=ns.length:=y01 _;refine(exA rfl (exG l rfl (.inl (SqL.of e2)) (exA rfl (exC rfl rfl (exA rfl (z3H (fun c2=>?_) (fun c2=>?_)))))))
  .have c2':=y1c c2;rw[hnl]at c2';have hkp:ns.length<m:=by lia
   refine zel fun N nx2=>?_;refine(exA rfl (exC rfl rfl ⟨.inr ⟨by decide,by decide⟩,exC rfl rfl (exA rfl (exG l rfl (.inl (SqL.of e2)) (exC rfl rfl (exC rfl rfl ⟨z6C,?_⟩))))⟩));refine(exA rfl ⟨.inl ⟨rfl,_,SqL.of e2⟩,exA rfl (exC rfl rfl ⟨.inr ⟨by decide,by decide⟩,exC rfl rfl ⟨z6C,exC rfl rfl ⟨⟨by decide,by decide⟩,exC rfl rfl ⟨z6C,l,exC rfl rfl ⟨e2,by rw[hnl];exact z22 (by lia),?_⟩⟩⟩⟩⟩)⟩);refine nx2 (k-1) _ _ (by lia) ⟨_,ns++[(v*48271+9973+((ns.map V.int).length:Nat))%2147483647*39373%2147483629/11%1009],rfl,z0c s2 hl,?_,?_,z7i hns (zb8 _)⟩
   .rw[z03,y0i];rfl
   .rw[y09];show k-1+(ns.length+1)=m;lia
  .have c2':=y1R (y1F.mpr c2);rw[hnl]at c2';exact(exA rfl (q l H2 ns s2 e2 ⟨by lia,hns⟩))
 refine⟨fun k σ H2=>∃(r:Int)(ns:List Int),σ=[some (.int c),some (.int m),some (.ref l),some (.int r),none]/\z0d H H2/\H2 l=some (.lst (ns.map V.int))/\k+ns.length=m/\∀x∈ns,0<=x/\x<1009,
  ⟨m,_,[],rfl,z07 (z0d.refl H) hl,z03,rfl,fun x hx=>by simp at hx⟩,?_⟩
 rintro k σ H2 ⟨r,ns,rfl,s2,e2,hk,hns⟩;have hnl:(ns.map V.int).length=ns.length:=y01 _;refine(exA rfl (exC rfl rfl (exA rfl (z3H (fun c1=>(exA rfl (exG l rfl (.inl (SqL.of e2)) (exA rfl (exC rfl rfl (exA rfl (z3H (fun c2=>?_) (fun c2=>?_)))))))) (fun c1=>z36 ?_)))))
 .have c2':=y1c c2;rw[hnl]at c2';have hkp:ns.length<m:=by lia
  refine zel fun N nx2=>?_;refine(exA rfl ⟨.inl ⟨rfl,_,SqL.of e2⟩,exA rfl (exC rfl rfl ⟨z6C,l,exC rfl rfl ⟨e2,by rw[hnl];exact z22 (by lia),?_⟩⟩)⟩);refine(exA rfl (exC rfl rfl ⟨⟨by decide,by decide⟩,nx2 (k-1) _ _ (by lia) ⟨_,ns++[r%1009],rfl,z0c s2 hl,?_,?_,z7i hns (zb8 r)⟩⟩))
  .rw[z03,y0i];rfl
  .rw[y09];show k-1+(ns.length+1)=m;lia
 all_goals exact nx _ _ ⟨k,r,ns,rfl,s2,e2,hk,hns⟩
def zdC:z0z ["_law_letters_here","_law_cell_here"] ["_law_letters_here","_law_cell_here"] (z08 z8L):={}
def zca{k:Addr}{kd:FuncData}(F:Fun K "_law_guise" "_law_guise" z8L f fd)(G:z0K P w K mg base CX 2 g gd ["_law_letters_here","_law_cell_here"] (zb9 K))(bG:z0u K gd ["_law_letters_here","_law_cell_here"] [])(kG:PySem.W.keepIn K (.ref g)=true)(mG:mg "_law_rows"=some (.ref g))(T:z0K P w K mg base CX 2 k kd ["_law_rows_here","_law_start"] (z5G K))(bT:z0u K kd ["_law_rows_here","_law_start"] [])(kT:PySem.W.keepIn K (.ref k)=true)(mT:mg "_law_shrunk"=some (.ref k)):z0K P w K mg base CX 3 f fd ["_law_letters_here","_law_cell_here"] (z5w K):=by
 refine F.okc zdC (fun vs H Q E h=>?_) (fun cdv A outer s H vs Q E hr h=>?_)
 .obtain⟨n,c,rfl,_⟩:=h;rfl
 obtain⟨n,c,rfl,h2,h5,q⟩:=h;refine⟨_,z0a (z0I (z0i T hr rfl mT kT bT .nil z0T (z02 (z0i G hr rfl mG kG bG .nil z0T (z02 (pv 0) (z02 (pv 1) z05))) (z02 z09 z05)))),?_⟩;refine(exA rfl (exA rfl ⟨n,c,rfl,h2,h5,fun r H1 rows s1 hr1 G1 h8=>⟨r,n,rows,rfl,hr1,G1,by lia,fun v H2 s2 d=>q v H2 rows (s1.trans s2) G1 h8 d⟩⟩))
abbrev zcx:List Str:=["_law_letters_here","_law_cell_here","_law_nums","_law_many","_law_kind","_law_rows_here","_law_at","_law_pick","_law_first","_law_goings"]
def z1X:z0z zcx ["_law_letters_here","_law_cell_here"] (z08 z7r):={}
def zaE:z1a zcx (z08 z7r) ["_law_k","_law_many","_law_pick"] [none,some 3,some 7] (csc [(".0",.local),("_law_k",.local),("_law_many",.free),("_law_pick",.free)]):={}
def za8:z1a zcx (z08 z7r) ["_law_to","_law_at","_law_many"] [none,some 6,some 3] (csc [(".0",.local),("_law_to",.local),("min",.globalImplicit),("_law_at",.free),("_law_many",.free)]):={}
def zaR:z1a zcx (z08 z7r) ["_law_k","_law_goings","_law_letters_here","_law_many","_law_pick"] [none,some 9,some 0,some 3,some 7] (csc [(".0",.local),("_law_k",.local),("_law_goings",.free),("_law_letters_here",.free),("_law_many",.free),("_law_pick",.free)]):={}
def zdz{k:Addr}{kd:FuncData}(F:Fun K "_law_rows" "_law_rows" z7r f fd)(mr:mg "range"=none)(mt:mg "tuple"=none)(mm:mg "min"=none)(G:z0K P w K mg base CX 1 g gd ["_law_cell_here","_law_many"] (z3h K))(bG:z0u K gd ["_law_cell_here","_law_many"] [])(kG:PySem.W.keepIn K (.ref g)=true)(mG:mg "_law_numbers"=some (.ref g))(T:z0K P w K mg base CX 1 k kd ["_law_pick","_law_letters_here"] (z8x K))(bT:z0u K kd ["_law_pick","_law_letters_here"] [])(kT:PySem.W.keepIn K (.ref k)=true)(mT:mg "_law_rearranged"=some (.ref k)):z0K P w K mg base CX 2 f fd ["_law_letters_here","_law_cell_here"] (zb9 K):=by
 refine F.okc z1X (fun vs H Q E h=>?_) (fun cdv A outer s H vs Q E hr h=>?_)
 .obtain⟨n,c,rfl,_⟩:=h;rfl
 obtain⟨n,c,rfl,hn2,hn5,q⟩:=h;refine⟨_,z04 (z0g (i:=2) z1X.nd rfl (Or.inl rfl) (z0i G hr rfl mG kG bG .nil z0T (z02 (pv 1) (z02 z09 z05))))
  (z04 (z0g (i:=3) z1X.nd rfl (Or.inr rfl) (z0o z1c z09 (z0o z0U (z0W z1t (pv 2) z09 (fun _ _=>rfl)) z09)))
  (z04 (z0g (i:=4) z1X.nd rfl (Or.inl rfl) (z0o z0U (z0W z1t (pv 2) z09 (fun _ _=>rfl)) z09))
  (z04 (z0g (i:=5) z1X.nd rfl (Or.inl rfl) (z1Q z05))
  (z04 (z2g y1e rfl (z1b rfl mr (z02 (pv 3) z05)) (z0k (i:=6) z1X.nd rfl (Or.inr rfl))
   (z04 (z0g (i:=7) z1X.nd rfl (Or.inr rfl) (z62 z7q (pv 2) (z5U (z0o z1c z09 (z0o z38 z09 (pv 6)))) (z5U (z0o z1c z09 (z0o z38 z09 (pv 6))))))
   (z04 (z0g (i:=8) z1X.nd rfl (Or.inl rfl) (z0i T hr rfl mT kT bT .nil z0T (z02 (z0W z1t (pv 7) z09 (fun _ _=>rfl)) (z02 (pv 0) z05))))
   (z04 (z0g (i:=9) z1X.nd rfl (Or.inr rfl) (z1h rfl zaE (z1b rfl mr (z02 (pv 0) z05)) (fun _ _ _ _ _=>z0k (i:=0) zaE.nd rfl (Or.inl rfl)) (fun _ _ _ _ _=>z0o z0U (z0W (ixL K rfl) (pv 2) (z0o z1c z09 (pv 0)) (fun _ _=>rfl)) (pv 1))))
   (z04 (PS.weak (tRI K) (z1M (z1K (z2O (pv 4) z09)) (z0a (z0g (i:=9) z1X.nd rfl (Or.inr rfl) (z1h rfl za8 (z1z (pv 9)) (fun _ _ _ _ _=>z0k (i:=0) za8.nd rfl (Or.inl rfl)) (fun _ _ _ _ _=>z0h (za5 rfl) rfl mm PyProof.Rows.boot_min (z02 (z0o z6G (pv 2) z09) (z02 (z0o z1c (z0o z1c (pv 1) z09) (pv 0)) z05)))))) z0E) ?_)
   (z04 (PS.weak (tRI K) (z1M (z1K (z2O (pv 4) z09)) (z0a (z0g (i:=9) z1X.nd rfl (Or.inr rfl) (z1h rfl zaR (z1b rfl mr (z02 (pv 0) z05)) (fun _ _ _ _ _=>z0k (i:=0) zaR.nd rfl (Or.inl rfl)) (fun _ _ _ _ _=>zcq (z1K (z2O (pv 0) (z0o z0U (z0o z5y (z0W (ixL K rfl) (pv 4) z09 (fun _ _=>rfl)) z09) (pv 2)))) (z0W (ixL K rfl) (pv 1) (pv 0) (fun _ _=>rfl)) (z0o z6G (pv 3) z09))))) z0E) ?_)
   (z04 (PS.weak (tRI K) (z1M (PT.weak (zgL (zf9 K)) (PW.pt (zdn (PW.pt (z89 (z8r zbx zbx z09 (pv 4) z09) (z5M (z1K (z2O (pv 6) (z0o z6G (pv 3) z09)))))) (zaF (PW.pt (z89 (z1K (z2O (pv 4) z09)) (z5M (z1K (z2O (z0o z0U (z0W z1t (pv 7) z09 (fun _ _=>rfl)) z09) z09)))))))) ?_)
    (z0a (z0g (i:=8) z1X.nd rfl (Or.inl rfl) (z0w (z4N rfl) rfl mt y0K (z02 (z0w z8p rfl mr PyProof.Rows.boot_range (z02 (pv 0) z05)) z05)))) z0E) ?_)
   (z04 (PS.weak (tRI K) (z1M (PT.weak (zgL (zf9 K)) (PW.pt (z89 (z8r zbx zbx z09 (pv 4) z09) (z5M (z1K (z2O (pv 6) (z0o z6G (pv 3) z09)))))) ?_)
    (z0a (z0g (i:=9) z1X.nd rfl (Or.inr rfl) (z0o zeA (z1Q (z02 (pv 6) z05)) (pv 0)))) z0E) ?_)
   (z0a (z1A (z3V y0J y0X y0Y z0V (pv 5) (z02 (z3c (z02 (pv 8) (z02 (z0w z0B rfl mt y0K (z02 (pv 9) z05)) z05))) z05))))))))))))
  (z0a (z0I (pv 5))))))),?_⟩
 .intro D σ H h;obtain⟨n,m,c,kd,j,ln,lr,lp,ps,H0,rf,ri,nx⟩:=h;obtain⟨b,lg,p,gs,rfl,s0,db,hp,eg,hgl,hgr⟩:=ri.ex;have h5:=rf.n5;have hjm:=rf.jm;refine(exA rfl (exC rfl rfl (exA rfl (z3H (fun _=>?_) (fun _=>nx _ _ ri)))));refine⟨_,rfl,lg,rfl,⟨_,SqL.of eg⟩,fun l hl=>z21 (xs:=gs.map V.int) (GI m H) (GI.nil hl) (fun i ys H2 _ h=>by obtain⟨_,_,_,_,s⟩:=h;exact SqL.of (s _ _ eg)) (by rw[y01];exact z0M (by lia)) (fun i ys H2 h=>h.len) (fun i x ys H2 hx h hy=>?_) (fun ys H2 h hy=>?_)⟩
  .have hil:i<gs.length:=by have:=(y0a.mp hx).1;rwa [y01]at this
   have eg':gs[i]?=some gs[i]:=y00 hil;obtain⟨h0,h1⟩:=hgr _ (y0l hil);generalize gs[i]=gi at eg' h0 h1;have ex:x=V.int gi:=by rw[y04,eg']at hx;exact(y0b hx).symm
   subst ex;exact(exA rfl (exC rfl rfl (exA rfl (exC rfl rfl (exA rfl (exC rfl rfl (exB rfl ⟨hy,h.snoc hl ⟨by split<;>lia,by split<;>lia⟩⟩)))))))
  .obtain⟨gs',rfl,el,r',s'⟩:=h;rw[y01]at el;exact nx _ _ ⟨b,l,p,gs',rfl,s0.trans s',db.mono s',hp,hy,by lia,r'⟩
 .intro D σ H h;obtain⟨n,m,c,kd,j,ln,lr,lp,ps,H0,rf,ri,nx⟩:=h;obtain⟨b,lg,p,gs,rfl,s0,db,hp,eg,hgl,hgr⟩:=ri.ex;have h5:=rf.n5;have h2:=rf.n2;have hjm:=rf.jm;have elp:=s0 _ _ rf.lp;have h6:=rf.len;have ep:ps[0]?=some ps[0]:=y00 (by lia);refine(exA rfl (exC rfl rfl (exA rfl (z3H (fun _=>?_) (fun _=>nx _ _ ri)))));refine(exA rfl ⟨(n:Int),rfl,by lia,by lia,fun l hl=>z1i (n:=(n:Int).toNat) (GI m H) (GI.nil hl) (z0M (by lia)) (fun i ys H2 h=>h.len) (fun i ys H2 hi h hy=>?_) (fun ys H2 h hy=>?_)⟩)
  .have e0:(0:Int)+(i:Int)=(i:Int):=by lia
   rw[e0];have hil:i<gs.length:=by lia
   have eg':gs[i]?=some gs[i]:=y00 hil;obtain⟨h0,h1⟩:=hgr _ (y0l hil);generalize gs[i]=gi at eg' h0 h1;obtain⟨_,_,_,_,s2⟩:=id h;refine(exA rfl (exA rfl (exD lp _ _ (V.int ps[0]) rfl rfl (SqL.of (s2 _ _ elp)) (z0v (j:=0) (by rw[y04,ep];rfl)) (exC rfl rfl ⟨⟨by decide,by decide⟩,exA rfl (exC rfl rfl ⟨z6C (by lia),exC rfl rfl (exA rfl (z3H (fun _=>?_) (fun _=>?_)))⟩)⟩))))
   .exact(exA rfl (exA rfl (exD lg _ _ (V.int gi) rfl rfl (SqL.of (s2 _ _ eg)) (z0v (by rw[y04,eg'];rfl)) ⟨hy,h.snoc hl ⟨h0,h1⟩⟩)))
   .exact(exA rfl (exC rfl rfl ⟨hy,h.snoc hl ⟨by lia,by lia⟩⟩))
  .obtain⟨gs',rfl,el,r',s'⟩:=h;exact nx _ _ ⟨b,l,p,gs',rfl,s0.trans s',db.mono s',hp,hy,by lia,r'⟩
 .intro σ H Q h;obtain⟨⟨n,m,c,kd,j,ln,lr,lp,ps,H0,rf,ri⟩,q⟩:=h;obtain⟨b,lg,p,gs,rfl,s0,db,hp,eg,hgl,hgr⟩:=ri.ex;have elp:=s0 _ _ rf.lp;have h6:=rf.len;have ep:ps[0]?=some ps[0]:=y00 (by lia);refine(exA rfl (exC rfl rfl (exA rfl (z3H (fun _=>(exC rfl rfl (exA rfl (z3H (fun _=>(exA rfl (exA rfl (exC rfl rfl (exC rfl rfl (exA rfl (z3H (fun _=>q _) (fun _=>?_)))))))) (fun _=>z36 ?_))))) (fun _=>(exA rfl (z36 (z36 ?_))))))));all_goals exact(exA rfl (exC rfl rfl (exA rfl (z3H (fun _=>(exA rfl (exD lp _ _ (V.int ps[0]) rfl rfl (SqL.of elp) (z0v (j:=0) (by rw[y04,ep];rfl)) (exC rfl rfl ⟨z6C,exC rfl rfl (exA rfl (q _))⟩)))) (fun _=>q _)))))
 .intro D σ H h;obtain⟨n,m,c,kd,j,ln,lr,lp,ps,H0,rf,ri,nx⟩:=h;obtain⟨b,lg,p,gs,rfl,s0,db,hp,eg,hgl,hgr⟩:=ri.ex;have h5:=rf.n5;refine⟨⟨n,m,c,kd,j,ln,lr,lp,ps,H0,rf,ri⟩,fun cc=>z3H (fun _=>?_) (fun _=>nx _ _ ri)⟩;refine(exA rfl ⟨(n:Int),rfl,by lia,by lia,fun r hr0=>⟨r,0,(n:Int),rfl,z03,⟨by decide,by decide,by lia,by lia⟩,by lia,fun l hl=>?_⟩⟩);have e:((n:Int)-0).toNat=n:=by lia
  rw[e,z6Q];have s':=z07 (o:=HO.tup ((z0x n).map V.int)) (z07 (o:=HO.rng 0 n) (z0d.refl H) hr0) hl;exact nx _ _ ⟨.ref l,lg,z0x n,gs,rfl,s0.trans s',Dr.tup z03 (DrL.ints _),zcn n,s' _ _ eg,hgl,hgr⟩
 .intro σ H Q h;obtain⟨⟨n,m,c,kd,j,ln,lr,lp,ps,H0,rf,ri⟩,q⟩:=h;obtain⟨b,lg,p,gs,rfl,s0,db,hp,eg,hgl,hgr⟩:=ri.ex;exact(exA rfl (exC rfl rfl (exA rfl (z3H (fun _=>(exC rfl rfl (exA rfl (z3H (fun _=>(exA rfl (exA rfl (exC rfl rfl (exC rfl rfl (exA rfl (q _))))))) (fun _=>q _))))) (fun _=>(exA rfl (z36 (q _))))))))
 .intro D σ H h;obtain⟨n,m,c,kd,j,ln,lr,lp,ps,H0,rf,ri,nx⟩:=h;obtain⟨b,lg,p,gs,rfl,s0,db,hp,eg,hgl,hgr⟩:=ri.ex;have h5:=rf.n5;have hjm:=rf.jm;refine⟨⟨n,m,c,kd,j,ln,lr,lp,ps,H0,rf,ri⟩,fun cc=>z3H (fun _=>?_) (fun _=>nx _ _ ri)⟩;refine(exA rfl ⟨by show 1<=sizeLine;decide,fun l0 hl0=>(exA rfl ⟨l0,(n:Int),exA rfl ⟨rfl,z03,by lia,by lia,?_,fun l hl=>?_⟩⟩)⟩)
  .show 1*(n:Int).toNat<=sizeLine;exact z0M (by lia)
  have e:((n:Int)).toNat=n:=by lia
  rw[e,zg1];have s':=z07 (o:=HO.lst ((List.replicate n (j:Int)).map V.int)) (z07 (o:=HO.lst [V.int (j:Int)]) (z0d.refl H) hl0) hl;exact nx _ _ ⟨b,l,p,List.replicate n (j:Int),rfl,s0.trans s',db.mono s',hp,z03,y2K,fun g hg=>by rw[(List.mem_replicate.mp hg).2];lia⟩
 refine(exA rfl ⟨c,64,rfl,by lia,fun ln H1 ns s1 e1 hns=>?_⟩);have hnl:=hns.1;have en0:ns[0]?=some ns[0]:=y00 (by lia);have en1:ns[1]?=some ns[1]:=y00 (by lia);obtain⟨m,hm⟩:=z6y (x:=(1:Int)+ns[0]%8) (by lia);have hm1:1<=m:=by lia
 have hm8:m<=8:=by lia
 refine(exA rfl (exD ln _ _ (V.int ns[0]) rfl rfl (SqL.of e1) (z0v (j:=0) (by rw[y04,en0];rfl)) (exC rfl rfl ⟨z6C,exC rfl rfl ?_⟩)));generalize ns[1]=n1 at en1;refine(exA rfl (exD ln _ _ (V.int n1) rfl rfl (SqL.of e1) (z0v (j:=1) (by rw[y04,en1];rfl)) (exC rfl rfl ⟨z6C,by show 0<=sizeLine;decide,fun lr hlr=>?_⟩)));obtain⟨kd,hkd⟩:∃kd,kd=n1%6:=⟨_,rfl⟩;have s2:=z07 (o:=HO.lst []) (z0d.refl H1) hlr;refine⟨_,rfl,(m:Int),(by rw[<-hm]),by lia,by lia,zcX (n:=(m:Int).toNat) (fun i σ H2=>∃(u6 u7 u8 u9:Option V)(us:List V)(rs:List Row),σ=[some (.int n),some (.int c),some (.ref ln),some (.int m),some (.int kd),some (.ref lr),u6,u7,u8,u9]/\z0d H1 H2/\H2 lr=some (.lst us)/\DrL K H2 (z0j rs) us/\rs.length=i/\GR n m rs)
  ⟨_,_,_,_,[],[],(by rw[<-hm,hkd];rfl),s2,z03,DrL.nil,rfl,fun r hr=>by simp at hr⟩ (fun i σ H2 hi h Ed nx3=>?_) (fun σ H2 h=>?_)⟩
 .obtain⟨u6,u7,u8,u9,us,rs,rfl,t2,elr,drs,hrl,gr⟩:=h;have e0:(0:Int)+(i:Int)=(i:Int):=by lia
  rw[e0];have him:i<m:=by lia
  obtain⟨ps,ecut,hp6,hpr⟩:=zhb (i:=i) hns (by lia);have ep:ps[0]?=some ps[0]:=y00 (by lia);refine(exA rfl (exA rfl (exC rfl rfl ⟨.inl ⟨by decide,by decide⟩,exC rfl rfl (exA rfl (exA rfl (exC rfl rfl ⟨.inl ⟨by decide,by decide⟩,exC rfl rfl (exA rfl ⟨ln,exA rfl ⟨SqL.of (t2 _ _ e1),fun lp hlp=>?_⟩⟩)⟩)))⟩)));rw[ecut];have s3:=z07 (o:=HO.lst (ps.map V.int)) (z0d.refl H2) hlp;refine(exA rfl (exD lp _ _ (V.int ps[0]) rfl rfl (SqL.of z03) (z0v (j:=0) (by rw[y04,ep];rfl)) (exA rfl ⟨ps[0],n,rfl,by lia,fun b H3 s4 d3=>?_⟩)));have elp3:H3 lp=some (.lst (ps.map V.int)):=s4 _ _ z03;refine(exA rfl ⟨(n:Int),rfl,by lia,by lia,fun lg hlg=>z1i (n:=(n:Int).toNat) (GI m H3) (GI.nil hlg) (z0M (by lia)) (fun i ys H h=>h.len) (fun k ys H4 hk h hy=>?_) (fun ys H4 h hy=>?_)⟩)
  .have ek:(1:Int)+(0+(k:Int))=((1+k:Nat):Int):=by lia
   have ek':ps[1+k]?=some (ps[1+k]'(by lia)):=y00 (by lia);generalize ps[1+k]'(by lia)=pk at ek';obtain⟨_,_,_,_,s5⟩:=id h;refine(exA rfl (exA rfl (exC rfl rfl (exD lp _ _ (V.int pk) rfl rfl (SqL.of (s5 _ _ elp3)) ((by rw[ek];exact z0v (by rw[y04,ek'];rfl))) (exA rfl (exC rfl rfl ⟨z6C (by lia),hy,h.snoc hlg ⟨?_,?_⟩⟩))))))
   .exact y1N _ (by lia)
   .exact y1p _ (by lia)
  obtain⟨gs,rfl,hgl,hgr,s5⟩:=h;have rf:RF n m i ps lp H3:=⟨hn2,hn5,him,hm8,elp3,hp6,hpr⟩;refine⟨n,m,c,kd,i,ln,lr,lp,ps,H3,rf,⟨b,lg,_,gs,rfl,s5,d3.mono s5,z57 _ _,hy,by lia,hgr⟩,fun σ1 H5 r1=>⟨n,m,c,kd,i,ln,lr,lp,ps,H3,rf,r1,fun σ2 H6 r2=>⟨n,m,c,kd,i,ln,lr,lp,ps,H3,rf,r2,fun σ3 H7 r3=>⟨n,m,c,kd,i,ln,lr,lp,ps,H3,rf,r3,fun σ4 H8 r4=>?_⟩⟩⟩⟩;clear hgl hgr hy;obtain⟨b,lg,p,gs,rfl,s0,db,hp,eg,hgl,hgr⟩:=r4.ex;have s28:z0d H2 H8:=(s3.trans s4).trans s0;refine(exA rfl ⟨.inl ⟨rfl,_,SqL.of (s28 _ _ elr)⟩,exA rfl (exA rfl ⟨lg,exA rfl (.inl ⟨SqL.of eg,fun t4 ht4=>⟨by show 2<=sizeLine;decide,fun t5 ht5=>?_⟩⟩)⟩)⟩);have s9:=z07 (o:=HO.tup (gs.map V.int)) (z0d.refl H8) ht4;have s10:=z07 (o:=HO.tup [b,.ref t4]) s9 ht5;have elr':=s10 _ _ (s28 _ _ elr);have hul:us.length=i:=by have:=drs.length;unfold z0j at this;rw[y01]at this;lia
  refine⟨lr,us,.ref t5,rfl,rfl,elr',z22 (by lia),?_⟩;obtain⟨b0,rfl,eb⟩:=Dr.its_inv db;have kk:z1m H8 (upd (upd (upd H8 t4 (.tup (gs.map V.int))) t5 (.tup [.ref b0,.ref t4])) lr (.lst (us++[.ref t5]))):=z1m.up (z1m.of s10) elr' (fun _ z=>by cases z);have nt5:t5≠lr:=z3r z03 elr' (by intro z;cases z);have nt4:t4≠t5:=z0e z03 ht5;have nt4f:t4≠lr:=z3r (show upd (upd H8 t4 (.tup (gs.map V.int))) t5 (.tup [.ref b0,.ref t4]) t4=some (.tup (gs.map V.int))by rw[z06 nt4];exact z03) elr' (by intro z;cases z);refine nx3 _ _ ⟨_,_,_,_,us++[.ref t5],rs++[(p,gs)],rfl,z0c (t2.trans (s28.trans s10)) hlr,z03,?_,by rw[y09,hrl];rfl,gr.snoc ⟨hp,hgl,hgr⟩⟩;unfold z0j;rw[y0i];refine DrL.append ((drs.mono s28).keyed kk (z2e _)) (DrL.one (z4x (r:=(p,gs)) (b:=b0) (c:=t4) ?_ (kk _ _ eb) ?_))
  .rw[z06 nt5];exact z03
  .rw[z06 nt4f,z06 nt4];exact z03
 .obtain⟨u6,u7,u8,u9,us,rs,rfl,t2,elr,drs,hrl,gr⟩:=h;exact(exA rfl (q lr H2 rs (s1.trans t2) ⟨us,elr,drs⟩ (gr.good (by lia) hm1 (by lia)) (by lia)))
abbrev zgJ:List Str:=["_law_rows_here","_law_line","_law_marks","_law_place","_law_heads","_law_row"]
abbrev zf5:List Str:=["_law_row","_law_marks","_law_place","_law_rows_here"]
abbrev zfW:Scope:=csc [(".0",.local),("_law_row",.local),("tuple",.globalImplicit),("_law_marks",.free),("_law_place",.free),("_law_rows_here",.free)]
def zct:z0z zgJ ["_law_rows_here","_law_line","_law_marks"] (z08 z4p):={}
def zd9:z1a zgJ (z08 z4p) zf5 [none,some 2,some 3,some 0] zfW:={}
abbrev zgn:Scope:=csc [(".0",.local),("_law_row",.local),("tuple",.globalImplicit),("_law_marks",.cell),("_law_place",.cell),("_law_rows_here",.cell)]
def zcR:z1a zf5 zgn ["_law_to","_law_marks","_law_place"] [none,some 1,some 2] (csc [(".0",.local),("_law_to",.local),("_law_marks",.free),("_law_place",.free)]):={}
def z9c(F:Fun K "_law_in_line" "_law_in_line" z4p f fd)(ml:mg "len"=none)(mt:mg "tuple"=none):z0K P w K mg base CX 1 f fd ["_law_rows_here","_law_line","_law_marks"] (z4q K):=by
 refine F.okc zct (fun vs H Q E h=>?_) (fun cdv A outer s H vs Q E hr h=>?_)
 .obtain⟨a,l,m,n,rows,nm,us,o,k,kvs,rfl,_⟩:=h;rfl
 obtain⟨a,l,m,n,rows,nm,us,o,k,kvs,rfl,Sa,da,ni,GM,hn,el,em,mk,L,cl,q⟩:=h;have hu:=zea hr;refine⟨_,z04 (z0g (i:=3) zct.nd rfl (Or.inr rfl) z8g)
  (z04 (z0g (i:=4) zct.nd rfl (Or.inl rfl) (z1Q z05))
  (z04 (z2g y1e rfl (z1z (pv 1)) (z0k (i:=5) zct.nd rfl (Or.inl rfl))
   (z0a (z1M (z1K (z4A hu (z2R hu (pv 2) (pv 5) (fun _ _=>rfl)) (pv 3)))
    (z04 (z5C hu (pv 3) (z2R hu (pv 2) (pv 5) (fun _ _=>rfl)) (z0h z0f rfl ml y0F (z02 (pv 4) z05)) rfl)
    (z0a (z1A (z3V y0J y0X y0Y z0V (pv 4) (z02 (pv 5) z05))))) z0E)))
  (z0a (z0I (z0w z0B rfl mt y0K (z02 (z1h rfl zd9 (z1z (pv 4)) (fun _ _ _ _ _=>z0k (i:=0) zd9.nd rfl (Or.inl rfl))
   (fun _ _ _ _ _=>z3c (z02 (z0w (zgM K rfl) rfl mt y0K (z02 (z0W (ixT K rfl) (z0W (ixQ K rfl) (pv 3) (pv 0) (fun _ _=>rfl)) z09 (fun _ _=>rfl)) z05))
    (z02 (z0w (zgM K rfl) rfl mt y0K (z02 (z1h rfl zcR (piT K rfl (z0W (ixT K rfl) (z0W (ixQ K rfl) (pv 3) (pv 0) (fun _ _=>rfl)) z09 (fun _ _=>rfl))) (fun _ _ _ _ _=>z0k (i:=0) zcR.nd rfl (Or.inl rfl))
     (fun _ _ _ _ _=>z2R hu (pv 2) (z2R hu (pv 1) (pv 0) (fun _ _=>rfl)) (fun _ _=>rfl))) z05)) z05)))) z05)))))),?_⟩
 have hol:=L.len;have h400:=GM.few;have gk:∀r∈o,z2C kvs (kN nm r)=some (V.int (k r)):=fun r hr=>by obtain⟨v,hv,d⟩:=mk.get ni hr;simp only[Dr]at d;rw[hv,d]
 refine fun lp hlp=>⟨by show 0<=sizeLine;decide,fun lh hlh=>?_⟩;have s1:=z07 (o:=HO.dK []) (z0d.refl H) hlp;have hlh0:H lh=none:=s1.free hlh;have nph:lp≠lh:=z0e z03 hlh;have s2:=z07 (o:=HO.lst []) s1 hlh;refine⟨_,rfl,l,rfl,⟨_,SqL.of (s2 _ _ el)⟩,z9b (xs:=o.map (nV nm)) (fun i σ H2=>∃(u:Option V),σ=[some (.ref a),some (.ref l),some (.ref m),some (.ref lp),some (.ref lh),u]/\z0d H H2/\H2 lh=some (.lst ((z0r k (o.take i)).map (nV nm)))/\H2 lp=some (.dK (prs Sum.inl ((z0r k (o.take i)).map k))))
  ⟨_,rfl,s2,z03,by rw[z06 nph];exact z03⟩ (fun i σ H2 _ h=>by obtain⟨_,_,t2,_⟩:=h;exact SqL.of (t2 _ _ el)) (fun i x σ H2 hx h Ed nx3=>?_) (fun σ H2 h=>?_)⟩
 .obtain⟨u,rfl,t2,e1,e2⟩:=h;have hil:i<o.length:=by have:=(y0a.mp hx).1;rwa [y01]at this
  have eo:o[i]?=some o[i]:=y00 hil;have hro:o[i]∈o:=y0l hil;generalize o[i]=r at eo hro;have ex:x=V.int (nm r):=by rw[y04,eo]at hx;exact(y0b hx).symm
  subst ex;have et:z0r k (o.take (i+1))=z0J k (z0r k (o.take i)) r:=by rw[y0G,eo];exact z1s k _ _
  have hhl:=(z0S k (o.take i)).2.2;rw[y0w]at hhl;generalize z0r k (o.take i)=hs at *;have gm:z4Y H2 m (V.int (nm r)) (some (V.int (k r))):=by rw[<-gk r hro];exact z4Y.k (k:=kN nm r) (t2 _ _ em)
  refine(exA rfl (exA rfl ⟨m,exA rfl ⟨gm,exA rfl ⟨lp,exA rfl ⟨z4Y.k (k:=Sum.inl (k r)) e2,exA rfl ?_⟩⟩⟩⟩));have hv:=z2d (κ:=Key) Sum.inl z7w (hs.map k) (k r);by_cases hm:k r∈hs.map k
  .rw[hv,if_pos hm];refine z36 (nx3 _ _ (exA rfl ⟨t2,?_,?_⟩))
   .rw[et,z0J,if_pos hm];exact e1
   .rw[et,z0J,if_pos hm];exact e2
  .rw[hv,if_neg hm];have nlop:lh≠lp:=y2Y nph;refine z7n (exA rfl (exG lh rfl (.inl (SqL.of e1)) (exA rfl (exA rfl (exA rfl ⟨m,exA rfl ⟨gm,lp,exA rfl ⟨zcZ.k (k:=Sum.inl (k r)) e2 (by rw[z1O,y01];exact z2s (by lia)),?_⟩⟩⟩)))));have e1':upd H2 lp (.dK (z2L (prs Sum.inl (hs.map k)) (Sum.inl (k r):Key) (V.int ((hs.map (nV nm)).length:Nat)))) lh=some (.lst (hs.map (nV nm))):=by rw[z06 nlop];exact e1
   refine(exA rfl ⟨.inl ⟨rfl,_,SqL.of e1'⟩,exA rfl ⟨lh,exC rfl rfl ⟨e1',by rw[y01];exact z2s (by lia),?_⟩⟩⟩);refine nx3 _ _ (exA rfl ⟨z0c (z0c t2 hlp) hlh0,?_,?_⟩)
   .rw[z03,et,z0J,if_neg hm,y0i];rfl
   .rw[z06 nph,z03,et,z0J,if_neg hm,y0i];have:=z6b (κ:=Key) Sum.inl z7w hm;rw[y01]at this⊢;rw[this];rfl
 .obtain⟨u,rfl,t2,e1,e2⟩:=h;rw[y01,y1j]at e1 e2;obtain⟨hh1,hh2,hh3⟩:=z0S k o;unfold z1q at q;generalize z0r k o=hs at *;refine(exA rfl ⟨lh,rfl,⟨_,SqL.of e1⟩,fun l3 hl3=>z21 (xs:=hs.map (nV nm)) (fun i ys H3=>i<=hs.length/\ys.length=i/\z0d H2 H3/\DrL K H3 (((hs.take i).map fun r=>z5d ((row rows r).1,(row rows r).2.map fun g=>(((hs.map k).idxOf (k g):Nat):Int)))) ys) ⟨y0B _,rfl,z07 (z0d.refl H2) hl3,DrL.nil⟩ (fun i ys H3 _ h=>SqL.of (h.2.2.1 _ _ e1)) (by rw[y01];exact z0M (by lia)) (fun i ys H3 h=>h.2.1) (fun i x ys H3 hx h hy=>?_) (fun ys H3 h hy=>?_)⟩)
  .obtain⟨_,hyl,s3,d3⟩:=h;have hil:i<hs.length:=by have:=(y0a.mp hx).1;rwa [y01]at this
   have eo:hs[i]?=some hs[i]:=y00 hil;have hrh:hs[i]∈hs:=y0l hil;generalize hs[i]=r at eo hrh;have hro:=hh2 r hrh;have ex:x=V.int (nm r):=by rw[y04,eo]at hx;exact(y0b hx).symm
   subst ex;obtain⟨r0,r1⟩:=L.rg r hro;obtain⟨nr0,v,ev,dv⟩:=da r r0 r1;have t3:=t2.trans s3;obtain⟨t,b,cc,rfl,et,eb,ec⟩:=z1D (dv.mono t3);dsimp only[z6h]at eb ec;have hgl:=GM.len _ (z0n r0 r1);have hgo:=cl r hro;have esn:=z1x (fun r=>z5d ((row rows r).1,(row rows r).2.map fun g=>(((hs.map k).idxOf (k g):Nat):Int))) eo;generalize hrr:(row rows r).2=gs at *;refine(exA rfl (exA rfl ⟨a,_,nm r,.ref t,rfl,rfl,Sa.mono t3,z3Q nr0 ev,exD t _ _ (.ref b) rfl rfl (SqT.of et) (z0v (j:=0) rfl) ⟨b,exA rfl (.inr ⟨SqT.of eb,?_⟩)⟩⟩));refine(exA rfl (exA rfl ⟨a,_,nm r,.ref t,rfl,rfl,Sa.mono t3,z3Q nr0 ev,exD t _ _ (.ref cc) rfl rfl (SqT.of et) (z0v (j:=1) rfl) ⟨cc,rfl,⟨_,SqT.of ec⟩,fun l4 hl4=>z49 (xs:=(gs.map nm).map V.int) (fun j zs H4=>j<=gs.length/\zs=((gs.take j).map fun g=>(((hs.map k).idxOf (k g):Nat):Int)).map V.int/\z0d H3 H4) ⟨y0B _,rfl,z07 (z0d.refl H3) hl4⟩ (fun j zs H4 _ h=>SqT.of (h.2.2 _ _ ec)) (by rw[y01,y01];exact z0M (by lia)) (fun j zs H4 h=>?_) (fun j x zs H4 hx h hy4=>?_) (fun zs H4 h hy4=>?_)⟩⟩))
   .obtain⟨hj,rfl,_⟩:=h;rw[y01,y01,y0w];lia
   .obtain⟨hj,rfl,s4⟩:=h;have hjl:j<gs.length:=by have:=(y0a.mp hx).1;rwa [y01,y01]at this
    have eg:gs[j]?=some gs[j]:=y00 hjl;have hgm:=hgo _ (y0l hjl);generalize gs[j]=gj at eg hgm;have ex:x=V.int (nm gj):=by rw[y04,y04,eg]at hx;exact(y0b hx).symm
    subst ex;have t4:=t3.trans s4;have gm:z4Y H4 m (V.int (nm gj)) (some (V.int (k gj))):=by rw[<-gk gj hgm];exact z4Y.k (k:=kN nm gj) (t4 _ _ em)
    have hv:=z2d (κ:=Key) Sum.inl z7w (hs.map k) (k gj);rw[if_pos (hh1 gj hgm)]at hv;refine(exA rfl (exA rfl (exA rfl ⟨m,exA rfl ⟨gm,lp,exA rfl ⟨(by rw[<-hv];exact z4Y.k (k:=Sum.inl (k gj)) (s4 _ _ (s3 _ _ e2))),hy4,hjl,?_,z0c s4 hl4⟩⟩⟩)));rw[z1x _ eg,y0i];rfl
   .obtain⟨_,rfl,s4⟩:=h;rw[y01,y01,y1j]at hy4;refine⟨l4,exA rfl (.inl ⟨SqL.of hy4,fun t4 ht4=>⟨by show 2<=sizeLine;decide,fun t5 ht5=>?_⟩⟩)⟩;have s5:=z07 (o:=HO.tup ((gs.map fun g=>(((hs.map k).idxOf (k g):Nat):Int)).map V.int)) s4 ht4;have s6:=z07 (o:=HO.tup [.ref b,.ref t4]) s5 ht5;have hy6:=s6 _ _ hy;refine⟨hy6,hil,by rw[y09,hyl];rfl,z0c (s3.trans s6) hl3,?_⟩;have kk:z1m H3 (upd (upd (upd H4 t4 (.tup ((gs.map fun g=>(((hs.map k).idxOf (k g):Nat):Int)).map V.int))) t5 (.tup [.ref b,.ref t4])) l3 (.lst (ys++[.ref t5]))):=z1m.up (z1m.of s6) hy6 (fun _ z=>by cases z);have nt5:t5≠l3:=z3r z03 hy6 (by intro z;cases z);have nt4:t4≠t5:=z0e z03 ht5;have nt4f:t4≠l3:=z3r (show upd (upd H4 t4 (.tup ((gs.map fun g=>(((hs.map k).idxOf (k g):Nat):Int)).map V.int))) t5 (.tup [.ref b,.ref t4]) t4=_ by rw[z06 nt4];exact z03) hy6 (by intro z;cases z);rw[esn];refine DrL.append (d3.keyed kk (by have:=z2e ((hs.take i).map fun r=>((row rows r).1,(row rows r).2.map fun g=>(((hs.map k).idxOf (k g):Nat):Int)));unfold z0j at this;rw[y0I]at this;exact this)) (DrL.one (z4x (b:=b) (c:=t4) ?_ (kk _ _ eb) ?_))
    .rw[z06 nt5];exact z03
    .rw[z06 nt4f,z06 nt4];exact z03
  .obtain⟨_,_,s3,d3⟩:=h;rw[y01,y1j]at d3;refine⟨l3,exA rfl (.inl ⟨SqL.of hy,fun t ht=>?_⟩)⟩;refine q _ _ ((t2.trans s3).trans (z07 (z0d.refl H3) ht)) (Dr.tup z03 ?_);unfold z0j;rw[y0I];exact d3.mono (z07 (z0d.refl H3) ht)
abbrev zgu:List Str:=["_law_rows_here","_law_start","_law_line","_law_marks","_law_at","_law_to","_law_many","_law_grown","_law_known","_law_fresh","_law_row","_law_key"]
def z2X:z0z zgu ["_law_rows_here","_law_start"] (z08 z3t):={}
def zeJ:z1a zgu (z08 z3t) ["_law_to","_law_marks"] [none,some 3] (csc [(".0",.local),("_law_to",.local),("_law_marks",.free)]):={}
def zbo(u:List D)(d:D)(hn:u.Nodup):z2L (prs id u) d ((z2C (prs id u) d).getD (V.int ((prs id u).length:Nat)))=prs id (z2b u d):=by
 have hv:z2C (prs id u) d=_:=z2d id (fun _ _ e=>e) u d;by_cases hm:d∈u
 .rw[hv,if_pos hm,z0p hm];have:=z6D 0 u d hm hn;rw[y1G]at this;exact this
 .rw[hv,if_neg hm,z0q hm,<-z6b id (fun _ _ e=>e) hm];rw[z1O];rfl
def z8V(F:Fun K "_law_shrunk" "_law_shrunk" z3t f fd)(ml:mg "len"=none)(mt:mg "tuple"=none)(G:z0K P w K mg base CX 1 g gd ["_law_rows_here","_law_line","_law_marks"] (z4q K))(bG:z0u K gd ["_law_rows_here","_law_line","_law_marks"] [])(kG:PySem.W.keepIn K (.ref g)=true)(mG:mg "_law_in_line"=some (.ref g)):z0K P w K mg base CX 2 f fd ["_law_rows_here","_law_start"] (z3a K):=by
 refine F.okc z2X (fun vs H Q E h=>?_) (fun cdv A outer s H vs Q E hr h=>?_)
 .obtain⟨a,n,rows,nm,us,rfl,_⟩:=h;rfl
 obtain⟨a,n,rows,nm,us,rfl,Sa,da,ni,GM,hn,q⟩:=h;have hu:=zea hr;have hu9:(A.deeper (PyProof.Rows.envOfC "_law_shrunk" (z08 z3t) s.heap.objs.size f cdv)).units+9<cLine:=by have:=hr.units;lia
 refine⟨_,z04 (z0g (i:=2) z2X.nd rfl (Or.inl rfl) (z1Q (z02 (pv 1) z05)))
  (z04 (z0g (i:=3) z2X.nd rfl (Or.inr rfl) (z9W (z8k (pv 1) (z0W z2N (z0W (ixQ K rfl) (pv 0) (pv 1) (fun _ _=>rfl)) z09 (fun _ _=>rfl)) zam) rfl rfl (by simp) (by decide)))
  (z04 (z0g (i:=4) z2X.nd rfl (Or.inl rfl) z09)
  (z04 (z2B y1e (z1p z7p (pv 4) (z0h z0f rfl ml y0F (z02 (pv 2) z05)) (z1j _))
   (z04 (z2g y1e rfl (z54 (z0W z2N (z0W (ixQ K rfl) (pv 0) (z0W z1t (pv 2) (pv 4) (fun _ _=>rfl)) (fun _ _=>rfl)) z09 (fun _ _=>rfl))) (z0k (i:=5) z2X.nd rfl (Or.inl rfl))
    (z0a (z1M (z1K (z4A hu (pv 5) (pv 3)))
     (z04 (z5C hu (pv 3) (pv 5) (z0W z2N (z0W (ixQ K rfl) (pv 0) (pv 5) (fun _ _=>rfl)) z09 (fun _ _=>rfl)) rfl)
     (z0a (z1A (z3V y0J y0X y0Y z0V (pv 2) (z02 (pv 5) z05))))) z0E)))
   (z0a (zf3 (i:=4) z2X.nd rfl (Or.inl rfl) z09 zfr))))
  (z04 (z0g (i:=6) z2X.nd rfl (Or.inl rfl) z09)
  (z04 (z0g (i:=7) z2X.nd rfl (Or.inl rfl) zbV)
  (z04 (z2B y1e (z6k (pv 7))
   (z04 (z0g (i:=8) z2X.nd rfl (Or.inl rfl) (z7I (K:=K)))
   (z04 (z0g (i:=9) z2X.nd rfl (Or.inl rfl) z8g)
   (z04 (z2g y1e rfl (z1z (pv 2)) (z0k (i:=10) z2X.nd rfl (Or.inl rfl))
    (z04 (z0g (i:=11) z2X.nd rfl (Or.inl rfl) (z3c (z02 (z2R hu (pv 3) (pv 10) (fun _ _=>rfl)) (z02 (z0w z0B rfl mt y0K (z02
     (z1h rfl zeJ (z54 (z0W z2N (z0W (ixQ K rfl) (pv 0) (pv 10) (fun _ _=>rfl)) z09 (fun _ _=>rfl))) (fun _ _ _ _ _=>z0k (i:=0) zeJ.nd rfl (Or.inl rfl)) (fun _ _ _ _ _=>z2R hu (pv 1) (pv 0) (fun _ _=>rfl))) z05)) z05))))
    (z04 (z7C (K:=K) hu9 (pv 8) (pv 11) (zcJ (K:=K) hu9 (pv 8) (pv 11) (z0h (zbH K) rfl ml y0F (z02 (pv 8) z05)) ⟨rfl,rfl,rfl,rfl⟩))
    (z0a (z5C hu (pv 9) (pv 10) (zaN (K:=K) hu9 (pv 8) (pv 11) (fun _ _=>rfl)) rfl)))))
   (z04 (z0g (i:=7) z2X.nd rfl (Or.inl rfl) (z3m zde (z0h (zbH K) rfl ml y0F (z02 (pv 8) z05)) (pv 6) (z1j _)))
   (z04 (z0g (i:=6) z2X.nd rfl (Or.inl rfl) (z0h (zbH K) rfl ml y0F (z02 (pv 8) z05)))
   (z0a (z0g (i:=3) z2X.nd rfl (Or.inr rfl) (pv 9)))))))))
  (z0a (z0I (z0i G hr rfl mG kG bG .nil z0T (z02 (pv 0) (z02 (pv 2) (z02 (pv 3) z05)))))))))))),?_⟩
 have h400:=GM.few;have h1:=GM.some;have hz1:(0:Int)<(rows.length:Int):=by lia
 refine(exA rfl ⟨by show 1<=sizeLine;decide,fun lo hlo=>?_⟩);refine fun lm hlm=>(exA rfl ?_);have s1:=z07 (o:=HO.lst [V.int (nm 0)]) (z0d.refl H) hlo;have s2:=z07 (o:=HO.dK []) s1 hlm;have nlo:lo≠lm:=z0e z03 hlm;have hlm0:H lm=none:=s1.free hlm;obtain⟨nz0,v0,ev0,dv0⟩:=da 0 (y2i 0) hz1;obtain⟨t0,b0,c0,rfl,et0,eb0,ec0⟩:=z1D (dv0.mono s2);refine(exA rfl (exA rfl ⟨a,_,nm 0,.ref t0,rfl,rfl,Sa.mono s2,z3Q nz0 ev0,exD t0 _ _ (.ref b0) rfl rfl (SqT.of et0) (z0v (j:=0) rfl) ⟨z03,[(Sum.inl (nm 0),V.ref b0)],rfl,by simp,?_⟩⟩));have s3:z0d H (upd (upd (upd H lo (.lst [.int (nm 0)])) lm (.dK [])) lm (.dK (z3S [] [(Sum.inl (nm 0),V.ref b0)]))):=z0c s2 hlm0;have hF0:=FK.its rows;have L0:=zcK GM;have OL:=z0m GM;have hol:=OL.1.len;show z6Y _ _ _ _ _;refine zgG (fun σ' H'=>∃(i0:Int)(o:List Int)(u5:Option V)(kvs:List (Key × V)),σ'=[some (.ref a),some (.int (nm 0)),some (.ref lo),some (.ref lm),some (.int i0),u5,none,none,none,none,none,none]/\z0d H H'/\H' lo=some (.lst (o.map (nV nm)))/\H' lm=some (.dK kvs)/\MkN nm K H' o (fun r=>D.its (row rows r).1) kvs/\z7l rows o/\order rows=o) (fun Ed nx=>?_) (fun σ' H' p=>?_);rotate_left
 .obtain⟨i0,o,u5,kvs,rfl,t2,glo,glm,mk2,L,eoo⟩:=p;have cl:∀r∈o,∀g∈(row rows r).2,g∈o:=by have:=OL.2;rwa [eoo]at this
  have hln:=L.len;refine⟨fun m σ H3=>∃(f:Int->D)(many:Nat)(gr:Bool)(lm:Addr)(kvs:List (Key × V))(u8 u9 u10 u11:Option V),σ=[some (.ref a),some (.int (nm 0)),some (.ref lo),some (.ref lm),some (.int i0),u5,some (.int many),some (.bl gr),u8,u9,u10,u11]/\z0d H H3/\H3 lo=some (.lst (o.map (nV nm)))/\H3 lm=some (.dK kvs)/\MkN nm K H3 o f kvs/\FK f /\
    ((gr=true/\o.length+2<=m+many/\many<=o.length/\z4j rows o m many f=z5o rows)\/(gr=false/\f=z5o rows)),
   ⟨rows.length+2,_,0,true,lm,kvs,_,_,_,_,rfl,t2,glo,glm,mk2,hF0,.inl ⟨rfl,by lia,by lia,by unfold z5o;rw[eoo]⟩⟩,?_⟩
  clear glm mk2;rintro m σ H3 ⟨f,many,gr,lm,kvs,u8,u9,u10,u11,rfl,t3,elo,elm,mk3,hf,alt⟩;refine(exA rfl (exA rfl (z3H (fun c=>?_) (fun c=>?_))))
  .obtain⟨_,hm1,hm2,hsl⟩:=alt.resolve_right fun z=>by rw[z.1]at c;cases c
   clear alt;refine zel fun N nx2=>?_;intro lk hlk ob0 g0 lf hlf;have s4:=z07 (o:=ob0) (z0d.refl H3) hlk;have hlf0:H3 lf=none:=s4.free hlf;have nkf:lk≠lf:=z0e z03 hlf;have s5:=z07 (o:=HO.dK []) s4 hlf;refine⟨_,rfl,lo,rfl,⟨_,SqL.of (s5 _ _ elo)⟩,z9b (xs:=o.map (nV nm)) (fun i σ H4=>∃(u10 u11:Option V)(kv4:List (Key × V)),σ=[some (.ref a),some (.int (nm 0)),some (.ref lo),some (.ref lm),some (.int i0),u5,some (.int many),some (.bl gr),some (.ref lk),some (.ref lf),u10,u11]/\z0d H3 H4/\DD P w K H4 lk (prs id (z0s ((z1V rows o f).take i)))/\H4 lf=some (.dK kv4)/\MkN nm K H4 (o.take i) (z2P rows o f) kv4)
    ⟨_,_,[],rfl,s5,?_,z03,MkN.nil⟩ (fun i σ H4 _ h=>by obtain⟨_,_,_,_,t4,_⟩:=h;exact SqL.of (t4 _ _ elo)) (fun i x σ H4 hx h Ed nx3=>?_) (fun σ H4 h=>?_)⟩
   .exact g0.mono (z07 (z0d.refl _) hlf)
   .obtain⟨u10,u11,kv4,rfl,t4,g4,elf,mk4⟩:=h;have hil:i<o.length:=by have:=(y0a.mp hx).1;rwa [y01]at this
    have eo:o[i]?=some o[i]:=y00 hil;have hro:o[i]∈o:=y0l hil;have hnew:o[i]∉o.take i:=zdA L.nd eo;generalize o[i]=r at eo hro hnew;have ex:x=V.int (nm r):=by rw[y04,eo]at hx;exact(y0b hx).symm
    subst ex;obtain⟨r0,r1⟩:=L.rg r hro;have t34:=t3.trans t4;obtain⟨nr0,vr,evr,dvr⟩:=da r r0 r1;obtain⟨t,b,cc,rfl,et,eb,ec⟩:=z1D (dvr.mono t34);dsimp only[z6h]at eb ec;have hgl:=GM.len _ (z0n r0 r1);have hgo:=cl r hro;obtain⟨v,hv,dv⟩:=mk3.get ni hro;have gm:z4Y H4 lm (V.int (nm r)) (some v):=by rw[<-hv];exact z4Y.k (k:=kN nm r) (t4 _ _ elm)
    have ekey:z1y rows f r=D.tup [f r,D.tup ((row rows r).2.map f)]:=rfl;have ks:=hf.key (rows:=rows) r;have esk:(z1V rows o f)[i]?=some (z1y rows f r):=by unfold z1V;rw[y04,eo];rfl
    have hidx:(((z0s ((z1V rows o f).take (i+1))).idxOf (z1y rows f r):Nat):Int)=z2y rows o f r:=by
     unfold z2y;obtain⟨m2,e2⟩:=z0F ((z1V rows o f).drop (i+1)) (z0s ((z1V rows o f).take (i+1)));have e3:z0s (z1V rows o f)=z0s ((z1V rows o f).take (i+1))++m2:=by rw[<-e2];unfold z0s z0b;rw[<-y2o,y0O]
     rw[e3,z6K];refine z0C.mpr (.inr ?_);rw[y0G,esk];simp
    have hun:z0s ((z1V rows o f).take (i+1))=z2b (z0s ((z1V rows o f).take i)) (z1y rows f r):=by unfold z0s;rw[y0G,esk];exact z1F _ _ _
    have hund:(z0s ((z1V rows o f).take i)).Nodup:=z1P _ _ y2A;have hunl:(z0s ((z1V rows o f).take i)).length<=4000:=by have:=z3q ((z1V rows o f).take i);rw[y0w]at this;lia
    rw[hun]at hidx;generalize z0s ((z1V rows o f).take i)=un at *;generalize hgs:(row rows r).2=gs at *;dsimp only[zc7];refine zeq (fun σ' H'=>∃t7:Addr,σ'=[some (.ref a),some (.int (nm 0)),some (.ref lo),some (.ref lm),some (.int i0),u5,some (.int many),some (.bl gr),some (.ref lk),some (.ref lf),some (.int (nm r)),some (.ref t7)]/\z0d H4 H'/\Dr K H' (z1y rows f r) (.ref t7)) (fun Eq nxq=>?_) (fun σ' H7 p=>?_);rotate_left
    .obtain⟨t7,rfl,s47,dk⟩:=p;have g7:=g4.mono s47;have e7f:=s47 _ _ elf;have t7':=t4.trans s47;refine(exA rfl ⟨lk,exA rfl ⟨g7,exA rfl (exA rfl ⟨lk,exA rfl ⟨g7,_,_,g7,zeo ks dk,exA rfl (exA rfl ⟨lk,exB rfl ⟨g7,zeo ks dk,by rw[z1O];exact z2s (by lia),fun ob g8=>?_⟩⟩)⟩⟩)⟩⟩);rw[zbo un _ hund]at g8;have k8:z1m H7 (upd H7 lk ob):=by
      obtain⟨xs,e0,_⟩:=g7;exact z1m.up (z1m.refl _) e0 (fun _ z=>by unfold zdV at z;cases z)
     have dk8:=dk.keyed k8 ks.1;have hval:z2C (prs id (z2b un (z1y rows f r))) (z1y rows f r)=some (V.int (z2y rows o f r)):=by have:=z2d (κ:=D) id (fun _ _ e=>e) (z2b un (z1y rows f r)) (z1y rows f r);rw[if_pos (zcG _ _),hidx]at this;exact this
     have e8f:upd H7 lk ob lf=some (.dK kv4):=by rw[z06 nkf.symm];exact e7f
     refine(exA rfl (exA rfl ⟨lk,_,exB rfl ⟨g8,zeo ks dk8,hval,exA rfl (exA rfl ⟨lf,exA rfl ⟨zcZ.k (k:=kN nm r) e8f (by rw[mk4.len,y0w];exact z2s (by lia)),?_⟩⟩)⟩⟩));have k9:z1m (upd H7 lk ob) (upd (upd H7 lk ob) lf (.dK (z2L kv4 (kN nm r) (V.int (z2y rows o f r))))):=z1m.up (z1m.refl _) e8f (fun _ z=>by cases z);refine nx3 _ _ ⟨_,exB rfl ⟨z0c (z0c t7' hlk) hlf0,?_,z03,?_⟩⟩
     .rw[hun];exact DD.keyed g8 k9 (by rw[z06 nkf])
     .rw[y0G,eo];exact(mk4.mono s47).put ni hnew (((mk4.mono s47).keyed k8 (FK.int _)).keyed k9 (FK.int _)) (Dr.int _)
    refine(exA rfl (exA rfl ⟨lm,v,rfl,gm,exA rfl (exA rfl ⟨a,_,nm r,.ref t,rfl,rfl,Sa.mono t34,z3Q nr0 evr,exD t _ _ (.ref cc) rfl rfl (SqT.of et) (z0v (j:=1) rfl) ⟨cc,rfl,⟨_,SqT.of ec⟩,fun l5 hl5=>z49 (xs:=(gs.map nm).map V.int) (fun j zs H5=>j<=gs.length/\zs.length=j/\z0d H4 H5/\DrL K H5 ((gs.take j).map f) zs) ⟨y0B _,rfl,z07 (z0d.refl H4) hl5,DrL.nil⟩ (fun j zs H5 _ h=>SqT.of (h.2.2.1 _ _ ec)) (by rw[y01,y01];exact z0M (by lia)) (fun j zs H5 h=>h.2.1) (fun j x zs H5 hx h hy5=>?_) (fun zs H5 h hy5=>?_)⟩⟩)⟩))
    .obtain⟨hj,hzl,s5',d5⟩:=h;have hjl:j<gs.length:=by have:=(y0a.mp hx).1;rwa [y01,y01]at this
     have eg:gs[j]?=some gs[j]:=y00 hjl;have hgm:=hgo _ (y0l hjl);generalize gs[j]=gj at eg hgm;have ex:x=V.int (nm gj):=by rw[y04,y04,eg]at hx;exact(y0b hx).symm
     subst ex;obtain⟨vg,hvg,dvg⟩:=mk3.get ni hgm;have gmg:z4Y H5 lm (V.int (nm gj)) (some vg):=by rw[<-hvg];exact z4Y.k (k:=kN nm gj) (s5' _ _ (t4 _ _ elm))
     have kk:z1m H5 (upd H5 l5 (.lst (zs++[vg]))):=z1m.up (z1m.refl _) hy5 (fun _ z=>by cases z);refine(exA rfl (exA rfl ⟨lm,vg,rfl,gmg,hy5,hjl,by rw[y09,hzl];rfl,z0c s5' hl5,?_⟩));rw[z1x _ eg];exact DrL.append (d5.keyed kk (hf.keyL _)) (DrL.one ((dvg.mono (t4.trans s5')).keyed kk (hf gj).1))
    .obtain⟨_,hzl,s5',d5⟩:=h;rw[y01,y01,y1j]at d5;refine⟨l5,exA rfl (.inl ⟨SqL.of hy5,fun t6 ht6=>⟨by show 2<=sizeLine;decide,fun t7 ht7=>?_⟩⟩)⟩;have s6:=z07 (o:=HO.tup zs) (z0d.refl H5) ht6;have s7:=z07 (o:=HO.tup [v,.ref t6]) s6 ht7;have s47:=s5'.trans s7;have nt6:t6≠t7:=z0e z03 ht7;have dk:Dr K (upd (upd H5 t6 (.tup zs)) t7 (.tup [v,.ref t6])) (z1y rows f r) (.ref t7):=by
      rw[ekey];exact Dr.tup z03 (DrL.cons (dv.mono (t4.trans s47)) (DrL.one (Dr.tup (by rw[z06 nt6];exact z03) (d5.mono s7))))
     exact nxq _ _ ⟨t7,rfl,s47,dk⟩
   .obtain⟨u10,u11,kv4,rfl,t4,g4,elf,mk4⟩:=h;rw[y01]at g4 mk4;rw[y1j]at mk4;rw[y0x (by unfold z1V;rw[y01];lia)]at g4;have hcl:=z6l rows o f;refine(exA rfl ⟨lk,exA rfl ⟨g4,exA rfl (exC rfl rfl (exA rfl ⟨lk,exA rfl ⟨g4,exA rfl ?_⟩⟩))⟩⟩);have hpl:(prs id (z0s (z1V rows o f))).length=z2i rows o f:=z1O _ _ _;cases m with
    |zero=>lia
    |succ m =>
     refine nx2 m _ _ (Nat.lt_succ_self m) ⟨z2P rows o f,z2i rows o f,decide ((many:Int)<(z2i rows o f:Nat)),lf,kv4,_,_,_,_,(by rw[<-hpl];rfl),t3.trans t4,t4 _ _ elo,elf,mk4,FK.int _,?_⟩;unfold z4j at hsl;by_cases hc:many<z2i rows o f
     .rw[if_pos hc]at hsl;exact .inl ⟨y1A (by lia),by lia,hcl,hsl⟩
     .rw[if_neg hc]at hsl;exact .inr ⟨y1z (by lia),hsl⟩
  .rcases alt with⟨hg,_⟩|⟨_,hfs⟩
   .exact absurd hg c
   refine(exA rfl (exA rfl (exA rfl ⟨a,lo,lm,n,rows,nm,us,o,kOf rows,kvs,rfl,Sa.mono t3,da.mono t3,ni,GM,hn,elo,elm,?_,L,cl,fun v H4 s4 d4=>?_⟩)))
   .rw[hfs,z5s rows]at mk3;exact mk3
   .refine q v H4 (t3.trans s4) ?_;unfold shr;rw[eoo];exact d4
 refine⟨fun m σ H2=>∃(i:Nat)(o:List Int)(u5:Option V)(kvs:List (Key × V)),m=rows.length+1-i/\σ=[some (.ref a),some (.int (nm 0)),some (.ref lo),some (.ref lm),some (.int i),u5,none,none,none,none,none,none]/\z0d H H2/\H2 lo=some (.lst (o.map (nV nm)))/\H2 lm=some (.dK kvs) /\
   MkN nm K H2 o (fun r=>D.its (row rows r).1) kvs/\z7l rows o/\i<=o.length/\bfs rows (rows.length+1-i) i o=order rows,
  ⟨_,0,[0],none,_,rfl,rfl,s3,?_,z03,?_,L0,by simp,rfl⟩,?_⟩
 .rw[z06 nlo,z06 nlo];exact z03
 .refine⟨[.ref b0],rfl,?_⟩;show DrL K _ [D.its (row rows 0).1] [.ref b0];exact DrL.one (Dr.tup (by rw[z06 (z3r eb0 z03 (by intro z;cases z))];exact eb0) (DrL.ints _))
 rintro m σ H2 ⟨i,o,u5,kvs,rfl,rfl,t2,glo,glm,mk2,L,hi,hb⟩;have hol2:(o.map (nV nm)).length=o.length:=y01 _;refine(exA rfl (exA rfl (exG lo rfl (.inl (SqL.of glo)) (exC rfl rfl (exA rfl (z3H (fun c=>?_) (fun c=>?_)))))))
 .have c':=y1c c;rw[hol2]at c';have hio:i<o.length:=by lia
  have eo:o[i]?=some o[i]:=y00 hio;have hro:o[i]∈o:=y0l hio;generalize o[i]=r at eo hro;obtain⟨r0,r1⟩:=L.rg r hro;obtain⟨nr0,v,ev,dv⟩:=da r r0 r1;obtain⟨t,b,cc,rfl,et,eb,ec⟩:=z1D (dv.mono t2);dsimp only[z6h]at eb ec;have hrow:=z0n r0 r1;have hgl:=GM.len _ hrow;have hgo:=GM.go _ hrow;have hlen:=L.len;refine zel fun N nx2=>?_;refine(exA rfl (exA rfl (exA rfl (exD lo _ _ (V.int (nm r)) rfl rfl (SqL.of glo) (z0v (by rw[y04,eo];rfl)) ⟨a,_,nm r,.ref t,rfl,rfl,Sa.mono t2,z3Q nr0 ev,exD t _ _ (.ref cc) rfl rfl (SqT.of et) (z0v (j:=1) rfl) ⟨cc,rfl,⟨_,SqT.of ec⟩,?_⟩⟩))));generalize hgs:(row rows r).2=gs at *;refine zgN (xs:=(gs.map nm).map V.int) (fun j σ H3=>∃(u:Option V)(kv3:List (Key × V)),σ=[some (.ref a),some (.int (nm 0)),some (.ref lo),some (.ref lm),some (.int i),u,none,none,none,none,none,none]/\z0d H H3/\z1m H2 H3/\H3 lo=some (.lst ((z0b o (gs.take j)).map (nV nm)))/\H3 lm=some (.dK kv3)/\MkN nm K H3 (z0b o (gs.take j)) (fun r=>D.its (row rows r).1) kv3)
   ⟨_,kvs,rfl,t2,z1m.refl _,glo,glm,mk2⟩ (fun j σ H3 _ h=>by obtain⟨_,_,_,_,k3,_⟩:=h;exact SqT.of (k3 _ _ ec)) (fun j x σ H3 hx h Ed nx3=>?_) (fun σ H3 h=>?_)
  .obtain⟨u,kv3,rfl,t3,k3,e1,e2,mk3⟩:=h;have hjl:j<gs.length:=by have:=(y0a.mp hx).1;rwa [y01,y01]at this
   have eg:gs[j]?=some gs[j]:=y00 hjl;obtain⟨g0,g1⟩:=hgo _ (y0l hjl);generalize gs[j]=gj at eg g0 g1;have ex:x=V.int (nm gj):=by rw[y04,y04,eg]at hx;exact(y0b hx).symm
   subst ex;have et':z0b o (gs.take (j+1))=z2b (z0b o (gs.take j)) gj:=by rw[y0G,eg];exact z1F _ _ _
   have hal:(z0b o (gs.take j)).length<=4500:=by have:=z1Y (gs.take j) o;rw[y0w]at this;lia
   generalize z0b o (gs.take j)=oj at *;refine(exA rfl (exA rfl ⟨lm,exA rfl ⟨z4Y.k (k:=kN nm gj) e2,exA rfl ?_⟩⟩));by_cases hm:gj∈oj
   .obtain⟨v',hv',_⟩:=mk3.get ni hm;rw[hv'];refine z36 (nx3 _ _ ⟨_,kv3,rfl,t3,k3,?_,e2,?_⟩)
    .rw[et',z0p hm];exact e1
    .rw[et',z0p hm];exact mk3
   .rw[mk3.no ni hm];have nlop:lo≠lm:=nlo;obtain⟨ng0,v',ev',dv'⟩:=da gj g0 g1;obtain⟨t',b',c'',rfl,et'',eb'',ec''⟩:=z1D (dv'.mono t3);refine z7n (exA rfl (exA rfl ⟨a,_,nm gj,.ref t',rfl,rfl,Sa.mono t3,z3Q ng0 ev',exD t' _ _ (.ref b') rfl rfl (SqT.of et'') (z0v (j:=0) rfl) (exA rfl (exA rfl ⟨lm,exA rfl ⟨zcZ.k (k:=kN nm gj) e2 (by rw[mk3.len];exact z2s (by lia)),?_⟩⟩))⟩));have e1':upd H3 lm (.dK (z2L kv3 (kN nm gj) (V.ref b'))) lo=some (.lst (oj.map (nV nm))):=by rw[z06 nlop];exact e1
    refine(exA rfl ⟨.inl ⟨rfl,_,SqL.of e1'⟩,exA rfl ⟨lo,exC rfl rfl ⟨e1',by rw[y01];exact z2s (by lia),?_⟩⟩⟩);have kk:z1m H3 (upd (upd H3 lm (.dK (z2L kv3 (kN nm gj) (V.ref b')))) lo (.lst (oj.map (nV nm)++[V.int (nm gj)]))):=z1m.up (z1m.up (z1m.refl _) e2 (fun _ z=>by cases z)) e1' (fun _ z=>by cases z);refine nx3 _ _ (exB rfl ⟨z0c (z0c t3 hlm0) hlo,k3.trans kk,?_,(by rw[z06 nlo.symm];exact z03),?_⟩)
    .rw[z03,et',z0q hm,y0i];rfl
    .rw[et',z0q hm];exact mk3.put ni hm (mk3.keyed kk hF0) (Dr.tup (kk _ _ eb'') (DrL.ints _))
  .obtain⟨u,kv3,rfl,t3,k3,e1,e2,mk3⟩:=h;rw[y01,y01,y1j]at e1 mk3;obtain⟨mm,em⟩:=z64 rows (rows.length+1-(i+1)) (i+1) (z0b o gs);have hb':bfs rows (rows.length+1-(i+1)) (i+1) (z0b o gs)=order rows:=by
    rw[<-hb,show rows.length+1-i=(rows.length+1-(i+1))+1 by lia,z3d eo,hgs]
   have L':z7l rows (z0b o gs):=by rw[<-hgs];exact L.add GM hro
   obtain⟨m1,em1⟩:=z0F gs o;have hi':i+1<=(z0b o gs).length:=by rw[em1,y09];lia
   exact(exA rfl (exC rfl rfl (nx2 (rows.length+1-(i+1)) _ _ (by lia) ⟨i+1,z0b o gs,_,kv3,rfl,rfl,t3,e1,e2,mk3,L',hi',hb'⟩)))
 have c':=y1R (y1F.mpr c);rw[hol2]at c';have eoo:order rows=o:=by rw[<-hb];exact z2Z (by lia)
 exact nx _ _ ⟨_,o,u5,kvs,rfl,t2,glo,glm,mk2,L,eoo⟩
end
structure FA(K:yyF)(f:Addr)(x:Str)(st:Stmt):Prop where
 a:PySem.W.nsIn K mainGlobals x=some (some (.ref f))
 l:∃oc od kV dc pm an cd ct sl,K.lookup f=some ⟨oc,od,.func (PySem.W.fnOf x x (z1B st) (z0Q st) (z08 st) .none kV dc pm an cd ct),sl⟩/\PySem.W.codeIn K cd x=true
 k:PySem.W.keepIn K (.ref f)=true
def FA.of{K:yyF}{f:Addr}{x:Str}{st:Stmt}{oc kV dc pm cd ct:Value}{od an:Option Addr}{sl:Array (Option Value)}(a:PySem.W.nsIn K mainGlobals x=some (some (.ref f)))(l:K.lookup f=some ⟨oc,od,.func (PySem.W.fnOf x x (z1B st) (z0Q st) (z08 st) .none kV dc pm an cd ct),sl⟩)(c:PySem.W.codeIn K cd x=true)(k:PySem.W.keepIn K (.ref f)=true):FA K f x st:=⟨a,⟨_,_,_,_,_,_,_,_,_,l,c⟩,k⟩
def FA.go{K:yyF}{f:Addr}{x:Str}{st:Stmt}{h:Heap}{mg:yyS}(A:FA K f x st)(X:K.In h)(G:h.Ns mainGlobals mg):∃fd,Fun K x x st f fd/\mg x=some (.ref f)/\PySem.W.keepIn K (.ref f)=true:=by obtain⟨a,⟨_,_,_,_,_,_,_,_,_,l,c⟩,k⟩:=A;exact⟨_,z86 l c k,y2W X G a,k⟩
abbrev fnY(x:Str)(st:Stmt)(kV dc pm:Value)(an:Option Addr)(cd ct:Value):=PySem.W.fnOf x x (z1B st) (z0Q st) (z08 st) .none kV dc pm an cd ct
section
variable{K:yyF}{x:Str}{st:Stmt}{f:Addr}{fd:FuncData}
def zfH{a:Str}(F:Fun K x x st f fd)(h:∀(kV dc pm:Value)(an:Option Addr)(cd ct u:Value),bindArgs (fnY x st kV dc pm an cd ct) ⟨[u],[]⟩=pure [(a,u)]):z0u K fd [a] []:=F.binds fun _ _ _ _ _ _ us hl=>by obtain⟨_,rfl⟩:=zfG hl;exact h _ _ _ _ _ _ _
def z9E{a b:Str}(F:Fun K x x st f fd)(h:∀(kV dc pm:Value)(an:Option Addr)(cd ct u v:Value),bindArgs (fnY x st kV dc pm an cd ct) ⟨[u,v],[]⟩=pure [(a,u),(b,v)]):z0u K fd [a,b] []:=F.binds fun _ _ _ _ _ _ us hl=>by obtain⟨_,_,rfl⟩:=zgh hl;exact h _ _ _ _ _ _ _ _
def zgT{a b c:Str}(F:Fun K x x st f fd)(h:∀(kV dc pm:Value)(an:Option Addr)(cd ct u v w:Value),bindArgs (fnY x st kV dc pm an cd ct) ⟨[u,v,w],[]⟩=pure [(a,u),(b,v),(c,w)]):z0u K fd [a,b,c] []:=F.binds fun _ _ _ _ _ _ us hl=>by obtain⟨_,_,_,rfl⟩:=zhg hl;exact h _ _ _ _ _ _ _ _ _
end
abbrev zbu(P1 P8:Addr):List Tb:=[⟨P1,zaC (z0Q z4P),("section_at.<locals>."++"<lambda>":Str)⟩,⟨P8,z7N (z0Q z4M),("crew.<locals>."++"<lambda>":Str)⟩]
def all_mk{l:PySem.W.OpenLaw}{w:World}{K:yyF}{h:Heap}{mg:yyS}{fa f1 f2 f3 f4 f5 f6 f7 f8 f9 f10 f11 f12 f13 f14 f15 f16 f17 f18 f19 f20:Addr}(X:K.In h)(G:h.Ns mainGlobals mg)(hfa:mg "law"=some (.ref fa)){od1 an1 od8 an8 od20 an20:Option Addr}{sl1 sl8 sl20:Array (Option Value)}{tk1:Tok}{oc1 kV1 dc1 pm1 ct1 oc8 kV8 dc8 pm8 ct8 oc20 kV20 dc20 pm20 ct20 cd20:Value}{cc1 P1 cc8 P8:Addr}(a1:PySem.W.nsIn K mainGlobals "section_at"=some (some (.ref f1)))(l1:K.lookup f1=some ⟨oc1,od1,.func (PySem.W.fnOf "section_at" "section_at" (z1B z4P) (z0Q z4P) (z08 z4P) .none kV1 dc1 pm1 an1 (.ref cc1) ct1),sl1⟩)(c1:PySem.W.codeIn K (.ref cc1) "section_at"=true)(k1:PySem.W.keepIn K (.ref f1)=true)(h2:FA K f2 "least_form" z8m)(h3:FA K f3 "rows_come_to" zbk)(h4:FA K f4 "kinds_of_rows" z5j)(h5:FA K f5 "kinds_gone_to" zar)(h6:FA K f6 "numbered" z1Z)(h7:FA K f7 "sections" z2n)(a8:PySem.W.nsIn K mainGlobals "crew"=some (some (.ref f8)))(l8:K.lookup f8=some ⟨oc8,od8,.func (PySem.W.fnOf "crew" "crew" (z1B z4M) (z0Q z4M) (z08 z4M) .none kV8 dc8 pm8 an8 (.ref cc8) ct8),sl8⟩)(c8:PySem.W.codeIn K (.ref cc8) "crew"=true)(k8:PySem.W.keepIn K (.ref f8)=true)(h9:FA K f9 "_law_cell" zbO)(h10:FA K f10 "_law_letters" z48)(h11:FA K f11 "_law_in_line" z4p)(h12:FA K f12 "_law_shrunk" z3t)(h13:FA K f13 "_law_numbers" z40)(h14:FA K f14 "_law_rearranged" zc9)(h15:FA K f15 "_law_rows" z7r)(h16:FA K f16 "_law_guise" z8L)(h17:FA K f17 "_law_whole" z8E)(h18:FA K f18 "_law_like" z9y)(h19:FA K f19 "_law_ample" z73)(a20:PySem.W.nsIn K mainGlobals "law"=some (some (.ref f20)))(l20:K.lookup f20=some ⟨oc20,od20,.func (PySem.W.fnOf "law" "law" (z1B z8n) (z0Q z8n) (z08 z8n) .none kV20 dc20 pm20 an20 cd20 ct20),sl20⟩)(c20:PySem.W.codeIn K cd20 "law"=true)(k20:PySem.W.keepIn K (.ref f20)=true)(t1:PySem.W.codeHdIn K cc1 P1=true)(u1:K.lookup P1=none)(t8:PySem.W.codeHdIn K cc8 P8=true)(u8:K.lookup P8=none)(nP:([P1,P8]:List Addr).Nodup)(i1:PySem.W.nsIn K mainGlobals "MOST_FORM_ROWS"=some (some (.int 60 tk1)))(z1:PySem.W.nsIn K mainGlobals "len"=some none)(z2:PySem.W.nsIn K mainGlobals "tuple"=some none)(z3:PySem.W.nsIn K mainGlobals "list"=some none)(z4:PySem.W.nsIn K mainGlobals "range"=some none)(z5:PySem.W.nsIn K mainGlobals "isinstance"=some none)(z6:PySem.W.nsIn K mainGlobals "int"=some none)(z7:PySem.W.nsIn K mainGlobals "bool"=some none)(z8:PySem.W.nsIn K mainGlobals "str"=some none)(z9:PySem.W.nsIn K mainGlobals "all"=some none)(z10:PySem.W.nsIn K mainGlobals "any"=some none)(z11:PySem.W.nsIn K mainGlobals "sorted"=some none)(z12:PySem.W.nsIn K mainGlobals "zip"=some none)(z13:PySem.W.nsIn K mainGlobals "max"=some none)(z14:PySem.W.nsIn K mainGlobals "min"=some none)(z15:PySem.W.nsIn K mainGlobals "enumerate"=some none)(z16:PySem.W.nsIn K mainGlobals "abs"=some none)(z17:PySem.W.nsIn K mainGlobals "set"=some none){CtTooMany:Addr}(yTooMany:PySem.W.nsIn K mainGlobals "TooMany"=some (some (.ref CtTooMany)))(xTooMany:PySem.W.excIn K CtTooMany [.type "ValueError",.type "Exception",.type "BaseException",.type "object"] "ValueError.__new__"=true): ∃fd:FuncData,(∀(s:Shared) (v:Value),BindsTo s fd ⟨[v],[]⟩ [("_law_script",v)])/\(∀T∈(zbu P1 P8),K.lookup T.at_=none/\∃c,PySem.W.codeHdIn K c T.at_=true)/\∀base:Heap,K.In base->base.Ns mainGlobals mg->z4t base mg->z0K l.prog w K mg base (CXx l.prog w) 10 fa fd ["_law_script"] (z8j (zbu P1 P8) K):=by
 have e:=hfa.symm.trans (y2W X G a20);cases e;have F1:=z86 (st:=z4P) l1 c1 k1;have b1:=F1.binds (ps:=["guise","row"]) fun _ _ _ _ _ _ us hl=>by obtain⟨a0,a1,rfl⟩:=zgh hl;rfl
 have m1:=y2W X G a1;obtain⟨d2,F2,m2,k2⟩:=h2.go X G;have b2:z0u K d2 ["first","row_at"] []:=z9E F2 fun _ _ _ _ _ _ _ _=>rfl;obtain⟨d3,F3,m3,k3⟩:=h3.go X G;have b3:z0u K d3 ["first","row_at"] []:=z9E F3 fun _ _ _ _ _ _ _ _=>rfl;obtain⟨d4,F4,m4,k4⟩:=h4.go X G;have b4:z0u K d4 ["rows"] []:=zfH F4 fun _ _ _ _ _ _ _=>rfl;obtain⟨d5,F5,m5,k5⟩:=h5.go X G;have b5:z0u K d5 ["kinds","goings"] []:=z9E F5 fun _ _ _ _ _ _ _ _=>rfl;obtain⟨d6,F6,m6,k6⟩:=h6.go X G;have b6:z0u K d6 ["things"] []:=zfH F6 fun _ _ _ _ _ _ _=>rfl;obtain⟨d7,F7,m7,k7⟩:=h7.go X G;have b7:z0u K d7 ["guise"] []:=zfH F7 fun _ _ _ _ _ _ _=>rfl;have F8:=z86 (st:=z4M) l8 c8 k8;have b8:=F8.binds (ps:=["guises"]) fun _ _ _ _ _ _ us hl=>by obtain⟨a0,rfl⟩:=zfG hl;rfl
 have m8:=y2W X G a8;obtain⟨d9,F9,m9,k9⟩:=h9.go X G;have b9:z0u K d9 ["_law_script","_law_at"] []:=z9E F9 fun _ _ _ _ _ _ _ _=>rfl;obtain⟨d10,F10,m10,k10⟩:=h10.go X G;have b10:z0u K d10 ["_law_script","_law_at"] []:=z9E F10 fun _ _ _ _ _ _ _ _=>rfl;obtain⟨d11,F11,m11,k11⟩:=h11.go X G;have b11:z0u K d11 ["_law_rows_here","_law_line","_law_marks"] []:=zgT F11 fun _ _ _ _ _ _ _ _ _=>rfl;obtain⟨d12,F12,m12,k12⟩:=h12.go X G;have b12:z0u K d12 ["_law_rows_here","_law_start"] []:=z9E F12 fun _ _ _ _ _ _ _ _=>rfl;obtain⟨d13,F13,m13,k13⟩:=h13.go X G;have b13:z0u K d13 ["_law_cell_here","_law_many"] []:=z9E F13 fun _ _ _ _ _ _ _ _=>rfl;obtain⟨d14,F14,m14,k14⟩:=h14.go X G;have b14:z0u K d14 ["_law_pick","_law_letters_here"] []:=z9E F14 fun _ _ _ _ _ _ _ _=>rfl;obtain⟨d15,F15,m15,k15⟩:=h15.go X G;have b15:z0u K d15 ["_law_letters_here","_law_cell_here"] []:=z9E F15 fun _ _ _ _ _ _ _ _=>rfl;obtain⟨d16,F16,m16,k16⟩:=h16.go X G;have b16:z0u K d16 ["_law_letters_here","_law_cell_here"] []:=z9E F16 fun _ _ _ _ _ _ _ _=>rfl;obtain⟨d17,F17,m17,k17⟩:=h17.go X G;have b17:z0u K d17 ["_law_found"] []:=zfH F17 fun _ _ _ _ _ _ _=>rfl;obtain⟨d18,F18,m18,k18⟩:=h18.go X G;have b18:z0u K d18 ["_law_found","_law_due"] []:=z9E F18 fun _ _ _ _ _ _ _ _=>rfl;obtain⟨d19,F19,m19,k19⟩:=h19.go X G;have b19:z0u K d19 ["_law_letters_here","_law_cell_here"] []:=z9E F19 fun _ _ _ _ _ _ _ _=>rfl;have F20:=z86 (st:=z8n) l20 c20 k20;have m20:=y2W X G a20;have mTooMany:=y2W X G yTooMany;have j1:=y2W X G i1;have n_len:=y0N X G z1;have n_tuple:=y0N X G z2;have n_list:=y0N X G z3;have n_range:=y0N X G z4;have n_isinstance:=y0N X G z5;have n_int:=y0N X G z6;have n_bool:=y0N X G z7;have n_str:=y0N X G z8;have n_all:=y0N X G z9;have n_any:=y0N X G z10;have n_sorted:=y0N X G z11;have n_zip:=y0N X G z12;have n_max:=y0N X G z13;have n_min:=y0N X G z14;have n_enumerate:=y0N X G z15;have n_abs:=y0N X G z16;have n_set:=y0N X G z17;have B:Blt mg:=⟨n_len,n_tuple,n_list,n_range,n_isinstance,n_int,n_bool,n_str,n_all⟩;refine⟨PySem.W.fnOf "law" "law" (z1B z8n) (z0Q z8n) (z08 z8n) .none kV20 dc20 pm20 an20 cd20 ct20,fun s v=>.of_eq rfl,?_,fun base hK _ hBM=>?_⟩
 .simp only[zbu,List.forall_mem_cons];exact⟨⟨u1,cc1,t1⟩,⟨u8,cc8,t8⟩,fun _ h=>absurd h (by simp)⟩
 have O6:z0K l.prog w K mg base (CXx l.prog w) 1 f6 _ ["things"] (z3A K):=z7F F6 B.len;have O5:z0K l.prog w K mg base (CXx l.prog w) 1 f5 _ ["kinds","goings"] (z8o K):=zdD F5 B.tup;have O4:z0K l.prog w K mg base (CXx l.prog w) 2 f4 _ ["rows"] (z5O K CtTooMany):=zau mTooMany xTooMany PySem.F.excBase_ValueError F4 n_zip n_max j1 O6 b6 k6 m6 O5 b5 k5 m5;have O3F:z0K l.prog w K mg base (CXx l.prog w) 5 f3 _ ["first","row_at"] (z7J l.prog w K mg base (CXx l.prog w) 4):=zbY F3 B.len B.tup;have O2F:z0K l.prog w K mg base (CXx l.prog w) 6 f2 _ ["first","row_at"] (z60 l.prog w K mg base (CXx l.prog w) 4 CtTooMany):=((z9U F2 B.len B.tup n_zip (O3F.sub zeZ) b3 k3 m3 (O4.mono (by decide)) b4 k4 m4 (O5.mono (by decide)) b5 k5 m5).sub zdt);have O1:z0K l.prog w K mg base (CXx l.prog w) 7 f1 _ ["guise","row"] (z9Q (zbu P1 P8) K):=ze3 F1 rfl (PySem.W.codeHd_of_K hK t1) hBM y0p (zaG nP y0p) rfl rfl O2F b2 k2 m2;have O7:z0K l.prog w K mg base (CXx l.prog w) 8 f7 _ ["guise"] (z2S (zbu P1 P8) K):=z78 B.len B.rng F7 O1 b1 k1 m1;have O8:z0K l.prog w K mg base (CXx l.prog w) 9 f8 _ ["guises"] (zb5 (zbu P1 P8) K):=zed B.len n_sorted F8 rfl (PySem.W.codeHd_of_K hK t8) hBM (y0e _ y0p) (zaG nP (y0e _ y0p)) rfl rfl O7 b7 k7 m7;have O9:z0K l.prog w K mg base (CXx l.prog w) 1 f9 _ ["_law_script","_law_at"] (z8J K):=ze5 F9 B.len;have O10:z0K l.prog w K mg base (CXx l.prog w) 2 f10 _ ["_law_script","_law_at"] (z4I K):=z9m F10 O9 b9 k9 m9;have O13:z0K l.prog w K mg base (CXx l.prog w) 1 f13 _ ["_law_cell_here","_law_many"] (z3h K):=z9l F13 B.len;have O14:z0K l.prog w K mg base (CXx l.prog w) 1 f14 _ ["_law_pick","_law_letters_here"] (z8x K):=zdq F14 B.len B.tup B.rng B.lst;have O15:z0K l.prog w K mg base (CXx l.prog w) 2 f15 _ ["_law_letters_here","_law_cell_here"] (zb9 K):=zdz F15 B.rng B.tup n_min O13 b13 k13 m13 O14 b14 k14 m14;have O11:z0K l.prog w K mg base (CXx l.prog w) 1 f11 _ ["_law_rows_here","_law_line","_law_marks"] (z4q K):=z9c F11 B.len B.tup;have O12:z0K l.prog w K mg base (CXx l.prog w) 2 f12 _ ["_law_rows_here","_law_start"] (z3a K):=z8V F12 B.len B.tup O11 b11 k11 m11;have O17:z0K l.prog w K mg base (CXx l.prog w) 1 f17 _ ["_law_found"] (z6c K):=zc1 F17 B;have O16:z0K l.prog w K mg base (CXx l.prog w) 3 f16 _ ["_law_letters_here","_law_cell_here"] (z5w K):=zca F16 O15 b15 k15 m15 ((O12.mono (by decide)).sub z50) b12 k12 m12;have O19:z0K l.prog w K mg base (CXx l.prog w) 4 f19 _ ["_law_letters_here","_law_cell_here"] (z80 K):=zcl F19 B.rng B.tup (O13.mono (by decide)) b13 k13 m13 (O14.mono (by decide)) b14 k14 m14 ((O12.mono (by decide)).sub z50) b12 k12 m12 (O16.mono (by decide)) b16 k16 m16;have O18:z0K l.prog w K mg base (CXx l.prog w) 6 f18 _ ["_law_found","_law_due"] (z4o K 5):=z84 F18 B O17 b17 k17 m17 b18 k18 m18 5;exact zfC B.len B.rng n_sorted n_set B.lst F20 (O9.mono (by decide)) b9 k9 m9 (O10.mono (by decide)) b10 k10 m10 (O16.mono (by decide)) b16 k16 m16 (O19.mono (by decide)) b19 k19 m19 (O12.mono (by decide)) b12 k12 m12 O8 b8 k8 m8 (O18.mono (by decide)) b18 k18 m18
def walk{l:PySem.W.OpenLaw}{q:Program}{loose:List Str}{XP:(yyS)->Heap->Prop}{YP:World->Heap->Prop}{d:DefRec}{K:Params->yyF}{P1 P8:Addr}(hn:l.most=some 63)(hdf:d.params.defaults=[])(hY:∀(w:World) (h:Heap),YP w h->(K w.params).In h/\∀P∈([P1,P8]:List Addr),h.get? P=some (PySem.W.tabObj #[]))(F:∀(w:World) (mg:yyS) (fa:Addr) (h:Heap),(K w.params).In h->h.Ns mainGlobals mg->mg d.name=some (.ref fa) -> ∃fd:FuncData,(∀(s:Shared) (u:Value),BindsTo s fd ⟨[u],[]⟩ [("_law_script",u)])/\(∀T∈(zbu P1 P8),(K w.params).lookup T.at_=none/\∃c,PySem.W.codeHdIn (K w.params) c T.at_=true)/\∀base:Heap,(K w.params).In base->base.Ns mainGlobals mg->z4t base mg->z0K l.prog w (K w.params) mg base (CXx l.prog w) 10 fa fd ["_law_script"] (z8j (zbu P1 P8) (K w.params))) : PySem.W.WalkO q loose XP YP l.row.toRowW d [] (fun f vs=>PySem.call f vs) :=
 L2.walk_of2 (Ts:=(zbu P1 P8)) (n:=63) (k:=10) (x:="_law_script") (CX:=fun w=>(CXx l.prog w)) (sp:=fun w=>z8j (zbu P1 P8) (K w.params)) hn (by decide) hdf ⟨rfl,by decide,by decide⟩ hY F (fun _ _ a ns hl hT hS=>⟨a,ns,rfl,hS,hl,hT,fun _=>rfl⟩) fun _ _ _ _ _ z=>(by obtain⟨_,_,_,_,_,_,_,_,_,h⟩:=z;exact h)
end Gu
open PySem.W PyProof.Rows
set_option maxRecDepth 100000 in
set_option maxHeartbeats 0 in
theorem PySem.Challenge.cw_guisery_k27_crews_told_holds : PySem.Challenge.rw_guisery_k27_crews_told.Holds := by
 w_on;o_law;refine holds_open (q:=Gu.viewOf Gu.pY) (loose:=[]) (Xt:=fun s=>xlAt (Gu.viewOf Gu.pY) [] s&&recOk (RowW.records Gu.rY.toRowW) s) (XP:=XL (Gu.viewOf Gu.pY) []) (Yf:=Hook.obs Gu.HK) (Ya:=Hook.val Gu.HK) (YP:=Hook.says (PySem.W.kmHook Gu.KH Gu.KA (fun _=>by kernel_rfl) [41,80])) (N:=2156) Gu.left (Hook.of Gu.HK) (Hook.keeps Gu.HK) (fun s e=>xl_of s (Bool.and_eq_true_iff.mp e).1) XL.keeps (by rfl) (by rfl) (by rfl) (fun s e=>recFacts_of (Bool.and_eq_true_iff.mp e).2) (by rfl) (by first|assumption|decide +kernel) (by decide +kernel) ⟨rfl,rfl,rfl,rfl,rfl,by decide +kernel⟩ ?hw ?hc;(case hw=>w_witness2)
 k_fill
 refine Gu.walk (l:=PySem.Challenge.rw_guisery_k27_crews_told) rfl rfl (fun w h Y=>⟨PySem.W.km_in_of Y,PySem.W.km_tabs_of Y⟩) ?F;case F =>
  intro w mg fa h KX G hmg;refine' Gu.all_mk KX G hmg ?a1 ?l1 ?c1 ?k1 ?h2 ?h3 ?h4 ?h5 ?h6 ?h7 ?a8 ?l8 ?c8 ?k8 ?h9 ?h10 ?h11 ?h12 ?h13 ?h14 ?h15 ?h16 ?h17 ?h18 ?h19 ?a20 ?l20 ?c20 ?k20 ?t1 ?u1 ?t8 ?u8 ?nP ?i1 ?z1 ?z2 ?z3 ?z4 ?z5 ?z6 ?z7 ?z8 ?z9 ?z10 ?z11 ?z12 ?z13 ?z14 ?z15 ?z16 ?z17 ?yTooMany ?xTooMany;all_goals try (refine' Gu.FA.of ?_ ?_ ?_ ?_<;>try k_is)
  (case a1=>k_is);(case l1=>k_is);(case c1=>k_is);(case k1=>k_is)
  (case a8=>k_is);(case l8=>k_is);(case c8=>k_is);(case k8=>k_is)
  (case a20=>k_is);(case l20=>k_is);(case c20=>k_is);(case k20=>k_is)
  (case t1=>(first|kernel_rfl|k_is))
  (case u1=>(first|kernel_rfl|k_is))
  (case t8=>(first|kernel_rfl|k_is))
  (case u8=>(first|kernel_rfl|k_is))
  (case nP=>decide)
  (case i1=>k_is)
  (case z1=>k_is)
  (case z2=>k_is)
  (case z3=>k_is)
  (case z4=>k_is)
  (case z5=>k_is)
  (case z6=>k_is)
  (case z7=>k_is)
  (case z8=>k_is)
  (case z9=>k_is)
  (case z10=>k_is)
  (case z11=>k_is)
  (case z12=>k_is)
  (case z13=>k_is)
  (case z14=>k_is)
  (case z15=>k_is)
  (case z16=>k_is)
  (case z17=>k_is)
  (case yTooMany=>k_is)
  (case xTooMany=>k_exc)
