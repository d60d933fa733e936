import PyProof.Rows.All
import Wide.All
import OpenK.AllK
import Wide.FinOn
import Lean
import PyProof.EqAt
import PyProof.EqKinds
import PyProof.TupleCall
import PyProof.ListRange
import PyProof.TupleOfSeq
import PyProof.ConsumeWalk
import PyProof.WalksMore
import PyProof.Draws
import PyProof.EnumMake
import PyProof.ZipIter
import PyProof.Rows.EnumRows
import PyProof.Rows.FactsT2
import PyProof.MeetsSeq3
import PyProof.DictRoadsH
import PyProof.Rows.TupTab
import PyProof.Rows.SortWalk
import PyProof.Rows.SeqCalls
import PyProof.ListMulRoad
import KE.KDictLaws
import OpenK.KRaise
import KE.KLam
import KE.KNestM
import PyProof.IsRules
import KE.KDictList
import PyProof.DictCompW
import PyProof.Rows.SetFrom
import PyProof.Rows.SortRuns
import PySem.Challenge.RW_guisery_k34_whole_camps
set_option Elab.async false
set_option linter.all false
set_option maxRecDepth 100000
set_option maxHeartbeats 4000000
def y00:=@List.getElem?_eq_getElem
def y01:=@List.length_map
def y02:=@PySem.wpAny_bind
def y03:=@List.getD_eq_getElem?_getD
def y04:=@List.getElem?_map
def y05:=@PySem.Heap.get?_push_of_some
def y06:=@List.getElem?_eq_some_iff
def y07:=@List.mem_singleton
def y08:=@Option.some.inj
def y09:=@PySem.wpAny_pure
def y0a:=@List.mem_map
def y0b:=@Nat.le_refl
def y0c:=@Array.getElem?_eq_getElem
def y0d:=@List.map_append
def y0e:=@PySem.Heap.get?_push_size
def y0f:=@List.length_append
def y0g:=@List.mem_cons_of_mem
def y0h:=@List.getElem_mem
def y0i:=@List.mem_cons_self
def y0j:=@List.mem_cons
def y0k:=@PySem.Heap.lt_size
def y0l:=@Int.toNat_natCast
def y0m:=@List.map_cons
def y0n:=@Bool.false_eq_true
def y0o:=@PyProof.Rows.wpS_bind
def y0p:=@List.append_assoc
def y0q:=@List.length_take
def y0r:=@Nat.lt_of_lt_of_le
def y0s:=@List.mem_append
def y0t:=@List.mem_append_left
def y0u:=@Nat.ne_of_lt
def y0v:=@PyProof.Rows.wpS_pure
def y0w:=@Array.getElem?_toList
def y0x:=@List.take_of_length_le
def y0y:=@PySem.F.plainAttrs_list
def y0z:=@List.mem_of_getElem?
def y0A:=@PySem.F.slot_list_append
def y0B:=@PySem.F.type_list_append
def y0C:=@List.size_toArray
def y0D:=@List.take_add_one
def y0E:=@PyProof.Rows.boot_tuple
def y0F:=@List.getElem?_append_left
def y0G:=@PySem.boot_len
def y0H:=@List.mem_append_right
def y0I:=@List.getElem?_eq_none
def y0J:=@Array.length_toList
def y0K:=@Nat.zero_le
def y0L:=@List.map_congr_left
def y0M:=@Bool.false_ne_true
def y0N:=@List.length_cons
def y0O:=@List.take_length
def y0P:=@PySem.W.mg_none_of
def y0Q:=@Nat.le_trans
def y0R:=@PySem.PassesOwn.never
def y0S:=@List.pairwise_append
def y0T:=@List.take_append_drop
def y0U:=@List.idxOf_lt_length_of_mem
def y0V:=@of_decide_eq_true
def y0W:=@List.getElem?_append_right
def y0X:=@PySem.W.hideAll_none
def y0Y:=@Classical.byContradiction
def y0Z:=@decide_eq_false
def y10:=@PySem.wpAny_callSpecial?_slot
def y11:=@decide_eq_true
def y12:=@List.pairwise_iff_getElem
def y13:=@PySem.wpAny_newObj_type
def y14:=@Bool.eq_false_iff
def y15:=@PySem.wpAny_call_entry
def y16:=@of_decide_eq_false
def y17:=@List.getElem_of_mem
def y18:=@Array.toList_append
def y19:=@List.map_nil
def y1a:=@List.mem_iff_getElem
def y1b:=@List.nodup_iff_pairwise_ne
def y1c:=@List.lookup_cons
def y1d:=@List.eq_nil_of_length_eq_zero
def y1e:=@List.nodup_cons
def y1f:=@PySem.mem_of_lookup
def y1g:=@PySem.Heap.size_push
def y1h:=@List.map_map
def y1i:=@List.mem_of_mem_take
def y1j:=@PySem.wpAny_ite_split
def y1k:=@Array.toList_push
def y1l:=@PySem.Heap.get?_update_self
def y1m:=@List.replicate_succ
def y1n:=@PySem.Heap.SameBut.update
def y1o:=@List.not_mem_nil
def y1p:=@Nat.le_of_lt
def y1q:=@Nat.lt_or_ge
def y1r:=@PyProof.Rows.wpS_forRange
def y1s:=@PySem.Obj.data_mapFields
def y1t:=@List.append_nil
def y1u:=@Int.le_refl
def y1v:=@Ne.symm
def y1w:=@List.reverse_cons
def y1x:=@List.flatten_cons
def y1y:=@PySem.F.excBase_ValueError
def y1z:=@List.reverse_reverse
def y1A:=@List.drop_of_length_le
def y1B:=@List.foldl_cons
def y1C:=@List.getElem?_zip_eq_some
def y1D:=@List.drop_eq_getElem_cons
def y1E:=@List.getElem?_eq_none_iff
def y1F:=@Decidable.byContradiction
def y1G:=@congrArg
def y1H:=@if_false
def y1I:=@List.filterMap_cons
def y1J:=@PySem.wpAny_mono
def y1K:=@List.take_sublist
def y1L:=@List.Perm.append_left
def y1M:=@List.perm_append_comm
def y1N:=@List.mem_range
def y1O:=@PyProof.Rows.callWith_type1
def y1P:=@Bool.eq_iff_iff
def y1Q:=@List.nil_append
def y1R:=@List.getElem_idxOf
def y1S:=@PySem.Around.under_plainId
def y1T:=@List.length_pos_of_mem
def y1U:=@Int.ediv_lt_iff_lt_mul
def y1V:=@PySem.wpAny_truthy_bool
def y1W:=@List.pairwise_map
def y1X:=@List.ext_getElem?
def y1Y:=@List.getElem_take
def y1Z:=@List.length_range
def y20:=@PySem.wpAny_holding
def y21:=@PySem.wpAny_seqItems
def y22:=@PySem.W.mg_of
def y23:=@List.length_replicate
def y24:=@Int.natCast_mul
def y25:=@List.getElem?_take_of_lt
def y26:=@Nat.lt_of_le_of_lt
def y27:=@PySem.wpAny_rule
def y28:=@Int.emod_lt_of_pos
def y29:=@PySem.wpAny_field
def y2a:=@List.mem_of_mem_drop
def y2b:=@List.pairwise_singleton
def y2c:=@List.foldl_append
def y2d:=@List.length_nil
def y2e:=@PySem.F.slot_int_rmul
def y2f:=@List.find?_cons
def y2g:=@PySem.codeAny_builtin
def y2h:=@Array.size_push
def y2i:=@Option.map_eq_some_iff
def y2j:=@Array.getElem?_eq_none
def y2k:=@List.Perm.append_right
def y2l:=@PySem.F.slot_tuple_iterator_next
def y2m:=@List.getElem_map
def y2n:=@Nat.lt_irrefl
def y2o:=@PySem.wpAny_Call_Name_kw
def y2p:=@PySem.Obj.isFreed_of_fields
def y2q:=@PySem.wpAny_binaryOp_repeat_ref
def y2r:=@PySem.wpAny_setField
def y2s:=@List.nodup_nil
def y2t:=@List.extract_eq_take_drop
def y2u:=@Nat.pow_le_pow_right
def y2v:=@PyProof.Rows.wpS_mono
def y2w:=@PySem.wpAny_passesOwn
def y2x:=@if_true
def y2y:=@Nat.lt_succ_of_lt
def y2z:=@Int.emod_nonneg
def y2A:=@List.Pairwise.imp_of_mem
def y2B:=@List.idxOf_cons
def y2C:=@PySem.wpAny_setState_of
def y2D:=@PySem.PassesOwn.leaving
def y2E:=@Nat.ne_of_gt
def y2F:=@PySem.codeAny_mono
def y2G:=@PySem.wpAny_attempt
def y2H:=@List.length_eq_zero_iff
def y2I:=@Bool.not_true
def y2J:=@PySem.wpAny_setEntries_of
def y2K:=@Nat.add_sub_cancel_left
def y2L:=@List.all_eq_true
def y2M:=@List.any_eq_true
def y2N:=@PySem.wpAny_isInstance
def y2O:=@List.take_append_of_le_length
def y2P:=@PySem.Heap.get?_update_other
def y2Q:=@List.pairwise_lt_range
def y2R:=@PySem.W.of_hideAll
def y2S:=@PySem.wpAny_pyIter_tuple
def y2T:=@List.getElem?_drop
def y2U:=@List.mem_replicate
def y2V:=@PySem.wpAny_setField_rec
def y2W:=@List.mem_filter
def y2X:=@List.of_mem_zip
def y2Y:=@Nat.zero_add
def y2Z:=@Nat.not_lt_zero
def y30:=@Int.ediv_nonneg
def y31:=@Int.add_mul_emod_self_right
def y32:=@PySem.F.called_set
def y33:=@PySem.call_meets
def y34:=@Option.isSome_map
def y35:=@List.Pairwise.nil
def y36:=@List.drop_sublist
def y37:=@List.length_eraseIdx_of_lt
def y38:=@Array.getElem?_eq_some_iff
def y39:=@Array.toList_extract
def y3a:=@PySem.Calls.call_function_entry
def y3b:=@Bool.and_eq_true
def y3c:=@PySem.F.slot_tuple_mul
def y3d:=@List.ext_getElem
def y3e:=@beq_eq_false_iff_ne
def y3f:=@Nat.add_eq_zero_iff
def y3g:=@List.length_reverse
def y3h:=@List.filter_sublist
def y3i:=@PySem.typeIs_int
def y3j:=@True.intro
def y3k:=@beq_iff_eq
def y3l:=@PySem.wpAny_execs_nil
def y3m:=@List.mem_filterMap
def y3n:=@PySem.Calls.spliced_cons
def y3o:=@List.getElem?_replicate
def y3p:=@PySem.wpAny_specialOf
def y3q:=@PySem.plainId_quiet
def y3r:=@or_false
def y3s:=@Nat.add_assoc
def y3t:=@List.length_zip
def y3u:=@Nat.min_eq_left
def y3v:=@Int.natCast_pow
def y3w:=@PyProof.Rows.F.plain_set_update_loop
def y3x:=@List.getElem?_set_self
def y3y:=@Int.add_mul_ediv_right
def y3z:=@Int.ediv_eq_zero_of_lt
def y3A:=@PySem.sizeLine_eq
def y3B:=@PySem.F.args_int_rmul_2
def y3C:=@PySem.F.plain_list_iadd
def y3D:=@PySem.Obj.cls_mapFields
def y3E:=@PySem.F.slot_tuple_hash
def y3F:=@List.nodup_append
def y3G:=@List.getElem_drop
def y3H:=@PySem.fits_of_scanBound
def y3I:=@Nat.lt_trans
def y3J:=@Nat.add_zero
def y3K:=@List.eq_replicate_iff
def y3L:=@Nat.sub_self
def y3M:=@Int.mul_ediv_add_emod
def y3N:=@Int.add_comm
def y3O:=@PyProof.Rows.boot_max
def y3P:=@List.length_filter_le
def y3Q:=@List.getElem_inj
def y3R:=@List.length_drop
def y3S:=@PySem.F.slot_int_index
def y3T:=@PySem.F.entry_int_rmul
def y3U:=@PySem.wpAny_pyIter_zip
def y3V:=@Option.getD_some
def y3W:=@PySem.Heap.get?_none_of_le
def y3X:=@List.getElem?_set_ne
def y3Y:=@PySem.Calls.evalArgs_plain
def y3Z:=@Array.toList_reverse
def y40:=@PySem.Paired.length
def y41:=@Sum.inl.inj
def y42:=@PySem.F.fills_int_mul
def y43:=@List.forIn_cons
def y44:=@Nat.one_ne_zero
def y45:=@List.range_succ
def y46:=@PySem.F.slot_zip_next
def y47:=@List.Perm.trans
def y48:=@Nat.pow_succ
def y49:=@PyProof.Rows.wpS_modify
def y4a:=@Prod.ext
def y4b:=@PyProof.Rows.wpS_get
abbrev yyF:=PySem.W.Frag
abbrev yyP:=List (PySem.Addr × PySem.Obj)
abbrev yyE:=PySem.Value->PySem.Shared->Prop
abbrev yyS:=PySem.Str->Option PySem.Value
namespace L2
open PySem PySem.Spec PyProof.Rows
abbrev Key:=Sum Int Str
def zaw:Key->Value->Bool
 |.inl k,v=>Value.isInt k v
 |.inr x,v=>Value.isStrOf x v
def ziP(w:World):Key->Int
 |.inl k=>hashInt k
 |.inr x=>hashStr w x
def z0X:∀{k:Key}{v:Value},zaw k v=true->(∃i t,k=Sum.inl i/\v=Value.int i t)\/(∃x t,k=Sum.inr x/\v=Value.str x t)
 |.inl i,v,h=>by
  obtain⟨t,e⟩:=Value.isInt_shape (k:=i) (v:=v) h;exact .inl ⟨i,t,rfl,e⟩
 |.inr x,v,h=>by obtain⟨t,e⟩:=Value.isStrOf_shape (x:=x) (v:=v) h;exact .inr ⟨x,t,rfl,e⟩
def zbh(i:Int)(t:Tok):zaw (.inl i) (.int i t)=true:=by simp[zaw,Value.isInt]
def zcJ(x:Str)(t:Tok):zaw (.inr x) (.str x t)=true:=by simp[zaw,Value.isStrOf]
def zg7(a b:Int):decide ((Sum.inl a:Key)=Sum.inl b)=(a==b):=by
 by_cases e:a=b
 .subst e;simp
 .have h:¬(Sum.inl a:Key)=Sum.inl b:=fun q=>e (y41 q);rw[y0Z h];exact(y3e.mpr e).symm
def zgn(a b:Str):decide ((Sum.inr a:Key)=Sum.inr b)=decide (a=b):=by
 by_cases e:a=b
 .subst e;simp
 .have h:¬(Sum.inr a:Key)=Sum.inr b:=fun q=>e (Sum.inr.inj q);rw[y0Z h,y0Z e]
def zgv(a:Int)(b:Str):decide ((Sum.inl a:Key)=Sum.inr b)=false:=y0Z (fun q=>nomatch q)
def zh5(a:Str)(b:Int):decide ((Sum.inr a:Key)=Sum.inl b)=false:=y0Z (fun q=>nomatch q)
def z1r(prog:Program)(w:World):PySem.KeyKind prog w Key where
 is:=zaw
 hash:=ziP w
 inj:=fun v a b ha hb=>by
  rcases z0X ha with⟨i,t,rfl,rfl⟩|⟨x,t,rfl,rfl⟩
  .rcases z0X hb with⟨j,u,rfl,e⟩|⟨y,u,rfl,e⟩
   .injection e with e1 _;rw[e1]
   .exact nomatch e
  .rcases z0X hb with⟨j,u,rfl,e⟩|⟨y,u,rfl,e⟩
   .exact nomatch e
   .injection e with e1 _;rw[e1]
 byValue:=fun k v h=>by rcases z0X h with⟨i,t,rfl,rfl⟩|⟨x,t,rfl,rfl⟩<;>rfl
 pyHash:=fun hv h=>by
  rcases z0X hv with⟨i,t,rfl,rfl⟩|⟨x,t,rfl,rfl⟩
  .exact wpAny_pyHash_int h
  .exact wpAny_pyHash_str h
 eqBool:=fun hu hv h=>by
  rcases z0X hu with⟨i,t,rfl,rfl⟩|⟨x,t,rfl,rfl⟩
  .rcases z0X hv with⟨j,u,rfl,rfl⟩|⟨y,u,rfl,rfl⟩
   .rw[zg7]at h;exact wpAny_eqBool_int h
   .rw[zgv]at h;exact SeqAt.EqAt.int_str i t y u _ _ _ _ h
  .rcases z0X hv with⟨j,u,rfl,rfl⟩|⟨y,u,rfl,rfl⟩
   .rw[zh5]at h;exact SeqAt.EqAt.str_int x t j u _ _ _ _ h
   .rw[zgn]at h;exact wpAny_eqBool_str h
 «strs»:=fun k x t v h=>by
  rcases z0X h with⟨i,u,rfl,e⟩|⟨y,u,rfl,e⟩
  .exact nomatch e
  .injection e with e1 _;subst e1;cases v<;>rfl
def z8T(prog:Program)(w:World)(i:Int)(t:Tok):(z1r prog w).is (.inl i) (.int i t)=true:=zbh i t
def z8q(prog:Program)(w:World)(x:Str)(t:Tok):(z1r prog w).is (.inr x) (.str x t)=true:=zcJ x t
inductive V where
 |non|bl (b:Bool)|int (i:Int)|str (x:Str)|byt (b:Array UInt8)|flt (b:UInt64)|ref (a:Addr)|ty (n:String)
 deriving DecidableEq
def z1i:V->Value->Prop
 |.non,u=>u=Value.none
 |.bl b,u=>u=Value.bool b
 |.int i,u=>∃t,u=Value.int i t
 |.str x,u=>∃t,u=Value.str x t
 |.byt b,u=>∃t,u=Value.bytes b t
 |.flt b,u=>∃t,u=Value.float b t
 |.ref a,u=>u=Value.ref a
 |.ty n,u=>u=Value.type n
abbrev z0T:List V->List Value->Prop:=Paired z1i
theorem z0T.length{xs:List V}{us:List Value}(r:z0T xs us):xs.length=us.length:=y40 r
theorem z0T.get:∀{xs:List V}{us:List Value}{i:Nat}{x:V},z0T xs us->xs[i]?=some x->∃u,us[i]?=some u/\z1i x u
 |_,_,_,_,.nil,e=>by simp at e
 |_,_,0,_,.cons r _,e=>by simp at e;subst e;exact⟨_,rfl,r⟩
 |_,_,i+1,x,.cons _ t,e=>by obtain⟨u,h1,h2⟩:=z0T.get (i:=i) (x:=x) t (by simpa using e);exact⟨u,by simpa using h1,h2⟩
theorem z0T.set{x:V}{u:Value}(r:z1i x u):∀{xs:List V}{us:List Value}(i:Nat),z0T xs us->z0T (xs.set i x) (us.set i u)
 |_,_,_,.nil=>.nil
 |_,_,0,.cons _ t=>.cons r t
 |_,_,i+1,.cons q t=>.cons q (z0T.set r i t)
theorem z0T.append:∀{xs ys:List V}{us ws:List Value},z0T xs us->z0T ys ws->z0T (xs++ys) (us++ws)
 |_,_,_,_,.nil,s=>s
 |_,_,_,_,.cons r t,s=>.cons r (z0T.append t s)
theorem z0T.take:∀{xs:List V}{us:List Value}(n:Nat),z0T xs us->z0T (xs.take n) (us.take n)
 |_,_,0,_=>.nil
 |_,_,_+1,.nil=>.nil
 |_,_,n+1,.cons r t=>.cons r (z0T.take n t)
theorem z0T.drop:∀{xs:List V}{us:List Value}(n:Nat),z0T xs us->z0T (xs.drop n) (us.drop n)
 |_,_,0,r=>r
 |_,_,_+1,.nil=>.nil
 |_,_,n+1,.cons _ t=>z0T.drop n t
def za5:Option V->Option Value->Prop
 |some v,some u=>z1i v u
 |none,none=>True
 |_,_=>False
def KV{κ:Type}:List (κ × V)->List (κ × Value)->Prop:=Paired fun(p:κ × V)(q:κ × Value)=>p.1=q.1/\z1i p.2 q.2
def kV:Key->V
 |.inl i=>.int i
 |.inr x=>.str x
inductive HO where
  |lst (xs:List V)
  |tup (xs:List V)
  |dK (kvs:List (Key × V))|dT (kvs:List (List Key × V))
  |set (S:Int->Bool) (n:Nat)
  |ins (C dx:Addr) (fs:List (Str × V))
  |own (x:Addr)
  |xd (fs:List (Str × V))
  |met (f x:Addr)
  |rng (lo hi:Int)
  |frz (o:Obj) (u:HO)
  |tbl (ps:Array Value)
  |ext (φ:Heap->Prop)
abbrev Hp:=Addr->Option HO
def upd(H:Hp)(a:Addr)(o:HO):Hp:=fun b=>if b=a then some o else H b
def z01{H:Hp}{a:Addr}{o:HO}:upd H a o a=some o:=by unfold upd;rw[if_pos rfl]
def z07{H:Hp}{a b:Addr}{o:HO}(h:b≠a):upd H a o b=H b:=by unfold upd;rw[if_neg h]
def z47{H:Hp}{a b:Addr}{o u:HO}(h:H a=some o)(h':H b=some u)(d:o≠u):a≠b:=by intro e;subst e;rw[h]at h';exact d (y08 h')
def z0e{H:Hp}{a b:Addr}{o:HO}(h:H a=some o)(h':H b=none):a≠b:=by intro e;subst e;rw[h]at h';cases h'
section
variable(P:Program)(w:World)
def z1Q(H:Hp)(h:Heap)(a:Addr):HO->Prop
 |.lst xs=>xs.length<=sizeLine/\∃(its:List Value) (n:Nat),z0T xs its/\h.get? a=some { cls:=.type "list",data:=.seq its.toArray n }
 |.tup xs=>xs.length<=sizeLine/\∃(its:List Value) (n:Nat),z0T xs its/\h.get? a=some { cls:=.type "tuple",data:=.seq its.toArray n }
 |.dK kvs=>kvs.length<=sizeLine/\(a==sysModules)=false/\∃vs,KV kvs vs/\h.DictOf (z1r P w) a vs
 |.dT kvs=>kvs.length<=sizeLine/\(a==sysModules)=false/\∃xs:List (List Key × Addr × Value),
   Paired (fun(p:List Key × V)(q:List Key × Addr × Value)=>p.1=q.1/\H q.2.1=some (.tup (p.1.map kV))/\z1i p.2 q.2.2) kvs xs /\
   ∃o es ep,h.get? a=some o/\o.ExactDict/\o.data=.dict es ep/\es.toList=xs.map (entryOfKey (tupleKind (z1r P w)))/\(xs.map (·.1)).Nodup
 |.set S n=>h.SetOf (intKind P w) a S n
 |.ins C dx fs=>H dx=some (.own a)/\fs.length<=1000/\dx≠a/\h.get? a=some (PySem.W.instObj C dx) /\
   ∃mA,h.Ns1 dx mA/\(∀f,za5 (fs.lookup f) (mA f))/\PySem.Within mA (fs.map (·.1))
 |.own _=>∃o,h.get? a=some o
 |.xd fs=>∃mA,h.Ns1 a mA/\∀f,za5 (fs.lookup f) (mA f)
 |.rng lo hi=>∃t u v,h.get? a=some { cls:=.type "range",data:=.fields #[.int lo t,.int hi u,.int 1 v] }
 |.frz o u=>h.get? a=some o/\z1Q H h a u
 |.tbl ps=>h.get? a=some { cls:=.none,data:=.fields ps }
 |.met f x=>h.get? a=some (PySem.W.methodObj (.ref f) (.ref x))
 |.ext φ=>φ h/\(∃o,h.get? a=some o)/\∀h1 h2:Heap,φ h1->(∀o,h1.get? a=some o->h2.get? a=some o)->φ h2
def HOk(H:Hp)(h:Heap):Prop:=∀a o,H a=some o->z1Q P w H h a o
end
section
variable{P:Program}{w:World}{H H':Hp}{h h':Heap}{a:Addr}{o:HO}
def z1Q.lt(x:z1Q P w H h a o):a<h.objs.size:=by
 cases o with
 |lst xs=>obtain⟨_,_,_,_,e⟩:=x;exact y0k e
 |tup xs=>obtain⟨_,_,_,_,e⟩:=x;exact y0k e
 |dK kvs=>obtain⟨_,_,_,_,o,_,_,e,_⟩:=x;exact y0k e
 |dT kvs=>obtain⟨_,_,_,_,o,_,_,e,_⟩:=x;exact y0k e
 |set S n=>obtain⟨o,_,_,_,e,_⟩:=x;exact y0k e
 |ins C dx fs=>obtain⟨_,_,_,e,_⟩:=x;exact y0k e
 |own y=>obtain⟨_,e⟩:=x;exact y0k e
 |xd fs=>obtain⟨_,⟨_,_,_,e,_⟩,_⟩:=x;exact y0k e
 |rng lo hi=>obtain⟨_,_,_,e⟩:=x;exact y0k e
 |frz ob u=>obtain⟨e,_⟩:=x;exact y0k e
 |tbl ps=>exact y0k (show h.get? a=some _ from x)
 |met f y=>exact y0k (show h.get? a=some _ from x)
 |ext φ=>obtain⟨_,⟨_,e⟩,_⟩:=x;exact y0k e
theorem Paired.mapP{α β:Type}{F G:α->β->Prop}:∀{l₁:List α}{l₂:List β},Paired F l₁ l₂->(∀a b,F a b->G a b)->Paired G l₁ l₂
 |_,_,.nil,_=>.nil
 |_,_,.cons r t,f=>.cons (f _ _ r) (Paired.mapP t f)
def z1Q.stay(x:z1Q P w H h a o)(k:∀b u,(b=a\/H b=some (.own a))->h.get? b=some u->h'.get? b=some u)(ho:∀b,H b=some (.own a)->H' b=some (.own a))(ht:∀b xs,H b=some (.tup xs)->H' b=some (.tup xs)):z1Q P w H' h' a o:=by
 induction o with
 |lst xs=>obtain⟨z,its,n,r,e⟩:=x;exact⟨z,its,n,r,k _ _ (.inl rfl) e⟩
 |tup xs=>obtain⟨z,its,n,r,e⟩:=x;exact⟨z,its,n,r,k _ _ (.inl rfl) e⟩
 |dK kvs=>obtain⟨z,y,vs,r,ob,es,ep,e,c⟩:=x;exact⟨z,y,vs,r,ob,es,ep,k _ _ (.inl rfl) e,c⟩
 |dT kvs =>
  obtain⟨z,y,xs,r,ob,es,ep,e,c⟩:=x;exact⟨z,y,xs,Paired.mapP r fun p q z=>⟨z.1,ht _ _ z.2.1,z.2.2⟩,ob,es,ep,k _ _ (.inl rfl) e,c⟩
 |set S n=>obtain⟨ob,es,ep,t,e,c⟩:=x;exact⟨ob,es,ep,t,k _ _ (.inl rfl) e,c⟩
 |ins C dx fs =>
  obtain⟨d,z,ne,e,mA,⟨od,es,ep,e2,c⟩,r⟩:=x;exact⟨ho _ d,z,ne,k _ _ (.inl rfl) e,mA,⟨od,es,ep,k _ _ (.inr d) e2,c⟩,r⟩
 |own y=>obtain⟨ob,e⟩:=x;exact⟨ob,k _ _ (.inl rfl) e⟩
 |xd fs=>obtain⟨mA,⟨od,es,ep,e,c⟩,r⟩:=x;exact⟨mA,⟨od,es,ep,k _ _ (.inl rfl) e,c⟩,r⟩
 |rng lo hi=>obtain⟨t,u,v,e⟩:=x;exact⟨t,u,v,k _ _ (.inl rfl) e⟩
 |frz ob u ih=>obtain⟨e,q⟩:=x;exact⟨k _ _ (.inl rfl) e,ih q⟩
 |tbl ps =>
  have e:h.get? a=some { cls:=.none,data:=.fields ps }:=x;show h'.get? a=some { cls:=.none,data:=.fields ps };exact k a _ (.inl rfl) e
 |met f y =>
  have e:h.get? a=some (PySem.W.methodObj (.ref f) (.ref y)):=x;show h'.get? a=some (PySem.W.methodObj (.ref f) (.ref y));exact k a _ (.inl rfl) e
 |ext φ=>obtain⟨p,⟨o,e⟩,st⟩:=x;exact⟨st _ _ p fun o q=>k _ _ (.inl rfl) q,⟨o,k _ _ (.inl rfl) e⟩,st⟩
theorem HOk.lt(x:HOk P w H h)(e:H a=some o):a<h.objs.size:=(x a o e).lt
def HOk.fresh(x:HOk P w H h)(e:h.objs.size<=a):H a=none:=by
 cases q:H a with
 |none=>rfl
 |some u=>exact absurd (y0r (x.lt q) e) (y2n _)
def HOk.kept(x:HOk P w H h)(k:∀b u,h.get? b=some u->h'.get? b=some u):HOk P w H h':=fun a o e =>
 (x a o e).stay (fun b u _ q=>k b u q) (fun _ q=>q) fun _ _ q=>q
def HOk.laid(x:HOk P w H h)(k:∀b u,h.get? b=some u->h'.get? b=some u)(hp:h.objs.size<=a)(new:z1Q P w (upd H a o) h' a o):HOk P w (upd H a o) h':=fun b u e=>by
 have hn:=x.fresh hp;by_cases hb:b=a
 .subst hb;rw[z01]at e;cases e;exact new
 .rw[z07 hb]at e;exact(x b u e).stay (fun c v _ q=>k c v q) (fun c q=>by rw[z07 (z0e q hn)];exact q) fun c xs q=>by rw[z07 (z0e q hn)];exact q
end
def Rd(H:Hp)(a:Addr)(u:HO):Prop:=H a=some u\/∃o,H a=some (.frz o u)
def Rd.ok{P:Program}{w:World}{H:Hp}{h:Heap}{a:Addr}{u:HO}(r:Rd H a u)(x:HOk P w H h):z1Q P w H h a u:=by
 rcases r with r|⟨o,r⟩
 .exact x a u r
 .obtain⟨_,q⟩:=x a _ r;exact q
def Mut:Option HO->Prop
 |some (.lst _)=>True
 |some (.dK _)=>True
 |some (.dT _)=>True
 |some (.set _ _)=>True
 |some (.ins _ _ _)=>True
 |some (.ext _)=>True
 |_=>False
section
variable{P:Program}{w:World}{H:Hp}{h h':Heap}{x e:Addr}{o':HO}
def HOk.write(ok:HOk P w H h)(mu:Mut (H x))(he:e=x\/H e=some (.own x))(k:∀b u,b≠e->h.get? b=some u->h'.get? b=some u)(heo:∃u,h'.get? e=some u)(new:z1Q P w (upd H x o') h' x o'):HOk P w (upd H x o') h':=fun b u q=>by
 have nown:∀c y,H c=some (.own y)->c≠x:=fun c y r z=>by subst z;rw[r]at mu;exact mu
 have ntup:∀c xs,H c=some (.tup xs)->c≠x:=fun c xs r z=>by subst z;rw[r]at mu;exact mu
 by_cases hb:b=x
 .subst hb;rw[z01]at q;cases q;exact new
 .rw[z07 hb]at q;by_cases hbe:b=e
  .have q':H b=some (.own x):=by
    rcases he with z|z
    .exact absurd (hbe.trans z) hb
    .rw[hbe];exact z
   rw[q]at q';cases q';obtain⟨v,hv⟩:=heo;exact⟨v,by rw[hbe];exact hv⟩
  .refine(ok b u q).stay (fun c v hc r=>k c v ?_ r) (fun c r=>by rw[z07 (nown c b r)];exact r) fun c xs r=>by rw[z07 (ntup c xs r)];exact r
   rcases hc with rfl|hc
   .exact hbe
   .rintro rfl;rcases he with z|z
    .exact nown c b hc z
    .rw[hc]at z;cases z;exact hb rfl
end
structure Un(fs ex:List Addr)(H H':Hp)(h h':Heap):Prop where
 keep:∀b o,h.get? b=some o->H b=none->b∉fs->b∉ex->h'.get? b=some o
 slot:∀b o,h.get? b=some o->H b=none->b∈fs->b∉ex->∃sl,h'.get? b=some { o with slots:=sl }
 free:∀b o,h.get? b=some o->H b=none->b∉ex->H' b=none
 there:∀b o,h.get? b=some o->b∉ex->∃o',h'.get? b=some o'
 tups:∀b xs,H b=some (.tup xs)->H' b=some (.tup xs)
 frzs:∀b o u,H b=some (.frz o u)->H' b=some (.frz o u)
 tbls:∀b ps,H b=some (.tbl ps)->∃more,H' b=some (.tbl (ps++more))
section
variable{fs fs' ex ex':List Addr}{H H1 H2:Hp}{h h1 h2 h':Heap}{a x e:Addr}{o:HO}
def Un.any(u:Un fs ex H H1 h h1){b:Addr}{ob:Obj}(q:h.get? b=some ob)(n:H b=none)(hx:b∉ex):∃sl,h1.get? b=some { ob with slots:=sl }:=by
 by_cases hb:b∈fs
 .exact u.slot b ob q n hb hx
 .exact⟨ob.slots,u.keep b ob q n hb hx⟩
def Un.kept(k:∀b u,h.get? b=some u->h'.get? b=some u):Un fs ex H H h h' :=
 ⟨fun b ob q _ _ _=>k b ob q,fun b ob q _ _ _=>⟨ob.slots,k b ob q⟩,fun _ _ _ n _=>n,fun b ob q _=>⟨ob,k b ob q⟩,fun _ _ q=>q,fun _ _ _ q=>q,fun _ ps q=>⟨#[],by rw[q];simp⟩⟩
def Un.refl:Un fs ex H H h h:=Un.kept fun _ _ q=>q
def Un.laid(k:∀b u,h.get? b=some u->h'.get? b=some u)(hp:h.objs.size<=a)(hn:H a=none):Un fs ex H (upd H a o) h h' where
 keep:=fun b u q _ _ _=>k b u q
 slot:=fun b u q _ _ _=>⟨u.slots,k b u q⟩
 free:=fun b u q n _=>by rw[z07 (y0u (y0r (y0k q) hp))];exact n
 there:=fun b u q _=>⟨u,k b u q⟩
 tups:=fun b xs q=>by rw[z07 (z0e q hn)];exact q
 frzs:=fun b u xs q=>by rw[z07 (z0e q hn)];exact q
 tbls:=fun b ps q=>⟨#[],by rw[z07 (z0e q hn),q];simp⟩
def Un.write(mu:Mut (H x))(he:e=x\/H e=some (.own x))(k:∀b u,b≠e->h.get? b=some u->h'.get? b=some u)(heo:∃u,h'.get? e=some u):Un fs ex H (upd H x o) h h':=by
 have hx:∀b,H b=none->b≠x:=fun b n z=>by subst z;rw[n]at mu;exact mu
 have hb:∀b,H b=none->b≠e:=fun b n z=>by
  subst z;rcases he with r|r
  .exact hx b n r
  .rw[n]at r;cases r
 have hm:∀b u,H b=some u->¬Mut (some u)->b≠x:=fun b u q nm z=>by subst z;rw[q]at mu;exact nm mu
 refine⟨fun b u q n _ _=>k b u (hb b n) q,fun b u q n _ _=>⟨u.slots,k b u (hb b n) q⟩,fun b u q n _=>by rw[z07 (hx b n)];exact n,fun b u q _=>?_,
  fun b xs q=>by rw[z07 (hm b _ q fun z=>z)];exact q,fun b u xs q=>by rw[z07 (hm b _ q fun z=>z)];exact q,fun b ps q=>⟨#[],by rw[z07 (hm b _ q fun z=>z),q];simp⟩⟩
 by_cases hbe:b=e
 .subst hbe;exact heo
 .exact⟨u,k b u hbe q⟩
end
def trk(h:Heap)(H:Hp):List Addr:=(List.range h.objs.size).filter fun a=>(H a).isSome
def zd9(h:Heap)(H:Hp):Heap:=PySem.W.hideAll h (trk h H)
def zb6(h:Heap)(H:Hp):(zd9 h H).objs.size=h.objs.size:=PySem.W.hideAll_size _ _
def zdD{h:Heap}{H:Hp}{b:Addr}{o:Obj}(e:h.get? b=some o)(n:H b=none):(zd9 h H).get? b=some o :=
 PySem.W.hideAll_get _ e fun hm=>by have q:(H b).isSome=true:=(y2W.mp hm).2;rw[n]at q;simp at q
def zfy{h:Heap}{H:Hp}{b:Addr}{o:Obj}(e:(zd9 h H).get? b=some o):h.get? b=some o/\H b=none:=by
 have e':h.get? b=some o:=y2R (trk h H) e;refine⟨e',?_⟩;cases q:H b with
 |none=>rfl
 |some x =>
  have hm:b∈trk h H:=y2W.mpr ⟨y1N.mpr (y0k e'),by simp[q]⟩;have z:(zd9 h H).get? b=none:=y0X (trk h H) hm;rw[z]at e;cases e
def zfb(g h:Heap)(L:Addr):yyP:=(List.range h.objs.size).filterMap fun a=>if a=L\/(g.get? a).isSome=true then none else(h.get? a).map fun o=>(a,o)
def z1B(g h:Heap)(L d:Addr):yyP:=(zfb g h L).filter fun p=>decide (p.1≠d)
structure Mod(K:yyF)(mg:yyS)(base:Heap):Prop where
 kin:K.In base
 glob:base.Ns mainGlobals mg
 blt:∃mb,base.Ns builtinsNs mb/\∀x:Str,x≠"__name__"->mb x=bootBuiltins x
 nolimit:base.NoLimit
structure Cx where
 prog:Program
 w:World
 K:yyF
 mg:yyS
 base:Heap
 A:Around
 N:List Str
 s₀:Shared
 H₀:Hp
 env:Env
 outer:List Env
 stack:List Env
 ex:List Addr
 fn:Str->Bool
 calm:Bool
 pn:yyP
 xe:yyE
def frs(l:List Env):List Addr:=l.filterMap (·.frame)
abbrev Cx.fs(X:Cx):List Addr:=frs X.outer
def Vis(sc:Scope)(x:Str):Prop:=sc.names.lookup x=some .local\/sc.names.lookup x=some .cell\/sc.names.lookup x=some .free
def Loc(sc:Scope)(x:Str):Prop:=sc.names.lookup x=some .local\/sc.names.lookup x=some .cell
def ziE(env:Env)(h:Heap)(m:yyS)(x:Str)(u:Value):Prop :=
 (env.kindOf x=some .local/\m x=some u)\/((env.kindOf x=some .cell\/env.kindOf x=some .free)/\∃c,env.cells.lookup x=some c/\h.IsCell c (some u))
structure Cx.Ok(X:Cx):Prop where
 mod:Mod X.K X.mg X.base
 kind:X.env.scope.kind=.function
 glob:X.env.globals=mainGlobals
 blt:X.env.builtins=builtinsNs
 above:X.s₀.heap.objs.size<=X.env.locals
 inj:∀x y c,X.env.cells.lookup x=some c->X.env.cells.lookup y=some c->x=y
 has:∀x,(X.env.kindOf x=some .cell\/X.env.kindOf x=some .free)->∃c,X.env.cells.lookup x=some c
 cab:∀x c,X.fn x=true->X.env.cells.lookup x=some c->X.s₀.heap.objs.size<=c
 hd:X.calm=true->X.A.handled=none
 frames:X.A.frames=some X.stack
 stk:X.stack=X.outer\/(X.stack=X.env::X.outer/\X.env.frame=some X.env.locals)
 exf:∀b∈X.ex,b≠X.env.locals/\∀x c,X.env.cells.lookup x=some c->c≠b
 bs:∀b o,X.base.get? b=some o->X.s₀.heap.get? b=some o/\X.H₀ b=none
 bsz:X.base.objs.size<=X.s₀.heap.objs.size
 noex:∀b o,X.base.get? b=some o->b∉X.ex
 exfs:∀b∈X.ex,b∉X.fs
 funs:X.s₀.heap.FunFrames X.base X.outer
 frf:∀b∈X.fs,X.H₀ b=none
structure Inv(X:Cx)(pins:yyP)(σ:List (Option V))(H:Hp)(s:Shared):Prop where
 ok:X.Ok
 os:s.os=X.s₀.os
 bare:AllBare s.gens
 base:Un X.fs X.ex X.H₀ H X.s₀.heap s.heap
 loc:∃m,s.heap.Ns X.env.locals m/\∀(i:Nat)(x:Str)(v:V),X.N[i]?=some x->σ[i]?=some (some v)->Vis X.env.scope x->∃u,z1i v u/\ziE X.env s.heap m x u
 cell:∀x c,X.env.cells.lookup x=some c->∃v,s.heap.IsCell c v
 free:H X.env.locals=none
 freeC:∀x c,X.env.cells.lookup x=some c->H c=none
 pin:∀p∈X.pn++pins,s.heap.get? p.1=some p.2/\H p.1=none/\p.1≠X.env.locals/\p.1∉X.fs/\∀v,p.2.data≠.cell v
 hok:HOk X.prog X.w H s.heap
 len:σ.length=X.N.length
section
variable{X:Cx}{pins:yyP}{σ:List (Option V)}{H H':Hp}{s:Shared}{h':Heap}
def Cx.Ok.nofr(ok:X.Ok){b:Addr}{o:Obj}(e:X.base.get? b=some o):b∉X.fs:=fun hb=>by have:=(ok.funs.mem hb).1;rw[e]at this;cases this
theorem Inv.bs(I:Inv X pins σ H s):∀b o,X.base.get? b=some o->s.heap.get? b=some o/\H b=none:=fun b o e =>
 ⟨I.base.keep b o (I.ok.bs b o e).1 (I.ok.bs b o e).2 (I.ok.nofr e) (I.ok.noex b o e),I.base.free b o (I.ok.bs b o e).1 (I.ok.bs b o e).2 (I.ok.noex b o e)⟩
def Inv.bk(I:Inv X pins σ H s):∀b o,X.base.get? b=some o->s.heap.get? b=some o:=fun b o e=>(I.bs b o e).1
theorem Inv.mod(I:Inv X pins σ H s):Mod X.K X.mg X.base:=I.ok.mod
def Inv.kIn(I:Inv X pins σ H s):X.K.In s.heap:=I.ok.mod.kin.keeps I.bk
theorem Inv.lt(I:Inv X pins σ H s):X.env.locals<s.heap.objs.size:=let⟨_,hn,_⟩:=I.loc;hn.lt
def Inv.sz(I:Inv X pins σ H s):X.s₀.heap.objs.size<=s.heap.objs.size:=y0Q I.ok.above (y1p I.lt)
def Inv.nofs(I:Inv X pins σ H s){a:Addr}(h:s.heap.objs.size<=a):a∉X.fs:=fun hb=>by obtain⟨_,o,ho,_⟩:=I.ok.funs.mem hb;exact absurd (y0r (y0k ho) (y0Q I.sz h)) (y2n _)
def Inv.cne(I:Inv X pins σ H s):∀x c,X.env.cells.lookup x=some c->c≠X.env.locals:=fun x c e z=>by obtain⟨v,o,ho,hd⟩:=I.cell x c e;obtain⟨m,⟨o',es,ep,ho',hd',_⟩,_⟩:=I.loc;rw[z,ho']at ho;cases ho;rw[hd']at hd;cases hd
theorem Inv.funs(I:Inv X pins σ H s):s.heap.FunFrames X.base X.outer:=by
 have all:∀(l:List Env),(∀b∈frs l,b∈X.fs)->X.s₀.heap.FunFrames X.base l->s.heap.FunFrames X.base l:=by
  intro l;induction l with
  |nil=>intro _ _;trivial
  |cons env r ih =>
   intro hs hl;obtain⟨hk,⟨L,o,hf,hn,ho,hd⟩,hr⟩:=hl;have hL:L∈X.fs:=hs L (by unfold frs;rw[y1I,hf];exact y0i);obtain⟨sl,e⟩:=I.base.slot L o ho (I.ok.frf L hL) hL fun z=>I.ok.exfs L z hL;exact⟨hk,⟨L,_,hf,hn,e,hd⟩,ih (fun b hb=>hs b (by unfold frs;rw[y1I,hf];exact y0g _ hb)) hr⟩
 exact all X.outer (fun _ hb=>hb) I.ok.funs
theorem Inv.stack(I:Inv X pins σ H s):s.heap.FunFrames X.base X.stack:=by
 rcases I.ok.stk with e|⟨e,hf⟩
 .rw[e];exact I.funs
 .rw[e];obtain⟨m,hn,_⟩:=I.loc;refine .cons (by rw[I.ok.kind];decide) hf hn ?_ I.funs;exact y3W (y0Q I.ok.bsz I.ok.above)
def Inv.stkSub(I:Inv X pins σ H s):∀b∈frs X.stack,b∈X.env.locals::X.fs:=fun b hb=>by
 rcases I.ok.stk with e|⟨e,hf⟩
 .rw[e]at hb;exact y0g _ hb
 .rw[e]at hb;unfold frs at hb;rw[y1I,hf]at hb;exact hb
def Inv.stkFree(I:Inv X pins σ H s):∀b∈frs X.stack,H b=none:=fun b hb=>by
 rcases y0j.mp (I.stkSub b hb)with e|hb
 .rw[e];exact I.free
 .obtain⟨_,o,ho,_⟩:=I.ok.funs.mem hb;exact I.base.free b o ho (I.ok.frf b hb) fun z=>I.ok.exfs b z hb
def Inv.step{g':Array GenState}{t':Nat}{d':Drawn}{ch:List Addr}(I:Inv X pins σ H s)(hch:∀b∈ch,(b∈X.ex\/X.s₀.heap.objs.size<=b)/\b≠X.env.locals/\(∀x c,X.env.cells.lookup x=some c->c≠b)/\∀p∈X.pn++pins,p.1≠b)(keep:∀b o,b≠X.env.locals->b∉X.fs->b∉ch->s.heap.get? b=some o->H b=none->h'.get? b=some o)(slot:∀b o,b≠X.env.locals->b∈X.fs->b∉ch->s.heap.get? b=some o->H b=none->∃sl,h'.get? b=some { o with slots:=sl })(free:∀b o,b∉ch->s.heap.get? b=some o->H b=none->H' b=none)(there:∀b o,b∉ch->s.heap.get? b=some o->∃o',h'.get? b=some o')(tups:∀b xs,H b=some (.tup xs)->H' b=some (.tup xs))(frzs:∀b o u,H b=some (.frz o u)->H' b=some (.frz o u))(tbls:∀b ps,H b=some (.tbl ps)->∃more,H' b=some (.tbl (ps++more)))(ns:∀m,s.heap.Ns X.env.locals m->h'.Ns X.env.locals m)(hok:HOk X.prog X.w H' h')(hg:AllBare g') : Inv X pins σ H' { s with heap:=h',gens:=g',drawn:=d',toks:=t' }:=by
 have neL:∀b o,X.s₀.heap.get? b=some o->b≠X.env.locals:=fun b o e=>y0u (y0r (y0k e) I.ok.above);have neC:∀b o,X.s₀.heap.get? b=some o->b∉X.ex->b∉ch:=fun b o e hx hb=>by
  rcases(hch b hb).1 with z|z
  .exact hx z
  .exact absurd (y0r (y0k e) z) (y2n _)
 have cellK:∀x c,X.env.cells.lookup x=some c->∀v,s.heap.IsCell c v->h'.IsCell c v:=fun x c e v ⟨o,ho,hd⟩=>by
  have nch:c∉ch:=fun z=>(hch c z).2.2.1 x c e rfl;by_cases hc:c∈X.fs
  .obtain⟨sl,q⟩:=slot c o (I.cne x c e) hc nch ho (I.freeC x c e);exact⟨_,q,hd⟩
  .exact⟨o,keep c o (I.cne x c e) hc nch ho (I.freeC x c e),hd⟩
 refine⟨I.ok,I.os,hg,⟨fun b o e n hb hx=>?_,fun b o e n hb hx=>?_,fun b o e n hx=>?_,fun b o e hx=>?_,fun b xs e=>tups b xs (I.base.tups b xs e),fun b o xs e=>frzs b o xs (I.base.frzs b o xs e),fun b ps e=>?_⟩,?_,fun x c e=>?_,?_,fun x c e=>?_,fun p hp=>?_,hok,I.len⟩
 .exact keep b o (neL b o e) hb (neC b o e hx) (I.base.keep b o e n hb hx) (I.base.free b o e n hx)
 .obtain⟨sl,e1⟩:=I.base.slot b o e n hb hx;obtain⟨sl',e2⟩:=slot b _ (neL b o e) hb (neC b o e hx) e1 (I.base.free b o e n hx);exact⟨sl',e2⟩
 .obtain⟨o',e1⟩:=I.base.there b o e hx;exact free b o' (neC b o e hx) e1 (I.base.free b o e n hx)
 .obtain⟨o',e1⟩:=I.base.there b o e hx;exact there b o' (neC b o e hx) e1
 .obtain⟨m1,e1⟩:=I.base.tbls b ps e;obtain⟨m2,e2⟩:=tbls b _ e1;exact⟨m1++m2,by rw[e2,Array.append_assoc]⟩
 .obtain⟨m,hn,hl⟩:=I.loc;refine⟨m,ns m hn,fun i x v e1 e2 e3=>?_⟩;obtain⟨u,r,l⟩:=hl i x v e1 e2 e3;refine⟨u,r,?_⟩;rcases l with l|⟨k,c,e,z⟩
  .exact .inl l
  .exact .inr ⟨k,c,e,cellK x c e _ z⟩
 .obtain⟨v,z⟩:=I.cell x c e;exact⟨v,cellK x c e v z⟩
 .obtain⟨m,⟨o,_,_,ho,_⟩,_⟩:=I.loc;exact free _ o (fun z=>(hch _ z).2.1 rfl) ho I.free
 .obtain⟨v,o,ho,hd⟩:=I.cell x c e;exact free c o (fun z=>(hch c z).2.2.1 x c e rfl) ho (I.freeC x c e)
 .obtain⟨e,n,ne,nf,d⟩:=I.pin p hp;have nch:p.1∉ch:=fun z=>(hch p.1 z).2.2.2 p hp rfl;exact⟨keep p.1 p.2 ne nf nch e n,free p.1 p.2 nch e n,ne,nf,d⟩
def Inv.un{t':Nat}(I:Inv X pins σ H s)(u:Un X.fs [] H H' s.heap h')(hok:HOk X.prog X.w H' h'):Inv X pins σ H' { s with heap:=h',toks:=t' }:=by
 obtain⟨m,⟨o,es,ep,ho,r⟩,_⟩:=id I.loc;obtain⟨sl,hL⟩:=u.any ho I.free (by simp);exact I.step (g':=s.gens) (d':=s.drawn) (ch:=[]) (fun _ z=>nomatch z) (fun b o _ hb _ e n=>u.keep b o e n hb (by simp)) (fun b o _ hb _ e n=>u.slot b o e n hb (by simp)) (fun b o _ e n=>u.free b o e n (by simp)) (fun b o _ e=>u.there b o e (by simp)) u.tups u.frzs u.tbls (fun m' hm=>by obtain⟨o',es',ep',ho',r'⟩:=hm;rw[ho]at ho';cases ho';exact⟨_,es',ep',hL,r'⟩) hok I.bare
def Inv.call{g':Array GenState}{t':Nat}{d':Drawn}{ch:List Addr}(I:Inv X pins σ H s)(u:Un (frs X.stack) ch H H' s.heap h')(hok:HOk X.prog X.w H' h')(hg:AllBare g')(hch:∀b∈ch,(b∈X.ex\/X.s₀.heap.objs.size<=b)/\b≠X.env.locals/\(∀x c,X.env.cells.lookup x=some c->c≠b)/\∀p∈X.pn++pins,p.1≠b) : Inv X pins σ H' { s with heap:=h',gens:=g',drawn:=d',toks:=t' }:=by
 obtain⟨m,⟨o,es,ep,ho,r⟩,_⟩:=id I.loc;obtain⟨sl,hL⟩:=u.any ho I.free fun z=>(hch _ z).2.1 rfl;exact I.step (ch:=ch) hch (fun b o hL hb hc e n=>u.keep b o e n (fun z=>(y0j.mp (I.stkSub b z)).elim hL hb) hc) (fun b o _ _ hc e n=>u.any e n hc) (fun b o hc e n=>u.free b o e n hc) (fun b o hc e=>u.there b o e hc) u.tups u.frzs u.tbls (fun m' hm=>by obtain⟨o',es',ep',ho',r'⟩:=hm;rw[ho]at ho';cases ho';exact⟨_,es',ep',hL,r'⟩) hok hg
def Inv.turned{t':Nat}{it:Addr}(I:Inv X pins σ H s)(k:∀b o,b≠it->s.heap.get? b=some o->h'.get? b=some o)(hn:H it=none)(hL:it≠X.env.locals)(h1:it∈X.ex\/X.s₀.heap.objs.size<=it)(h2:∀x c,X.env.cells.lookup x=some c->c≠it)(h3:∀p∈X.pn++pins,p.1≠it):Inv X pins σ H { s with heap:=h',toks:=t' }:=by
 have nit:∀b u,H b=some u->b≠it:=fun b u e z=>by rw[z,hn]at e;cases e
 refine I.step (g':=s.gens) (d':=s.drawn) (ch:=[it]) (fun b hb=>?_) (fun b o _ _ hc e _=>k b o (fun z=>hc (by simp[z])) e) (fun b o _ _ hc e _=>⟨o.slots,k b o (fun z=>hc (by simp[z])) e⟩) (fun _ _ _ _ n=>n)
  (fun b o hc e=>⟨o,k b o (fun z=>hc (by simp[z])) e⟩) (fun _ _ e=>e) (fun _ _ _ e=>e) (fun b ps e=>⟨#[],by rw[e];simp⟩) (fun m hm=>?_) (fun b u e=>?_) I.bare
 .have e:b=it:=by simpa using hb
  subst e;exact⟨h1,hL,h2,h3⟩
 .obtain⟨o,es,ep,ho,r⟩:=hm;exact⟨o,es,ep,k _ o (y1v hL) ho,r⟩
 .refine(I.hok b u e).stay (fun c v hc q=>k c v ?_ q) (fun _ q=>q) fun _ _ q=>q;rcases hc with z|z
  .rw[z];exact nit b u e
  .exact nit c _ z
def Inv.tok(I:Inv X pins σ H s)(t:Nat):Inv X pins σ H { s with toks:=t }:=I.un (h':=s.heap) (t':=t) Un.refl I.hok
theorem Inv.kept{t':Nat}(I:Inv X pins σ H s)(k:∀b u,s.heap.get? b=some u->h'.get? b=some u):Inv X pins σ H { s with heap:=h',toks:=t' }:=I.un (Un.kept k) (I.hok.kept k)
theorem Inv.laid{a:Addr}{o:HO}{t':Nat}(I:Inv X pins σ H s)(k:∀b u,s.heap.get? b=some u->h'.get? b=some u)(hp:s.heap.objs.size<=a)(new:z1Q X.prog X.w (upd H a o) h' a o) : Inv X pins σ (upd H a o) { s with heap:=h',toks:=t' }:=I.un (Un.laid k hp (I.hok.fresh hp)) (I.hok.laid k hp new)
theorem Inv.write{x e:Addr}{o:HO}{t':Nat}(I:Inv X pins σ H s)(mu:Mut (H x))(he:e=x\/H e=some (.own x))(k:∀b u,b≠e->s.heap.get? b=some u->h'.get? b=some u)(heo:∃u,h'.get? e=some u)(new:z1Q X.prog X.w (upd H x o) h' x o):Inv X pins σ (upd H x o) { s with heap:=h',toks:=t' }:=I.un (Un.write mu he k heo) (I.hok.write mu he k heo new)
def Inv.pins_of{pins':yyP}(I:Inv X pins σ H s)(h:∀p∈pins',s.heap.get? p.1=some p.2/\H p.1=none/\p.1≠X.env.locals/\p.1∉X.fs/\∀v,p.2.data≠.cell v):Inv X pins' σ H s :=
 ⟨I.ok,I.os,I.bare,I.base,I.loc,I.cell,I.free,I.freeC,fun p hp=>(y0s.mp hp).elim (fun z=>I.pin p (y0t _ z)) (h p),I.hok,I.len⟩
def z6Z{N:List Str}(hN:N.Nodup){i j:Nat}{x:Str}(a:N[i]?=some x)(b:N[j]?=some x):i=j:=by obtain⟨h1,e1⟩:=y06.mp a;obtain⟨h2,e2⟩:=y06.mp b;exact(y3Q hN).mp (e1.trans e2.symm)
def z7A{M:Model}{A:Around}{E:yyE}{i:Nat}{x:Str}{v:V}{u:Value}{Q:Unit->Shared->Prop}(I:Inv X pins σ H s)(hN:X.N.Nodup)(hi:X.N[i]?=some x)(hx:Loc X.env.scope x)(r:z1i v u)(h:∀s',Inv X pins (σ.set i (some v)) H s'->(∃a,Heap.SameBut a s.heap s'.heap/\(a=X.env.locals\/X.env.cells.lookup x=some a))->Q () s')(hf:X.fn x=true\/X.env.scope.names.lookup x=some .local:=by first|exact .inl rfl|exact .inr rfl|assumption):wpAny M A (storeName X.env x u) Q E s:=by
 obtain⟨m,hn,hl⟩:=id I.loc;have hcls:(X.env.scope.kind == .class||(X.env.scope.kind == .module&&X.env.locals != X.env.globals))=false:=by rw[I.ok.kind];rfl
 have hiσ:i<σ.length:=by rw[I.len];exact(y06.mp hi).1
 have cne:=I.cne;have tracked:∀{a:Addr}{h':Heap},(∃o,s.heap.get? a=some o/\H a=none)->Heap.SameBut a s.heap h'->HOk X.prog X.w H h':=fun{a h'} ha hs b ob e=>by
  obtain⟨_,_,hfree⟩:=ha;refine(I.hok b ob e).stay (fun c w' hc q=>(hs.2 c ?_).trans q) (fun _ q=>q) fun _ _ q=>q;rintro rfl;rcases hc with rfl|hc
  .rw[hfree]at e;cases e
  .rw[hfree]at hc;cases hc
 rcases hx with hk|hk
 .refine wpAny_storeName_local hk hn (fun h' hn' hs=>?_) hcls;obtain⟨oL,_,_,hoL,_⟩:=id hn;refine h _ ⟨I.ok,I.os,I.bare,⟨fun b o e n hb hx=>?_,fun b o e n hb hx=>?_,I.base.free,fun b o e hx=>?_,I.base.tups,I.base.frzs,I.base.tbls⟩,⟨_,hn',fun j y v' e1 e2 e3=>?_⟩,fun y c e=>?_,I.free,I.freeC,fun p hp=>?_,tracked ⟨oL,hoL,I.free⟩ hs,by simpa using I.len⟩ ⟨_,hs,.inl rfl⟩
  .exact(hs.2 b (y0u (y0r (y0k e) I.ok.above))).trans (I.base.keep b o e n hb hx)
  .obtain⟨sl,e1⟩:=I.base.slot b o e n hb hx;exact⟨sl,(hs.2 b (y0u (y0r (y0k e) I.ok.above))).trans e1⟩
  .obtain⟨o',e1⟩:=I.base.there b o e hx;exact⟨o',(hs.2 b (y0u (y0r (y0k e) I.ok.above))).trans e1⟩
  .by_cases hj:j=i
   .subst hj;rw[hi]at e1;cases e1;rw[y3x hiσ]at e2;cases e2;exact⟨u,r,.inl ⟨hk,by simp⟩⟩
   .rw[y3X (y1v hj)]at e2;obtain⟨u',r',q⟩:=hl j y v' e1 e2 e3;refine⟨u',r',?_⟩;rcases q with⟨k,e⟩|⟨k,c,e,z⟩
    .refine .inl ⟨k,?_⟩;have:y≠x:=fun e=>hj (z6Z hN e1 (e▸hi));simp[this,e]
    .exact .inr ⟨k,c,e,z.sameBut hs (cne y c e)⟩
  .obtain⟨w',z⟩:=I.cell y c e;exact⟨w',z.sameBut hs (cne y c e)⟩
  .obtain⟨e,n,ne,nf,d⟩:=I.pin p hp;exact⟨(hs.2 p.1 ne).trans e,n,ne,nf,d⟩
 .have hfn:X.fn x=true:=by
   rcases hf with z|z
   .exact z
   .rw[z]at hk;cases hk
  obtain⟨c,hc⟩:=I.ok.has x (.inl hk);obtain⟨w',z⟩:=I.cell x c hc;refine wpAny_storeName_cell I.ok.kind hk hc z (fun h' hc' hs=>?_);obtain⟨oc,hoc,hocd⟩:=id z;refine h { s with heap:=h' } ⟨I.ok,I.os,I.bare,⟨fun b o e n hb hx=>?_,fun b o e n hb hx=>?_,I.base.free,fun b o e hx=>?_,I.base.tups,I.base.frzs,I.base.tbls⟩,⟨m,hn.sameBut hs (y1v (cne x c hc)),fun j y v' e1 e2 e3=>?_⟩,fun y c' e=>?_,I.free,I.freeC,fun p hp=>?_,tracked ⟨oc,hoc,I.freeC x c hc⟩ hs,by simpa using I.len⟩ ⟨c,hs,.inr hc⟩
  .exact(hs.2 b (y0u (y0r (y0k e) (I.ok.cab x c hfn hc)))).trans (I.base.keep b o e n hb hx)
  .obtain⟨sl,e1⟩:=I.base.slot b o e n hb hx;exact⟨sl,(hs.2 b (y0u (y0r (y0k e) (I.ok.cab x c hfn hc)))).trans e1⟩
  .obtain⟨o',e1⟩:=I.base.there b o e hx;exact⟨o',(hs.2 b (y0u (y0r (y0k e) (I.ok.cab x c hfn hc)))).trans e1⟩
  .by_cases hj:j=i
   .subst hj;rw[hi]at e1;cases e1;rw[y3x hiσ]at e2;cases e2;exact⟨u,r,.inr ⟨.inl hk,c,hc,hc'⟩⟩
   .rw[y3X (y1v hj)]at e2;obtain⟨u',r',q⟩:=hl j y v' e1 e2 e3;refine⟨u',r',?_⟩;rcases q with q|⟨k,c',e,z'⟩
    .exact .inl q
    .refine .inr ⟨k,c',e,z'.sameBut hs ?_⟩;rintro rfl;exact hj (z6Z hN e1 (I.ok.inj _ _ _ e hc▸hi))
  .by_cases hcc:c'=c
   .subst hcc;exact⟨_,hc'⟩
   .obtain⟨w2,z2⟩:=I.cell y c' e;exact⟨w2,z2.sameBut hs hcc⟩
  .obtain⟨e,n,ne,nf,d⟩:=I.pin p hp;refine⟨(hs.2 p.1 ?_).trans e,n,ne,nf,d⟩;intro q;rw[q,hoc]at e;have q':oc=p.2:=y08 e;exact d w' (by rw[<-q'];exact hocd)
def z6G{M:Model}{A:Around}{E:yyE}{i:Nat}{x:Str}{v:V}{u:Value}{Q:Unit->Shared->Prop}(I:Inv X pins σ H s)(hN:X.N.Nodup)(hi:X.N[i]?=some x)(hx:Loc X.env.scope x)(r:z1i v u)(h:∀s',Inv X pins (σ.set i (some v)) H s'->Q () s')(hf:X.fn x=true\/X.env.scope.names.lookup x=some .local:=by first|exact .inl rfl|exact .inr rfl|assumption):wpAny M A (storeName X.env x u) Q E s :=
 z7A I hN hi hx r (fun s' I' _=>h s' I') hf
def Inv.call'{s':Shared}{ch:List Addr}(I:Inv X pins σ H s)(ho:s'.os=s.os)(u:Un (frs X.stack) ch H H' s.heap s'.heap)(hok:HOk X.prog X.w H' s'.heap)(hg:AllBare s'.gens)(hch:∀b∈ch,(b∈X.ex\/X.s₀.heap.objs.size<=b)/\b≠X.env.locals/\(∀x c,X.env.cells.lookup x=some c->c≠b)/\∀p∈X.pn++pins,p.1≠b):Inv X pins σ H' s':=by obtain⟨h',g',d',t',o'⟩:=s';have e:o'=s.os:=ho;subst e;exact I.call (g':=g') (t':=t') (d':=d') u hok hg hch
end
abbrev XK:=Value->Option Addr->Hp->Prop
abbrev St:=List (Option V)
abbrev VK:=V->Hp->Prop
abbrev TE:=St->Hp->VK->Prop
abbrev TT:=St->Hp->(Bool->Hp->Prop)->Prop
abbrev TA:=St->Hp->(List V->Hp->Prop)->Prop
structure z46 where
 nx:St->Hp->Prop
 rt:VK
 bk:St->Hp->Prop:=fun _ _=>False
 ct:St->Hp->Prop:=fun _ _=>False
abbrev TS:=z46->St->Hp->Prop
def EP(X:Cx)(pins:yyP)(σ:St)(Q:VK)(u:Value)(s':Shared):Prop:=∃v H',Inv X pins σ H' s'/\z1i v u/\Q v H'
def TP(X:Cx)(pins:yyP)(σ:St)(Q:Bool->Hp->Prop)(b:Bool)(s':Shared):Prop:=∃H',Inv X pins σ H' s'/\Q b H'
def AP(X:Cx)(pins:yyP)(σ:St)(Q:List V->Hp->Prop)(us:List Value)(s':Shared):Prop:=∃vs H',Inv X pins σ H' s'/\z0T vs us/\Q vs H'
def SP(X:Cx)(pins:yyP)(D:z46)(f:Flow)(s':Shared):Prop :=
 match f with
 |.next=>∃σ' H',Inv X pins σ' H' s'/\D.nx σ' H'
 |.brk=>∃σ' H',Inv X pins σ' H' s'/\D.bk σ' H'
 |.cont=>∃σ' H',Inv X pins σ' H' s'/\D.ct σ' H'
 |.ret u=>∃v σ' H',Inv X pins σ' H' s'/\z1i v u/\D.rt v H'
def PE(X:Cx)(e:Expr)(t:TE):Prop :=
 ∀(pins:yyP)(s:Shared)(σ:St)(H:Hp)(Q:VK),Inv X pins σ H s->t σ H Q->wpAny (model X.prog X.w) X.A (eval e X.env) (EP X pins σ Q) X.xe s
def PT(X:Cx)(e:Expr)(t:TT):Prop :=
 ∀(pins:yyP)(s:Shared)(σ:St)(H:Hp)(Q:Bool->Hp->Prop),Inv X pins σ H s->t σ H Q->wpAny (model X.prog X.w) X.A (isTrue e X.env (eval e X.env)) (TP X pins σ Q) X.xe s
def PW(X:Cx)(e:Expr)(t:TT):Prop :=
 ∀(whole:Sem Value)(pins:yyP)(s:Shared)(σ:St)(H:Hp)(Q:Bool->Hp->Prop),Inv X pins σ H s->t σ H Q->wpAny (model X.prog X.w) X.A (isTrue e X.env whole) (TP X pins σ Q) X.xe s
def PW.pt{X:Cx}{e:Expr}{t:TT}(h:PW X e t):PT X e t:=h _
def PA(X:Cx)(es:List Expr)(t:TA):Prop :=
 ∀(pos:Pos)(pins:yyP)(s:Shared)(σ:St)(H:Hp)(Q:List V->Hp->Prop),Inv X pins σ H s->t σ H Q->wpAny (model X.prog X.w) X.A (spliced (backTo pos (starEach es X.env))) (AP X pins σ Q) X.xe s
def PS(X:Cx)(st:Stmt)(t:TS):Prop :=
 ∀(pins:yyP)(s:Shared)(σ:St)(H:Hp)(D:z46),Inv X pins σ H s->t D σ H->wpAny (model X.prog X.w) X.A (exec st X.env) (SP X pins D) X.xe s
def PSs(X:Cx)(st:List Stmt)(t:TS):Prop :=
 ∀(pins:yyP)(s:Shared)(σ:St)(H:Hp)(D:z46),Inv X pins σ H s->t D σ H->wpAny (model X.prog X.w) X.A (execs st X.env) (SP X pins D) X.xe s
def thn{α:Type}{t:Sem α}{Q Q':α->Shared->Prop}{M:Model}{A:Around}{E:yyE}{s:Shared}(h:wpAny M A t Q E s)(hQ:∀a s,Q a s->Q' a s):wpAny M A t Q' E s:=y1J h hQ fun _ _ x=>x
def exA{α:Sort _}{f g:α->Prop}{a:α}(h:f a)(k:g a):∃x,f x/\g x:=⟨a,h,k⟩
def exB{α β:Sort _}{f g:α->β->Prop}{a:α}{b:β}(h:f a b)(k:g a b):∃x y,f x y/\g x y:=⟨a,b,h,k⟩
def exC{α β:Sort _}{f f' g:α->β->Prop}{a:α}{b:β}(h:f a b)(h':f' a b)(k:g a b):∃x y,f x y/\f' x y/\g x y:=⟨a,b,h,h',k⟩
def exD{α β γ δ:Sort _}{f1 f2 f3 f4 g:α->β->γ->δ->Prop}(a:α)(b:β)(c:γ)(d:δ)(h1:f1 a b c d)(h2:f2 a b c d)(h3:f3 a b c d)(h4:f4 a b c d)(k:g a b c d):∃x y z w,f1 x y z w/\f2 x y z w/\f3 x y z w/\f4 x y z w/\g x y z w:=⟨a,b,c,d,h1,h2,h3,h4,k⟩
def exF{α β:Sort _}{f1 f2 f3 g:α->β->Prop}(a:α){b:β}(h1:f1 a b)(h2:f2 a b)(h3:f3 a b)(k:g a b):∃x y,f1 x y/\f2 x y/\f3 x y/\g x y:=⟨a,b,h1,h2,h3,k⟩
def exG{α β:Sort _}{f1 f2 g:α->β->Prop}(a:α){b:β}(h1:f1 a b)(h2:f2 a b)(k:g a b):∃x y,f1 x y/\f2 x y/\g x y:=⟨a,b,h1,h2,k⟩
def z1P{X:Cx}{pins:yyP}{σ:St}{Q:VK}{t:Sem Value}{R:yyE}{s:Shared}(h:wpAny (model X.prog X.w) X.A t (EP X pins σ Q) X.xe s)(k:∀u s1 x H1,Inv X pins σ H1 s1->z1i x u->Q x H1->R u s1):wpAny (model X.prog X.w) X.A t R X.xe s:=thn h fun u s1 z=>by obtain⟨x,H1,I1,r,q⟩:=z;exact k u s1 x H1 I1 r q
section
variable{X:Cx}
def bin{a b:Expr}{ta tb:TE}(ha:PE X a ta)(hb:PE X b tb){pins:yyP}{s:Shared}{σ:St}{H:Hp}{R:V->V->Hp->Prop}(I:Inv X pins σ H s)(h:ta σ H fun x H1=>tb σ H1 fun y H2=>R x y H2){α:Type}{Q:α->Shared->Prop}{f:Value->Value->Sem α}(hf:∀v u s2 x y H2,Inv X pins σ H2 s2->z1i x v->z1i y u->R x y H2->wpAny (model X.prog X.w) X.A (f v u) Q X.xe s2) : wpAny (model X.prog X.w) X.A (eval a X.env) (fun v s₁=>wpAny (model X.prog X.w) X.A (eval b X.env) (fun u s₂=>wpAny (model X.prog X.w) X.A (f v u) Q X.xe s₂) X.xe s₁) X.xe s:=by refine z1P (ha pins s σ H _ I h) fun v s1 x H1 I1 r1 q1=>?_;refine z1P (hb pins s1 σ H1 _ I1 q1) fun u s2 y H2 I2 r2 q2=>?_;exact hf v u s2 x y H2 I2 r1 r2 q2
def zim(i:Nat):TE:=fun σ H Q=>∃v,σ[i]?=some (some v)/\Q v H
def tC(v:V):TE:=fun _ H Q=>Q v H
def zeC{i:Nat}{x:Str}{pos:Pos}(hN:X.N[i]?=some x)(hv:Vis X.env.scope x)(hd:(x==("__debug__":Str))=false:=by decide)(hcd:(x==("__classdict__":Str))=false:=by decide):PE X (.Name x pos) (zim i):=by
 intro pins s σ H Q I h;obtain⟨v,e,h⟩:=h;obtain⟨m,hn,hl⟩:=I.loc;obtain⟨u,r,l⟩:=hl i x v hN e hv;have fin:EP X pins σ Q u s:=⟨v,H,I,r,h⟩;rcases l with⟨hk,hm⟩|⟨hk,c,hc,hcell⟩
 .exact wpAny_Name (wpAny_loadName_local I.ok.kind hk hn hm fin) hd
 .rcases hk with hk|hk
  .exact wpAny_Name (wpAny_loadName_cell I.ok.kind hk hc hcell fin) hd
  .exact wpAny_Name (wpAny_loadName_free I.ok.kind hk hc hcell fin hcd) hd
def z08{i j pos}:PE X (.Constant (.int i) j pos) (tC (.int i)):=fun _ _ _ H _ I h=>wpAny_Constant_int ⟨.int i,H,I.tok _,⟨_,rfl⟩,h⟩
def z7i{b j pos}:PE X (.Constant (.bool b) j pos) (tC (.bl b)):=fun _ _ _ H _ I h=>Constant_bool ⟨.bl b,H,I,rfl,h⟩
def z6h{x j pos}:PE X (.Constant (.str x) j pos) (tC (.str x)):=fun _ _ _ H _ I h=>Calls.Constant_str ⟨.str x,H,I.tok _,⟨_,rfl⟩,h⟩
def Gl(X:Cx)(x:Str):Prop:=X.env.kindOf x=some .globalImplicit
def z4i{E:yyE}{pins:yyP}{s:Shared}{σ:St}{H:Hp}{x:Str}{u:Value}{pos:Pos}{Q:yyE}(I:Inv X pins σ H s)(hg:Gl X x)(hm:X.mg x=some u)(h:Q u s)(hd:(x==("__debug__":Str))=false:=by decide):wpAny (model X.prog X.w) X.A (eval (.Name x pos) X.env) Q E s :=
 Calls.Name_function_global I.ok.kind hg (Calls.loadGlobal_global (by rw[I.ok.glob];exact I.mod.glob.keeps I.bk) hm h) hd
def z64{E:yyE}{pins:yyP}{s:Shared}{σ:St}{H:Hp}{x:Str}{u:Value}{pos:Pos}{Q:yyE}(I:Inv X pins σ H s)(hg:Gl X x)(hm:X.mg x=none)(hv:bootBuiltins x=some u)(h:Q u s)(hn:x≠"__name__":=by decide)(hd:(x==("__debug__":Str))=false:=by decide):wpAny (model X.prog X.w) X.A (eval (.Name x pos) X.env) Q E s:=by obtain⟨mb,h1,h2⟩:=I.mod.blt;exact Calls.Name_function_global I.ok.kind hg (Calls.loadGlobal_builtin (by rw[I.ok.glob];exact I.mod.glob.keeps I.bk) hm (by rw[I.ok.blt];exact h1.keeps I.bk) ((h2 x hn).trans hv) h) hd
def z8N{x:Str}{v:V}{u:Value}{pos:Pos}(hg:Gl X x)(hm:X.mg x=some u)(r:z1i v u)(hd:(x==("__debug__":Str))=false:=by decide):PE X (.Name x pos) (tC v) :=
 fun _ _ _ H _ I h=>z4i I hg hm ⟨v,H,I,r,h⟩ hd
def t2I(ta tb:TE)(k:Int->Int->Hp->Prop):St->Hp->Prop:=fun σ H=>ta σ H fun x H1=>tb σ H1 fun y H2=>∃i j,x=.int i/\y=.int j/\k i j H2
variable{a b:Expr}{ta tb:TE}{pos:Pos}
def PC(X:Cx)(op:CmpOp)(a b:Expr)(t:TE):Prop :=
 ∀(pins:yyP)(s:Shared)(σ:St)(H:Hp)(Q:VK),Inv X pins σ H s->t σ H Q ->
  wpAny (model X.prog X.w) X.A (eval a X.env) (fun v s₁=>wpAny (model X.prog X.w) X.A (eval b X.env) (fun u s₂=>wpAny (model X.prog X.w) X.A (compareOp op v u) (EP X pins σ Q) X.xe s₂) X.xe s₁) X.xe s
def zdn(b:Expr){op:CmpOp}(h:op≠.In)(h2:op≠.NotIn):behindInMarks op b=false:=by
 have e1:(op==CmpOp.In)=false:=by cases op<;>first|rfl|exact absurd rfl h
 have e2:(op==CmpOp.NotIn)=false:=by cases op<;>first|rfl|exact absurd rfl h2
 cases b<;>simp[behindInMarks,e1,e2]
def zht(p:Int->Int->Bool)(ta tb:TE):TE:=fun σ H Q=>t2I ta tb (fun i j H2=>Q (.bl (p i j)) H2) σ H
abbrev ziT:TE->TE->TE:=zht fun i j=>decide (i=j)
abbrev ziQ:TE->TE->TE:=zht fun i j=>!decide (i=j)
def zez{op:CmpOp}{p:Int->Int->Bool}(ha:PE X a ta)(hb:PE X b tb)(rule:∀(i j:Int)(t u:Tok)(Q:yyE)(s:Shared),Q (.bool (p i j)) s->wpAny (model X.prog X.w) X.A (compareOp op (.int i t) (.int j u)) Q X.xe s):PC X op a b (zht p ta tb):=by intro pins s σ H Q I h;refine bin ha hb I h fun v u s2 x y H2 I2 rx ry q=>?_;obtain⟨i,j,rfl,rfl,q⟩:=q;obtain⟨t,rfl⟩:=rx;obtain⟨t',rfl⟩:=ry;exact rule i j t t' _ s2 ⟨.bl _,H2,I2,rfl,q⟩
def z4k(ha:PE X a ta)(hb:PE X b tb):PC X .Eq a b (ziT ta tb):=zez ha hb fun _ _ _ _ _ _ h=>eq_int (by rw[Bool.beq_eq_decide_eq];exact h)
def zeB(ha:PE X a ta)(hb:PE X b tb):PC X .NotEq a b (ziQ ta tb):=zez ha hb fun _ _ _ _ _ _ h=>ne_int (by rw[bne,Bool.beq_eq_decide_eq];exact h)
def tB(t:TE):TT:=fun σ H Q=>t σ H fun x H1=>∃c,x=.bl c/\Q c H1
def z1J{op:CmpOp}{t:TE}(h:PC X op a b t)(h1:behindInMarks op b=false:=by first|exact zdn _ (by decide) (by decide)|rfl):PT X (.Compare a [op] [b] pos) (tB t):=by intro pins s σ H Q I hw;refine wpAny_isTrue_Compare1 (thn (h pins s σ H _ I hw) fun v s1 h1=>thn h1 fun u s2 h2=>thn h2 fun c s3 hz8=>?_) h1;obtain⟨x,H1,I1,r1,q1⟩:=hz8;obtain⟨d,rfl,q⟩:=q1;cases r1;exact y1V ⟨H1,I1,q⟩
def zeS{e:Expr}{t:TE}(h:PE X e t)(he:∀whole,isTrue e X.env whole=(do let v <-whole;standAt e.pos;holding [v] (truthy v)):=by intro _;rfl):PT X e (tB t):=by intro pins s σ H Q I hw;refine isTrue_plain (z1P (h pins s σ H _ I hw) fun v s1 x H1 I1 r1 q1=>?_) (he _);obtain⟨d,rfl,q⟩:=q1;cases r1;exact y1V ⟨H1,I1,q⟩
variable{tA tB':TT}{z1B:List Expr}
def ziz(t u:TT):TT:=fun σ H Q=>t σ H fun c H1=>if c=true then u σ H1 Q else Q false H1
def tOr(t u:TT):TT:=fun σ H Q=>t σ H fun c H1=>if c=true then Q true H1 else u σ H1 Q
def ziJ(t:TT):TT:=fun σ H Q=>t σ H fun c H1=>Q (!c) H1
def z78(ha:PT X a tA):PW X (.BoolOp .And [a] pos) tA:=by
 intro wh pins s σ H Q I h;refine isTrue_and (thn (ha pins s σ H Q I h) fun c s1 e=>?_);cases c with
 |true=>exact isTrue_and_nil e
 |false=>exact e
def zeQ(ha:PT X a tA):PW X (.BoolOp .Or [a] pos) tA:=by
 intro wh pins s σ H Q I h;refine isTrue_or (thn (ha pins s σ H Q I h) fun c s1 e=>?_);cases c with
 |false=>exact isTrue_or_nil e
 |true=>exact e
def z9W(ha:PT X a tA)(hb:PW X (.BoolOp .And (b::z1B) pos) tB'):PW X (.BoolOp .And (a::b::z1B) pos) (ziz tA tB'):=by
 intro wh pins s σ H Q I h;refine isTrue_and (thn (ha pins s σ H _ I h) fun c s1 hz8=>?_);obtain⟨H1,I1,q1⟩:=hz8;cases c with
 |true=>exact hb wh pins s1 σ H1 Q I1 q1
 |false=>exact⟨H1,I1,q1⟩
def zgN(ha:PT X a tA)(hb:PW X (.BoolOp .Or (b::z1B) pos) tB'):PW X (.BoolOp .Or (a::b::z1B) pos) (tOr tA tB'):=by
 intro wh pins s σ H Q I h;refine isTrue_or (thn (ha pins s σ H _ I h) fun c s1 hz8=>?_);obtain⟨H1,I1,q1⟩:=hz8;cases c with
 |true=>exact⟨H1,I1,q1⟩
 |false=>exact hb wh pins s1 σ H1 Q I1 q1
def zh0(ha:PT X a tA):PT X (.UnaryOp .Not a pos) (ziJ tA):=by intro pins s σ H Q I h;exact isTrue_not (ha pins s σ H (fun c H1=>Q (!c) H1) I h)
def zhs(ta:TE):TE:=fun σ H Q=>ta σ H fun x H1=>∃c,x=.bl c/\Q (.bl (!c)) H1
def zg9(ha:PE X a ta):PE X (.UnaryOp .Not a pos) (zhs ta):=by intro pins s σ H Q I h;refine UnaryOp_ (z1P (ha pins s σ H _ I h) fun v s1 x H1 I1 r1 q1=>?_);obtain⟨c,rfl,q1⟩:=q1;cases r1;exact not_of (y1V ⟨.bl (!c),H1,I1,rfl,q1⟩)
def tIf(t:TT)(ta tb:TE):TE:=fun σ H Q=>t σ H fun c H1=>if c=true then ta σ H1 Q else tb σ H1 Q
def zdo{c:Expr}(hc:PT X c tA)(ha:PE X a ta)(hb:PE X b tb):PE X (.IfExp c a b pos) (tIf tA ta tb):=by
 intro pins s σ H Q I h;refine wpAny_IfExp (thn (hc pins s σ H _ I h) fun d s1 hz8=>?_);obtain⟨H1,I1,q1⟩:=hz8;cases d with
 |true=>exact ha pins s1 σ H1 Q I1 q1
 |false=>exact hb pins s1 σ H1 Q I1 q1
end
def SqL(K:yyF)(H:Hp)(a:Addr)(xs:List V):Prop :=
 Rd H a (.lst xs) \/
  ∃(o:Obj) (its:Array Value) (n:Nat),K.lookup a=some o/\o.cls=.type "list"/\o.dict=none/\o.data=.seq its n/\its.size<=sizeLine/\z0T xs its.toList
def SqT(K:yyF)(H:Hp)(a:Addr)(xs:List V):Prop :=
 Rd H a (.tup xs) \/
  ∃(o:Obj) (its:Array Value) (n:Nat),K.lookup a=some o/\o.cls=.type "tuple"/\o.data=.seq its n/\its.size<=sizeLine/\z0T xs its.toList
def ziX:Value->Option V
 |.none=>some .non
 |.bool b=>some (.bl b)
 |.int i _=>some (.int i)
 |.str x _=>some (.str x)
 |.bytes b _=>some (.byt b)
 |.float b _=>some (.flt b)
 |.ref a=>some (.ref a)
 |.type n=>some (.ty n)
 |_=>none
def z1i.abs{x:V}{u:Value}(r:z1i x u):ziX u=some x:=by
 cases x with
 |non=>cases r;rfl
 |bl _=>cases r;rfl
 |int _=>obtain⟨t,rfl⟩:=r;rfl
 |str _=>obtain⟨t,rfl⟩:=r;rfl
 |byt _=>obtain⟨t,rfl⟩:=r;rfl
 |flt _=>obtain⟨t,rfl⟩:=r;rfl
 |ref _=>cases r;rfl
 |ty _=>cases r;rfl
def z1i.inj{x y:V}{u:Value}(r:z1i x u)(q:z1i y u):x=y:=y08 (r.abs.symm.trans q.abs)
theorem z0T.inj:∀{xs ys:List V}{us:List Value},z0T xs us->z0T ys us->xs=ys
 |_,_,_,.nil,.nil=>rfl
 |_,_,_,.cons r t,.cons r' t'=>by rw[r.inj r',z0T.inj t t']
section
variable{X:Cx}{pins:yyP}{σ:St}{H:Hp}{s:Shared}{a:Addr}{xs ys:List V}
def SqL.of{K:yyF}(h:H a=some (.lst xs)):SqL K H a xs:=.inl (.inl h)
def SqT.of{K:yyF}(h:H a=some (.tup xs)):SqT K H a xs:=.inl (.inl h)
def Inv.list(I:Inv X pins σ H s)(h:SqL X.K H a xs):∃its:List Value,z0T xs its/\PlainL s.heap a its.toArray/\xs.length<=sizeLine:=by
 rcases h with h|⟨o,its,n,hk,hc,hd,hs,hz,r⟩
 .obtain⟨z,its,n,r,e⟩:=h.ok I.hok;exact⟨its,r,⟨_,n,e,rfl,rfl,rfl⟩,z⟩
 .refine⟨its.toList,r,⟨o,n,I.kIn a o hk,hc,hd,by simpa using hs⟩,?_⟩;have e:=r.length;simp only[y0J]at e;lia
def Inv.tuple(I:Inv X pins σ H s)(h:SqT X.K H a xs):∃its:List Value,z0T xs its/\IsTup s.heap a its.toArray/\xs.length<=sizeLine:=by
 rcases h with h|⟨o,its,n,hk,hc,hs,hz,r⟩
 .obtain⟨z,its,n,r,e⟩:=h.ok I.hok;exact⟨its,r,⟨_,e,rfl,n,rfl⟩,z⟩
 .refine⟨its.toList,r,⟨o,I.kIn a o hk,hc,n,by simpa using hs⟩,?_⟩;have e:=r.length;simp only[y0J]at e;lia
def Inv.list_inj(I:Inv X pins σ H s)(h:SqL X.K H a xs)(h':SqL X.K H a ys):xs=ys:=by
 obtain⟨its,r,⟨o,n,e,_,_,d⟩,_⟩:=I.list h;obtain⟨its',r',⟨o',n',e',_,_,d'⟩,_⟩:=I.list h';rw[e]at e';cases e';rw[d]at d';injection d' with d1 _;have:its=its':=by simpa using y1G Array.toList d1
 subst this;exact r.inj r'
def Inv.tuple_inj(I:Inv X pins σ H s)(h:SqT X.K H a xs)(h':SqT X.K H a ys):xs=ys:=by
 obtain⟨its,r,⟨o,e,_,n,d⟩,_⟩:=I.tuple h;obtain⟨its',r',⟨o',e',_,n',d'⟩,_⟩:=I.tuple h';rw[e]at e';cases e';rw[d]at d';injection d' with d1 _;have:its=its':=by simpa using y1G Array.toList d1
 subst this;exact r.inj r'
end
abbrev Cx.wish(X:Cx)(E:yyE):Cx:={ X with xe:=E }
abbrev Cx.nox(X:Cx):Cx:=X.wish fun _ _=>False
theorem Cx.Ok.wish{X:Cx}(ok:X.Ok)(E:yyE):(X.wish E).Ok :=
 ⟨ok.mod,ok.kind,ok.glob,ok.blt,ok.above,ok.inj,ok.has,ok.cab,ok.hd,ok.frames,ok.stk,ok.exf,ok.bs,ok.bsz,ok.noex,ok.exfs,ok.funs,ok.frf⟩
def Cx.Ok.unwish{X:Cx}{E:yyE}(ok:(X.wish E).Ok):X.Ok :=
 ⟨ok.mod,ok.kind,ok.glob,ok.blt,ok.above,ok.inj,ok.has,ok.cab,ok.hd,ok.frames,ok.stk,ok.exf,ok.bs,ok.bsz,ok.noex,ok.exfs,ok.funs,ok.frf⟩
section
variable{X:Cx}{pins:yyP}{σ:St}{H:Hp}{s:Shared}{E:yyE}
theorem Inv.wish(I:Inv X pins σ H s)(E:yyE):Inv (X.wish E) pins σ H s:=⟨I.ok.wish E,I.os,I.bare,I.base,I.loc,I.cell,I.free,I.freeC,I.pin,I.hok,I.len⟩
theorem Inv.unwish(I:Inv (X.wish E) pins σ H s):Inv X pins σ H s:=⟨I.ok.unwish,I.os,I.bare,I.base,I.loc,I.cell,I.free,I.freeC,I.pin,I.hok,I.len⟩
theorem SP.unwish{D:z46}{f:Flow}{s':Shared}(h:SP (X.wish E) pins D f s'):SP X pins D f s':=by
 cases f with
 |next=>obtain⟨σ',H',I,q⟩:=h;exact⟨σ',H',I.unwish,q⟩
 |brk=>obtain⟨σ',H',I,q⟩:=h;exact⟨σ',H',I.unwish,q⟩
 |cont=>obtain⟨σ',H',I,q⟩:=h;exact⟨σ',H',I.unwish,q⟩
 |ret u=>obtain⟨v,σ',H',I,r,q⟩:=h;exact⟨v,σ',H',I.unwish,r,q⟩
theorem PSs.nox{st:List Stmt}{t:TS}(h:PSs X.nox st t):PSs X st t:=fun pins s σ H D I hw =>
 y1J (h pins s σ H D (I.wish _) hw) (fun _ _ q=>q.unwish) fun _ _ z=>False.elim z
end
section
variable{X:Cx}{st:Stmt}{z1B:List Stmt}{t u:TS}{e:Expr}{te:TE}{pos:Pos}
def zg8:TS:=fun D σ H=>D.nx σ H
def zi4(t u:TS):TS:=fun D σ H=>t { D with nx:=u D } σ H
def z0I:PSs X [] zg8:=fun _ _ σ H _ I h=>y3l ⟨σ,H,I,h⟩
def z02(h1:PS X st t)(h2:PSs X z1B u):PSs X (st::z1B) (zi4 t u):=by
 intro pins s σ H D I h;refine wpAny_execs_cons (thn (h1 pins s σ H { D with nx:=u D } I h) fun f s1 q=>?_);cases f with
 |next =>
  obtain⟨σ',H',I',q⟩:=q;exact h2 pins s1 σ' H' D I' q
 |ret v=>exact q
 |brk=>exact q
 |cont=>exact q
def z05(h1:PS X st t):PSs X [st] t:=by
 intro pins s σ H D I h;refine wpAny_execs_cons (thn (h1 pins s σ H D I h) fun f s1 q=>?_);cases f with
 |next=>exact y3l q
 |ret v=>exact q
 |brk=>exact q
 |cont=>exact q
def Inv.quiet{pins:yyP}{σ:St}{H:Hp}{s:Shared}(I:Inv X pins σ H s):interactive X.env=false:=by simp[interactive,I.ok.kind]
def zhT(te:TE):TS:=fun D σ H=>te σ H fun _ H1=>D.nx σ H1
def z0P(he:PE X e te)(hs:swapsWith e none pos.line X.env=pure false:=by rfl):PS X (.Expr e pos) (zhT te):=by intro pins s σ H D I h;exact wpAny_Expr_any (z1P (he pins s σ H _ I h) fun v s1 x H1 I1 r1 q1=>⟨σ,H1,I1,q1⟩) I.quiet hs
def ziK(te:TE):TS:=fun D σ H=>te σ H D.rt
def z0x(he:PE X e te):PS X (.Return (some e) pos) (ziK te):=by intro pins s σ H D I h;exact wpAny_Return_some (z1P (he pins s σ H _ I h) fun v s1 x H1 I1 r1 q1=>⟨x,σ,H1,I1,r1,q1⟩)
def ziB(c:TT)(t u:TS):TS:=fun D σ H=>c σ H fun b H1=>if b=true then t D σ H1 else u D σ H1
def z1M{c:Expr}{a b:List Stmt}{tc:TT}(hc:PT X c tc)(ha:PSs X a t)(hb:PSs X b u):PS X (.If c a b pos) (ziB tc t u):=by
 intro pins s σ H D I h;refine wpAny_If (thn (hc pins s σ H _ I h) fun d s1 hz8=>?_);obtain⟨H1,I1,q1⟩:=hz8;cases d with
 |true=>exact ha pins s1 σ H1 D I1 q1
 |false=>exact hb pins s1 σ H1 D I1 q1
end
abbrev TG:=V->St->Hp->(St->Hp->Prop)->Prop
abbrev TGs:=List V->St->Hp->(St->Hp->Prop)->Prop
def PG(X:Cx)(target:Expr)(t:TG):Prop :=
 ∀(pins:yyP)(s:Shared)(σ:St)(H:Hp)(v:V)(u:Value)(Q:St->Hp->Prop),Inv X pins σ H s->z1i v u->t v σ H Q ->
  wpAny (model X.prog X.w) X.A (assign target X.env u) (fun _ s'=>∃σ' H',Inv X pins σ' H' s'/\Q σ' H') X.xe s
def PGs(X:Cx)(ts:List Expr)(t:TGs):Prop :=
 ∀(pins:yyP)(s:Shared)(σ:St)(H:Hp)(vs:List V)(us:List Value)(Q:St->Hp->Prop),Inv X pins σ H s->z0T vs us->t vs σ H Q ->
  wpAny (model X.prog X.w) X.A (assignInOrder ((assignEach ts X.env).map (·.2)) us) (fun _ s'=>∃σ' H',Inv X pins σ' H' s'/\Q σ' H') X.xe s
abbrev zhw:=V->V->V->Hp->(Hp->Prop)->Prop
def zi2(X:Cx)(t:zhw):Prop :=
 ∀(pins:yyP)(s:Shared)(σ:St)(H:Hp)(o i v:V)(ov iv u:Value)(Q:Hp->Prop),Inv X pins σ H s->z1i o ov->z1i i iv->z1i v u->t o i v H Q ->
  wpAny (model X.prog X.w) X.A (setItem ov iv u) (fun _ s'=>∃H',Inv X pins σ H' s'/\Q H') X.xe s
abbrev TIp:=V->V->Hp->VK->Prop
def PIp(X:Cx)(op:Operator)(t:TIp):Prop :=
 ∀(pins:yyP)(s:Shared)(σ:St)(H:Hp)(x y:V)(v u:Value)(Q:VK),Inv X pins σ H s->z1i x v->z1i y u->t x y H Q ->
  wpAny (model X.prog X.w) X.A (inplaceOp op v u) (EP X pins σ Q) X.xe s
section
variable{X:Cx}{pos:Pos}
def zbD(i:Nat):TG:=fun v σ H Q=>Q (σ.set i (some v)) H
def z0a{i:Nat}{x:Str}(hN:X.N.Nodup)(hi:X.N[i]?=some x)(hx:Loc X.env.scope x)(hf:X.fn x=true\/X.env.scope.names.lookup x=some .local:=by first|exact .inl rfl|exact .inr rfl|assumption):PG X (.Name x pos) (zbD i):=by intro pins s σ H v u Q I r h;exact wpAny_assign_Name (z6G I hN hi hx r (fun s' I'=>⟨_,H,I',h⟩) hf)
def ziG:TGs:=fun vs σ H Q=>vs=[]/\Q σ H
def zhy(t:TG)(u:TGs):TGs:=fun vs σ H Q=>∃v r,vs=v::r/\t v σ H fun σ' H'=>u r σ' H' Q
def z1g:PGs X [] ziG:=by intro pins s σ H vs us Q I r h;obtain⟨e,h⟩:=h;subst e;cases r;exact assignInOrder_nil ⟨σ,H,I,h⟩
def z0l{e:Expr}{es:List Expr}{t:TG}{u:TGs}(h1:PG X e t)(h2:PGs X es u)(hs:(assignEach (e::es) X.env).map (·.2)=assign e X.env::(assignEach es X.env).map (·.2):=by rfl):PGs X (e::es) (zhy t u):=by
 intro pins s σ H vs us Q I r h;obtain⟨v,vr,e1,h⟩:=h;subst e1;cases r with
 |cons r rr =>
  rw[hs];refine assignInOrder_cons (thn (h1 pins s σ H _ _ _ I r h) fun _ s1 hz8=>?_);obtain⟨σ1,H1,I1,q1⟩:=hz8;exact h2 pins s1 σ1 H1 _ _ Q I1 rr q1
def zio(K:yyF)(n:Nat)(t:TGs):TG:=fun v σ H Q=>∃a xs,v=.ref a/\SqT K H a xs/\xs.length=n/\t xs σ H Q
def z2f{es:List Expr}{k:Nat}{t:TGs}{n:Nat}(hc:X.calm=true)(h:PGs X es t)(hn:(assignEach es X.env).length=n:=by rfl)(hst:(assignEach es X.env).findIdx? (·.1)=none:=by rfl):PG X (.Tuple es k pos) (zio X.K n t):=by intro pins s σ H v u Q I r hw;obtain⟨a,xs,e1,hq,hl,hw⟩:=hw;subst e1;cases r;obtain⟨its,rv,ht,hz⟩:=I.tuple hq;refine assign_Tuple_tuple (I.ok.hd hc) ht (by simp[hn,<-hl,rv.length]) hst fun h' hx=>?_;have I1:Inv X pins σ H { s with heap:=h' }:=I.kept (t':=s.toks) fun b o e=>hx b o (y0u (y0k e)) e;exact h pins _ σ H xs _ Q I1 (by simpa using rv) hw
def ziZ(to ti:TE)(t:zhw):TG:=fun v σ H Q=>to σ H fun o H1=>ti σ H1 fun i H2=>t o i v H2 fun H3=>Q σ H3
def zgX{o i:Expr}{to ti:TE}{t:zhw}(ho:PE X o to)(hi:PE X i ti)(hs:zi2 X t)
  (ha:∀v,assign (.Subscript o i pos) X.env v=(do
   let ov <-holding [v] (eval o X.env);let iv <-holding [v,ov] (eval i X.env)
   standAt pos
   holding [v,ov,iv] (setItem ov iv v)
   release [v,ov,iv] []):=by intro _;rfl):PG X (.Subscript o i pos) (ziZ to ti t):=by
 intro pins s σ H v u Q I r h;rw[ha];refine y02 (y20 (z1P (ho pins s σ H _ I h) fun ov s1 x H1 I1 r1 q1=>?_));refine y02 (y20 (z1P (hi pins s1 σ H1 _ I1 q1) fun iv s2 y H2 I2 r2 q2=>?_));refine y02 (wpAny_standAt (y02 (y20 (thn (hs pins s2 σ H2 x y v ov iv u _ I2 r1 r2 r q2) fun _ s3 hz8=>?_))));obtain⟨H3,I3,q3⟩:=hz8;exact wpAny_release ⟨σ,H3,I3,q3⟩
def zhL(te:TE)(g:TG):TS:=fun D σ H=>te σ H fun x H1=>g x σ H1 D.nx
def z2S{tg e:Expr}{te:TE}{g:TG}(he:PE X e te)(hg:PG X tg g)(hs:swapsWithSole [tg] e pos.line X.env=pure false:=by rfl)(hw:swappedStores [tg] e X.env=pure none:=by rfl)(h1:(assignEach [tg] X.env).map (·.2)=[assign tg X.env]:=by rfl):PS X (.Assign [tg] e pos) (zhL te g):=by intro pins s σ H D I h;refine wpAny_Assign_stores (z1P (he pins s σ H _ I h) fun v s1 x H1 I1 r1 q1=>?_) hs hw;rw[h1];exact thn (hg pins s1 σ H1 x v _ I1 r1 q1) fun _ s2 q=>q
def z0b{i:Nat}{x:Str}{e:Expr}{te:TE}{pos':Pos}(hN:X.N.Nodup)(hi:X.N[i]?=some x)(hx:Loc X.env.scope x)(he:PE X e te)(hs:swapsWith e (some (.Name x pos')) pos.line X.env=pure false:=by rfl)(hf:X.fn x=true\/X.env.scope.names.lookup x=some .local:=by first|exact .inl rfl|exact .inr rfl|assumption) : PS X (.Assign [.Name x pos'] e pos) (zhL te (zbD i)):=by intro pins s σ H D I h;refine wpAny_Assign_Name (z1P (he pins s σ H _ I h) fun v s1 y H1 I1 r1 q1=>?_) hs;exact z6G I1 hN hi hx r1 (fun s2 I2=>⟨_,H1,I2,q1⟩) hf
def zj5(i:Nat)(te:TE)(ti:TIp):TS:=fun D σ H=>∃x,σ[i]?=some (some x)/\te σ H fun y H1=>ti x y H1 fun z H2=>D.nx (σ.set i (some z)) H2
def zcK{i:Nat}{x:Str}{e:Expr}{te:TE}{op:Operator}{ti:TIp}{pos':Pos}(hN:X.N.Nodup)(hi:X.N[i]?=some x)(hx:Loc X.env.scope x)(he:PE X e te)(ho:PIp X op ti)(hf:X.fn x=true\/X.env.scope.names.lookup x=some .local:=by first|exact .inl rfl|exact .inr rfl|assumption) : PS X (.AugAssign (.Name x pos') op e pos) (zj5 i te ti):=by
 intro pins s σ H D I h;obtain⟨v,e1,h⟩:=h;obtain⟨m,hn,hl⟩:=I.loc;have vis:Vis X.env.scope x:=by rcases hx with k|k;exact .inl k;exact .inr (.inl k)
 obtain⟨u,r,l⟩:=hl i x v hi e1 vis;refine wpAny_AugAssign_Name ?_;have go:wpAny (model X.prog X.w) X.A (eval e X.env) (fun w s₂=>wpAny (model X.prog X.w) X.A (inplaceOp op u w) (fun r s₃=>wpAny (model X.prog X.w) X.A (storeName X.env x r) (fun _=>SP X pins D .next) X.xe s₃) X.xe s₂) X.xe s:=by refine z1P (he pins s σ H _ I h) fun w s1 y H1 I1 r1 q1=>?_;refine z1P (ho pins s1 σ H1 v y u w _ I1 r r1 q1) fun z s2 zv H2 I2 r2 q2=>?_;exact z6G I2 hN hi hx r2 (fun s3 I3=>⟨_,H2,I3,q2⟩) hf
 rcases l with⟨hk,hm⟩|⟨hk,c,hc,hcell⟩
 .exact wpAny_loadName_local I.ok.kind hk hn hm go
 .rcases hk with hk|hk
  .exact wpAny_loadName_cell I.ok.kind hk hc hcell go
  .rcases hx with k|k
   .have:X.env.scope.names.lookup x=some .free:=hk;rw[k]at this;cases this
   .have:X.env.scope.names.lookup x=some .free:=hk;rw[k]at this;cases this
def ipI(f:Int->Int->Int):TIp:=fun x y H Q=>∃i j,x=.int i/\y=.int j/\Q (.int (f i j)) H
def zck:PIp X .Add (ipI fun i j=>i+j):=by intro pins s σ H x y v u Q I r1 r2 h;obtain⟨i,j,e1,e2,q⟩:=h;subst e1;subst e2;obtain⟨t,rfl⟩:=r1;obtain⟨t',rfl⟩:=r2;exact iadd_int ⟨.int _,H,I.tok _,⟨_,rfl⟩,q⟩
end
section
variable{X:Cx}{pos:Pos}
def z87(c:TT)(tb:TS):TS:=fun D σ H=>∃W:Nat->St->Hp->Prop,(∃m,W m σ H)/\∀m σ H,W m σ H ->
 c σ H fun b H1=>if b=true then ∃N:St->Hp->Prop,(∀σ' H',N σ' H'->∃m',m'<m/\W m' σ' H')/\tb { D with nx:=N,ct:=N,bk:=D.nx } σ H1 else D.nx σ H1
def z1T{c:Expr}{body:List Stmt}{tc:TT}{tb:TS}(hp:PassesOwn (model X.prog X.w) X.A X.env X.xe)(hc:PT X c tc)(hb:PSs X body tb):PS X (.While c body [] pos) (z87 tc tb):=by
 intro pins s σ H D I h;obtain⟨W,⟨m0,w0⟩,z5B⟩:=h;refine wpAny_While (codeAny_whileLoop (fun n s'=>∃σ' H',Inv X pins σ' H' s'/\W n σ' H') ?_ m0 ⟨σ,H,I,w0⟩);rintro n s1 ⟨σ1,H1,I1,w1⟩;refine y2w hp (thn (hc pins s1 σ1 H1 _ I1 (z5B n σ1 H1 w1)) fun b s2 hz8=>?_);obtain⟨H2,I2,q2⟩:=hz8;cases b with
 |true =>
  obtain⟨N,hN,q2⟩:=q2;rw[if_pos rfl];refine y2w hp (thn (hb pins s2 σ1 H2 _ I2 q2) fun f s3 q3=>?_);cases f with
  |next =>
   obtain⟨σ3,H3,I3,n3⟩:=q3;obtain⟨m',hm,w3⟩:=hN σ3 H3 n3;exact⟨m',hm,σ3,H3,I3,w3⟩
  |cont =>
   obtain⟨σ3,H3,I3,n3⟩:=q3;obtain⟨m',hm,w3⟩:=hN σ3 H3 n3;exact⟨m',hm,σ3,H3,I3,w3⟩
  |brk=>exact q3
  |ret v=>exact q3
 |false =>
  rw[if_neg y0M];exact y3l ⟨σ1,H2,I2,q2⟩
end
structure It where
 go:Nat->Hp->Prop
 yld:Nat->Hp->V->Hp->Prop
 stop:Nat->Hp->Prop
def zaE(X:Cx)(pins:yyP)(H:Hp)(b:Addr):Prop :=
 H b=none/\b≠X.env.locals/\b∉X.fs/\(b∈X.ex\/X.s₀.heap.objs.size<=b)/\(∀x c,X.env.cells.lookup x=some c->c≠b)/\∀p∈X.pn++pins,p.1≠b
def Inv.fpOk{X:Cx}{pins:yyP}{σ:St}{H H':Hp}{s:Shared}{b:Addr}(I:Inv X pins σ H s)(hb:s.heap.objs.size<=b)(hn:H' b=none):zaE X pins H' b:=by
 refine⟨hn,y2E (y0r I.lt hb),I.nofs hb,.inr (y0Q I.sz hb),fun x c e z=>?_,fun p hp z=>?_⟩
 .obtain⟨v,q⟩:=I.cell x c e;exact absurd (y0r q.lt (by rw[z];exact hb)) (y2n _)
 .exact absurd (y0r (y0k (I.pin p hp).1) (by rw[z];exact hb)) (y2n _)
structure zey(P:Program)(w:World)(K:yyF)(tg:Expr)(J:It)(fp:List Addr)(it:Addr)(tn:Nat->Heap->Prop):Prop where
 mem:it∈fp
 obj:∀i h,tn i h->∀b∈fp,∃o,h.get? b=some o/\∀v,o.data≠.cell v
 keep:∀i h h',tn i h->(∀b∈fp,∀o,h.get? b=some o->h'.get? b=some o)->tn i h'
 item:∀(X:Cx),X.prog=P->X.w=w->X.K=K->X.calm=true->∀(i:Nat)(pins:yyP)(s:Shared)(σ:St)(H:Hp)(E:yyE),Inv X pins σ H s->(∀b∈fp,zaE X pins H b)->tn i s.heap->J.go i H ->
  wpAny (model P w) X.A (pyNext (.ref it)) (fun r s1=>∃u,r=some u /\
   wpAny (model P w) X.A (letOwnedTupleGo tg (.ref it) u) (fun _ s2=>∃x H',Inv X pins σ H' s2/\z1i x u/\J.yld i H x H'/\tn (i+1) s2.heap/\∀b∈fp,H' b=none) E s1) E s
 done:∀(X:Cx),X.prog=P->X.w=w->X.K=K->X.calm=true->∀(i:Nat)(pins:yyP)(s:Shared)(σ:St)(H:Hp)(E:yyE),Inv X pins σ H s->(∀b∈fp,zaE X pins H b)->tn i s.heap->J.stop i H ->
  wpAny (model P w) X.A (pyNext (.ref it)) (fun r s1=>r=none/\Inv X pins σ H s1) E s
 self:∀(A:Around)(i:Nat)(s:Shared)(Q:yyE)(E:yyE),tn i s.heap->Q (.ref it) s->wpAny (model P w) A (pyIter (.ref it)) Q E s
abbrev TI:=St->Hp->(It->Hp->Prop)->Prop
def PIE(X:Cx)(pins:yyP)(σ:St)(tg:Expr)(R:It->Hp->Prop)(itv:Value)(s2:Shared):Prop :=
 ∃(it:Addr)(fp:List Addr)(tn:Nat->Heap->Prop)(J:It)(H':Hp),itv=.ref it/\Inv X pins σ H' s2/\zey X.prog X.w X.K tg J fp it tn/\tn 0 s2.heap/\(∀b∈fp,zaE X pins H' b)/\R J H'
def PI(X:Cx)(tg iter:Expr)(wi:TI):Prop :=
 ∀(pins:yyP)(s:Shared)(σ:St)(H:Hp)(R:It->Hp->Prop),Inv X pins σ H s->wi σ H R ->
  wpAny (model X.prog X.w) X.A (eval iter X.env) (fun v s1=>wpAny (model X.prog X.w) X.A (pyIter v) (PIE X pins σ tg R) X.xe s1) X.xe s
def zfj{M:Model}{A:Around}{E:yyE}{s:Shared}{tg:Expr}{it:Addr}{u:Value}{o:Obj}{n:String}{vs:Array Value}{Q:Unit->Shared->Prop}(ho:s.heap.get? it=some o)(hc:o.cls=.type n)(hd:o.data=.fields vs)(hn:["enumerate","zip","dict_itemiterator","dict_reverseitemiterator","odict_iterator","itertools.zip_longest","itertools.pairwise"].contains n=false)(hQ:Q () s):wpAny M A (letOwnedTupleGo tg (.ref it) u) Q E s:=by
 unfold letOwnedTupleGo;cases tg<;>first
  |exact y09 hQ
  | (cases u<;>first
    |exact y09 hQ
    | (refine y02 (wpAny_load ho ?_)
       rw[hc,hd];show wpAny M A (if(["enumerate","zip","dict_itemiterator","dict_reverseitemiterator","odict_iterator","itertools.zip_longest","itertools.pairwise"].contains n&&vs[0]?==some (rawInt _))=true then _ else _) Q E s;rw[if_neg (by intro h;rw[hn,Bool.false_and]at h;cases h)];exact y09 hQ))
def Itl(K:yyF)(a:Addr):It :=
 ⟨fun i H=>∃xs x,SqL K H a xs/\xs[i]?=some x,fun i H x H'=>H'=H/\∀xs,SqL K H a xs->xs[i]?=some x,fun i H=>∃xs,SqL K H a xs/\xs.length<=i⟩
def Itt(K:yyF)(a:Addr):It :=
 ⟨fun i H=>∃xs x,SqT K H a xs/\xs[i]?=some x,fun i H x H'=>H'=H/\∀xs,SqT K H a xs->xs[i]?=some x,fun i H=>∃xs,SqT K H a xs/\xs.length<=i⟩
def Itr(lo:Int)(n:Nat):It:=⟨fun i _=>i<n,fun i H x H'=>H'=H/\x=.int (lo+i),fun i _=>n<=i⟩
def zbF{P:Program}{w:World}{K:yyF}{tg:Expr}(a it:Addr):zey P w K tg (Itl K a) [it] it (fun i h=>h.IsListIter it a i) where
 mem:=by simp
 obj:=fun i h st b hb=>by
  have e:b=it:=by simpa using hb
  subst e;obtain⟨o,e,c,d⟩:=st;exact⟨o,e,fun v z=>by rw[d]at z;cases z⟩
 keep:=fun i h h' st k=>st.at fun o e=>k it (by simp) o e
 item:=by intro X hP hw hK hc i pins s σ H E I hf st hg;subst hP hw hK;obtain⟨xs,x,hq,hx⟩:=hg;obtain⟨its,rv,p,hz⟩:=I.list hq;obtain⟨u,hu,ru⟩:=rv.get hx;obtain⟨f0,f1,f2,f3,f4,f5⟩:=hf it (by simp);refine wpAny_pyNext_list_item st p.isList (x:=u) (by simpa using hu) fun h' st' sb=>?_;have I1:Inv X pins σ H { s with heap:=h' }:=I.turned (t':=s.toks) (fun b o hb e=>(sb.2 b hb).trans e) f0 f1 f3 f4 f5;obtain⟨o,e,c,d⟩:=id st';exact⟨u,rfl,zfj (s:={ s with heap:=h' }) e c d (by decide) ⟨x,H,I1,ru,⟨rfl,fun ys hy=>by rw[I.list_inj hy hq];exact hx⟩,st',fun b hb=>(hf b hb).1⟩⟩
 done:=by intro X hP hw hK hc i pins s σ H E I hf st hg;subst hP hw hK;obtain⟨xs,hq,hx⟩:=hg;obtain⟨its,rv,p,hz⟩:=I.list hq;obtain⟨f0,f1,f2,f3,f4,f5⟩:=hf it (by simp);have hl:=rv.length;exact wpAny_pyNext_list_end (I.ok.hd hc) st p.isList (by simp;lia) fun h' eb=>⟨rfl,I.turned (t':=s.toks) (fun b o hb e=>eb b o hb e) f0 f1 f3 f4 f5⟩
 self:=fun _ _ _ _ _ st h=>wpAny_pyIter_listiter st h
def zaQ{P:Program}{w:World}{K:yyF}{tg:Expr}(a it:Addr):zey P w K tg (Itt K a) [it] it (fun i h=>h.IsTupleIter it a i) where
 mem:=by simp
 obj:=fun i h st b hb=>by
  have e:b=it:=by simpa using hb
  subst e;obtain⟨o,e,c,d⟩:=st;exact⟨o,e,fun v z=>by rw[d]at z;cases z⟩
 keep:=fun i h h' st k=>st.at fun o e=>k it (by simp) o e
 item:=by intro X hP hw hK hc i pins s σ H E I hf st hg;subst hP hw hK;obtain⟨xs,x,hq,hx⟩:=hg;obtain⟨its,rv,p,hz⟩:=I.tuple hq;obtain⟨u,hu,ru⟩:=rv.get hx;obtain⟨f0,f1,f2,f3,f4,f5⟩:=hf it (by simp);refine wpAny_pyNext_tuple_item st (show s.heap.IsTuple a its.toArray from p) (x:=u) (by simpa using hu) fun h' st' sb=>?_;have I1:Inv X pins σ H { s with heap:=h' }:=I.turned (t':=s.toks) (fun b o hb e=>(sb.2 b hb).trans e) f0 f1 f3 f4 f5;obtain⟨o,e,c,d⟩:=id st';exact⟨u,rfl,zfj (s:={ s with heap:=h' }) e c d (by decide) ⟨x,H,I1,ru,⟨rfl,fun ys hy=>by rw[I.tuple_inj hy hq];exact hx⟩,st',fun b hb=>(hf b hb).1⟩⟩
 done:=by intro X hP hw hK hc i pins s σ H E I hf st hg;subst hP hw hK;obtain⟨xs,hq,hx⟩:=hg;obtain⟨its,rv,p,hz⟩:=I.tuple hq;obtain⟨f0,f1,f2,f3,f4,f5⟩:=hf it (by simp);have hl:=rv.length;exact wpAny_pyNext_tuple_end (I.ok.hd hc) st (show s.heap.IsTuple a its.toArray from p) (by simp;lia) fun h' eb=>⟨rfl,I.turned (t':=s.toks) (fun b o hb e=>eb b o hb e) f0 f1 f3 f4 f5⟩
 self:=fun _ _ _ _ _ st h=>wpAny_pyIter_tupleiter st h
def zaD{P:Program}{w:World}{K:yyF}{tg:Expr}(it:Addr)(lo:Int)(n:Nat):zey P w K tg (Itr lo n) [it] it (fun i h=>IsRangeIter h it (lo+(i:Nat)*1) ((n:Int)-(i:Nat)) 1) where
 mem:=by simp
 obj:=fun i h st b hb=>by
  have e:b=it:=by simpa using hb
  subst e;exact⟨_,st,fun v z=>by have z':Data.fields _=Data.cell v:=z;cases z'⟩
 keep:=fun i h h' st k=>k it (by simp) _ st
 item:=by intro X hP hw hK hc i pins s σ H E I hf st hg;subst hP hw hK;obtain⟨f0,f1,f2,f3,f4,f5⟩:=hf it (by simp);have W:=Walks.range (prog:=X.prog) (w:=X.w) (I.ok.hd hc) it lo 1 n;refine W.item i s _ _ hg st fun v h' tk hv st' kk=>?_;obtain⟨t,rfl⟩:=hv;have I1:Inv X pins σ H { s with heap:=h',toks:=tk }:=I.turned (fun b o hb e=>kk b o (by simpa using hb) e) f0 f1 f3 f4 f5;refine⟨_,rfl,zfj (s:={ s with heap:=h',toks:=tk }) (n:="range_iterator") st' rfl rfl (by decide) ⟨.int (lo+i),H,I1,⟨t,?_⟩,⟨rfl,rfl⟩,st',fun b hb=>(hf b hb).1⟩⟩;rw[Int.mul_one]
 done:=by intro X hP hw hK hc i pins s σ H E I hf st hg;subst hP hw hK;obtain⟨f0,f1,f2,f3,f4,f5⟩:=hf it (by simp);exact wpAny_pyNext_range_end (I.ok.hd hc) st (by have:n<=i:=hg;lia) fun h' eb=>⟨rfl,I.turned (t':=s.toks) (fun b o hb e=>eb b o hb e) f0 f1 f3 f4 f5⟩
 self:=fun _ _ _ _ _ st h=>wpAny_pyIter_rangeiter st h
section
variable{X:Cx}{tg:Expr}
def zhh(K:yyF)(tl:TE):TI:=fun σ H R=>tl σ H fun x H1=>∃a,x=.ref a/\(∃xs,SqL K H1 a xs)/\R (Itl K a) H1
def zhZ(K:yyF)(tl:TE):TI:=fun σ H R=>tl σ H fun x H1=>∃a,x=.ref a/\(∃xs,SqT K H1 a xs)/\R (Itt K a) H1
def z1x{l:Expr}{tl:TE}(hl:PE X l tl):PI X tg l (zhh X.K tl):=by
 intro pins s σ H R I h;refine z1P (hl pins s σ H _ I h) fun v s1 x H1 I1 r1 q1=>?_;obtain⟨a,e,⟨xs,hq⟩,q⟩:=q1;subst e;cases r1;obtain⟨its,rv,p,hz⟩:=I1.list hq;refine wpAny_pyIter_list p.isList ?_;refine⟨s1.heap.objs.size,[s1.heap.objs.size],_,_,H1,rfl,I1.kept (t':=s1.toks) fun b o e=>y05 _ e,zbF a _,⟨_,y0e _ rfl,rfl,rfl⟩,fun b hb=>?_,q⟩;have e:b=s1.heap.objs.size:=by simpa using hb
 subst e;exact I1.fpOk (y0b _) (I1.hok.fresh (y0b _))
def z2r{l:Expr}{tl:TE}(hl:PE X l tl):PI X tg l (zhZ X.K tl):=by
 intro pins s σ H R I h;refine z1P (hl pins s σ H _ I h) fun v s1 x H1 I1 r1 q1=>?_;obtain⟨a,e,⟨xs,hq⟩,q⟩:=q1;subst e;cases r1;obtain⟨its,rv,p,hz⟩:=I1.tuple hq;refine y2S (show s1.heap.IsTuple a its.toArray from p) ?_;refine⟨s1.heap.objs.size,[s1.heap.objs.size],_,_,H1,rfl,I1.kept (t':=s1.toks) fun b o e=>y05 _ e,zaQ a _,⟨_,y0e _ rfl,rfl,rfl⟩,fun b hb=>?_,q⟩;have e:b=s1.heap.objs.size:=by simpa using hb
 subst e;exact I1.fpOk (y0b _) (I1.hok.fresh (y0b _))
def zdz{pins:yyP}{σ:St}{H:Hp}{s:Shared}{R:It->Hp->Prop}{E:yyE}{lo hi:Int}{t u v:Tok}{tk:Nat}(I:Inv X pins σ H s)(h1:-(2^62)<=lo)(h2:lo<2^62)(h3:-(2^62)<=hi)(h4:hi<2^62)(q:R (Itr lo (hi-lo).toNat) H):wpAny (model X.prog X.w) X.A (pyIter (.ref s.heap.objs.size)) (PIE X pins σ tg R) E { s with heap:=s.heap.push { cls:=.type "range",data:=.fields #[.int lo t,.int hi u,.int 1 v] },toks:=tk }:=by
 refine wpAny_pyIter_range (IsRange.new ..) (small_one h1 h2 h3 h4) ?_;have I1:Inv X pins σ H { s with heap:=s.heap.push { cls:=.type "range",data:=.fields #[.int lo t,.int hi u,.int 1 v] },toks:=tk }:=I.kept fun b o e=>y05 _ e;refine⟨(s.heap.push { cls:=.type "range",data:=.fields #[.int lo t,.int hi u,.int 1 v] }).objs.size,[(s.heap.push { cls:=.type "range",data:=.fields #[.int lo t,.int hi u,.int 1 v] }).objs.size],_,_,H,rfl,
  I1.kept (t':=tk) fun b o e=>y05 _ e,zaD _ lo (hi-lo).toNat,?_,fun b hb=>?_,q⟩
 .have e1:lo+((0:Nat):Int)*1=lo:=by simp
  have e2:(((hi-lo).toNat:Nat):Int)-((0:Nat):Int)=Builtin.Range.rangeSize lo hi 1:=by rw[rangeSize_one];split<;>lia
  show IsRangeIter _ _ (lo+((0:Nat):Int)*1) ((((hi-lo).toNat:Nat):Int)-((0:Nat):Int)) 1;rw[e1,e2];exact y0e _ rfl
 .have e:b=(s.heap.push { cls:=.type "range",data:=.fields #[.int lo t,.int hi u,.int 1 v] }).objs.size:=by simpa using hb
  subst e;exact I1.fpOk (y0b _) (I1.hok.fresh (y0b _))
def zhK(ta:TA):TI:=fun σ H R=>ta σ H fun vs H1=>∃j:Int,vs=[.int j]/\-(2^62)<=j/\j<2^62/\R (Itr 0 j.toNat) H1
def z1A{a:Expr}{ta:TA}{p pos:Pos}(hg:Gl X "range")(hm:X.mg "range"=none)(ha:PA X [a] ta)(hs:starEach [a] X.env=[(false,eval a X.env)]:=by rfl):PI X tg (.Call (.Name "range" p) [a] [] pos) (zhK ta):=by
 intro pins s σ H R I h;refine Call_ (z64 I hg hm boot_range (y1O (thn (ha pos pins s σ H _ I h) fun us s1 hz8=>?_) hs rfl));obtain⟨vs,H1,I1,r1,q1⟩:=hz8;obtain⟨j,e,q1,q2,q⟩:=q1;subst e;cases r1 with
 |cons r rr =>
  cases rr;obtain⟨t,rfl⟩:=r;exact call_range_1 (zdz I1 (by lia) (by lia) q1 q2 (by simpa using q))
def ziF(wi:TI)(g:TG)(tb:TS):TS:=fun D σ H=>wi σ H fun J H1=>∃W:Nat->Nat->St->Hp->Prop,(∃m,W 0 m σ H1)/\∀i m σ H,W i m σ H ->
 (J.stop i H/\D.nx σ H)\/(J.go i H/\∃N:St->Hp->Prop,(∀σ' H',N σ' H'->∃m',m'<m/\W (i+1) m' σ' H')/\∀x H',J.yld i H x H'->g x σ H' fun σ2 H2=>tb { D with nx:=N,ct:=N,bk:=D.nx } σ2 H2)
def z9M(fp:List Addr)(h:Heap):yyP:=fp.filterMap fun b=>(h.get? b).map fun o=>(b,o)
def z34{fp:List Addr}{h:Heap}{b:Addr}{o:Obj}(hb:b∈fp)(e:h.get? b=some o):(b,o)∈z9M fp h:=y3m.mpr ⟨b,hb,by rw[e];rfl⟩
def zc9{fp:List Addr}{h:Heap}{p:Addr × Obj}(hp:p∈z9M fp h):p.1∈fp/\h.get? p.1=some p.2:=by
 obtain⟨b,hb,e⟩:=y3m.mp hp;cases q:h.get? b with
 |none=>rw[q]at e;cases e
 |some o =>
  rw[q]at e;have e':(b,o)=p:=y08 e;subst e';exact⟨hb,q⟩
def Inv.pinned{pins:yyP}{σ:St}{H:Hp}{s:Shared}{fp:List Addr}(I:Inv X pins σ H s)(hf:∀b∈fp,zaE X pins H b)(ho:∀b∈fp,∃o,s.heap.get? b=some o/\∀v,o.data≠.cell v):Inv X (pins++z9M fp s.heap) σ H s :=
 I.pins_of fun p hp=>(y0s.mp hp).elim (fun z=>I.pin p (y0H _ z)) fun z=>by obtain⟨hb,e⟩:=zc9 z;obtain⟨f0,f1,f2,_⟩:=hf p.1 hb;obtain⟨o,e',d⟩:=ho p.1 hb;rw[e]at e';cases e';exact⟨e,f0,f1,f2,d⟩
def Inv.unpinned{pins pl:yyP}{σ:St}{H:Hp}{s:Shared}(I:Inv X (pins++pl) σ H s):Inv X pins σ H s:=I.pins_of fun p hp=>I.pin p (y0H _ (y0t _ hp))
def z1u{iter:Expr}{body:List Stmt}{wi:TI}{g:TG}{tb:TS}{pos:Pos}(hp:PassesOwn (model X.prog X.w) X.A X.env X.xe)(hc:X.calm=true)(hi:PI X tg iter wi)(hg:PG X tg g)(hb:PSs X body tb)(hs:∀x,foldedSetIterable iter X.env x=pure x:=by intro _;rfl):PS X (.For tg iter body [] pos) (ziF wi g tb):=by
 intro pins s σ H D I h;refine wpAny_For (thn (hi pins s σ H _ I h) fun v s1 h1=>thn h1 fun itv s2 h2=>?_) hs;obtain⟨it,fp,tn,J,H2,e,I2,T,st2,f2,W,⟨m0,w0⟩,z5B⟩:=h2;subst e;have stat:∀{H':Hp},(∀b∈fp,H' b=none)->∀b∈fp,zaE X pins H' b:=fun hn b hb=>⟨hn b hb,(f2 b hb).2⟩;refine codeAny_forLoop_any (fun n s'=>∃i σ' H',Inv X pins σ' H' s'/\tn i s'.heap/\(∀b∈fp,H' b=none)/\W i n σ' H') ?_ m0 ⟨0,σ,H2,I2,st2,fun b hb=>(f2 b hb).1,w0⟩;rintro n s3 ⟨i,σ3,H3,I3,st3,fr3,w3⟩;rcases z5B i n σ3 H3 w3 with⟨stop,qn⟩|⟨go,N,hN,step⟩
 .refine y2w hp (thn (T.done X rfl rfl rfl hc i pins s3 σ3 H3 X.xe I3 (stat fr3) st3 stop) fun r s4 hz8=>?_);obtain⟨hr,I4⟩:=hz8;subst hr;exact y3l ⟨σ3,H3,I4,qn⟩
 .refine y2w hp (thn (T.item X rfl rfl rfl hc i pins s3 σ3 H3 X.xe I3 (stat fr3) st3 go) fun r s4 hz8=>?_);obtain⟨u,hr,h4⟩:=hz8;subst hr;refine y2w hp (thn h4 fun _ s5 hz8=>?_);obtain⟨x,H5,I5,r5,y5,st5,fr5⟩:=hz8;have I5':=I5.pinned (stat fr5) (T.obj _ _ st5);refine y2w hp (thn (hg _ s5 σ3 H5 x u _ I5' r5 (step x H5 y5)) fun _ s6 hz8=>?_);obtain⟨σ6,H6,I6,q6⟩:=hz8;refine y2w hp (thn (hb _ s6 σ6 H6 _ I6 q6) fun f s7 q7=>?_);have again:∀{σ7:St}{H7:Hp},Inv X (pins++z9M fp s5.heap) σ7 H7 s7->N σ7 H7->∃m,m<n/\∃i σ' H',Inv X pins σ' H' s7/\tn i s7.heap/\(∀b∈fp,H' b=none)/\W i m σ' H':=fun{σ7 H7} I7 n7=>by
   obtain⟨m',hm,w7⟩:=hN σ7 H7 n7;refine⟨m',hm,i+1,σ7,H7,I7.unpinned,T.keep _ _ _ st5 fun b hb o e=>(I7.pin (b,o) (y0H _ (y0H _ (z34 hb e)))).1,fun b hb=>?_,w7⟩;obtain⟨o,e,d⟩:=T.obj _ _ st5 b hb;exact(I7.pin (b,o) (y0H _ (y0H _ (z34 hb e)))).2.1
  cases f with
  |next=>obtain⟨σ7,H7,I7,n7⟩:=q7;exact again I7 n7
  |cont=>obtain⟨σ7,H7,I7,n7⟩:=q7;exact again I7 n7
  |brk=>obtain⟨σ7,H7,I7,q7⟩:=q7;exact⟨σ7,H7,I7.unpinned,q7⟩
  |ret v=>obtain⟨x7,σ7,H7,I7,r7,q7⟩:=q7;exact⟨x7,σ7,H7,I7.unpinned,r7,q7⟩
end
def z9B{K:yyF}{a:Addr}{xs:List V}{g:TG}{tb:TS}{D:z46}{σ:St}{H:Hp}(Pv:Nat->St->Hp->Prop)(h0:Pv 0 σ H)(hl:∀i σ H,i<=xs.length->Pv i σ H->SqL K H a xs)(hs:∀i x σ H,xs[i]?=some x->Pv i σ H->g x σ H fun σ2 H2=>tb { D with nx:=Pv (i+1),ct:=Pv (i+1),bk:=D.nx } σ2 H2)(hd:∀σ H,Pv xs.length σ H->D.nx σ H) : ∃W:Nat->Nat->St->Hp->Prop,(∃m,W 0 m σ H)/\∀i m σ H,W i m σ H -> ((Itl K a).stop i H/\D.nx σ H)\/((Itl K a).go i H/\∃N:St->Hp->Prop,(∀σ' H',N σ' H'->∃m',m'<m/\W (i+1) m' σ' H')/\∀x H',(Itl K a).yld i H x H'->g x σ H' fun σ2 H2=>tb { D with nx:=N,ct:=N,bk:=D.nx } σ2 H2):=by
 refine⟨fun i m σ H=>m=xs.length-i/\i<=xs.length/\Pv i σ H,⟨xs.length,by simp,y0K _,h0⟩,?_⟩;rintro i m σ H ⟨rfl,hi,p⟩;have q:=hl i σ H hi p;by_cases hlt:i<xs.length
 .refine .inr ⟨⟨xs,xs[i],q,by simp[hlt]⟩,Pv (i+1),fun σ' H' p'=>⟨xs.length-(i+1),by lia,rfl,hlt,p'⟩,fun x H' y=>?_⟩;obtain⟨e,y⟩:=y;subst e;exact hs i x σ _ (y xs q) p
 .have e:i=xs.length:=by lia
  subst e;exact .inl ⟨⟨xs,q,y0b _⟩,hd σ H p⟩
def z8P{K:yyF}{a:Addr}{xs:List V}{g:TG}{tb:TS}{D:z46}{σ:St}{H:Hp}(Pv:Nat->St->Hp->Prop)(h0:Pv 0 σ H)(hl:∀i σ H,i<=xs.length->Pv i σ H->SqT K H a xs)(hs:∀i x σ H,xs[i]?=some x->Pv i σ H->g x σ H fun σ2 H2=>tb { D with nx:=Pv (i+1),ct:=Pv (i+1),bk:=D.nx } σ2 H2)(hd:∀σ H,Pv xs.length σ H->D.nx σ H) : ∃W:Nat->Nat->St->Hp->Prop,(∃m,W 0 m σ H)/\∀i m σ H,W i m σ H -> ((Itt K a).stop i H/\D.nx σ H)\/((Itt K a).go i H/\∃N:St->Hp->Prop,(∀σ' H',N σ' H'->∃m',m'<m/\W (i+1) m' σ' H')/\∀x H',(Itt K a).yld i H x H'->g x σ H' fun σ2 H2=>tb { D with nx:=N,ct:=N,bk:=D.nx } σ2 H2):=by
 refine⟨fun i m σ H=>m=xs.length-i/\i<=xs.length/\Pv i σ H,⟨xs.length,by simp,y0K _,h0⟩,?_⟩;rintro i m σ H ⟨rfl,hi,p⟩;have q:=hl i σ H hi p;by_cases hlt:i<xs.length
 .refine .inr ⟨⟨xs,xs[i],q,by simp[hlt]⟩,Pv (i+1),fun σ' H' p'=>⟨xs.length-(i+1),by lia,rfl,hlt,p'⟩,fun x H' y=>?_⟩;obtain⟨e,y⟩:=y;subst e;exact hs i x σ _ (y xs q) p
 .have e:i=xs.length:=by lia
  subst e;exact .inl ⟨⟨xs,q,y0b _⟩,hd σ H p⟩
def z2Z{lo:Int}{n:Nat}{g:TG}{tb:TS}{D:z46}{σ:St}{H:Hp}(Pv:Nat->St->Hp->Prop)(h0:Pv 0 σ H)(hs:∀i σ H,i<n->Pv i σ H->g (.int (lo+i)) σ H fun σ2 H2=>tb { D with nx:=Pv (i+1),ct:=Pv (i+1),bk:=D.nx } σ2 H2)(hd:∀σ H,Pv n σ H->D.nx σ H) : ∃W:Nat->Nat->St->Hp->Prop,(∃m,W 0 m σ H)/\∀i m σ H,W i m σ H -> ((Itr lo n).stop i H/\D.nx σ H)\/((Itr lo n).go i H/\∃N:St->Hp->Prop,(∀σ' H',N σ' H'->∃m',m'<m/\W (i+1) m' σ' H')/\∀x H',(Itr lo n).yld i H x H'->g x σ H' fun σ2 H2=>tb { D with nx:=N,ct:=N,bk:=D.nx } σ2 H2):=by
 refine⟨fun i m σ H=>m=n-i/\i<=n/\Pv i σ H,⟨n,by simp,y0K _,h0⟩,?_⟩;rintro i m σ H ⟨rfl,hi,p⟩;by_cases hlt:i<n
 .refine .inr ⟨hlt,Pv (i+1),fun σ' H' p'=>⟨n-(i+1),by lia,rfl,hlt,p'⟩,fun x H' y=>?_⟩;obtain⟨e,y⟩:=y;subst e y;exact hs i σ _ hlt p
 .have e:i=n:=by lia
  subst e;exact .inl ⟨y0b _,hd σ H p⟩
abbrev R2:=V->V->Hp->VK->Prop
def OpR(X:Cx)(f:Value->Value->Sem Value)(r:R2):Prop :=
 ∀(pins:yyP)(s:Shared)(σ:St)(H:Hp)(x y:V)(v u:Value)(Q:VK),Inv X pins σ H s->z1i x v->z1i y u->r x y H Q ->
  wpAny (model X.prog X.w) X.A (f v u) (EP X pins σ Q) X.xe s
def UnR(X:Cx)(f:Value->Sem Value)(r:V->Hp->VK->Prop):Prop :=
 ∀(pins:yyP)(s:Shared)(σ:St)(H:Hp)(x:V)(v:Value)(Q:VK),Inv X pins σ H s->z1i x v->r x H Q ->
  wpAny (model X.prog X.w) X.A (f v) (EP X pins σ Q) X.xe s
def z2s(X:Cx)(f:Value)(r:List V->Hp->VK->Prop):Prop :=
 ∀(pins:yyP)(s:Shared)(σ:St)(H:Hp)(xs:List V)(us:List Value)(Q:VK),Inv X pins σ H s->z0T xs us->r xs H Q ->
  wpAny (model X.prog X.w) X.A (call f us) (EP X pins σ Q) X.xe s
def tOp(r:R2)(ta tb:TE):TE:=fun σ H Q=>ta σ H fun x H1=>tb σ H1 fun y H2=>r x y H2 Q
def tUn(r:V->Hp->VK->Prop)(ta:TE):TE:=fun σ H Q=>ta σ H fun x H1=>r x H1 Q
def rI(C:Int->Int->Prop)(g:Int->Int->V):R2:=fun x y H Q=>∃i j,x=.int i/\y=.int j/\C i j/\Q (g i j) H
def rI0(g:Int->Int->V):R2:=fun x y H Q=>∃i j,x=.int i/\y=.int j/\Q (g i j) H
def rU(g:Int->V):V->Hp->VK->Prop:=fun x H Q=>∃i,x=.int i/\Q (g i) H
section
variable{X:Cx}{a b c:Expr}{ta tb tc:TE}{pos:Pos}
def zhk(ha:PE X a ta)(hb:PE X b tb){pins:yyP}{s:Shared}{σ:St}{H:Hp}{R:V->V->Hp->Prop}(I:Inv X pins σ H s)(h:ta σ H fun x H1=>tb σ H1 fun y H2=>R x y H2){Q:yyE}{f:Value->Value->Sem Value}(hf:∀v u s2 x y H2,Inv X pins σ H2 s2->z1i x v->z1i y u->R x y H2->wpAny (model X.prog X.w) X.A (f v u) Q X.xe s2) : wpAny (model X.prog X.w) X.A (eval a X.env) (fun v s₁=>wpAny (model X.prog X.w) X.A (eval b X.env) (fun u s₂=>wpAny (model X.prog X.w) X.A (f v u) Q X.xe s₂) X.xe s₁) X.xe s:=by refine z1P (ha pins s σ H _ I h) fun v s1 x H1 I1 r1 q1=>?_;refine z1P (hb pins s1 σ H1 _ I1 q1) fun u s2 y H2 I2 r2 q2=>?_;exact hf v u s2 x y H2 I2 r1 r2 q2
def z0G{op:Operator}{r:R2}(ho:OpR X (binaryOp op) r)(ha:PE X a ta)(hb:PE X b tb):PE X (.BinOp a op b pos) (tOp r ta tb):=by intro pins s σ H Q I h;exact wpAny_BinOp (zhk ha hb I h fun v u s2 x y H2 I2 rx ry q=>ho pins s2 σ H2 x y v u Q I2 rx ry q)
def zgB{op:UnaryOp}{r:V->Hp->VK->Prop}(ho:UnR X (unaryOp op) r)(ha:PE X a ta):PE X (.UnaryOp op a pos) (tUn r ta):=by intro pins s σ H Q I h;exact UnaryOp_ (z1P (ha pins s σ H _ I h) fun v s1 x H1 I1 r1 q1=>ho pins s1 σ H1 x v Q I1 r1 q1)
def opI{f:Value->Value->Sem Value}{C:Int->Int->Prop}{g:Int->Int->Int}(rule:∀(i j:Int)(t u:Tok)(s:Shared)(Q:yyE)(E:yyE),C i j->Q (.int (g i j) s.toks) { s with toks:=s.toks+1 }->wpAny (model X.prog X.w) X.A (f (.int i t) (.int j u)) Q E s) : OpR X f (rI C fun i j=>.int (g i j)):=by intro pins s σ H x y v u Q I rx ry h;obtain⟨i,j,rfl,rfl,hc,q⟩:=h;obtain⟨t,rfl⟩:=rx;obtain⟨t',rfl⟩:=ry;exact rule i j t t' s _ _ hc ⟨.int (g i j),H,I.tok _,⟨_,rfl⟩,q⟩
def zik{f:Value->Value->Sem Value}{g:Int->Int->Int}(rule:∀(i j:Int)(t u:Tok)(s:Shared)(Q:yyE)(E:yyE),Q (.int (g i j) s.toks) { s with toks:=s.toks+1 }->wpAny (model X.prog X.w) X.A (f (.int i t) (.int j u)) Q E s) : OpR X f (rI0 fun i j=>.int (g i j)):=by intro pins s σ H x y v u Q I rx ry h;obtain⟨i,j,rfl,rfl,q⟩:=h;obtain⟨t,rfl⟩:=rx;obtain⟨t',rfl⟩:=ry;exact rule i j t t' s _ _ ⟨.int (g i j),H,I.tok _,⟨_,rfl⟩,q⟩
def zhG{f:Value->Value->Sem Value}{g:Int->Int->Bool}(rule:∀(i j:Int)(t u:Tok)(s:Shared)(Q:yyE)(E:yyE),Q (.bool (g i j)) s->wpAny (model X.prog X.w) X.A (f (.int i t) (.int j u)) Q E s) : OpR X f (rI0 fun i j=>.bl (g i j)):=by intro pins s σ H x y v u Q I rx ry h;obtain⟨i,j,rfl,rfl,q⟩:=h;obtain⟨t,rfl⟩:=rx;obtain⟨t',rfl⟩:=ry;exact rule i j t t' s _ _ ⟨.bl (g i j),H,I,rfl,q⟩
def zib(i j:Int):Prop:=0<j/\j<1073741824
def ziY(i j:Int):Prop:=0<=j/\j<=1000000/\i.natAbs<2^64
def zhB(i j:Int):Prop:=(-(2^64)<i/\i<2^64)\/(-(2^64)<j/\j<2^64)
def zhB.ok{i j:Int}(h:zhB i j):IntMulOk i j:=by
 rcases h with⟨h1,h2⟩|⟨h1,h2⟩
 .exact .of_left (intBits_le_64 h1 h2)
 .exact .of_right (intBits_le_64 h1 h2)
def z21:OpR X (binaryOp .Add) (rI0 fun i j=>.int (i+j)):=zik fun _ _ _ _ _ _ _ q=>add_int q
def z5t:OpR X (binaryOp .Sub) (rI0 fun i j=>.int (i-j)):=zik fun _ _ _ _ _ _ _ q=>sub_int q
def z3B:OpR X (binaryOp .Mult) (rI zhB fun i j=>.int (i*j)):=opI fun _ _ _ _ _ _ _ hc q=>mul_int q hc.ok
def z50:OpR X (binaryOp .FloorDiv) (rI zib fun i j=>.int (i/j)):=opI fun i j _ _ _ _ _ hc q=>by have h1:(0:Int)<j:=hc.1;have h2:j<1073741824:=hc.2;exact floordiv_int (by lia) (by rw[Int.fdiv_eq_ediv_of_nonneg i (by lia)];exact q) (.inl (PyProof.noPylong_small (by lia)))
def z1Z:OpR X (binaryOp .Mod) (rI (fun _ j=>0<j) fun i j=>.int (i%j)):=opI fun i j _ _ _ _ _ hc q=>by have h1:(0:Int)<j:=hc;exact mod_int' (by lia) (by rw[Int.fmod_eq_emod_of_nonneg i (by lia)];exact q)
def zgM:OpR X (binaryOp .Pow) (rI ziY fun i j=>.int (i^j.toNat)):=opI fun _ _ _ _ _ _ _ hc q=>pow_int_small hc.1 hc.2.1 hc.2.2 q
def unI{f:Value->Sem Value}{g:Int->Int}(rule:∀(i:Int)(t:Tok)(s:Shared)(Q:yyE)(E:yyE),Q (.int (g i) s.toks) { s with toks:=s.toks+1 }->wpAny (model X.prog X.w) X.A (f (.int i t)) Q E s) : UnR X f (rU fun i=>.int (g i)):=by intro pins s σ H x v Q I rx h;obtain⟨i,rfl,q⟩:=h;obtain⟨t,rfl⟩:=rx;exact rule i t s _ _ ⟨.int (g i),H,I.tok _,⟨_,rfl⟩,q⟩
def zeA:UnR X (unaryOp .USub) (rU fun i=>.int (-i)):=unI fun _ _ _ _ _ q=>neg_int q
end
def ziu:V->V->Bool
 |.non,.non=>true|.non,.int _=>true|.int _,.non=>true|.non,.bl _=>true|.bl _,.non=>true|.non,.str _=>true|.str _,.non=>true
 |.int _,.int _=>true|.bl _,.bl _=>true|.str _,.str _=>true|.byt _,.byt _=>true
 |.int _,.str _=>true|.str _,.int _=>true|.bl _,.str _=>true|.str _,.bl _=>true
 |_,_=>false
def rEq:R2:=fun x y H Q=>ziu x y=true/\Q (.bl (decide (x=y))) H
def rNe:R2:=fun x y H Q=>ziu x y=true/\Q (.bl (!decide (x=y))) H
def zcl{i j:Int}:decide (V.int i=V.int j)=(i==j):=by rw[y1P];simp
def zev{i j:Bool}:decide (V.bl i=V.bl j)=(i==j):=by rw[y1P];simp
def zbK{i j:Str}:decide (V.str i=V.str j)=(i==j):=by rw[y1P];simp
def zbR{i j:Array UInt8}:decide (V.byt i=V.byt j)=(i.toList==j.toList):=by rw[y1P];cases i;cases j;simp
section
variable{X:Cx}{a b c:Expr}{ta tb tc:TE}{pos:Pos}
def z0M{pins:yyP}{σ:St}{H:Hp}{s:Shared}{Q:VK}{k k':Bool}(I:Inv X pins σ H s)(q:Q (.bl k) H)(e:k=k'):EP X pins σ Q (.bool k') s:=by subst e;exact⟨.bl k,H,I,rfl,q⟩
def zdh:OpR X (compareOp .Eq) rEq:=by
 intro pins s σ H x y v u Q I rx ry h;obtain⟨hs,q⟩:=h;cases x with
 |non =>
  cases rx;cases y with
  |non=>cases ry;exact PySem.EqNone.eq_none_none (z0M I q (by simp))
  |bl j=>cases ry;exact PySem.EqNone.eq_none_bool (z0M I q (by simp))
  |int j=>obtain⟨t',rfl⟩:=ry;exact PySem.EqNone.eq_none_int (z0M I q (by simp))
  |str j=>obtain⟨t',rfl⟩:=ry;exact PySem.EqNone.eq_none_str (z0M I q (by simp))
  |_=>exact absurd (show false=true from hs) y0M
 |bl i =>
  cases rx;cases y with
  |non=>cases ry;exact PySem.EqNone.eq_bool_none (z0M I q (by simp))
  |bl j=>cases ry;exact eq_bool (z0M I q zev)
  |str j=>obtain⟨t',rfl⟩:=ry;exact PySem.EqMixed.eq_bool_str (z0M I q (by simp))
  |_=>exact absurd (show false=true from hs) y0M
 |int i =>
  obtain⟨t,rfl⟩:=rx;cases y with
  |non=>cases ry;exact PySem.EqNone.eq_int_none (z0M I q (by simp))
  |int j=>obtain⟨t',rfl⟩:=ry;exact eq_int (z0M I q zcl)
  |str j=>obtain⟨t',rfl⟩:=ry;exact PySem.EqMixed.eq_int_str (z0M I q (by simp))
  |_=>exact absurd (show false=true from hs) y0M
 |str i =>
  obtain⟨t,rfl⟩:=rx;cases y with
  |non=>cases ry;exact PySem.EqNone.eq_str_none (z0M I q (by simp))
  |bl j=>cases ry;exact PySem.EqMixed.eq_str_bool (z0M I q (by simp))
  |int j=>obtain⟨t',rfl⟩:=ry;exact PySem.EqMixed.eq_str_int (z0M I q (by simp))
  |str j=>obtain⟨t',rfl⟩:=ry;exact eq_str (z0M I q zbK)
  |_=>exact absurd (show false=true from hs) y0M
 |byt i =>
  obtain⟨t,rfl⟩:=rx;cases y with
  |byt j=>obtain⟨t',rfl⟩:=ry;exact PySem.W.eq_bytes (z0M I q zbR)
  |_=>exact absurd (show false=true from hs) y0M
 |_=>cases y<;>exact absurd (show false=true from hs) y0M
def zhz:OpR X (compareOp .NotEq) rNe:=by
 intro pins s σ H x y v u Q I rx ry h;obtain⟨hs,q⟩:=h;cases x with
 |non =>
  cases rx;cases y with
  |non=>cases ry;exact PySem.EqNone.ne_none_none (z0M I q (by simp))
  |bl j=>cases ry;exact PySem.EqNone.ne_none_bool (z0M I q (by simp))
  |int j=>obtain⟨t',rfl⟩:=ry;exact PySem.EqNone.ne_none_int (z0M I q (by simp))
  |str j=>obtain⟨t',rfl⟩:=ry;exact PySem.EqNone.ne_none_str (z0M I q (by simp))
  |_=>exact absurd (show false=true from hs) y0M
 |bl i =>
  cases rx;cases y with
  |non=>cases ry;exact PySem.EqNone.ne_bool_none (z0M I q (by simp))
  |bl j=>cases ry;exact ne_bool (z0M I q (y1G not zev))
  |str j=>obtain⟨t',rfl⟩:=ry;exact PySem.EqMixed.ne_bool_str (z0M I q (by simp))
  |_=>exact absurd (show false=true from hs) y0M
 |int i =>
  obtain⟨t,rfl⟩:=rx;cases y with
  |non=>cases ry;exact PySem.EqNone.ne_int_none (z0M I q (by simp))
  |int j=>obtain⟨t',rfl⟩:=ry;exact ne_int (z0M I q (y1G not zcl))
  |str j=>obtain⟨t',rfl⟩:=ry;exact PySem.EqMixed.ne_int_str (z0M I q (by simp))
  |_=>exact absurd (show false=true from hs) y0M
 |str i =>
  obtain⟨t,rfl⟩:=rx;cases y with
  |non=>cases ry;exact PySem.EqNone.ne_str_none (z0M I q (by simp))
  |bl j=>cases ry;exact PySem.EqMixed.ne_str_bool (z0M I q (by simp))
  |int j=>obtain⟨t',rfl⟩:=ry;exact PySem.EqMixed.ne_str_int (z0M I q (by simp))
  |str j=>obtain⟨t',rfl⟩:=ry;exact ne_str (z0M I q (y1G not zbK))
  |_=>exact absurd (show false=true from hs) y0M
 |byt i =>
  obtain⟨t,rfl⟩:=rx;cases y with
  |byt j=>obtain⟨t',rfl⟩:=ry;exact PySem.W.ne_bytes (z0M I q (y1G not zbR))
  |_=>exact absurd (show false=true from hs) y0M
 |_=>cases y<;>exact absurd (show false=true from hs) y0M
def z5K:OpR X (compareOp .Lt) (rI0 fun i j=>.bl (decide (i<j))):=zhG fun _ _ _ _ _ _ _ q=>lt_int q
def z8C:OpR X (compareOp .LtE) (rI0 fun i j=>.bl (decide (i<=j))):=zhG fun _ _ _ _ _ _ _ q=>le_int q
def zbc:OpR X (compareOp .Gt) (rI0 fun i j=>.bl (decide (j<i))):=zhG fun _ _ _ _ _ _ _ q=>gt_int q
def z1j(b:Expr){op:CmpOp}(h:op≠.In:=by decide)(h2:op≠.NotIn:=by decide):behindInMarks op b=false:=by
 have e1:(op==CmpOp.In)=false:=by cases op<;>first|rfl|exact absurd rfl h
 have e2:(op==CmpOp.NotIn)=false:=by cases op<;>first|rfl|exact absurd rfl h2
 cases b<;>simp[behindInMarks,e1,e2]
def z6M{op:CmpOp}{r:R2}(ho:OpR X (compareOp op) r)(ha:PE X a ta)(hb:PE X b tb)(hm:behindInMarks op b=false):PE X (.Compare a [op] [b] pos) (tOp r ta tb):=by intro pins s σ H Q I h;exact wpAny_Compare1 (zhk ha hb I h fun v u s2 x y H2 I2 rx ry q=>ho pins s2 σ H2 x y v u Q I2 rx ry q) hm
def zgT(t:TE):TT:=fun σ H Q=>t σ H fun x H'=>∃k,x=.bl k/\Q k H'
def z0W{op:CmpOp}{r:R2}(ho:OpR X (compareOp op) r)(ha:PE X a ta)(hb:PE X b tb)(hm:behindInMarks op b=false):PT X (.Compare a [op] [b] pos) (zgT (tOp r ta tb)):=by
 intro pins s σ H Q I h;refine wpAny_isTrue_Compare1 (z1P (ha pins s σ H _ I h) fun v s1 x H1 I1 r1 q1=>z1P (hb pins s1 σ H1 _ I1 q1) fun u s2 y H2 I2 r2 q2 =>
  thn (ho pins s2 σ H2 x y v u _ I2 r1 r2 q2) fun c s3 ⟨z,H3,I3,r3,k,e,q3⟩=>?_) hm
 subst e;cases r3;exact y1V ⟨H3,I3,q3⟩
def zeo(r r':R2)(ta tb tc:TE):TE:=fun σ H Q=>ta σ H fun x H1=>tb σ H1 fun y H2=>r x y H2 fun z H3=>∃k,z=.bl k /\
 (if k=true then tc σ H3 fun w' H4=>r' y w' H4 Q else Q (.bl false) H3)
def ze4{op op':CmpOp}{r r':R2}(ho:OpR X (compareOp op) r)(ho':OpR X (compareOp op') r')(ha:PE X a ta)(hb:PE X b tb)(hc:PE X c tc)(hm:lastMarks [op,op'] [b,c]=false:=by with_unfolding_all rfl):PE X (.Compare a [op,op'] [b,c] pos) (zeo r r' ta tb tc):=by
 intro pins s σ H Q I h;refine Compare_chain (z1P (ha pins s σ H _ I h) fun v s1 x H1 I1 r1 q1=>chain_link (z1P (hb pins s1 σ H1 _ I1 q1) fun u s2 y H2 I2 r2 q2 =>
  thn (ho pins s2 σ H2 x y v u _ I2 r1 r2 q2) fun d s3 ⟨z,H3,I3,r3,k,e,q3⟩=>?_)) hm
 subst e;cases r3;refine y1V ?_;cases k with
 |false=>exact ite_ff ⟨.bl false,H3,I3,rfl,q3⟩
 |true=>exact ite_tt (chain_last (thn (hc pins s3 σ H3 _ I3 q3) fun w' s4 ⟨z',H4,I4,r4,q4⟩=>ho' pins s4 σ H4 y z' u w' Q I4 r2 r4 q4))
def z6o{op op':CmpOp}{r r':R2}(ho:OpR X (compareOp op) r)(ho':OpR X (compareOp op') r')(ha:PE X a ta)(hb:PE X b tb)(hc:PE X c tc)(hm:lastMarks [op,op'] [b,c]=false:=by with_unfolding_all rfl):PT X (.Compare a [op,op'] [b,c] pos) (zgT (zeo r r' ta tb tc)):=by
 intro pins s σ H Q I h;refine isTrue_chain (z1P (ha pins s σ H _ I h) fun v s1 x H1 I1 r1 q1=>test_link (z1P (hb pins s1 σ H1 _ I1 q1) fun u s2 y H2 I2 r2 q2 =>
  thn (ho pins s2 σ H2 x y v u _ I2 r1 r2 q2) fun d s3 ⟨z,H3,I3,r3,k,e,q3⟩=>?_)) hm
 subst e;cases r3;refine y1V ?_;cases k with
 |false =>
  obtain⟨k',e',q'⟩:=q3;cases e';exact ite_ff ⟨H3,I3,q'⟩
 |true =>
  refine ite_tt (test_last (z1P (hc pins s3 σ H3 _ I3 q3) fun w' s4 z' H4 I4 r4 q4=>z1P (ho' pins s4 σ H4 y z' u w' _ I4 r2 r4 q4) fun d' s5 z2 H5 I5 r5 hz9=>?_));obtain⟨k2,e2,q5⟩:=hz9;subst e2;cases r5;exact y1V ⟨H5,I5,q5⟩
def z7R:(sizeLine:Nat)<2^63:=by rw[y3A];decide
def z48{x:V}{us:List Value}(r:z0T [x] us):∃u,us=[u]/\z1i x u:=by
 cases r with
 |cons r1 r2=>cases r2;exact⟨_,rfl,r1⟩
def zbm{x y:V}{us:List Value}(r:z0T [x,y] us):∃u w',us=[u,w']/\z1i x u/\z1i y w':=by
 cases r with
 |cons r1 r2 =>
  cases r2 with
  |cons r3 r4=>cases r4;exact⟨_,_,rfl,r1,r3⟩
def zb2(hc:X.calm=true):z2s X (.builtin "max") (fun xs H Q=>∃i j,xs=[.int i,.int j]/\Q (.int (if j>i then j else i)) H):=by
 intro pins s σ H xs us Q I r h;obtain⟨i,j,rfl,q⟩:=h;obtain⟨u,w',rfl,⟨t,rfl⟩,⟨t',rfl⟩⟩:=zbm r;refine max_two_ints (I.ok.hd hc) fun h' tk k=>⟨_,H,I.kept k,?_,q⟩;by_cases hj:j>i
 .rw[if_pos hj,if_pos hj];exact⟨_,rfl⟩
 .rw[if_neg hj,if_neg hj];exact⟨_,rfl⟩
def zbH(hc:X.calm=true):z2s X (.builtin "min") (fun xs H Q=>∃i j,xs=[.int i,.int j]/\Q (.int (if j<i then j else i)) H):=by
 intro pins s σ H xs us Q I r h;obtain⟨i,j,rfl,q⟩:=h;obtain⟨u,w',rfl,⟨t,rfl⟩,⟨t',rfl⟩⟩:=zbm r;refine min_two_ints (I.ok.hd hc) fun h' tk k=>⟨_,H,I.kept k,?_,q⟩;by_cases hj:j<i
 .rw[if_pos hj,if_pos hj];exact⟨_,rfl⟩
 .rw[if_neg hj,if_neg hj];exact⟨_,rfl⟩
def z8j:z2s X (.builtin "divmod") (fun xs H Q=>∃i j,xs=[.int i,.int j]/\zib i j/\∀p,H p=none->Q (.ref p) (upd H p (.tup [.int (i/j),.int (i%j)]))):=by intro pins s σ H xs us Q I r h;obtain⟨i,j,rfl,⟨h1,h2⟩,q⟩:=h;obtain⟨u,w',rfl,⟨t,rfl⟩,⟨t',rfl⟩⟩:=zbm r;refine divmod_int (by lia) ?_ (.inl (PyProof.noPylong_small (by lia)));rw[Int.fdiv_eq_ediv_of_nonneg i (by lia),Int.fmod_eq_emod_of_nonneg i (by lia)];have hn:H s.heap.objs.size=none:=I.hok.fresh (y0b _);refine⟨.ref s.heap.objs.size,_,?_,rfl,q _ hn⟩;refine I.laid (fun b o e=>y05 _ e) (y0b _) ⟨by simp only[y0N,y2d];rw[y3A];decide,[.int (i/j) s.toks,.int (i%j) (s.toks+1)],0,.cons ⟨_,rfl⟩ (.cons ⟨_,rfl⟩ .nil),?_⟩;exact y0e s.heap rfl
end
section
variable{prog:Program}{w:World}{A:Around}{E:yyE}{s:Shared}{K:yyF}{x dx C f:Addr}{mA:yyS}{name:Str}{v:Value}
end
def za5.some_of{v:V}{o:Option Value}(r:za5 (some v) o):∃u,o=some u/\z1i v u:=by
 cases o with
 |none=>exact(show False from r).elim
 |some u=>exact⟨u,rfl,r⟩
section
variable{P:Program}{w:World}{H H':Hp}{h h':Heap}{a C dx:Addr}{fs fs':List (Str × V)}
end
section
variable{X:Cx}{pins:yyP}{σ:St}{H:Hp}{s:Shared}{a C dx:Addr}{fs:List (Str × V)}{f:Str}{v:V}{A:Around}{E:yyE}
end
section
variable{X:Cx}{o e value:Expr}{f:Str}{pos pos' tpos:Pos}{ta tv:TE}
end
section
variable{X:Cx}{pins:yyP}{σ:St}{H:Hp}{s:Shared}{A:Around}{E:yyE}{Q:yyE}{c:Value}{b:Bool}
end
structure z3s(k:Nat)(A:Around):Prop where
 hd:A.handled=none
 dp:A.depth+3*k+5<recursionLimit
 un:A.units+16*k+200<cLine
def z3s.mono{j k:Nat}{A:Around}(r:z3s k A)(h:j<=k):z3s j A:=⟨r.hd,by have:=r.dp;lia,by have:=r.un;lia⟩
theorem z3s.deeper{k:Nat}{A:Around}(r:z3s (k+1) A)(env:Env):z3s k (A.deeper env) :=
 ⟨r.hd,by have:=r.dp;show A.depth+1+3*k+5<_;lia,by have:=r.un;show A.units+3+16*k+200<_;lia⟩
theorem z3s.depth{k:Nat}{A:Around}(r:z3s k A):A.depth<recursionLimit:=by have:=r.dp;lia
theorem z3s.units{k:Nat}{A:Around}(r:z3s k A):A.units+64<cLine:=by have:=r.un;lia
def z3s.units0{k:Nat}{A:Around}(r:z3s k A):A.units<cLine:=by have:=r.un;lia
def zi8:TA:=fun _ H Q=>Q [] H
def zfF(ta:TE)(tr:TA):TA:=fun σ H Q=>ta σ H fun x H1=>tr σ H1 fun xs H2=>Q (x::xs) H2
section
variable{X:Cx}{e:Expr}{es:List Expr}{te:TE}{t:TA}{pos:Pos}
def z03:PA X [] zi8:=fun _ _ _ _ H Q I h=>Calls.spliced_nil ⟨[],H,I,.nil,h⟩
def z00(ha:PE X e te)(hr:PA X es t)(hs:starEach (e::es) X.env=(false,eval e X.env)::starEach es X.env:=by rfl):PA X (e::es) (zfF te t):=by intro pos pins s σ H Q I h;rw[hs];show wpAny _ _ (spliced ((false,eval e X.env)::backTo pos (starEach es X.env))) _ _ s;refine y3n (z1P (ha pins s σ H _ I h) fun u s1 x H1 I1 r1 q1=>?_);exact thn (hr pos pins s1 σ H1 _ I1 q1) fun us s2 ⟨xs,H2,I2,r2,q2⟩=>⟨x::xs,H2,I2,.cons r1 r2,q2⟩
def zj2(t:TA):TE:=fun σ H Q=>t σ H fun xs H1=>xs.length<=sizeLine/\∀p,H1 p=none->Q (.ref p) (upd H1 p (.tup xs))
def ziw(t:TA):TE:=fun σ H Q=>t σ H fun xs H1=>xs.length<=sizeLine/\∀p,H1 p=none->Q (.ref p) (upd H1 p (.lst xs))
def z2d{x1}(h:PA X es t):PE X (.Tuple es x1 pos) (zj2 t):=by intro pins s σ H Q I hq;refine wpAny_Tuple_spliced (thn (h pos pins s σ H _ I hq) fun us s1 ⟨xs,H1,I1,r,z,q⟩=>⟨by rw[<-r.length];exact z,?_⟩);have hf:H1 s1.heap.objs.size=none:=I1.hok.fresh (y0b _);refine⟨.ref s1.heap.objs.size,upd H1 s1.heap.objs.size (.tup xs),I1.laid (t':=s1.toks) (fun b u e=>y05 _ e) (y0b _) ?_,rfl,q _ hf⟩;exact⟨z,us,0,r,y0e _ rfl⟩
def z1m(h:PA X es t):PE X (.List es pos) (ziw t):=by intro pins s σ H Q I hq;refine wpAny_List_spliced (thn (h pos pins s σ H _ I hq) fun us s1 ⟨xs,H1,I1,r,z,q⟩=>⟨by rw[<-r.length];exact z,?_⟩);have hf:H1 s1.heap.objs.size=none:=I1.hok.fresh (y0b _);refine⟨.ref s1.heap.objs.size,upd H1 s1.heap.objs.size (.lst xs),I1.laid (t':=s1.toks) (fun b u e=>y05 _ e) (y0b _) ?_,rfl,q _ hf⟩;exact⟨z,us,0,r,y0e _ rfl⟩
end
abbrev Sp:=List V->Hp->VK->XK->Prop
abbrev CXT:=List Env->Hp->Shared->XK->yyE
structure zfD(P:Program)(w:World)(K:yyF)(mg:yyS)(base:Heap)(A:Around)(outer:List Env)(s:Shared)(H:Hp):Prop where
 frames:A.frames=some outer
 mod:Mod K mg base
 bs:∀b o,base.get? b=some o->s.heap.get? b=some o/\H b=none
 bsz:base.objs.size<=s.heap.objs.size
 funs:s.heap.FunFrames base outer
 frf:∀b∈frs outer,H b=none
 hok:HOk P w H s.heap
 bare:AllBare s.gens
def CE(outer:List Env)(P:Program)(w:World)(H:Hp)(s:Shared)(Q:VK)(u:Value)(s':Shared):Prop :=
 ∃v H',s'.os=s.os/\AllBare s'.gens/\Un (frs outer) [] H H' s.heap s'.heap/\HOk P w H' s'.heap/\z1i v u/\Q v H'
def CR(CX:CXT)(outer:List Env)(P:Program)(w:World)(H:Hp)(s:Shared)(Q:VK)(E:XK)(r:Result)(s':Shared):Prop :=
 match r with
 |.ok (.ret u)=>CE outer P w H s Q u s'
 |.ok _=>False
 |.error e=>CX outer H s E e s'
structure z0u(P:Program)(w:World)(K:yyF)(mg:yyS)(base:Heap)(CX:CXT)(k:Nat)(f:Addr)(fd:FuncData)(ps:List Str)(sp:Sp):Prop where
 len:∀vs H Q E,sp vs H Q E->vs.length=ps.length
 run:∀(A:Around)(outer:List Env)(s:Shared)(H:Hp)(args:Args)(us:List Value)(vs:List V)(Q:VK)(E:XK),z3s k A->zfD P w K mg base A outer s H->BindsTo s fd args (ps.zip us)->z0T vs us->sp vs H Q E ->
  codeAny (model P w) A (.call (.ref f) args) (CR CX outer P w H s Q E) s
theorem z0u.mono{P:Program}{w:World}{K:yyF}{mg:yyS}{base:Heap}{CX:CXT}{j k:Nat}{f:Addr}{fd:FuncData}{ps:List Str}{sp:Sp}(F:z0u P w K mg base CX j f fd ps sp)(h:j<=k) : z0u P w K mg base CX k f fd ps sp:=⟨F.len,fun A outer s H args us vs Q E hr=>F.run A outer s H args us vs Q E (hr.mono h)⟩
section
variable{X:Cx}{pins:yyP}{σ:St}{H:Hp}{s s':Shared}
def Inv.env0(I:Inv X pins σ H s):zfD X.prog X.w X.K X.mg X.base X.A X.stack s H :=
 ⟨I.ok.frames,I.ok.mod,I.bs,y0Q I.ok.bsz I.sz,I.stack,I.stkFree,I.hok,I.bare⟩
def Inv.after{Q:VK}{u:Value}(I:Inv X pins σ H s)(h:CE X.stack X.prog X.w H s Q u s'):EP X pins σ Q u s':=by obtain⟨v,H',os,bare,un,hok,r,q⟩:=h;obtain⟨hh,g,d,t,os'⟩:=s';obtain rfl:os'=s.os:=os;exact⟨v,H',I.call (h':=hh) (g':=g) (d':=d) (t':=t) (ch:=[]) un hok bare (fun b z=>absurd z (by simp)),r,q⟩
end
def zgD(sp:Sp)(dvs:List V)(E:XK)(t:TA):TE:=fun σ H Q=>t σ H fun vs H1=>sp (vs++dvs) H1 Q E
def z0j(K:yyF)(fd:FuncData)(ps:List Str)(ds:List Value):Prop :=
 ∀(s:Shared)(us:List Value),K.In s.heap->(us++ds).length=ps.length->BindsTo s fd ⟨us,[]⟩ (ps.zip (us++ds))
def z0j.all{K:yyF}{fd:FuncData}{ps:List Str}(h:∀us:List Value,us.length=ps.length->bindArgs fd ⟨us,[]⟩=pure (ps.zip us)):z0j K fd ps []:=fun s us _ hl=>by rw[y1t]at hl⊢;exact .of_eq (h us hl)
def z7I(CX:CXT)(X:Cx)(E:XK):Prop:=∀(pins:yyP)(σ:St)(H:Hp)(s:Shared)(e:Value)(s':Shared),Inv X pins σ H s->CX X.stack H s E e s'->X.xe e s'
section
variable{X:Cx}{CX:CXT}{k:Nat}{f C:Addr}{fd:FuncData}{ps:List Str}{sp:Sp}{dvs:List V}{ds:List Value}{E:XK}{x m:Str}{p pos apos:Pos}{e o:Expr}{es:List Expr}{ta:TE}{t:TA}
def zgw{pins:yyP}{σ:St}{H:Hp}{s:Shared}{Q:VK}{us:List Value}{vs:List V}(F:z0u X.prog X.w X.K X.mg X.base CX k f fd ps sp)(hr:z3s k X.A)(hb:z0j X.K fd ps ds)(hd:z0T dvs ds)(hx:z7I CX X E)(I:Inv X pins σ H s)(r:z0T vs us)(h:sp (vs++dvs) H Q E):wpAny (model X.prog X.w) X.A (call (.ref f) us) (EP X pins σ Q) X.xe s:=by
 have r2:z0T (vs++dvs) (us++ds):=r.append hd;have hl:(us++ds).length=ps.length:=by rw[<-r2.length];exact F.len _ _ _ _ h
 refine wpAny_call (y2F (F.run X.A X.stack s H ⟨us,[]⟩ (us++ds) (vs++dvs) Q E hr I.env0 (hb s us I.kIn hl) r2 h) fun r s' hq=>?_);cases r with
 |error e=>exact hx pins σ H s e s' I hq
 |ok fl =>
  cases fl with
  |ret u=>exact I.after hq
  |next=>exact False.elim hq
  |brk=>exact False.elim hq
  |cont=>exact False.elim hq
def z0f(F:z0u X.prog X.w X.K X.mg X.base CX k f fd ps sp)(hr:z3s k X.A)(hg:Gl X x)(hm:X.mg x=some (.ref f))(hk:PySem.W.keepIn X.K (.ref f)=true)(hb:z0j X.K fd ps ds)(hd:z0T dvs ds)(hx:z7I CX X E)(ha:PA X (e::es) t)(hdb:(x==("__debug__":Str))=false:=by decide)(he:starEach (e::es) X.env=(false,eval e X.env)::starEach es X.env:=by rfl)(hpl:(backTo pos (starEach es X.env)).any (·.1)=false:=by rfl) : PE X (.Call (.Name x p) (e::es) [] pos) (zgD sp dvs E t):=by intro pins s σ H Q I h;refine y2o (z4i I hg hm ?_ hdb);refine PySem.W.callWith_K (h₀:=X.base) I.ok.mod.kin hk (thn (ha pos pins s σ H _ I h) fun us s1 ⟨vs,H1,I1,r,q⟩=>⟨I1.kIn,?_⟩) he hpl;exact zgw F hr hb hd hx I1 r q
end
section
variable{X:Cx}{CX:CXT}{k:Nat}{f C:Addr}{fd:FuncData}{ps ks:List Str}{sp:Sp}{E:XK}{x m:Str}{p pos apos kpos:Pos}{e o:Expr}{es:List Expr}{kws:List Keyword}{te ta:TE}{t tk:TA}{nm:Option Str}
variable{g:List Value->List Value->List Value}{gV:List V->List V->List V}
end
structure z0n(N P:List Str)(sc:Scope):Prop where
 kind:sc.kind=.function:=by rfl
 co:sc.isCoroutine=false:=by rfl
 gen:sc.isGenerator=false:=by rfl
 nd:N.Nodup:=by decide +kernel
 pre:N.take P.length=P:=by rfl
 par:∀x∈P,sc.names.lookup x=some .local\/sc.names.lookup x=some .cell:=by decide +kernel
 nofree:∀y∈sc.names,y.2≠.free:=by decide +kernel
theorem z83{kindOf:Str->Option NameKind}{x:Str}:∀{binds:List (Str × Value)}{m:yyS},(∀v,(x,v)∉binds)->bindL kindOf binds m x=m x
 |[],_,_=>rfl
 | (n,v)::r,m,h=>by
  unfold bindL;rw[z83 fun w hw=>h w (y0g _ hw)];split
  .have:x≠n:=by rintro rfl;exact h v y0i
   simp[this]
  .rfl
theorem z84{kindOf:Str->Option NameKind}{x:Str}:∀{binds:List (Str × Value)}{m:yyS},(∀v,(x,v)∉binds)->bindC kindOf binds m x=m x
 |[],_,_=>rfl
 | (n,v)::r,m,h=>by
  unfold bindC;rw[z84 fun w hw=>h w (y0g _ hw)];split
  .rfl
  .have:x≠n:=by rintro rfl;exact h v y0i
   simp[this]
theorem z7l{kindOf:Str->Option NameKind}{x:Str}{v:Value}:∀{P:List Str}{vs:List Value}{i:Nat}{m:yyS},P.Nodup->P[i]?=some x->vs[i]?=some v->kindOf x=some .local ->
  bindL kindOf (P.zip vs) m x=some v
 |[],_,_,_,_,h,_,_=>by simp at h
 |_::_,[],_,_,_,_,h,_=>by simp at h
 |p::P,w::vs,0,m,nd,h1,h2,hk=>by
  simp at h1 h2;subst h1;subst h2;show bindL kindOf ((p,w)::P.zip vs) m p=_;unfold bindL;rw[z83 fun v hv=>(y1e.mp nd).1 (y2X hv).1,if_pos hk];simp
 |p::P,w::vs,i+1,m,nd,h1,h2,hk=>by show bindL kindOf ((p,w)::P.zip vs) m x=_;unfold bindL;exact z7l (i:=i) (y1e.mp nd).2 (by simpa using h1) (by simpa using h2) hk
theorem z7B{kindOf:Str->Option NameKind}{x:Str}{v:Value}:∀{P:List Str}{vs:List Value}{i:Nat}{m:yyS},P.Nodup->P[i]?=some x->vs[i]?=some v->kindOf x≠some .local ->
  bindC kindOf (P.zip vs) m x=some v
 |[],_,_,_,_,h,_,_=>by simp at h
 |_::_,[],_,_,_,_,h,_=>by simp at h
 |p::P,w::vs,0,m,nd,h1,h2,hk=>by
  simp at h1 h2;subst h1;subst h2;show bindC kindOf ((p,w)::P.zip vs) m p=_;unfold bindC;rw[z84 fun v hv=>(y1e.mp nd).1 (y2X hv).1,if_neg hk];simp
 |p::P,w::vs,i+1,m,nd,h1,h2,hk=>by show bindC kindOf ((p,w)::P.zip vs) m x=_;unfold bindC;exact z7B (i:=i) (y1e.mp nd).2 (by simpa using h1) (by simpa using h2) hk
def z5L(N:List Str)(vs:List V):St:=vs.map some++List.replicate (N.length-vs.length) none
def z7h(CX:CXT)(P:Program)(w:World)(K:yyF)(mg:yyS)(base:Heap)(N:List Str)(qual:Str)(scope:Scope)(f:Addr)(cd:Value)(A:Around)(outer:List Env)(s:Shared)(H:Hp)(E:XK):Cx where
 prog:=P
 w:=w
 K:=K
 mg:=mg
 base:=base
 A:=A.deeper (envOfC qual scope s.heap.objs.size f cd)
 N:=N
 s₀:=s
 H₀:=H
 env:=envOfC qual scope s.heap.objs.size f cd
 outer:=outer
 stack:=envOfC qual scope s.heap.objs.size f cd::outer
 ex:=[]
 calm:=true
 fn:=fun _=>true
 pn:=[]
 xe:=fun e s'=>wpAny (model P w) (A.deeper (envOfC qual scope s.heap.objs.size f cd)) (leaving (envOfC qual scope s.heap.objs.size f cd) e) (fun _ s''=>CX outer H s E e s'') (fun e' s''=>CX outer H s E e' s'') s'
def z9I{sc:Scope}{n:Nat}{x:Str}(h:sc.names.lookup x=some .cell):∃c,(cellsFrom n sc.names []).lookup x=some c:=by have q:=PySem.W.cellsFrom_some sc.names n [] (.inl h);exact Option.isSome_iff_exists.mp q
def zaW{CX:CXT}{P:Program}{w:World}{K:yyF}{mg:yyS}{base:Heap}{N ps:List Str}{qual:Str}{scope:Scope}{f:Addr}{cd:Value}{A:Around}{outer:List Env}{s s1:Shared}{H:Hp}{E:XK}{us:List Value}{vs:List V}(S:z0n N ps scope)(hd:A.handled=none)(e0:zfD P w K mg base A outer s H)(hl:vs.length=ps.length)(r:z0T vs us)(x:InCallC s s.heap.objs.size (bindL (envOfC qual scope s.heap.objs.size f cd).kindOf (ps.zip us) fun _=>none) (cellsFrom (s.heap.objs.size+1) scope.names []) (bindC (envOfC qual scope s.heap.objs.size f cd).kindOf (ps.zip us) fun _=>none) s1) : Inv (z7h CX P w K mg base N qual scope f cd A outer s H E) [] (z5L N vs) H s1:=by
 have hpl:ps.length<=N.length:=by have:=y1G List.length S.pre;rw[y0q]at this;lia
 obtain⟨h1,tk,rfl,hk⟩:=x.done;have noA:∀b:Addr,b∉(z7h CX P w K mg base N qual scope f cd A outer s H E).ex:=fun b z=>absurd (show b∈([]:List Addr)from z) (by simp);refine⟨⟨e0.mod,S.kind,rfl,rfl,y0b _,fun y z c h1 h2=>?_,fun y hy=>?_,fun y c _ h=>?_,fun _=>hd,Around.frames_deeper e0.frames,.inr ⟨rfl,rfl⟩,fun b z=>absurd z (noA b),e0.bs,e0.bsz,fun b _ _=>noA b,fun b z=>absurd z (noA b),e0.funs,e0.frf⟩,
  rfl,e0.bare,Un.kept hk,⟨_,x.toInCall.ns,fun i y v h1 h2 h3=>?_⟩,fun y c h=>⟨_,x.cell y c h⟩,e0.hok.fresh (y0b _),fun y c h=>?_,fun p hp=>absurd (show p∈([]:yyP)from hp) (by simp),e0.hok.kept hk,?_⟩
 .exact name_of_addr x.apart (y1f h1) (y1f h2)
 .have hy:scope.names.lookup y=some .cell\/scope.names.lookup y=some .free:=hy;rcases hy with hy|hy
  .exact z9I hy
  .exact absurd rfl (S.nofree _ (y1f hy))
 .exact y1p (x.above y c (y1f h))
 .have hi:i<vs.length:=by
   unfold z5L at h2;by_cases hi:i<vs.length
   .exact hi
   .rw[y0W (by simpa using hi)]at h2;rw[y3o]at h2;split at h2<;>cases h2
  have ha:vs[i]?=some v:=by
   unfold z5L at h2;rw[y0F (by simpa using hi),y04]at h2;cases e:vs[i]? with
   |none=>rw[e]at h2;cases h2
   |some a=>rw[e]at h2;cases h2;rfl
  obtain⟨u,hu,rv⟩:=r.get ha;have hp:ps[i]?=some y:=by rw[<-S.pre,y25 (by lia)];exact h1
  have ndP:ps.Nodup:=by rw[<-S.pre];exact S.nd.sublist (y1K _ _)
  refine⟨u,rv,?_⟩;rcases S.par y (y0z hp)with k|k
  .exact .inl ⟨k,z7l ndP hp hu k⟩
  .obtain⟨c,e⟩:=z9I (n:=s.heap.objs.size+1) k;refine .inr ⟨.inl k,c,e,?_⟩;have q:=x.cell y c e;rw[z7B ndP hp hu (by show scope.names.lookup y≠_;rw[k];decide)]at q;exact q
 .exact e0.hok.fresh (y1p (x.above y c (y1f h)))
 .unfold z5L;show _=N.length;rw[y0f,y01,y23];lia
def zeT{CX:CXT}{P:Program}{w:World}{K:yyF}{mg:yyS}{base:Heap}{k:Nat}{f:Addr}{name qual:Str}{params:Arguments}{body:List Stmt}{scope:Scope}{dV kV doc pm cdv ct oc:Value}{an od:Option Addr}{osl:Array (Option Value)}{N ps:List Str}{sp:Sp}(lk:K.lookup f=some ⟨oc,od,.func (PySem.W.fnOf name qual params body scope dV kV doc pm an cdv ct),osl⟩)(hcd:PySem.W.codeIn K cdv qual=true)(S:z0n N ps scope)(len:∀vs H Q E,sp vs H Q E->vs.length=ps.length)(hbody:∀(A:Around)(outer:List Env)(s:Shared)(H:Hp)(vs:List V)(Q:VK)(E:XK),z3s k (A.deeper (envOfC qual scope s.heap.objs.size f cdv))->sp vs H Q E -> ∃t,PSs (z7h CX P w K mg base N qual scope f cdv A outer s H E) body t/\t { nx:=fun _ H'=>Q .non H',rt:=Q } (z5L N vs) H) : z0u P w K mg base CX (k+1) f (PySem.W.fnOf name qual params body scope dV kV doc pm an cdv ct) ps sp:=by
 refine⟨len,fun A outer s H args us vs Q E hr e0 hb r hsp=>?_⟩;have hl:=len _ _ _ _ hsp;have KX:K.In s.heap:=e0.mod.kin.keeps fun b o e=>(e0.bs b o e).1;have lim:s.heap.NoLimit:=e0.mod.nolimit.keeps fun b o e=>(e0.bs b o e).1;have hkind:∀y∈ps.zip us,scope.names.lookup y.1=some .local\/(scope.names.lookup y.1=some .cell/\((cellsFrom (s.heap.objs.size+1) scope.names []).lookup y.1).isSome=true):=fun⟨n,v⟩ hy=>by
  rcases S.par n (y2X hy).1 with q|q
  .exact .inl q
  .exact .inr ⟨q,PySem.W.cellsFrom_some _ _ _ (.inl q)⟩
 refine codeAny_call_function hr.depth (KX _ _ lk) rfl S.co S.gen rfl (PySem.W.codeRec_of KX hcd) (hb _ _ _ _ ?_);refine wpAny_newFunctionEnv_cells S.kind hkind fun env he s1 x=>?_;subst he;refine⟨lim.keeps x.toInCall.keep,codeAny_func ?_⟩;obtain⟨t,ht,hq⟩:=hbody A outer s H vs Q E (hr.deeper _) hsp;have I:Inv (z7h CX P w K mg base N qual scope f cdv A outer s H E) [] (z5L N vs) H s1:=zaW S hr.hd e0 hl r x;refine y1J (ht [] s1 (z5L N vs) H _ I hq) (fun fl s' hs=>?_) fun e s' hs=>hs;have fin:∀{σ':St}{H':Hp}{v:V}{u:Value},Inv (z7h CX P w K mg base N qual scope f cdv A outer s H E) [] σ' H' s'->z1i v u->Q v H'->CE outer P w H s Q u s' :=
  fun{σ' H' v u} J rv q=>⟨v,H',J.os,J.bare,J.base,J.hok,rv,q⟩
 cases fl with
 |ret u =>
  obtain⟨v,σ',H',J,rv,q⟩:=hs;exact fin J rv q
 |next =>
  obtain⟨σ',H',J,q⟩:=hs;exact fin (v:=V.non) (u:=Value.none) J rfl q
 |brk =>
  obtain⟨_,_,_,q⟩:=hs;exact False.elim q
 |cont =>
  obtain⟨_,_,_,q⟩:=hs;exact False.elim q
section
variable{X:Cx}{x:Str}{p pos:Pos}{e:Expr}{es:List Expr}{t:TA}{id T:String}{r:List V->Hp->VK->Prop}
def tCB(r:List V->Hp->VK->Prop)(t:TA):TE:=fun σ H Q=>t σ H fun vs H1=>r vs H1 Q
def z0i(hc:z2s X (.builtin id) r)(hg:Gl X x)(hm:X.mg x=none)(hv:bootBuiltins x=some (.builtin id))(ha:PA X (e::es) t)(hn:x≠"__name__":=by decide)(hdb:(x==("__debug__":Str))=false:=by decide)(he:starEach (e::es) X.env=(false,eval e X.env)::starEach es X.env:=by rfl)(hpl:(backTo pos (starEach es X.env)).any (·.1)=false:=by rfl):PE X (.Call (.Name x p) (e::es) [] pos) (tCB r t):=by intro pins s σ H Q I h;refine y2o (z64 I hg hm hv ?_ hn hdb);exact PyProof.Rows.callWith_builtin1 (thn (ha pos pins s σ H _ I h) fun us s1 ⟨vs,H1,I1,r1,q1⟩=>hc pins s1 σ H1 vs us Q I1 r1 q1) he hpl
def z0w(hc:z2s X (.type T) r)(hg:Gl X x)(hm:X.mg x=none)(hv:bootBuiltins x=some (.type T))(ha:PA X (e::es) t)(hn:x≠"__name__":=by decide)(hdb:(x==("__debug__":Str))=false:=by decide)(he:starEach (e::es) X.env=(false,eval e X.env)::starEach es X.env:=by rfl)(hpl:(backTo pos (starEach es X.env)).any (·.1)=false:=by rfl):PE X (.Call (.Name x p) (e::es) [] pos) (tCB r t):=by intro pins s σ H Q I h;refine y2o (z64 I hg hm hv ?_ hn hdb);exact y1O (thn (ha pos pins s σ H _ I h) fun us s1 ⟨vs,H1,I1,r1,q1⟩=>hc pins s1 σ H1 vs us Q I1 r1 q1) he hpl
end
end L2
namespace HT
open PySem PyProof.Rows
section
open PySem.SeqAt
open PySem.AutoSeq1 (wpAny_loadPart')
open PySem.MeetsSeq PySem.MeetsSeq2 PySem.MeetsSeq3
end
section
variable{prog:Program}{w:World}{A:Around}{E:yyE}{s:Shared}
def sIx(n d:Nat):Option Int->Nat
 |none=>d
 |some v=>if v<0 then(v+(n:Int)).toNat else min v.toNat n
def sIx_none(n d:Nat):sIx n d none=d:=rfl
def sIx_nat(n d k:Nat):sIx n d (some (k:Int))=min k n:=by show(if(k:Int)<0 then((k:Int)+(n:Int)).toNat else min (k:Int).toNat n)=min k n;rw[if_neg (by lia),y0l]
end
end HT
namespace L2
open PySem PySem.Spec PyProof.Rows
abbrev TO:=St->Hp->(Option Int->Hp->Prop)->Prop
def PO(X:Cx)(e:Option Expr)(t:TO):Prop :=
 ∀(pins:yyP)(s:Shared)(σ:St)(H:Hp)(Q:Option Int->Hp->Prop),Inv X pins σ H s->t σ H Q ->
  wpAny (model X.prog X.w) X.A (evalPart e X.env) (fun u s'=>∃o H',Inv X pins σ H' s'/\IsPart u o/\Q o H') X.xe s
def zf1:TO:=fun _ H Q=>Q none H
def zhO(t:TE):TO:=fun σ H Q=>t σ H fun x H1=>∃i,x=.int i/\Q (some i) H1
section
variable{X:Cx}{e:Expr}{te:TE}{lo hi:Option Expr}{tl th:TO}{pos p2:Pos}
def zfO:PO X none zf1:=by intro pins s σ H Q I h;rw[evalPart_none];exact y09 ⟨none,H,I,.none,h⟩
def z8t(h:PE X e te):PO X (some e) (zhO te):=by intro pins s σ H Q I hw;rw[evalPart_some];refine z1P (h pins s σ H _ I hw) fun u s1 x H1 I1 r1 q1=>?_;obtain⟨i,rfl,q⟩:=q1;obtain⟨t,rfl⟩:=r1;exact⟨some i,H1,I1,.int i t,q⟩
def SlR(X:Cx)(r:V->Option Int->Option Int->Hp->VK->Prop):Prop :=
 ∀(pins:yyP)(s:Shared)(σ:St)(H:Hp)(x:V)(v vl vu:Value)(lo hi:Option Int)(sl:Addr)(Q:VK),Inv X pins σ H s->z1i x v->s.heap.IsSliceOf sl vl vu .none->IsPart vl lo->IsPart vu hi->r x lo hi H Q ->
  ∃T id,typeLookup (.type T) "__getitem__"=pure (some (.builtin id))/\s.TypeIs v T/\wpAny (model X.prog X.w) X.A (getItem v (.ref sl)) (EP X pins σ Q) X.xe s
def tSl(r:V->Option Int->Option Int->Hp->VK->Prop)(te:TE)(tl th:TO):TE:=fun σ H Q=>te σ H fun x H1=>tl σ H1 fun l H2=>th σ H2 fun u H3=>r x l u H3 Q
def z9G{r:V->Option Int->Option Int->Hp->VK->Prop}(hr:SlR X r)(he:PE X e te)(hl:PO X lo tl)(hu:PO X hi th):PE X (.Subscript e (.Slice lo hi none p2) pos) (tSl r te tl th):=by intro pins s σ H Q I h;refine Subscript_ (z1P (he pins s σ H _ I h) fun v s1 x H1 I1 r1 q1=>?_);refine wpAny_Slice (thn (hl pins s1 σ H1 _ I1 q1) fun vl s2 ⟨l,H2,I2,pl,q2⟩=>thn (hu pins s2 σ H2 _ I2 q2) fun vu s3 hz8=>?_);obtain⟨u,H3,I3,pu,q3⟩:=hz8;rw[evalPart_none];refine y09 ?_;have I4:Inv X pins σ H3 { s3 with heap:=s3.heap.push { cls:=.type "slice",data:=.fields #[vl,vu,.none] } }:=I3.kept (t':=s3.toks) fun b ob q=>y05 _ q;obtain⟨T,id,hT,ht,hg⟩:=hr pins { s3 with heap:=s3.heap.push { cls:=.type "slice",data:=.fields #[vl,vu,.none] } } σ H3 x v vl vu l u s3.heap.objs.size Q I4 r1 (Heap.IsSliceOf.new ..) pl pu q3;show wpAny (model X.prog X.w) X.A (subscriptTail e (.Slice lo hi none p2) v (.ref s3.heap.objs.size)) (EP X pins σ Q) X.xe { s3 with heap:=s3.heap.push { cls:=.type "slice",data:=.fields #[vl,vu,.none] } };exact tail_any (ops:=[.ref s3.heap.objs.size,v]) ht hT hg (by with_unfolding_all rfl)
def zek(xs:List V)(lo hi:Option Int):List V:=(xs.drop (HT.sIx xs.length 0 lo)).take (HT.sIx xs.length xs.length hi-HT.sIx xs.length 0 lo)
def z8z(xs:List V)(lo hi:Option Int):(zek xs lo hi).length<=xs.length:=by unfold zek;rw[y0q,y3R];lia
end
def ixN(n:Nat)(i:Int):Option Nat:=if 0<=i then(if i<n then some i.toNat else none)else if -(n:Int)<=i then some (i+n).toNat else none
def atI{α:Type}(xs:List α)(i:Int):Option α:=(ixN xs.length i).bind fun j=>xs[j]?
def zcc{n:Nat}{i:Int}{j:Nat}(h:ixN n i=some j):seqIndex? i n=some j/\j<n/\-(n:Int)<=i/\i<n:=by
 unfold ixN at h;by_cases h0:0<=i
 .rw[if_pos h0]at h;by_cases h1:i<n
  .rw[if_pos h1]at h;have e:i.toNat=j:=y08 h;exact⟨by rw[seqIndex_of h0 h1,e],by lia,by lia,h1⟩
  .rw[if_neg h1]at h;cases h
 .rw[if_neg h0]at h;by_cases h1:-(n:Int)<=i
  .rw[if_pos h1]at h;have e:(i+n).toNat=j:=y08 h;exact⟨by rw[seqIndex_neg (by lia) h1,e],by lia,h1,by lia⟩
  .rw[if_neg h1]at h;cases h
def zbx{α:Type}{xs:List α}{i:Int}{v:α}(h:atI xs i=some v):∃j,seqIndex? i xs.length=some j/\xs[j]?=some v/\j<xs.length/\-(xs.length:Int)<=i/\i<xs.length:=by
 unfold atI at h;cases e:ixN xs.length i with
 |none=>rw[e]at h;cases h
 |some j =>
  rw[e]at h;obtain⟨h1,h2,h3,h4⟩:=zcc e;exact⟨j,h1,h,h2,h3,h4⟩
def z0z{α:Type}{xs:List α}{j:Nat}{v:α}(h:xs[j]?=some v):atI xs (j:Int)=some v:=by
 have hj:j<xs.length:=(y06.mp h).1;have e:ixN xs.length (j:Int)=some j:=by unfold ixN;rw[if_pos (by lia),if_pos (by lia)];simp
 unfold atI;rw[e];exact h
def zdF{α:Type}(xs:List α)(v:α):atI (xs++[v]) (-1)=some v:=by
 have hl:(xs++[v]).length=xs.length+1:=by simp
 have e:ixN (xs++[v]).length (-1)=some xs.length:=by unfold ixN;rw[hl,if_neg (by decide),if_pos (by lia)];congr 1;lia
 unfold atI;rw[e];show(xs++[v])[xs.length]?=some v;simp
def zfA(b:Expr):Prop:=∀o i,subscripted b false o i=operate [o,i] (getItem o i)
def IxR(X:Cx)(r:R2):Prop :=
 ∀(value slice:Expr)(pins:yyP)(s:Shared)(σ:St)(H:Hp)(x y:V)(v u:Value)(Q:VK),Inv X pins σ H s->z1i x v->z1i y u->r x y H Q ->
  subscripted slice false v u=operate [v,u] (getItem v u)->wpAny (model X.prog X.w) X.A (subscriptTail value slice v u) (EP X pins σ Q) X.xe s
def MtR(X:Cx)(id:String)(r:V->List V->Hp->VK->Prop):Prop :=
 ∀(pins:yyP)(s:Shared)(σ:St)(H:Hp)(x:V)(xs:List V)(v:Value)(us:List Value)(Q:VK),Inv X pins σ H s->z1i x v->z0T xs us->r x xs H Q ->
  wpAny (model X.prog X.w) X.A (call (.builtin id) (v::us)) (EP X pins σ Q) X.xe s
section
variable{X:Cx}{a b:Expr}{ta tb:TE}{pos:Pos}
def z0V{r:R2}(hr:IxR X r)(ha:PE X a ta)(hb:PE X b tb)(hs:zfA b):PE X (.Subscript a b pos) (tOp r ta tb):=by intro pins s σ H Q I h;exact Subscript_ (zhk ha hb I h fun v u s2 x y H2 I2 rx ry q=>hr a b pins s2 σ H2 x y v u Q I2 rx ry q (hs _ _))
def zhX(K:yyF):R2:=fun x y H Q=>∃p xs i v,x=.ref p/\y=.int i/\SqL K H p xs/\atI xs i=some v/\Q v H
def zis(K:yyF):R2:=fun x y H Q=>∃p xs i v,x=.ref p/\y=.int i/\SqT K H p xs/\atI xs i=some v/\Q v H
def z1s:IxR X (zhX X.K):=by
 intro value slice pins s σ H x y v u Q I rx ry h hs;obtain⟨p,xs,i,z,rfl,rfl,hq,he,q⟩:=h;cases rx;obtain⟨t,rfl⟩:=ry;obtain⟨its,r,pl,hz⟩:=I.list hq;obtain⟨j,h1,h2,h3,h4,h5⟩:=zbx he;obtain⟨w,ew,rw'⟩:=r.get h2;have hl:=r.length;have hn:=z7R;have fin:EP X pins σ Q w s:=⟨z,H,I,rw',q⟩;by_cases h0:0<=i
 .have hj:i.toNat=j:=by
   rw[seqIndex_of h0 h5]at h1;exact y08 h1
  exact item_listR pl.isList h0 (by lia) (by rw[hj];simpa using ew) fin hs
 .have hj:(i+(its.toArray.size:Int)).toNat=j:=by
   rw[seqIndex_neg (by lia) h4]at h1;rw[y0C,<-hl];exact y08 h1
  exact subscriptTail_builtinR (x:=w) pl.isList.typeIs slot_list_getitem.lookup
   (wpAny_getItem_list_neg (Q:=fun r s'=>r=w/\EP X pins σ Q r s') pl.isList (by lia) (by rw[y0C]<;>lia) (by lia) (by rw[hj];simpa using ew) ⟨rfl,fin⟩) hs
def z27:IxR X (zis X.K):=by
 intro value slice pins s σ H x y v u Q I rx ry h hs;obtain⟨p,xs,i,z,rfl,rfl,hq,he,q⟩:=h;cases rx;obtain⟨t,rfl⟩:=ry;obtain⟨its,r,pl,hz⟩:=I.tuple hq;obtain⟨j,h1,h2,h3,h4,h5⟩:=zbx he;obtain⟨w,ew,rw'⟩:=r.get h2;have hl:=r.length;have hn:=z7R;have fin:EP X pins σ Q w s:=⟨z,H,I,rw',q⟩;exact subscriptTail_builtinR (x:=w) pl.typeIs slot_tuple_getitem.lookup
  (getItem_tuple (j:=j) (Q:=fun r s'=>r=w/\EP X pins σ Q r s') pl (by lia) (by lia) (by rw[y0C,<-hl];exact h1) (by simpa using ew) ⟨rfl,fin⟩) hs
def zaB(its:List Value)(n j:Nat)(u:Value):Obj.mapSeq (·.setIfInBounds j u) { cls:=.type "list",data:=.seq its.toArray n }={ cls:=.type "list",data:=.seq (its.set j u).toArray n }:=by simp[Obj.mapSeq]
theorem Inv.lst{pins:yyP}{σ:St}{H:Hp}{s:Shared}{p:Addr}{xs:List V}(I:Inv X pins σ H s)(h:H p=some (.lst xs)) : ∃(its:List Value) (n:Nat),z0T xs its/\s.heap.get? p=some { cls:=.type "list",data:=.seq its.toArray n }/\xs.length<=sizeLine:=by obtain⟨z,its,n,r,e⟩:=I.hok p _ h;exact⟨its,n,r,e,z⟩
def Inv.lstUpd{pins:yyP}{σ:St}{H:Hp}{s:Shared}{p:Addr}{xs ys:List V}{its its':List Value}{n n':Nat}{f:Obj->Obj}(I:Inv X pins σ H s)(h:H p=some (.lst xs))(ho:s.heap.get? p=some { cls:=.type "list",data:=.seq its.toArray n })(hf:f { cls:=.type "list",data:=.seq its.toArray n }={ cls:=.type "list",data:=.seq its'.toArray n' })(r:z0T ys its')(hz:ys.length<=sizeLine)(t:Nat) : Inv X pins σ (upd H p (.lst ys)) { s with heap:=s.heap.update p f,toks:=t }:=by
 have e:(s.heap.update p f).get? p=some { cls:=.type "list",data:=.seq its'.toArray n' }:=by rw[y1l f ho (by rw[hf]<;>rfl),hf]
 refine I.write (x:=p) (e:=p) (by rw[h];trivial) (.inl rfl) (fun b u hb q=>(y2P _ _ (y1v hb)).trans q) ⟨_,e⟩ ?_;exact⟨hz,its',n',r,e⟩
def zho:V->V->V->Hp->(Hp->Prop)->Prop:=fun o i v H Q=>∃p xs k j,o=.ref p/\i=.int k/\H p=some (.lst xs)/\ixN xs.length k=some j/\Q (upd H p (.lst (xs.set j v)))
def ze2:zi2 X zho:=by
 intro pins s σ H o i v ov iv u Q I ro ri rv h;obtain⟨p,xs,k,j,rfl,rfl,hp,hj,q⟩:=h;cases ro;obtain⟨t,rfl⟩:=ri;obtain⟨its,n,r,ho,hz⟩:=I.lst hp;obtain⟨h1,h2,h3,h4⟩:=zcc hj;have hl:=r.length;have hn:=z7R;have I':Inv X pins σ (upd H p (.lst (xs.set j v))) { s with heap:=s.heap.update p (Obj.mapSeq (·.setIfInBounds j u)) } :=
  I.lstUpd hp ho (zaB its n j u) (r.set rv j) (by rw[List.length_set];exact hz) s.toks
 by_cases h0:0<=k
 .have hk:k.toNat=j:=by
   rw[seqIndex_of h0 h4]at h1;exact y08 h1
  exact PySem.W.ki_setAt ho h0 (by lia) (by rw[y0C,<-hl];exact h4) (by rw[hk];exact⟨_,I',q⟩)
 .have hk:(k+(its.toArray.size:Int)).toNat=j:=by
   rw[seqIndex_neg (by lia) h3]at h1;rw[y0C,<-hl];exact y08 h1
  exact PySem.W.ki_setBack ho (by lia) (by rw[y0C,<-hl];exact h3) (by lia) (by rw[hk];exact⟨_,I',q⟩)
def z7m(lo hi:Option Int)(n:Nat):(sliceBounds lo hi none n).1=((HT.sIx n 0 lo:Nat):Int)/\(sliceBounds lo hi none n).2.1=((HT.sIx n n hi:Nat):Int)/\(sliceBounds lo hi none n).2.2=1:=by
 refine⟨?_,?_,rfl⟩
 .cases lo with
  |none=>simp[sliceBounds,HT.sIx]
  |some i =>
   simp only[sliceBounds,HT.sIx,Option.getD_none,show(1:Int)>0 by decide,y2x];by_cases h:i<0
   .simp only[h,y2x]<;>lia
   .simp only[h,y1H]<;>lia
 .cases hi with
  |none=>simp[sliceBounds,HT.sIx]
  |some i =>
   simp only[sliceBounds,HT.sIx,Option.getD_none,show(1:Int)>0 by decide,y2x];by_cases h:i<0
   .simp only[h,y2x]<;>lia
   .simp only[h,y1H]<;>lia
def z79(its:List Value)(lo hi:Option Int):slicePick its.toArray lo hi none=((its.drop (HT.sIx its.length 0 lo)).take (HT.sIx its.length its.length hi-HT.sIx its.length 0 lo)).toArray:=by obtain⟨h1,h2,h3⟩:=z7m lo hi its.toArray.size;unfold slicePick;rw[h1,h2,h3];simp only[sliceRange_one,pick_run,y0C]<;>rfl
def ziW(K:yyF):V->Option Int->Option Int->Hp->VK->Prop:=fun x lo hi H Q=>∃a xs,x=.ref a/\SqL K H a xs/\∀p,H p=none->Q (.ref p) (upd H p (.lst (zek xs lo hi)))
def zbJ:SlR X (ziW X.K):=by intro pins s σ H x v vl vu lo hi sl Q I rx hs pl pu h;obtain⟨a,xs,rfl,hx,q⟩:=h;cases rx;obtain⟨its,r,ht,hz⟩:=I.list hx;have hlen:=r.length;refine⟨"list",_,slot_list_getitem.lookup,ht.isList.typeIs,?_⟩;refine wpAny_getItem_list_slice ht.isList hs pl pu .none (by simp) ?_ (by rw[y0C]<;>lia);rw[z79,<-hlen];refine⟨.ref s.heap.objs.size,_,I.laid (t':=s.toks) (o:=.lst (zek xs lo hi)) (fun b ob q=>y05 _ q) (y0b _) ?_,rfl,q _ (I.hok.fresh (y0b _))⟩;exact⟨y0Q (z8z xs lo hi) hz,_,0,(r.drop (HT.sIx xs.length 0 lo)).take (HT.sIx xs.length xs.length hi-HT.sIx xs.length 0 lo),y0e _ rfl⟩
def z0d:z2s X (.builtin "len") (fun xs H Q=>∃p ys,xs=[.ref p]/\(SqL X.K H p ys\/SqT X.K H p ys)/\Q (.int ys.length) H):=by
 intro pins s σ H xs us Q I r h;obtain⟨p,ys,rfl,hq,q⟩:=h;obtain⟨u,rfl,rx⟩:=z48 r;cases rx;have hn:=z7R;rcases hq with hq|hq
 .obtain⟨its,r',pl,hz⟩:=I.list hq;have hlen:=r'.length;exact Calls.call_len_list pl.isList (by simp only[y0C]<;>lia) ⟨.int ys.length,H,I.tok _,⟨s.toks+1,by rw[y0C,hlen]⟩,q⟩
 .obtain⟨its,r',pl,hz⟩:=I.tuple hq;have hlen:=r'.length;exact len_tuple pl (by simp only[y0C]<;>lia) ⟨.int ys.length,H,I.tok _,⟨s.toks+1,by rw[y0C,hlen]⟩,q⟩
def z0o:z2s X (.type "tuple") (fun xs H Q=>∃p ys,xs=[.ref p]/\((SqL X.K H p ys/\∀l,H l=none->Q (.ref l) (upd H l (.tup ys)))\/(SqT X.K H p ys/\Q (.ref p) H))):=by
 intro pins s σ H xs us Q I r h;obtain⟨p,ys,rfl,h⟩:=h;obtain⟨u,rfl,rx⟩:=z48 r;cases rx;rcases h with⟨hq,q⟩|⟨hq,q⟩
 .obtain⟨its,r',pl,hz⟩:=I.list hq;have hlen:=r'.length;refine call_tuple_list pl.isList (fun h' kp=>?_) (by simp only[y0C]<;>lia);have I1:Inv X pins σ H { s with heap:=h' }:=I.kept (t':=s.toks) kp;have I2:Inv X pins σ (upd H h'.objs.size (.tup ys)) { s with heap:=h'.push { cls:=.type "tuple",data:=.seq its.toArray } } :=
   I1.laid (t':=s.toks) (fun b o e=>y05 _ e) (y0b _) (show z1Q X.prog X.w _ _ _ (.tup ys)from⟨hz,its,0,r',y0e _ rfl⟩)
  exact⟨.ref h'.objs.size,_,I2,rfl,q _ (I1.hok.fresh (y0b _))⟩
 .obtain⟨its,r',pl,hz⟩:=I.tuple hq;exact call_tuple_same pl ⟨.ref p,H,I,rfl,q⟩
def tyV(K:yyF)(T:String)(x:V)(H:Hp):Prop:=match x with
 |.str _=>T="str"
 |.int _=>T="int"
 |.ref p=>(T="list"/\∃xs,SqL K H p xs)\/(T="tuple"/\((∃o,K.lookup p=some o/\o.cls=.type "tuple"/\o.dict=none)\/∃xs,H p=some (.tup xs))) \/
   (T="dict"/\((∃kvs,H p=some (.dK kvs))\/∃kvs,H p=some (.dT kvs)))\/(T="set"/\∃S n,H p=some (.set S n))
 |_=>False
def zgo{pins:yyP}{σ:St}{H:Hp}{s:Shared}{T:String}{x:V}{v:Value}(I:Inv X pins σ H s)(r:z1i x v)(ty:tyV X.K T x H) : s.TypeIs v T/\∀a,v=.ref a->∃ob,s.heap.get? a=some ob/\ob.dict=none:=by
 cases x with
 |str z =>
  obtain⟨t,rfl⟩:=r;cases(show T="str" from ty);exact⟨typeIs_str s z t,fun _ e=>nomatch e⟩
 |int i =>
  obtain⟨t,rfl⟩:=r;cases(show T="int" from ty);exact⟨y3i s i t,fun _ e=>nomatch e⟩
 |ref p =>
  cases r;rcases ty with⟨rfl,xs,hq⟩|⟨rfl,⟨o,hk,hc,hd⟩|⟨xs,hq⟩⟩|⟨rfl,hk⟩|⟨rfl,S,n,hk⟩
  .obtain⟨its,_,pl,_⟩:=I.list hq;refine⟨pl.isList.typeIs,fun a e=>?_⟩;cases e;obtain⟨o,n,e,c,hd,_⟩:=pl;exact⟨o,e,hd⟩
  .refine⟨⟨o,I.kIn p o hk,hc⟩,fun a e=>?_⟩;cases e;exact⟨o,I.kIn _ o hk,hd⟩
  .obtain⟨_,its,n,_,h1⟩:=(show z1Q X.prog X.w H s.heap p (.tup xs)from I.hok p _ hq);refine⟨⟨_,h1,rfl⟩,fun a e=>?_⟩;cases e;exact⟨_,h1,rfl⟩
  .have z:∃o,s.heap.get? p=some o/\o.ExactDict:=by
    rcases hk with⟨kvs,hk⟩|⟨kvs,hk⟩
    .obtain⟨_,_,_,_,o,_,_,e,ex,_⟩:=I.hok p _ hk;exact⟨o,e,ex⟩
    .obtain⟨_,_,_,_,o,_,_,e,ex,_⟩:=I.hok p _ hk;exact⟨o,e,ex⟩
   obtain⟨o,e,ex⟩:=z;refine⟨⟨o,e,ex.1⟩,fun a e2=>?_⟩;cases e2;exact⟨o,e,ex.2.1⟩
  .obtain⟨o,_,_,_,e,ex,_⟩:=I.hok p _ hk;refine⟨⟨o,e,ex.1⟩,fun a e2=>?_⟩;cases e2;exact⟨o,e,ex.2.1⟩
 |_=>exact False.elim ty
def tBM(K:yyF)(T:String)(r:V->List V->Hp->VK->Prop)(to:TE)(t:TA):TE:=fun σ H Q=>to σ H fun x H1=>tyV K T x H1/\t σ H1 fun xs H2=>r x xs H2 Q
variable{o e:Expr}{es:List Expr}{to:TE}{t:TA}{name:Str}{apos cpos:Pos}{T id:String}{r:V->List V->Hp->VK->Prop}
def z2V(pa:PlainAttrs T)(slot:Slot T name id)(hty:typeOf (.builtin id)=pure (.type "method_descriptor"))(hm:MtR X id r)(ho:PE X o to)(ha:PA X (e::es) t)(hbase:attributeBase o name X.env (eval o X.env)=eval o X.env:=by rfl)(hfew:((backTo cpos (starEach (e::es) X.env)).all (fun x=>!x.1)&&(backToKw cpos (keywordEach [] X.env)).all (fun x=>x.1.isSome)&&decide ((e::es).length+([]:List Keyword).length+(if([]:List Keyword).isEmpty then 0 else 1)<30))=true:=by rfl)(hline:(apos.endLine==cpos.line)=true:=by rfl)(hs:starEach (e::es) X.env=(false,eval e X.env)::starEach es X.env:=by rfl)(hplain:(backTo cpos (starEach es X.env)).any (·.1)=false:=by rfl) : PE X (.Call (.Attribute o name apos) (e::es) [] cpos) (tBM X.K T r to t):=by intro pins s σ H Q I h;refine wpAny_Call_method_late hbase hfew hline rfl (z1P (ho pins s σ H _ I h) fun v s1 x H1 I1 r1 hz9=>?_);obtain⟨ty,q1⟩:=hz9;obtain⟨h1,h2⟩:=zgo I1 r1 ty;refine⟨T,id,pa,slot,hty,h1,h2,?_⟩;have hA:=ha cpos pins s1 σ H1 _ I1 q1;rw[hs]at hA⊢;refine Calls.callWith_builtin (by show(false||(backTo cpos (starEach es X.env)).any (·.1))=false;rw[hplain]<;>rfl) (y3Y ?_);exact thn hA fun us s2 ⟨vs,H2,I2,r2,q2⟩=>hm pins s2 σ H2 x vs v us Q I2 r1 r2 q2
end
def MtM(X:Cx)(id:String)(r:V->List V->Hp->VK->Prop):Prop :=
 ∀(pins:yyP)(s:Shared)(σ:St)(H:Hp)(x:V)(xs:List V)(v:Value)(us:List Value)(Q:VK),Inv X pins σ H s->z1i x v->z0T xs us->r x xs H Q ->
  wpAny (model X.prog X.w) X.A (call (.builtin id) (v::us)) (EP X pins σ Q) X.xe s
def z0T.one:∀{x:V}{us:List Value},z0T [x] us->∃u,us=[u]/\z1i x u
 |_,_,.cons r .nil=>⟨_,rfl,r⟩
theorem z0T.eraseIdx:∀{xs:List V}{us:List Value}(i:Nat),z0T xs us->z0T (xs.eraseIdx i) (us.eraseIdx i)
 |_,_,_,.nil=>.nil
 |_,_,0,.cons _ t=>t
 |_,_,i+1,.cons r t=>.cons r (z0T.eraseIdx i t)
theorem z0T.reverse{xs:List V}{us:List Value}(h:z0T xs us):z0T xs.reverse us.reverse:=by
 induction h with
 |nil=>exact .nil
 |cons r t ih=>rw[y1w,y1w];exact z0T.append ih (.cons r .nil)
theorem z0T.rep{xs:List V}{us:List Value}(h:z0T xs us):∀k:Nat,z0T (List.replicate k xs).flatten (List.replicate k us).flatten
 |0=>.nil
 |k+1=>by rw[y1m,y1m,y1x,y1x];exact z0T.append h (z0T.rep h k)
theorem z7S{α:Type}:∀(l:List α)(i:Nat),(l.eraseIdx i).length<=l.length
 |[],_=>y0b _
 |_::_,0=>Nat.le_succ _
 |_::r,i+1=>Nat.succ_le_succ (z7S r i)
theorem z5b(its:List Value):∀(k:Nat)(acc:List Value),
  List.foldl (fun x1 x2=>x1++x2) acc.toArray (List.replicate k its.toArray)=(acc++(List.replicate k its).flatten).toArray
 |0,acc=>by simp
 |k+1,acc=>by
  have e:acc.toArray++its.toArray=(acc++its).toArray:=by simp
  have e2:(acc++its)++(List.replicate k its).flatten=acc++(List.replicate (k+1) its).flatten:=by rw[y1m,y1x,y0p]
  rw[<-e2,<-z5b its k (acc++its),<-e,y1m,y1B]
section
variable{X:Cx}{pins:yyP}{σ:St}{H:Hp}{s:Shared}{l b:Addr}{xs ys zs:List V}
def Inv.lset{its its':List Value}{n:Nat}{f:Array Value->Array Value}{t':Nat}(I:Inv X pins σ H s)(hH:H l=some (.lst xs))(e:s.heap.get? l=some { cls:=.type "list",data:=.seq its.toArray n })(hf:f its.toArray=its'.toArray)(hv:z0T ys its')(hz:ys.length<=sizeLine) : Inv X pins σ (upd H l (.lst ys)) { s with heap:=s.heap.update l (Obj.mapSeq f),toks:=t' }:=by have q:=PySem.IsL.update e f;rw[hf]at q;refine I.write (x:=l) (e:=l) (by rw[hH];exact trivial) (.inl rfl) (fun b' u hb hu=>(y2P s.heap (Obj.mapSeq f) (y1v hb)).trans hu) ⟨_,q⟩ ?_;exact⟨hz,its',_,hv,q⟩
def Inv.lnew{its:List Value}{t':Nat}(I:Inv X pins σ H s)(hv:z0T ys its)(hz:ys.length<=sizeLine) : Inv X pins σ (upd H s.heap.objs.size (.lst ys)) { s with heap:=s.heap.push { cls:=.type "list",data:=.seq its.toArray },toks:=t' } :=
 I.laid (fun _ _ q=>y05 _ q) (y0b _) ⟨hz,its,0,hv,y0e _ rfl⟩
theorem Inv.fresh(I:Inv X pins σ H s):H s.heap.objs.size=none:=I.hok.fresh (y0b _)
def Inv.lstM(I:Inv X pins σ H s)(hH:H l=some (.lst xs)):xs.length<=sizeLine/\∃(its:List Value) (n:Nat),z0T xs its/\xs.length=its.length/\s.heap.get? l=some { cls:=.type "list",data:=.seq its.toArray n }:=by obtain⟨z,its,n,r,e⟩:=I.hok l _ hH;exact⟨z,its,n,r,r.length,e⟩
def ze5{n:Nat}(h:n<=sizeLine):Builtin.List.listTooLong n=false:=by unfold Builtin.List.listTooLong;exact y0Z (by lia)
end
section
variable{X:Cx}
def zfZ:V->List V->Hp->VK->Prop:=fun x vs H Q=>∃l xs y,x=.ref l/\vs=[y]/\H l=some (.lst xs)/\xs.length<sizeLine/\Q .non (upd H l (.lst (xs++[y])))
def z0D:MtM X "list.append" zfZ:=by intro pins s σ H x vs v us Q I rx rv h;obtain⟨l,xs,y,rfl,rfl,hH,hz,q⟩:=h;cases rx;obtain⟨u,rfl,ru⟩:=rv.one;obtain⟨z,its,n,r,hl,e⟩:=I.lstM hH;refine y33 F.slot_list_append ⟨_,e,rfl⟩ F.entry_list_append (F.args_list_append_2 _ _) (PySem.list_append l its.toArray n u (by rw[y0C];lia)) ⟨e,?_⟩;refine⟨.non,_,I.lset (its':=its++[u]) hH e (by simp) (r.append (.cons ru .nil)) ?_,rfl,q⟩;rw[y0f,List.length_singleton];lia
def zh3:V->List V->Hp->VK->Prop:=fun x vs H Q=>∃l xs i k y,x=.ref l/\vs=[.int i]/\H l=some (.lst xs)/\-(2^63)<=i/\i<2^63/\seqIndex? i xs.length=some k/\xs[k]?=some y/\Q y (upd H l (.lst (xs.eraseIdx k)))
def zdI:MtM X "list.pop" zh3:=by
 intro pins s σ H x vs v us Q I rx rv h;obtain⟨l,xs,i,k,y,rfl,rfl,hH,h1,h2,hk,hy,q⟩:=h;cases rx;obtain⟨u,rfl,ru⟩:=rv.one;obtain⟨t,rfl⟩:=ru;obtain⟨z,its,n,r,hl,e⟩:=I.lstM hH;obtain⟨w,hw,rw'⟩:=r.get hy;refine y33 F.slot_list_pop ⟨_,e,rfl⟩ F.entry_list_pop (F.args_list_pop_2 _ _)
  (MeetsSeq.list_pop_at l its.toArray n i t k w (fitsIndex_both h1 h2) (by rw[y0C,<-hl];exact hk) (by rw[<-y0w];exact hw) (by rw[y0C];lia)) ⟨e,?_⟩
 refine⟨y,_,I.lset (its':=its.eraseIdx k) hH e ?_ (r.eraseIdx k) ?_,rw',q⟩
 .show its.toArray.eraseIdxIfInBounds k=(its.eraseIdx k).toArray;rw[List.eraseIdxIfInBounds_toArray]
 .have:=z7S xs k;lia
def zj3:R2:=fun x y H Q=>∃l k xs,x=.ref l/\y=.int k/\H l=some (.lst xs)/\-(2^63)<=k/\k<2^63/\xs.length*k.toNat<=sizeLine /\
 ∀p,H p=none->Q (.ref p) (upd H p (.lst (List.replicate k.toNat xs).flatten))
def z8W{α:Type}(xs:List α)(k:Nat):(List.replicate k xs).flatten.length=k*xs.length:=by
 induction k with
 |zero=>simp
 |succ k ih=>rw[y1m,y1x,y0f,ih,Nat.succ_mul,Nat.add_comm]
def zeK:OpR X (binaryOp .Mult) zj3:=by
 intro pins s σ H x y v u Q I rx ry h;obtain⟨l,k,xs,rfl,rfl,hH,h1,h2,hz,q⟩:=h;cases rx;obtain⟨t,rfl⟩:=ry;obtain⟨z,its,n,r,hl,e⟩:=I.lstM hH;have hlen:its.toArray.size*k.toNat<=sizeLine:=by rw[y0C,<-hl];exact hz
 have hcap:¬its.toArray.size*k.toNat>(2^63-1)/8:=by
  have:(sizeLine:Nat)<=(2^63-1)/8:=by decide
  lia
 have hfit:¬(!Builtin.List.listFitsIndex k)=true:=by rw[fitsIndex_both h1 h2];exact y0M
 have hlong:¬Builtin.List.listTooLong (its.toArray.size*k.toNat)=true:=by rw[ze5 hlen];exact y0M
 have hnew:List.foldl (fun x1 x2=>x1++x2) #[] (List.replicate (if its.toArray.isEmpty=true then 0 else k.toNat) its.toArray)=(List.replicate k.toNat its).flatten.toArray:=by
  have f0:∀m:Nat,List.foldl (fun x1 x2=>x1++x2) #[] (List.replicate m its.toArray)=(List.replicate m its).flatten.toArray:=fun m=>by have:=z5b its m [];rw[y1Q]at this;exact this
  rw[f0];cases its with
  |nil=>simp
  |cons a r'=>rw[if_neg (by simp)]
 refine y2q (T:="list") (U:="int") (by decide) ⟨_,e,rfl⟩ (fun s'=>y3i s' k t) noFill_list_mul y42 y2e repeat_list y3S.lookup
  (y33 y2e (y3i s k t) y3T (y3B _ _) (int___rmul___int_list k t l its.toArray n)
   ⟨e,rfl,⟨_,e,rfl⟩,y33 F.slot_list_mul ⟨_,e,rfl⟩ F.entry_list_mul (F.args_list_mul_2 _ _) (AutoListH.list___mul___list_int_3 l its.toArray n k t hfit hcap hlong) ⟨e,?_⟩⟩)
 rw[hnew];exact⟨.ref _,_,I.lnew (t':=s.toks) (r.rep k.toNat) (by rw[z8W,Nat.mul_comm];exact hz),rfl,q _ I.fresh⟩
end
section
variable{prog:Program}{w:World}{A:Around}{E:yyE}{s:Shared}
end
section
variable{X:Cx}
end
section
variable{κ:Type}[DecidableEq κ]
def z3d(kvs:List (κ × V))(k:κ):Option V:=(kvs.find? fun kv=>decide (kv.1=k)).map (·.2)
def z2K(kvs:List (κ × V))(k:κ)(v:V):List (κ × V) :=
 if(kvs.any fun kv=>decide (kv.1=k))=true then kvs.map (fun kv=>if kv.1=k then(kv.1,v)else kv)else kvs++[(k,v)]
def z37{p:κ × V}{r:List (κ × V)}{k:κ}(e:p.1=k):z3d (p::r) k=some p.2:=by simp[z3d,y2f,e]
def z2w{p:κ × V}{r:List (κ × V)}{k:κ}(e:¬p.1=k):z3d (p::r) k=z3d r k:=by simp[z3d,y2f,e]
theorem z3P(k:κ):∀kvs:List (κ × V),(kvs.any fun kv=>decide (kv.1=k))=(z3d kvs k).isSome
 |[]=>rfl
 |p::r=>by
  rw[List.any_cons];by_cases e:p.1=k
  .simp only[z37 e,y11 e,Bool.true_or,Option.isSome_some]
  .rw[z2w e,y0Z e,Bool.false_or];exact z3P k r
def z23(kvs:List (κ × V))(k:κ)(v:V):(z2K kvs k v).length<=kvs.length+1:=by
 unfold z2K;split
 .rw[y01];lia
 .rw[y0f,y0N,y2d];lia
def za8{kvs:List (κ × V)}{k:κ}(v:V)(h:z3d kvs k=none):z2K kvs k v=kvs++[(k,v)]:=by unfold z2K;rw[z3P,h];exact if_neg (by decide)
def za5.isSome_eq{o:Option V}{u:Option Value}(r:za5 o u):o.isSome=u.isSome:=by
 cases o with
 |none=>cases u with
  |none=>rfl
  |some _=>exact(show False from r).elim
 |some _=>cases u with
  |none=>exact(show False from r).elim
  |some _=>rfl
theorem za5.getD{o:Option V}{u:Option Value}{d:V}{d':Value}(r:za5 o u)(rd:z1i d d'):z1i (o.getD d) (u.getD d'):=by
 cases o with
 |none=>cases u with
  |none=>exact rd
  |some _=>exact(show False from r).elim
 |some _=>cases u with
  |none=>exact(show False from r).elim
  |some _=>exact r
def KV.val{kvs:List (κ × V)}{vs:List (κ × Value)}(r:KV kvs vs)(k:κ):za5 (z3d kvs k) (valueAt vs k):=by
 unfold KV at r;induction r with
 |nil=>exact y3j
 |@cons p q ps qs h t ih =>
  obtain⟨h1,h2⟩:=h;by_cases e:p.1=k
  .have e':q.1=k:=h1.symm.trans e;have b:valueAt (q::qs) k=some q.2:=by simp[valueAt,y2f,e']
   rw[z37 e,b];exact h2
  .have e':¬q.1=k:=fun z=>e (h1.trans z);have b:valueAt (q::qs) k=valueAt qs k:=by simp[valueAt,y2f,e']
   rw[z2w e,b];exact ih
theorem KV.any{kvs:List (κ × V)}{vs:List (κ × Value)}(r:KV kvs vs)(k:κ):(kvs.any fun kv=>decide (kv.1=k))=vs.any fun kv=>decide (kv.1=k):=by
 unfold KV at r;induction r with
 |nil=>rfl
 |cons h t ih=>rw[List.any_cons,List.any_cons,ih,h.1]
def KV.repl{kvs:List (κ × V)}{vs:List (κ × Value)}(r:KV kvs vs)(k:κ){y:V}{u:Value}(ry:z1i y u) : KV (kvs.map fun kv=>if kv.1=k then(kv.1,y)else kv) (vs.map fun kv=>if kv.1=k then(kv.1,u)else kv):=by
 unfold KV at r⊢;induction r with
 |nil=>exact .nil
 |@cons p q ps qs h t ih =>
  rw[y0m,y0m];refine .cons ?_ ih;obtain⟨h1,h2⟩:=h;by_cases e:p.1=k
  .rw[if_pos e,if_pos (h1.symm.trans e)];exact⟨h1,ry⟩
  .rw[if_neg e,if_neg (fun z=>e (h1.trans z))];exact⟨h1,h2⟩
def KV.put{kvs:List (κ × V)}{vs:List (κ × Value)}(r:KV kvs vs)(k:κ){y:V}{u:Value}(ry:z1i y u):KV (z2K kvs k y) (stored vs k u):=by
 unfold z2K stored;rw[r.any k];by_cases e:(vs.any fun kv=>decide (kv.1=k))=true
 .rw[if_pos e,if_pos e];exact r.repl k ry
 .rw[if_neg e,if_neg e];exact Paired.snoc r ⟨rfl,ry⟩
theorem KV.length{kvs:List (κ × V)}{vs:List (κ × Value)}(r:KV kvs vs):kvs.length=vs.length:=y40 r
end
def zc1{P:Program}{w:World}{k:Key}{u:Value}(r:z1i (kV k) u):(z1r P w).is k u=true:=by
 cases k with
 |inl i=>obtain⟨t,e⟩:=(show ∃t,u=Value.int i t from r);subst e;exact z8T P w i t
 |inr x=>obtain⟨t,e⟩:=(show ∃t,u=Value.str x t from r);subst e;exact z8q P w x t
theorem z7q{P:Program}{w:World}:∀{ks:List Key}{us:List Value},z0T (ks.map kV) us->ItemsAre (z1r P w) ks us
 |[],_,r=>by rw[y19]at r;cases r;exact .nil
 |k::ks,_,r=>by
  rw[y0m]at r;cases r with
  |cons h t=>exact .cons (zc1 h) (z7q t)
abbrev KT(H:Hp):List (List Key × V)->List (List Key × Addr × Value)->Prop:=Paired fun p q=>p.1=q.1/\H q.2.1=some (.tup (p.1.map kV))/\z1i p.2 q.2.2
def KT.val{H:Hp}{kvs:List (List Key × V)}{xs:List (List Key × Addr × Value)}(r:KT H kvs xs)(k:List Key):za5 (z3d kvs k) ((atKey xs k).map (·.2)):=by
 induction r with
 |nil=>exact y3j
 |@cons p q ps qs h t ih =>
  obtain⟨h1,_,h2⟩:=h;by_cases e:p.1=k
  .have e':q.1=k:=h1.symm.trans e;have b:atKey (q::qs) k=some q.2:=by simp[atKey,y2f,e']
   rw[z37 e,b];exact h2
  .have e':¬q.1=k:=fun z=>e (h1.trans z);have b:atKey (q::qs) k=atKey qs k:=by simp[atKey,y2f,e']
   rw[z2w e,b];exact ih
def KT.repl{H:Hp}{kvs:List (List Key × V)}{xs:List (List Key × Addr × Value)}(r:KT H kvs xs)(k:List Key){y:V}{u:Value}(ry:z1i y u) : KT H (kvs.map fun kv=>if kv.1=k then(kv.1,y)else kv) (xs.map (putAt k u)):=by
 induction r with
 |nil=>exact .nil
 |@cons p q ps qs h t ih =>
  rw[y0m,y0m];refine .cons ?_ ih;obtain⟨h1,h2,h3⟩:=h;unfold putAt;by_cases e:p.1=k
  .rw[if_pos e,if_pos (h1.symm.trans e)];exact⟨h1,h2,ry⟩
  .rw[if_neg e,if_neg (fun z=>e (h1.trans z))];exact⟨h1,h2,h3⟩
def KT.put{H:Hp}{kvs:List (List Key × V)}{xs:List (List Key × Addr × Value)}(r:KT H kvs xs)(k:List Key){b:Addr}{y:V}{u:Value}(hb:H b=some (.tup (k.map kV)))(ry:z1i y u) : KT H (z2K kvs k y) (storedH xs k b u):=by
 have e:(kvs.any fun kv=>decide (kv.1=k))=(atKey xs k).isSome:=by rw[z3P,(r.val k).isSome_eq,y34]
 unfold z2K storedH;rw[e];by_cases q:(atKey xs k).isSome=true
 .rw[if_pos q,if_pos q];exact r.repl k ry
 .rw[if_neg q,if_neg q];exact Paired.snoc r ⟨rfl,hb,ry⟩
def KT.keeps{H H':Hp}{kvs:List (List Key × V)}{xs:List (List Key × Addr × Value)}(r:KT H kvs xs)(ht:∀b ys,H b=some (.tup ys)->H' b=some (.tup ys)):KT H' kvs xs :=
 Paired.mapP r fun _ _ z=>⟨z.1,ht _ _ z.2.1,z.2.2⟩
section
variable{P:Program}{w:World}{H:Hp}{h:Heap}{a:Addr}
def zgp{u:HO}(ok:HOk P w H h)(e:Rd H a u):z1Q P w H h a u:=e.ok ok
def zdm{kvs:List (Key × V)}(ok:HOk P w H h)(e:Rd H a (.dK kvs)):kvs.length<=sizeLine/\(a==sysModules)=false/\∃vs,KV kvs vs/\h.DictOf (z1r P w) a vs :=
 show z1Q P w H h a (.dK kvs)from zgp ok e
def zgZ{kvs:List (Key × V)}(ok:HOk P w H h)(e:H a=some (.dK kvs)):kvs.length<=sizeLine/\(a==sysModules)=false/\∃vs,KV kvs vs/\h.DictOf (z1r P w) a vs:=zdm ok (.inl e)
def za9{ks:List Key}(ok:HOk P w H h)(e:H a=some (.tup (ks.map kV))):(tupleKind (z1r P w)).is h ks a:=by obtain⟨_,its,n,r,h1⟩:=(show z1Q P w H h a (.tup (ks.map kV))from ok a _ e);exact⟨_,its.toArray,n,h1,rfl,rfl,by simpa using z7q r⟩
def zeh{kvs:List (List Key × V)}(ok:HOk P w H h)(e:Rd H a (.dT kvs)):kvs.length<=sizeLine/\(a==sysModules)=false /\ ∃xs,KT H kvs xs/\h.DictOfH (tupleKind (z1r P w)) a xs:=by
 obtain⟨z,y,xs,r,o,es,ep,h1,h2,h3,h4,h5⟩:=(show z1Q P w H h a (.dT kvs)from zgp ok e);refine⟨z,y,xs,r,o,es,ep,h1,h2,h3,h4,fun x hx=>?_,h5⟩;have all:∀{l:List (List Key × V)}{m:List (List Key × Addr × Value)},KT H l m->∀x∈m,(tupleKind (z1r P w)).is h x.1 x.2.1:=by
  intro l m q;induction q with
  |nil=>intro x hx;exact nomatch hx
  |@cons p q ps qs hq t ih =>
   intro x hx;rcases y0j.mp hx with e|hx
   .subst e;exact za9 ok (by rw[<-hq.1];exact hq.2.1)
   .exact ih x hx
 exact all r x hx
def zhA{kvs:List (List Key × V)}(ok:HOk P w H h)(e:H a=some (.dT kvs)):kvs.length<=sizeLine/\(a==sysModules)=false /\ ∃xs,KT H kvs xs/\h.DictOfH (tupleKind (z1r P w)) a xs:=zeh ok (.inl e)
end
def z5C(H:Hp)(a:Addr)(y:V)(r:Option V):Prop :=
 (∃kvs k,Rd H a (.dK kvs)/\y=kV k/\r=z3d kvs k)\/∃kvs k b,Rd H a (.dT kvs)/\y=.ref b/\H b=some (.tup (k.map kV))/\r=z3d kvs k
def zd5(H:Hp)(a:Addr)(y v:V)(H':Hp):Prop :=
 (∃kvs k,H a=some (.dK kvs)/\y=kV k/\kvs.length<sizeLine/\H'=upd H a (.dK (z2K kvs k v))) \/
 ∃kvs k b,H a=some (.dT kvs)/\y=.ref b/\H b=some (.tup (k.map kV))/\kvs.length<sizeLine/\H'=upd H a (.dT (z2K kvs k v))
theorem z5C.k{H:Hp}{a:Addr}{kvs:List (Key × V)}{k:Key}(e:H a=some (.dK kvs)):z5C H a (kV k) (z3d kvs k):=.inl ⟨kvs,k,.inl e,rfl,rfl⟩
theorem zd5.k{H:Hp}{a:Addr}{kvs:List (Key × V)}{k:Key}{v:V}(e:H a=some (.dK kvs))(hl:kvs.length<sizeLine):zd5 H a (kV k) v (upd H a (.dK (z2K kvs k v))):=.inl ⟨kvs,k,e,rfl,hl,rfl⟩
section
variable{X:Cx}{pins:yyP}{σ:St}{H:Hp}{s:Shared}{a:Addr}{y v:V}{u r:Value}{o:Option V}{A:Around}{E:yyE}
def Inv.big(I:Inv X pins σ H s):sysModules<s.heap.objs.size:=by have h:mainGlobals<s.heap.objs.size:=(I.mod.glob.keeps I.bk).lt;exact y3I (by decide) h
def zbb{Q:yyE}(hu:A.units+1<cLine)(I:Inv X pins σ H s)(g:z5C H a y (some v))(ry:z1i y u)(h:∀w' s',Inv X pins σ H s'->z1i v w'->Q w' s') : wpAny (model X.prog X.w) A (getItem (.ref a) u) Q E s:=by
 rcases g with⟨kvs,k,e,ey,l⟩|⟨kvs,k,b,e,ey,eb,l⟩
 .subst ey;obtain⟨z,hd,vs,rel,dd⟩:=zdm I.hok e;obtain⟨w',hw,rw'⟩:=za5.some_of (v:=v) (o:=valueAt vs k) (by rw[l];exact rel.val k);exact wpAny_getItem_of (zc1 ry) dd.mapOf hw (h w' _ (I.tok _) rw')
 .subst ey;cases(show u=Value.ref b from ry);obtain⟨z,hd,xs,rel,dd⟩:=zeh I.hok e;obtain⟨w',hw,rw'⟩:=za5.some_of (v:=v) (o:=(atKey xs k).map (·.2)) (by rw[l];exact rel.val k);obtain⟨p,hp,hp2⟩:=y2i.mp hw;refine wpAny_getItem_heap (tupleKind_room_in1 hu) (za9 I.hok eb) dd hp ?_;rw[hp2];exact h w' _ (I.tok _) rw'
def zfH{Q:yyE}(hu:A.units+1<cLine)(I:Inv X pins σ H s)(g:z5C H a y o)(ry:z1i y u)(h:∀s',Inv X pins σ H s'->Q (.bool (!o.isSome)) s') : wpAny (model X.prog X.w) A (compareOp .NotIn u (.ref a)) Q E s:=by
 rcases g with⟨kvs,k,e,ey,l⟩|⟨kvs,k,b,e,ey,eb,l⟩
 .subst ey;obtain⟨z,hd,vs,rel,dd⟩:=zdm I.hok e;refine wpAny_notIn_of (zc1 ry) hd dd.mapOf ?_;rw[<-(rel.val k).isSome_eq,<-l];exact h _ (I.tok _)
 .subst ey;cases(show u=Value.ref b from ry);obtain⟨z,hd,xs,rel,dd⟩:=zeh I.hok e;refine wpAny_notIn_heap (tupleKind_room_in1 hu) (za9 I.hok eb) hd dd ?_;have q:=(rel.val k).isSome_eq;rw[y34]at q;rw[<-q,<-l];exact h _ (I.tok _)
def z5u{h':Heap}{t':Nat}{ob:HO}(I:Inv X pins σ H s)(mu:Mut (H a))(hs:Heap.SameBut a s.heap h')(he:∃q,h'.get? a=some q)(new:z1Q X.prog X.w (upd H a ob) h' a ob) : Inv X pins σ (upd H a ob) { s with heap:=h',toks:=t' } :=
 I.write (x:=a) (e:=a) mu (.inl rfl) (fun b q hb z=>(hs.2 b hb).trans z) he new
def zeu{P:Program}{w:World}{H':Hp}{h':Heap}{kvs:List (Key × V)}{vs:List (Key × Value)}(z:kvs.length<=sizeLine)(hd:(a==sysModules)=false)(rel:KV kvs vs)(dd:h'.DictOf (z1r P w) a vs) : z1Q P w H' h' a (.dK kvs):=⟨z,hd,vs,rel,dd⟩
def zbz{H':Hp}{Q:Unit->Shared->Prop}(hu:A.units+1<cLine)(I:Inv X pins σ H s)(g:zd5 H a y v H')(ry:z1i y u)(rv:z1i v r)(h:∀s',Inv X pins σ H' s'->Q () s') : wpAny (model X.prog X.w) A (setItem (.ref a) u r) Q E s:=by
 rcases g with⟨kvs,k,e,ey,l,eH⟩|⟨kvs,k,b,e,ey,eb,l,eH⟩
 .subst ey eH;obtain⟨z,hd,vs,rel,dd⟩:=zgZ I.hok e;have hz:vs.length<=sizeLine:=by rw[<-rel.length];exact z
  have hl:(z2K kvs k v).length<=sizeLine:=by have:=z23 kvs k v;lia
  refine wpAny_setItem_pairs (hsz:=hz) (zc1 ry) dd fun h' dd' hs=>h _ ?_;have he:∃q,h'.get? a=some q:=let⟨q,_,_,hq,_⟩:=dd';⟨q,hq⟩;exact z5u I (by rw[e];exact y3j) hs he (zeu hl hd (rel.put k rv) dd')
 .subst ey eH;cases(show u=Value.ref b from ry);obtain⟨z,hd,xs,rel,dd⟩:=zhA I.hok e;have hz:xs.length<=sizeLine:=by rw[<-y40 rel];exact z
  have hl:(z2K kvs k v).length<=sizeLine:=by have:=z23 kvs k v;lia
  refine wpAny_setItem_heap (hsz:=hz) (tupleKind_room_in1 hu) (za9 I.hok eb) dd fun h' dd' hs=>h _ ?_;obtain⟨q,es,ep,hq,h2,h3,h4,_,h5⟩:=dd';refine z5u I (by rw[e];exact y3j) hs ⟨q,hq⟩ ⟨hl,hd,_,(rel.put k eb rv).keeps fun c ys ec=>?_,q,es,ep,hq,h2,h3,h4,h5⟩;rw[z07 (z47 ec e (fun z=>nomatch z))];exact ec
end
section
variable{X:Cx}{pins:yyP}{σ:St}{H:Hp}{s:Shared}{a:Addr}{kvs:List (Key × V)}{k:Key}{u:Value}{A:Around}{E:yyE}
end
def zha(i:Expr):Prop:=∀ov iv,subscripted i false ov iv=operate [ov,iv] (getItem ov iv)
def zcV{prog:Program}{w:World}{A:Around}{E:yyE}{s:Shared}{env:Env}{value slice:Expr}{pos:Pos}{T id:String}{Q:yyE}(hl:typeLookup (.type T) "__getitem__"=pure (some (.builtin id)))(hs:zha slice)(h:wpAny (model prog w) A (eval value env) (fun o s₁=>wpAny (model prog w) A (eval slice env) (fun i s₂=>s₂.TypeIs o T/\wpAny (model prog w) A (getItem o i) Q E s₂) E s₁) E s) : wpAny (model prog w) A (eval (.Subscript value slice pos) env) Q E s:=by
 refine Subscript_ (y1J h (fun o s₁ h₁=>y1J h₁ (fun i s₂ h₂=>?_) fun _ _ x=>x) fun _ _ x=>x);obtain⟨hT,h₂⟩:=h₂;unfold subscriptTail;refine y02 ?_;rw[getitemInPython_of_ne hT.not_modules];refine y02 (y3p hT hl ?_);have fin:wpAny (model prog w) A (subscripted slice false o i) (fun r s₃=>wpAny (model prog w) A (letTemporaryGo value o r>>=fun _=>pure r) Q E s₃) E s₂:=by rw[hs o i];exact wpAny_operating (y1J h₂ (fun r s₃ h₃=>y02 (wpAny_letTemporaryGo (y09 h₃))) fun _ _ x=>x)
 first
  |exact y09 (y02 fin)
  |exact y02 (y09 (y02 fin))
  |exact y02 fin
def z91{X:Cx}{pins:yyP}{σ:St}{H:Hp}{s:Shared}{a:Addr}{y:V}{o:Option V}(I:Inv X pins σ H s)(g:z5C H a y o):s.TypeIs (.ref a) "dict":=by
 rcases g with⟨kvs,k,e,_,_⟩|⟨kvs,k,b,e,_,_,_⟩
 .obtain⟨_,_,vs,_,dd⟩:=zdm I.hok e;exact dd.typeIs
 .obtain⟨_,_,xs,_,dd⟩:=zeh I.hok e;exact dd.typeIs
def zhn(td ty:TE):TE:=fun σ H Q=>td σ H fun x H1=>ty σ H1 fun y H2=>∃a v,x=.ref a/\z5C H2 a y (some v)/\Q v H2
def zft(ty td:TE):TE:=fun σ H Q=>ty σ H fun y H1=>td σ H1 fun x H2=>∃a o,x=.ref a/\z5C H2 a y o/\Q (.bl (!o.isSome)) H2
def zhV(td ty tv:TE):TS:=fun D σ H=>tv σ H fun v H1=>td σ H1 fun x H2=>ty σ H2 fun y H3=>∃a H4,x=.ref a/\zd5 H3 a y v H4/\D.nx σ H4
section
variable{X:Cx}{o i e value:Expr}{pos pos' tpos:Pos}{td ty tv:TE}
def z3k(hu:X.A.units+1<cLine)(ho:PE X o td)(hi:PE X i ty)(hs:zha i):PE X (.Subscript o i pos) (zhn td ty):=by intro pins s σ H Q I h;refine zcV PySem.F.slot_dict_getitem.lookup hs (z1P (ho pins s σ H _ I h) fun u s1 x H1 I1 rx q1=>z1P (hi pins s1 σ H1 _ I1 q1) fun iv s2 y H2 I2 ry hz9=>?_);obtain⟨a,v,ex,g,q2⟩:=hz9;subst ex;obtain rfl:u=Value.ref a:=rx;exact⟨z91 I2 g,zbb hu I2 g ry fun w' s3 I3 rw'=>⟨v,H2,I3,rw',q2⟩⟩
def z2X(hu:X.A.units+1<cLine)(hi:PE X i ty)(ho:PE X o td):PC X .NotIn i o (zft ty td):=by intro pins s σ H Q I h;refine z1P (hi pins s σ H _ I h) fun iv s1 y H1 I1 ry q1=>z1P (ho pins s1 σ H1 _ I1 q1) fun u s2 x H2 I2 rx hz9=>?_;obtain⟨a,ov,ex,g,q2⟩:=hz9;subst ex;obtain rfl:u=Value.ref a:=rx;exact zfH hu I2 g ry fun s3 I3=>⟨.bl (!ov.isSome),H2,I3,rfl,q2⟩
def z4e(hu:X.A.units+1<cLine)(ho:PE X o td)(hi:PE X i ty)(hv:PE X value tv)(hs:swapsWith value (some (.Subscript o i pos')) pos.line X.env=pure false) : PS X (.Assign [.Subscript o i pos'] value pos) (zhV td ty tv):=by intro pins s σ H D I h;refine wpAny_Assign_Subscript (z1P (hv pins s σ H _ I h) fun r s1 v H1 I1 rv q1=>z1P (ho pins s1 σ H1 _ I1 q1) fun u s2 x H2 I2 rx q2=>z1P (hi pins s2 σ H2 _ I2 q2) fun iv s3 y H3 I3 ry hz9=>?_) hs;obtain⟨a,H4,ex,g,q3⟩:=hz9;subst ex;obtain rfl:u=Value.ref a:=rx;exact zbz hu I3 g ry rv fun s4 I4=>⟨σ,H4,I4,q3⟩
end
def za1{P:Program}{w:World}{H:Hp}(h:Heap)(hb:sysModules<h.objs.size):z1Q P w H (h.push { cls:=.type "dict",data:=.dict #[] }) h.objs.size (.dK []) :=
 ⟨y0K _,y3e.mpr (y1v (y0u hb)),[],.nil,Heap.DictOf.new h⟩
def zh4:TE:=fun _ H Q=>∀p,H p=none->Q (.ref p) (upd H p (.dK []))
section
variable{X:Cx}{pos:Pos}
def z6E:PE X (.Dict [] [] pos) zh4:=fun pins s σ H Q I h =>
 wpAny_Dict_empty ⟨.ref s.heap.objs.size,_,I.laid (a:=s.heap.objs.size) (o:=.dK []) (t':=s.toks) (fun _ _ q=>y05 _ q) (y0b _) (za1 s.heap I.big),rfl,h _ (I.hok.fresh (y0b _))⟩
end
def zch:List (TE × TE)->St->Hp->(List (V × V)->Hp->Prop)->Prop
 |[],_,H,Q=>Q [] H
 | (tk,tv)::r,σ,H,Q=>tk σ H fun x H1=>tv σ H1 fun y H2=>zch r σ H2 fun ps H3=>Q ((x,y)::ps) H3
abbrev VV:List (V × V)->List (Value × Value)->Prop:=Paired fun p q=>z1i p.1 q.1/\z1i p.2 q.2
def PPs(X:Cx)(pos:Pos)(keys:List (Option Expr))(values:List Expr)(trs:List (TE × TE)):Prop :=
 ∀(pins:yyP)(s:Shared)(σ:St)(H:Hp)(Q:List (V × V)->Hp->Prop),Inv X pins σ H s->zch trs σ H Q ->
  wpAny (model X.prog X.w) X.A (evalPairs (pairTrees keys values X.env pos)) (fun vs s'=>∃ps H',Inv X pins σ H' s'/\VV ps vs/\Q ps H') X.xe s
def z7d{X:Cx}{pos:Pos}:PPs X pos [] [] []:=fun pins s σ H Q I h=>pairTrees_nil_walk ⟨[],H,I,.nil,h⟩
def z4G{X:Cx}{pos:Pos}{k v:Expr}{ks:List (Option Expr)}{vs:List Expr}{tk tv:TE}{trs:List (TE × TE)}(hk:PE X k tk)(hv:PE X v tv)(hr:PPs X pos ks vs trs) : PPs X pos (some k::ks) (v::vs) ((tk,tv)::trs):=fun pins s σ H Q I h =>
 pairTrees_cons_walk (thn (hk pins s σ H _ I h) fun u s1 ⟨x,H1,I1,rx,q1⟩=>thn (hv pins s1 σ H1 _ I1 q1) fun w2 s2 ⟨y,H2,I2,ry,q2⟩ =>
  thn (hr pins s2 σ H2 _ I2 q2) fun ws s3 ⟨ps,H3,I3,rel,q3⟩=>⟨(x,y)::ps,H3,I3,.cons ⟨rx,ry⟩ rel,q3⟩)
def z3S(kvs more:List (Key × V)):List (Key × V):=more.foldl (fun acc kv=>z2K acc kv.1 kv.2) kvs
def KV.merge:∀{more:List (Key × V)}{rs:List (Key × Value)}{kvs:List (Key × V)}{vs:List (Key × Value)},KV more rs->KV kvs vs->KV (z3S kvs more) (merged vs rs):=by
 intro more rs kvs vs r;unfold KV at r;induction r generalizing kvs vs with
 |nil=>intro q;exact q
 |@cons p q ps qs h t ih =>
  intro r0;have e:KV (z2K kvs p.1 p.2) (stored vs q.1 q.2):=by have:=r0.put p.1 h.2;rw[<-h.1];exact this
  exact ih e
theorem z3R:∀(more kvs:List (Key × V)),(z3S kvs more).length<=kvs.length+more.length
 |[],kvs=>by show kvs.length<=kvs.length+0;lia
 |p::r,kvs=>by have h1:=z3R r (z2K kvs p.1 p.2);have h2:=z23 kvs p.1 p.2;show(z3S (z2K kvs p.1 p.2) r).length<=_;rw[y0N];lia
theorem z6c{P:Program}{w:World}:∀{kvs:List (Key × V)}{ws:List (Value × Value)},VV (kvs.map fun kv=>(kV kv.1,kv.2)) ws->∃rs,Carries (z1r P w) ws rs/\KV kvs rs
 |[],_,r=>by rw[y19]at r;cases r;exact⟨[],y3j,.nil⟩
 |p::kvs,_,r=>by
  rw[y0m]at r;cases r with
  |@cons a b as bs h t =>
   obtain⟨rs,c,q⟩:=z6c (P:=P) (w:=w) t;obtain⟨b1,b2⟩:=b;exact⟨(p.1,b2)::rs,⟨zc1 h.1,rfl,c⟩,.cons ⟨rfl,h.2⟩ q⟩
def zhJ(trs:List (TE × TE)):TE:=fun σ H Q=>∀p,H p=none->zch trs σ (upd H p (.dK [])) fun ps H2=>H2 p=some (.dK [])/\∃kvs:List (Key × V),ps=kvs.map (fun kv=>(kV kv.1,kv.2))/\kvs.length<=15/\Q (.ref p) (upd H2 p (.dK (z3S [] kvs)))
def z8I{X:Cx}{pos:Pos}{keys:List (Option Expr)}{values:List Expr}{trs:List (TE × TE)}(h:PPs X pos keys values trs)(hall:keys.all (·.isSome)=true)(hl:keys.length=values.length)(h0:keys≠[])(h15:keys.length<=15):PE X (.Dict keys values pos) (zhJ trs):=by
 intro pins s σ H Q I q;have hn:=I.hok.fresh (y0b s.heap.objs.size);have I1:=I.laid (a:=s.heap.objs.size) (o:=.dK []) (h':=s.heap.push { cls:=.type "dict",data:=.dict #[] }) (t':=s.toks) (fun _ _ q=>y05 _ q) (y0b _) (za1 s.heap I.big);refine wpAny_Dict_walk (knd:=z1r X.prog X.w) hall hl h0 h15 (thn (h pins _ σ _ _ I1 (q _ hn)) fun ws s2 hz8=>?_);obtain⟨ps,H2,I2,rel,e,kvs,ep,lk,q2⟩:=hz8;subst ep;obtain⟨rs,c,rk⟩:=z6c (P:=X.prog) (w:=X.w) rel;obtain⟨z,hd,vs0,r0,dd⟩:=zgZ I2.hok e;cases r0;refine⟨rs,c,dd,fun h' dd' hs=>⟨.ref s.heap.objs.size,_,?_,rfl,q2⟩⟩;have hz:(z3S [] kvs).length<=sizeLine:=by have h1:=z3R kvs [];rw[y2d]at h1;rw[y3A];lia
 have he:∃q,h'.get? s.heap.objs.size=some q:=let⟨q,_,_,hq,_⟩:=dd';⟨q,hq⟩;exact z5u I2 (by rw[e];exact y3j) hs he (zeu hz hd (rk.merge .nil) dd')
structure M1(X:Cx)(o:Expr)(m:Str)(apos:Pos)(e:Expr)(cpos:Pos):Prop where
 base:attributeBase o m X.env (eval o X.env)=eval o X.env
 few:((backTo cpos (starEach [e] X.env)).all (fun x=>!x.1)&&(backToKw cpos (keywordEach [] X.env)).all (fun x=>x.1.isSome)
  && decide (([e]:List Expr).length+([]:List Keyword).length+(if([]:List Keyword).isEmpty then 0 else 1)<30))=true
 line:(apos.endLine==cpos.line)=true
 trees:backTo cpos (starEach [e] X.env)=[(false,eval e X.env)]
structure M2(X:Cx)(o:Expr)(m:Str)(apos:Pos)(e f:Expr)(cpos:Pos):Prop where
 base:attributeBase o m X.env (eval o X.env)=eval o X.env
 few:((backTo cpos (starEach [e,f] X.env)).all (fun x=>!x.1)&&(backToKw cpos (keywordEach [] X.env)).all (fun x=>x.1.isSome)
  && decide (([e,f]:List Expr).length+([]:List Keyword).length+(if([]:List Keyword).isEmpty then 0 else 1)<30))=true
 line:(apos.endLine==cpos.line)=true
 trees:backTo cpos (starEach [e,f] X.env)=[(false,eval e X.env),(false,eval f X.env)]
section
variable{X:Cx}{pins:yyP}{σ:St}{H:Hp}{s:Shared}{a:Addr}{y d:V}{u r:Value}{o:Option V}{A:Around}{E:yyE}
end
section
variable{X:Cx}{o e f:Expr}{apos cpos:Pos}{td ty tx:TE}
end
section
variable{X:Cx}{pins:yyP}{σ:St}{H:Hp}{s:Shared}{a:Addr}{kvs:List (Key × V)}{A:Around}{E:yyE}
end
section
variable{X:Cx}{pins:yyP}{σ:St}{H:Hp}{s:Shared}{a:Addr}{y:V}{u:Value}{A:Around}{E:yyE}
end
end L2
namespace Att
open PySem PySem.W PySem.Calls PyProof.Rows
def z5f{P:Params}{h:Heap}:∀(ns:List Int)(vs:List Value),WellAll P h vs (ns.map WData.int)->IntsAre vs ns:=by
 intro ns;induction ns with
 |nil =>
  intro vs w;rw[y19]at w;cases w;exact .nil
 |cons n ns ih =>
  intro vs w;rw[y0m]at w;cases w with
  |cons a b =>
   cases a;exact .cons _ _ (ih _ b)
def zcC{l:OpenLaw}{n:Nat}(hn:l.most=some n){P:Params}{h:Heap}{args:List WData}{vals:List Value}(hpre:l.row.toRowW.claim.pre args=true)(hwl:WellAll P h vals args) : ∃a vs ns,vals=[Value.ref a]/\args=[WData.list (ns.map WData.int)]/\h.get? a=some { cls:=.type "list",data:=.seq vs.toArray }/\IntsAre vs ns/\ns.length<=n:=by
 have hsh:WShape.hasAll [] args [.list .int]=true:=(pre_splitW hpre).1;have hc:l.pre.holds [] { args:=args }=true:=(pre_splitW hpre).2;obtain⟨d,r,rfl,h1,h2⟩:=hasAllW_cons hsh;obtain rfl:=hasAllW_nil h2;obtain⟨xs,rfl,h3⟩:=hasW_list h1;obtain⟨ns,rfl⟩:=items_int h3;have hlen:ns.length<=n:=by
  unfold OpenLaw.pre at hc;have h4:(WTm.not (.lt (.lit (.int (n:Int))) (.len (.arg 0)))).holds [] { args:=[.list (ns.map .int)] }=true:=by have h4:=(holds_andW hc).1;rw[hn]at h4;exact h4
  have h5:=condW_of h4 (w_not (w_lt w_lit (w_len_list (w_arg rfl))));rw[y01]at h5;refine Nat.le_of_not_lt fun q=>?_;have q':(n:Int)<((ns.length:Nat):Int):=by lia
  first
   | (rw[y11 q']at h5;exact absurd h5 (by decide))
   | (simp at h5;lia)
 cases hwl with
 |cons w1 w2 =>
  cases w2;cases w1 with
  |list ho hall=>exact⟨_,_,ns,rfl,rfl,ho,z5f ns _ hall,hlen⟩
def zbk(l:OpenLaw)(args:List WData):l.row.toRowW.claim.post args (.bool true) args=true :=
 postW_of (r:=l.row.toRowW) (X:=(true==true))
  (show WShape.has [] (.bool true) .bool=true by first|rfl|decide|simp[WShape.has,WShape.arms,WShape.armsAll])
  (show(WTm.eq .res (.lit (.bool true))).value [] { args:=args,res:=some (.bool true),after:=args }=some (.bool (true==true))from w_eq_bool (w_res rfl) w_lit) rfl
def attach_call{l:OpenLaw}{n:Nat}{q:Program}{loose:List Str}{XP:(yyS)->Heap->Prop}{YP:World->Heap->Prop}{d:DefRec}(hn:l.most=some n)(hdf:d.params.defaults=[])(call:∀(w:World) (s₀ s₁:Shared) (mg mb:yyS) (fa:Addr) (o:Obj) (pm cd doc:Value) (a:Addr) (vs:List Value) (ns:List Int), Ground q loose [] XP w s₀ mg mb s₁.heap->YP w s₁.heap -> s₁.heap.get? fa=some o->o.data=.func (docDef d.name d.params d.body d.scope pm cd doc)->s₁.heap.CodeRec cd d.name->mg d.name=some (.ref fa) -> s₁.heap.get? a=some { cls:=.type "list",data:=.seq vs.toArray }->IntsAre vs ns->ns.length<=n->s₁.gens=#[] -> codeAny (model l.prog w) callerA (.call (.ref fa) ⟨[.ref a],[]⟩) (fun r s'=>r=.ok (.ret (.bool true))/\OldK s₁.heap s'.heap/\s'.os=s₁.os/\AllBare s'.gens) s₁) : WalkO q loose XP YP l.row.toRowW d [] (fun f vs=>PySem.call f vs):=by intro w s₀ s₁ mg mb G Y fa o pm cd doc dV kV ho hd hcd hD hmg hg args vals as hpre hlay hrd hwl hlo;obtain rfl:dV=.none:=Dflts.none hD hdf;obtain rfl:kV=.none:=Dflts.noKw hD;obtain⟨a,vs,ns,rfl,rfl,hobj,hints,hlen⟩:=zcC hn hpre hwl;refine enter_call (y2F (call w s₀ s₁ mg mb fa o pm cd doc a vs ns G Y ho (fd_plain hd) hcd hmg hobj hints hlen hg) fun r s' hq=>?_);obtain⟨rfl,h2,h3,h4⟩:=hq;exact⟨.inl ⟨.bool true,.bool true,[],rfl,fun _=>rfl,.bool true,zbk l _,fun _=>⟨y35,fun _ hm=>(nomatch hm)⟩⟩,h2,h3,h4⟩
section
variable{prog:Program}{w:World}{A:Around}{E:yyE}{s:Shared}{K:Frag}
def zi9(h:Heap)(L d:Addr):yyP:=(List.range h.objs.size).filterMap fun a=>if a=L\/a=d then none else(h.get? a).map fun o=>(a,o)
end
end Att
namespace L2
open PySem PySem.Spec PyProof.Rows
theorem z7r:∀{vs:List Value}{ns:List Int},IntsAre vs ns->z0T (ns.map V.int) vs
 |_,_,.nil=>.nil
 |_,_,.cons n t h=>.cons ⟨t,rfl⟩ (z7r h)
def z1L(s:Stmt):Arguments:=match s with
 |.FunctionDef _ a _ _ _ _ _ _ _ _=>a
 |_=>{ posonlyargs:=[],args:=[],vararg:=none,kwonlyargs:=[],kw_defaults:=[],kwarg:=none,defaults:=[] }
def z0Y(s:Stmt):List Stmt:=match s with
 |.FunctionDef _ _ b _ _ _ _ _ _ _=>b
 |_=>[]
def z04(s:Stmt):Scope:=match s with
 |.FunctionDef _ _ _ _ _ _ sc _ _ _=>sc
 |_=>{ kind:=.function,names:=[],isGenerator:=false,isCoroutine:=false }
abbrev E0:XK:=fun _ _ _=>False
structure Fun(K:yyF)(x qual:Str)(st:Stmt)(f:Addr)(fd:FuncData):Prop where
 ex:∃(oc:Value)(od:Option Addr)(kV doc pm:Value)(an:Option Addr)(cdv ct:Value)(osl:Array (Option Value)),
  fd=PySem.W.fnOf x qual (z1L st) (z0Y st) (z04 st) .none kV doc pm an cdv ct/\K.lookup f=some ⟨oc,od,.func fd,osl⟩/\PySem.W.codeIn K cdv qual=true
 kp:PySem.W.keepIn K (.ref f)=true
section
variable{P:Program}{w:World}{K:yyF}{mg:yyS}{base:Heap}
def Fun.binds{x qual:Str}{st:Stmt}{f:Addr}{fd:FuncData}{ps:List Str}(F:Fun K x qual st f fd)(h:∀(kV doc pm:Value)(an:Option Addr)(cdv ct:Value)(us:List Value),us.length=ps.length->bindArgs (PySem.W.fnOf x qual (z1L st) (z0Y st) (z04 st) .none kV doc pm an cdv ct) ⟨us,[]⟩=pure (ps.zip us)):z0j K fd ps []:=by obtain⟨oc,od,kV,doc,pm,an,cdv,ct,osl,rfl,lk,hcd⟩:=F.ex;exact .all (h kV doc pm an cdv ct)
def z9t{x qual:Str}{st:Stmt}{f:Addr}{oc:Value}{od an:Option Addr}{osl:Array (Option Value)}{kV doc pm cdv ct:Value}(l:K.lookup f=some ⟨oc,od,.func (PySem.W.fnOf x qual (z1L st) (z0Y st) (z04 st) .none kV doc pm an cdv ct),osl⟩)(c:PySem.W.codeIn K cdv qual=true)(k:PySem.W.keepIn K (.ref f)=true):Fun K x qual st f (PySem.W.fnOf x qual (z1L st) (z0Y st) (z04 st) .none kV doc pm an cdv ct):=⟨⟨oc,od,kV,doc,pm,an,cdv,ct,osl,rfl,l,c⟩,k⟩
end
def zaj{A:Around}{k:Nat}(hr:z3s k A):A.units+1<cLine:=y26 (Nat.add_le_add_left (by decide:1<=64) _) hr.units
def z3M{n:Nat}(h:n<=1000):n<sizeLine:=y26 h (by decide)
section
variable{X:Cx}
def pv(i:Nat){x:Str}{pos:Pos}(hN:X.N[i]?=some x:=by rfl)(hv:Vis X.env.scope x:=by first|exact Or.inl rfl|exact Or.inr (Or.inl rfl)|exact Or.inr (Or.inr rfl))(hd:(x==("__debug__":Str))=false:=by decide)(hcd:(x==("__classdict__":Str))=false:=by decide):PE X (.Name x pos) (zim i):=zeC hN hv hd hcd
end
def z8e{A B:Prop}(h:B):if false=true then A else B:=by rw[if_neg y0M];exact h
def zfJ{A B:Prop}(h:A):if true=true then A else B:=by rw[if_pos rfl];exact h
def z30{c A B:Prop}[Decidable c](h1:c->A)(h2:¬c->B):if c then A else B:=by
 by_cases h:c
 .rw[if_pos h];exact h1 h
 .rw[if_neg h];exact h2 h
def z0c(H H':Hp):Prop:=∀b o,H b=some o->H' b=some o
def z0c.refl(H:Hp):z0c H H:=fun _ _ h=>h
def z0c.trans{H H1 H2:Hp}(a:z0c H H1)(b:z0c H1 H2):z0c H H2:=fun c o h=>b c o (a c o h)
def z0c.free{H H':Hp}(e:z0c H H'){l:Addr}(h:H' l=Option.none):H l=Option.none:=by
 cases q:H l with
 |none=>rfl
 |some o =>
  rw[e l o q]at h;cases h
def z0c.seq{K:yyF}{H H':Hp}{a:Addr}{xs:List V}(e:z0c H H')(h:SqL K H a xs):SqL K H' a xs:=by
 rcases h with(h|⟨o,h⟩)|h
 .exact .inl (.inl (e _ _ h))
 .exact .inl (.inr ⟨o,e _ _ h⟩)
 .exact .inr h
section
variable{κ:Type}[DecidableEq κ]
theorem zce:∀{l:List κ}{k:κ},l.Nodup->¬k∈l->(l++[k]).Nodup
 |[],k,_,_=>by simp
 |a::r,k,h,hk=>by
  obtain⟨h1,h2⟩:=y1e.mp h;show(a::(r++[k])).Nodup;refine y1e.mpr ⟨fun m=>?_,zce h2 fun m=>hk (y0j.mpr (Or.inr m))⟩;rcases y0s.mp m with q|q
  .exact h1 q
  .exact hk (y0j.mpr (Or.inl (y07.mp q).symm))
end
end L2
namespace Gu
open PySem L2
def top(i:Nat):Stmt:=PySem.Challenge.pw_guisery_k34_whole_camps.main.body.getD i (.Pass ⟨0,0,0,0⟩)
abbrev z5c:Stmt:=top 6
abbrev z6x:Stmt:=top 7
abbrev z4w:Stmt:=top 10
abbrev z9L:Stmt:=top 11
abbrev za2:Stmt:=top 12
abbrev z76:Stmt:=top 13
abbrev z62:Stmt:=top 14
abbrev zb9:Stmt:=top 15
abbrev z2q:Stmt:=top 16
abbrev z5x:Stmt:=top 18
abbrev zdx:Stmt:=top 20
abbrev z3T:Stmt:=top 24
abbrev z6V:Stmt:=top 25
abbrev z4z:Stmt:=top 26
abbrev z7N:Stmt:=top 27
abbrev z6J:Stmt:=top 28
abbrev z6P:Stmt:=top 29
abbrev z7j:Stmt:=top 30
abbrev z9O:Stmt:=top 31
abbrev z2h:Stmt:=top 33
abbrev z2t:Stmt:=top 34
abbrev z5N:Stmt:=top 35
abbrev z3G:Stmt:=top 36
abbrev ze8:Stmt:=top 38
abbrev z4A:Stmt:=top 39
abbrev z5i:Stmt:=top 40
abbrev z45:Stmt:=top 41
abbrev z4H:Stmt:=top 42
abbrev zdJ:Stmt:=top 43
abbrev z8V:Stmt:=top 44
abbrev z98:Stmt:=top 45
abbrev z4L:Stmt:=top 46
abbrev z39:Stmt:=top 47
abbrev zdy:Stmt:=top 48
abbrev zaS:Stmt:=top 49
open PySem.W PyProof.Rows
section
variable(tb:String->Option Builtin)(p:Program)(w:World)(m:Nat)(an:Option Value)
def zh7:Nat->SharedT->Thread->Option SharedT
 |0,_,_=>none
 |n+1,x,y=>match through y,stepOk m an y with
  |true,_=>some x
  |false,false=>none
  |false,true=>match stepT (denote tb) p w x y with
   |some z=>zh7 n z.1 z.2
   |none=>none
end
section
variable{tb:String->Option Builtin}{p:Program}{w:World}{m:Nat}{an:Option Value}
theorem zcG:∀(n:Nat)(x r:SharedT)(y:Thread),zh7 tb p w m an n x y=some r->topRun tb p w m an n x.abs y=some r.abs
 |0,_,_,_,h=>by cases h
 |n+1,x,r,y,h=>by
  unfold zh7 at h;unfold topRun;cases ht:through y<;>cases hk:stepOk m an y<;>rw[ht,hk]at h<;>dsimp only at h⊢
  .cases h
  .cases hs:stepT (denote tb) p w x y with
   |none=>rw[hs]at h;cases h
   |some z =>
    rw[hs]at h;rw[stepT_spec (s':=z.1) (t':=z.2) hs];exact zcG n _ _ _ h
  .cases h;rfl
  .cases h;rfl
end
noncomputable def zfa(P:Params):BT:=(.node (boot_o_0 P) (.node (boot_o_1 P) (.node (boot_o_3 P) (.node (boot_o_7 P) .nil .nil) .nil) (.node (boot_o_5 P) (.node (boot_o_9 P) .nil .nil) .nil)) (.node (boot_o_2 P) (.node (boot_o_4 P) (.node (boot_o_8 P) .nil .nil) .nil) (.node (boot_o_6 P) (.node (boot_o_10 P) .nil .nil) .nil)))
noncomputable def z42(w:World)(os:OsState):SharedT:=⟨zfa w.params,11,(boot_heap w.params).life,Array.mk [],boot_drawn,boot_toks,os⟩
def zdg(P:Params):absHeap (zfa P) 11 (boot_heap P).life=boot_heap P:=by kernel_rfl
def zf2{p q:Program}{Xt:Shared->Bool}{α:Type}{Yf:Shared->α}{Ya:World->α}{N:Nat}(e:opening p=plainProg p.main.scope.names)(hN:Nat.ble 600 N=true)(f:∀s,fenceModules? p s=some s)
  (h:∀w os,(zh7 treeTable p w 11 (some (.ref 6)) N (z42 w os) (topStub p)).bind (fun r=>match staticsOk (importedModules p.main.body) (z42 w os).abs.heap r.abs.heap&&namesBound p r.abs.heap&&gensDone r.abs&&laidKept (z42 w os).abs.heap r.abs.heap with
   |true=>some (openSeen q [] (importedModules p.main.body) Xt true r.abs,Yf r.abs)
   |false=>none)=some (openGood q [],Ya w)):LeftO p q [] Xt Yf Ya N:=fun w=>by
 obtain⟨s,hs,hv⟩:=y2i.mp (boot_open e hN f w);have es:s=(z42 w s.os).abs:=by
  obtain⟨h1,g1,d1,t1,o1⟩:=s;obtain⟨a,b,c,d⟩:h1=boot_heap w.params/\g1=Array.mk []/\d1=boot_drawn/\t1=boot_toks:=by simpa[Prod.ext_iff]using hv
  subst a b c d;show _=(⟨absHeap (zfa w.params) 11 (boot_heap w.params).life,_,_,_,_⟩:Shared);rw[zdg];rfl
 have k:=h w s.os;obtain⟨r,hr,k⟩:=Option.bind_eq_some_iff.mp k;unfold openEnds;rw[hs];show(topFrom treeTable p w N s).map _=_;unfold topFrom;rw[es];have z1:((z42 w s.os).abs.heap.isNs mainGlobals&&(z42 w s.os).abs.gens.size==0)=true:=by kernel_rfl
 have z2:(z42 w s.os).abs.heap.objs.size=11:=by kernel_rfl
 have z3:(z42 w s.os).abs.heap.nsMap mainGlobals "__annotations__"=some (.ref 6):=by kernel_rfl
 rw[z1,z2,z3];dsimp only;rw[zcG _ _ _ _ hr];show Option.map _ (match _ with|true=>_|false=>_)=_
 cases c:staticsOk (importedModules p.main.body) (z42 w s.os).abs.heap r.abs.heap&&namesBound p r.abs.heap&&gensDone r.abs&&laidKept (z42 w s.os).abs.heap r.abs.heap with
 |false=>rw[c]at k;cases k
 |true =>
  rw[c]at k;exact k
def kE(P:Params)(x:Str)(t:Tok)(v:Value):DictEntry:={ hash:=PyData.keyHash P x,key:=Value.str x t,val:=v }
def kF(s:Stmt)(x:Str)(kV dc pm:Value)(an:Option Addr)(cd ct:Value):Obj:=⟨.type "function",none,.func (PySem.W.fnOf x x (z1L s) (z0Y s) (z04 s) .none kV dc pm an cd ct),#[]⟩
abbrev vN:Value:=.none
abbrev vR(a:Addr):Value:=.ref a
def kR(P:Params)(x:Str)(t:Tok)(a:Addr):DictEntry:=kE P x t (.ref a)
def kG(s:Stmt)(x m:Str)(t:Tok)(c:Addr):Obj:=kF s x .none .none (.str m t) none (.ref c) .none
def kC(x:Str)(a b c d:Tok)(vs:Array Value):Obj:={ cls:=.type "code",data:=.fields (#[Value.str x a,Value.str x b,Value.str "/claim/cut.py" c]++vs++#[Value.str "/claim/cut.py" d]) }
def kD(x:Str)(a b c d:Tok)(ln ar:Int)(A:Addr)(fl:Int)(B:Addr)(X Y Z:Value)(u:Int):Obj:=kC x a b c d #[.int ln 0,.int ar 0,.int 0 0,.int 0 0,.int 3 0,.ref A,.bool true,.int fl 0,.ref B,.none,X,Y,Z,.int u 0,.int ln 0]
def KH(P:Params):PySem.W.Frag:=(nat_lit 2,{ cls:=Value.none,data:=Data.dict #[] }) ::
 (nat_lit 3,{ cls:=Value.type "dict",data:=Data.dict #[kE P "__name__" 165 (Value.str "law_guisery_k34_whole_camps" 474),kE P "__doc__" 166 (Value.none),kE P "__package__" 167 (Value.none),kE P "__loader__" 168 (Value.builtin "__main__.__loader__#opaque"),kE P "__spec__" 169 (Value.none),kR P "__annotations__" 170 6,kR P "__builtins__" 171 4,kE P "__file__" 173 (Value.str "/claim/cut.py" 172),kE P "__cached__" 174 (Value.none),kR P "GuiseError" 206 24,kR P "BadWord" 222 37,kR P "BadCount" 238 49,kR P "TooMany" 254 61,kR P "turned" 262 68,kR P "undone" 272 75,kE P "MOST_FORM_ROWS" 276 (Value.int 60 275),kR P "breadth" 285 82,kR P "read_from" 299 89,kR P "least_form" 313 96,kR P "rows_come_to" 319 101,kR P "kinds_of_rows" 325 106,kR P "kinds_gone_to" 331 111,kR P "numbered" 337 116,kR P "check_word" 345 121,kR P "worn" 357 128,kE P "MOST_WORDS" 361 (Value.int 1024 360),kE P "MOST_LETTERS_TOLD" 363 (Value.int 1000 362),kR P "number_of" 373 135,kR P "word_of" 386 142,kR P "words_on_floor" 396 149,kR P "floor" 402 154,kR P "rounds" 413 161,kR P "whirls" 422 168,kR P "camps" 428 173,kR P "led_to" 441 180,kR P "joined" 453 187,kR P "joined_row" 459 192,kR P "back" 467 199,kR P "row_back" 473 204,kR P "_law_cell" 483 211,kR P "_law_letters" 491 218,kR P "_law_in_line" 497 223,kR P "_law_shrunk" 503 228,kR P "_law_numbers" 514 235,kR P "_law_rearranged" 526 242,kR P "_law_rows" 532 247,kR P "_law_guise" 540 254,kR P "_law_stories" 547 261,kR P "_law_floor_size" 557 268,kR P "_law_all" 566 275,kR P "law" 572 280] 51 }) ::
 (nat_lit 23,{ cls:=Value.type "dict",data:=Data.dict #[kE P "__module__" 196 (Value.str "guisery.errors" 187),kE P "__firstlineno__" 200 (Value.int 2 199),kR P "__static_attributes__" 201 22,kR P "__weakref__" 203 25,kE P "__doc__" 204 (Value.none)] 3 }) ::
 (nat_lit 24,{ cls:=Value.type "type",data:=Data.cls { name:="GuiseError",bases:=[Value.type "ValueError"],mro:=[Value.ref 24,Value.type "ValueError",Value.type "Exception",Value.type "BaseException",Value.type "object"],ns:=23,qualname:="GuiseError",subclasses:=[Value.ref 37,Value.ref 49,Value.ref 61] },slots:=#[some (Value.ref 15),none,some (Value.str "GuiseError" 189),some (Value.str "GuiseError" 197),some (Value.builtin "ValueError.__new__"),some (Value.bool true)] }) ::
 (nat_lit 25,{ cls:=Value.type "getset_descriptor",data:=Data.fields #[Value.str "__weakref__" 202,Value.ref 24,Value.builtin "ExceptionGroup.__weakref__",Value.none] }) ::
 (nat_lit 36,{ cls:=Value.type "dict",data:=Data.dict #[kE P "__module__" 214 (Value.str "guisery.errors" 187),kE P "__firstlineno__" 218 (Value.int 4 217),kR P "__static_attributes__" 219 35,kE P "__doc__" 220 (Value.none)] 2 }) ::
 (nat_lit 37,{ cls:=Value.type "type",data:=Data.cls { name:="BadWord",bases:=[Value.ref 24],mro:=[Value.ref 37,Value.ref 24,Value.type "ValueError",Value.type "Exception",Value.type "BaseException",Value.type "object"],ns:=36,qualname:="BadWord" },slots:=#[some (Value.ref 28),none,some (Value.str "BadWord" 207),some (Value.str "BadWord" 215),some (Value.builtin "ValueError.__new__"),some (Value.bool true)] }) ::
 (nat_lit 48,{ cls:=Value.type "dict",data:=Data.dict #[kE P "__module__" 230 (Value.str "guisery.errors" 187),kE P "__firstlineno__" 234 (Value.int 6 233),kR P "__static_attributes__" 235 47,kE P "__doc__" 236 (Value.none)] 2 }) ::
 (nat_lit 49,{ cls:=Value.type "type",data:=Data.cls { name:="BadCount",bases:=[Value.ref 24],mro:=[Value.ref 49,Value.ref 24,Value.type "ValueError",Value.type "Exception",Value.type "BaseException",Value.type "object"],ns:=48,qualname:="BadCount" },slots:=#[some (Value.ref 40),none,some (Value.str "BadCount" 223),some (Value.str "BadCount" 231),some (Value.builtin "ValueError.__new__"),some (Value.bool true)] }) ::
 (nat_lit 60,{ cls:=Value.type "dict",data:=Data.dict #[kE P "__module__" 246 (Value.str "guisery.errors" 187),kE P "__firstlineno__" 250 (Value.int 8 249),kR P "__static_attributes__" 251 59,kE P "__doc__" 252 (Value.none)] 2 }) ::
 (nat_lit 61,{ cls:=Value.type "type",data:=Data.cls { name:="TooMany",bases:=[Value.ref 24],mro:=[Value.ref 61,Value.ref 24,Value.type "ValueError",Value.type "Exception",Value.type "BaseException",Value.type "object"],ns:=60,qualname:="TooMany" },slots:=#[some (Value.ref 52),none,some (Value.str "TooMany" 239),some (Value.str "TooMany" 247),some (Value.builtin "ValueError.__new__"),some (Value.bool true)] }) ::
 (nat_lit 67,kD "turned" 257 258 259 261 11 2 64 181 65 vN vN (vR 66) 260) ::
 (nat_lit 68,kG z5c "turned" "guisery.letters" 255 67) ::
 (nat_lit 74,kD "undone" 263 264 265 271 13 1 69 181 70 (vR 71) (vR 72) (vR 73) 270) ::
 (nat_lit 75,kG z6x "undone" "guisery.letters" 255 74) ::
 (nat_lit 81,kD "breadth" 277 278 279 284 20 1 76 181 77 (vR 78) (vR 79) (vR 80) 283) ::
 (nat_lit 82,kG z4w "breadth" "guisery.machines" 273 81) ::
 (nat_lit 88,kD "read_from" 286 287 288 298 23 3 83 181 84 (vR 85) (vR 86) (vR 87) 297) ::
 (nat_lit 89,kG z9L "read_from" "guisery.machines" 273 88) ::
 (nat_lit 95,kD "least_form" 300 301 302 312 31 2 90 181 91 (vR 92) (vR 93) (vR 94) 311) ::
 (nat_lit 96,kG za2 "least_form" "guisery.machines" 273 95) ::
 (nat_lit 100,kD "rows_come_to" 314 315 316 318 39 2 97 181 98 vN vN (vR 99) 317) ::
 (nat_lit 101,kG z76 "rows_come_to" "guisery.machines" 273 100) ::
 (nat_lit 105,kD "kinds_of_rows" 320 321 322 324 51 1 102 181 103 vN vN (vR 104) 323) ::
 (nat_lit 106,kG z62 "kinds_of_rows" "guisery.machines" 273 105) ::
 (nat_lit 110,kD "kinds_gone_to" 326 327 328 330 60 2 107 181 108 vN vN (vR 109) 329) ::
 (nat_lit 111,kG zb9 "kinds_gone_to" "guisery.machines" 273 110) ::
 (nat_lit 115,kD "numbered" 332 333 334 336 62 1 112 181 113 vN vN (vR 114) 335) ::
 (nat_lit 116,kG z2q "numbered" "guisery.machines" 273 115) ::
 (nat_lit 120,kD "check_word" 340 341 342 344 69 2 117 181 118 vN vN (vR 119) 343) ::
 (nat_lit 121,kG z5x "check_word" "guisery.words" 338 120) ::
 (nat_lit 127,kD "worn" 348 349 350 356 73 2 122 181 123 (vR 124) (vR 125) (vR 126) 355) ::
 (nat_lit 128,kG zdx "worn" "guisery.wearing" 346 127) ::
 (nat_lit 134,kD "number_of" 364 365 366 372 80 2 129 181 130 (vR 131) (vR 132) (vR 133) 371) ::
 (nat_lit 135,kG z3T "number_of" "guisery.floors" 358 134) ::
 (nat_lit 141,kD "word_of" 374 375 376 385 86 3 136 181 137 (vR 138) (vR 139) (vR 140) 384) ::
 (nat_lit 142,kG z6V "word_of" "guisery.floors" 358 141) ::
 (nat_lit 148,kD "words_on_floor" 387 388 389 395 97 2 143 181 144 (vR 145) (vR 146) (vR 147) 394) ::
 (nat_lit 149,kG z4z "words_on_floor" "guisery.floors" 358 148) ::
 (nat_lit 153,kD "floor" 397 398 399 401 106 2 150 181 151 vN vN (vR 152) 400) ::
 (nat_lit 154,kG z7N "floor" "guisery.floors" 358 153) ::
 (nat_lit 160,kD "rounds" 403 404 405 412 110 2 155 181 156 (vR 157) (vR 158) (vR 159) 411) ::
 (nat_lit 161,kG z6J "rounds" "guisery.floors" 358 160) ::
 (nat_lit 167,kD "whirls" 414 415 416 421 120 2 162 181 163 (vR 164) (vR 165) (vR 166) 420) ::
 (nat_lit 168,kG z6P "whirls" "guisery.floors" 358 167) ::
 (nat_lit 172,kD "camps" 423 424 425 427 123 2 169 181 170 vN vN (vR 171) 426) ::
 (nat_lit 173,kG z7j "camps" "guisery.floors" 358 172) ::
 (nat_lit 179,kD "led_to" 429 430 431 440 134 2 174 181 175 (vR 176) (vR 177) (vR 178) 439) ::
 (nat_lit 180,kG z9O "led_to" "guisery.floors" 358 179) ::
 (nat_lit 186,kD "joined" 444 445 446 452 147 2 181 181 182 (vR 183) (vR 184) (vR 185) 451) ::
 (nat_lit 187,kG z2h "joined" "guisery.joining" 442 186) ::
 (nat_lit 191,kD "joined_row" 454 455 456 458 149 3 188 181 189 vN vN (vR 190) 457) ::
 (nat_lit 192,kG z2t "joined_row" "guisery.joining" 442 191) ::
 (nat_lit 198,kD "back" 460 461 462 466 155 1 193 181 194 (vR 195) (vR 196) (vR 197) 465) ::
 (nat_lit 199,kG z5N "back" "guisery.joining" 442 198) ::
 (nat_lit 203,kD "row_back" 468 469 470 472 157 1 200 181 201 vN vN (vR 202) 471) ::
 (nat_lit 204,kG z3G "row_back" "guisery.joining" 442 203) ::
 (nat_lit 210,kD "_law_cell" 476 477 478 482 162 2 205 181 206 (vR 207) (vR 208) (vR 209) 481) ::
 (nat_lit 211,kG ze8 "_law_cell" "law_guisery_k34_whole_camps" 474 210) ::
 (nat_lit 217,kD "_law_letters" 484 485 486 490 168 2 212 181 213 (vR 214) (vR 215) (vR 216) 489) ::
 (nat_lit 218,kG z4A "_law_letters" "law_guisery_k34_whole_camps" 474 217) ::
 (nat_lit 222,kD "_law_in_line" 492 493 494 496 170 3 219 181 220 vN vN (vR 221) 495) ::
 (nat_lit 223,kG z5i "_law_in_line" "law_guisery_k34_whole_camps" 474 222) ::
 (nat_lit 227,kD "_law_shrunk" 498 499 500 502 178 2 224 181 225 vN vN (vR 226) 501) ::
 (nat_lit 228,kG z45 "_law_shrunk" "law_guisery_k34_whole_camps" 474 227) ::
 (nat_lit 234,kD "_law_numbers" 504 505 506 513 201 2 229 181 230 (vR 231) (vR 232) (vR 233) 512) ::
 (nat_lit 235,kG z4H "_law_numbers" "law_guisery_k34_whole_camps" 474 234) ::
 (nat_lit 241,kD "_law_rearranged" 515 516 517 525 212 2 236 181 237 (vR 238) (vR 239) (vR 240) 524) ::
 (nat_lit 242,kG zdJ "_law_rearranged" "law_guisery_k34_whole_camps" 474 241) ::
 (nat_lit 246,kD "_law_rows" 527 528 529 531 220 2 243 181 244 vN vN (vR 245) 530) ::
 (nat_lit 247,kG z8V "_law_rows" "law_guisery_k34_whole_camps" 474 246) ::
 (nat_lit 253,kD "_law_guise" 533 534 535 539 239 2 248 181 249 (vR 250) (vR 251) (vR 252) 538) ::
 (nat_lit 254,kG z98 "_law_guise" "law_guisery_k34_whole_camps" 474 253) ::
 (nat_lit 260,kD "_law_stories" 541 542 543 546 241 1 255 181 256 (vR 257) (vR 258) (vR 259) 545) ::
 (nat_lit 261,kG z4L "_law_stories" "law_guisery_k34_whole_camps" 474 260) ::
 (nat_lit 267,kD "_law_floor_size" 548 549 550 556 243 2 262 181 263 (vR 264) (vR 265) (vR 266) 555) ::
 (nat_lit 268,kG z39 "_law_floor_size" "law_guisery_k34_whole_camps" 474 267) ::
 (nat_lit 274,kD "_law_all" 558 559 560 565 248 2 269 181 270 (vR 271) (vR 272) (vR 273) 564) ::
 (nat_lit 275,kG zdy "_law_all" "law_guisery_k34_whole_camps" 474 274) ::
 (nat_lit 279,kD "law" 567 568 569 571 255 1 276 181 277 vN vN (vR 278) 570) ::
 (nat_lit 280,kG zaS "law" "law_guisery_k34_whole_camps" 474 279)::[]
def KA:List Addr:=nat_lit 2::nat_lit 3::nat_lit 23::nat_lit 24::nat_lit 25::nat_lit 36::nat_lit 37::nat_lit 48::nat_lit 49::nat_lit 60::nat_lit 61::nat_lit 67::nat_lit 68::nat_lit 74::nat_lit 75::nat_lit 81::nat_lit 82::nat_lit 88::nat_lit 89::nat_lit 95::nat_lit 96::nat_lit 100::nat_lit 101::nat_lit 105::nat_lit 106::nat_lit 110::nat_lit 111::nat_lit 115::nat_lit 116::nat_lit 120::nat_lit 121::nat_lit 127::nat_lit 128::nat_lit 134::nat_lit 135::nat_lit 141::nat_lit 142::nat_lit 148::nat_lit 149::nat_lit 153::nat_lit 154::nat_lit 160::nat_lit 161::nat_lit 167::nat_lit 168::nat_lit 172::nat_lit 173::nat_lit 179::nat_lit 180::nat_lit 186::nat_lit 187::nat_lit 191::nat_lit 192::nat_lit 198::nat_lit 199::nat_lit 203::nat_lit 204::nat_lit 210::nat_lit 211::nat_lit 217::nat_lit 218::nat_lit 222::nat_lit 223::nat_lit 227::nat_lit 228::nat_lit 234::nat_lit 235::nat_lit 241::nat_lit 242::nat_lit 246::nat_lit 247::nat_lit 253::nat_lit 254::nat_lit 260::nat_lit 261::nat_lit 267::nat_lit 268::nat_lit 274::nat_lit 275::nat_lit 279::nat_lit 280::[]
end Gu
lay_quick PySem.Challenge.pw_guisery_k34_whole_camps
namespace Gu
open PySem PySem.W PyProof.Rows PySem.W.Fast
noncomputable abbrev pY:Program:=PySem.Challenge.pw_guisery_k34_whole_camps
noncomputable abbrev pQ:Program:=tw17068219662041290164
noncomputable abbrev rY:OpenRow:=PySem.Challenge.rw_guisery_k34_whole_camps.row
noncomputable def viewOf(p:Program):Program:={ p with main:={ p.main with body:=[1,2,3,4,6,7,9,10,11,12,13,14,15,16,18,20,22,23,24,25,26,27,28,29,30,31,33,34,35,36,38,39,40,41,42,43,44,45,46,47,48,49].map fun i=>p.main.body.getD i (.Pass ⟨0,0,0,0⟩) } }
noncomputable abbrev HK:Hook:=PySem.W.kmHook Gu.KH Gu.KA (fun _=>by kernel_rfl) [194,182]
def pqe:pY=pQ:=te17068219662041290164
set_option maxHeartbeats 0 in
def zhu:∀w os,(zh7 tw14364793385576792824 pQ w 11 (some (.ref 6)) 4054 (z42 w os) (topStub pQ)).bind (fun r=>match staticsOk (tw5923862056798008813 pQ.main.body) (z42 w os).abs.heap r.abs.heap&&namesBound pQ r.abs.heap&&gensDone r.abs&&laidKept (z42 w os).abs.heap r.abs.heap with
 |true=>some (tw4187177175401517315 (viewOf pQ) [] (tw5923862056798008813 pQ.main.body) (fun s=>xlAt (viewOf pQ) [] s&&recOk [] s) true r.abs,HK.obs r.abs)
 |false=>none)=some (openGood (viewOf pQ) [],HK.val w):=fun w os=>by kernel_rfl
def left:LeftO rY.prog (viewOf pY) [] (fun s=>xlAt (viewOf pY) [] s&&recOk (RowW.records rY.toRowW) s) HK.obs HK.val 4054:=by have h:=zhu;rw[<-te14364793385576792824,<-te4187177175401517315,<-te5923862056798008813,<-pqe]at h;exact zf2 (by kernel_rfl) (by rfl) (fun _=>rfl) h
end Gu
namespace L2
open PySem PySem.Spec PyProof.Rows
def z0J(cells:List (Str × Addr)):List (Str × NameKind)->List (Str × Addr)->List (Str × Addr)
 |[],cs=>cs
 | (n,k)::r,cs=>z0J cells r (if k=.free then(n,(cells.lookup n).getD 0)::cs else cs)
theorem z20{cells:List (Str × Addr)}:∀(l:List (Str × NameKind))(cs:List (Str × Addr))(x:Str),(∀y,(y,NameKind.free)∈l->∃c,cells.lookup y=some c)->((x,NameKind.free)∈l\/cs.lookup x=cells.lookup x)->(z0J cells l cs).lookup x=cells.lookup x
 |[],cs,x,_,h=>by
  rcases h with h|h
  .cases h
  .exact h
 | (n,k)::r,cs,x,hc,h=>by
  refine z20 r _ x (fun y hy=>hc y (y0g _ hy)) ?_;by_cases hk:k=.free
  .subst hk;rw[if_pos rfl];by_cases e:x=n
   .subst e;obtain⟨c,hcx⟩:=hc x y0i;right;rw[y1c,hcx];simp
   .rcases h with h|h
    .rcases y0j.mp h with h|h
     .exact absurd (y1G Prod.fst h) e
     .exact .inl h
    .right;have:(x==n)=false:=by simpa using e
     rw[y1c,this];exact h
  .rw[if_neg hk];rcases h with h|h
   .rcases y0j.mp h with h|h
    .exact absurd (y1G Prod.snd h).symm hk
    .exact .inl h
   .exact .inr h
theorem z4g{cells:List (Str × Addr)}:∀(l:List (Str × NameKind))(cs:List (Str × Addr))(x:Str),(x,NameKind.free)∉l->(z0J cells l cs).lookup x=cs.lookup x
 |[],cs,x,_=>rfl
 | (n,k)::r,cs,x,h=>by
  refine(z4g r _ x (fun hy=>h (y0g _ hy))).trans ?_;by_cases hk:k=.free
  .subst hk;rw[if_pos rfl];have e:x≠n:=fun e=>h (by subst e;exact y0i);have:(x==n)=false:=by simpa using e
   rw[y1c,this]
  .rw[if_neg hk]
def z2i{scope:Scope}{env:Env}(h:∀y,(y,NameKind.free)∈scope.names->∃c,env.cells.lookup y=some c):closureFor scope env=pure (z0J env.cells scope.names []):=by
 have key:∀(l:List (Str × NameKind))(cs:List (Str × Addr)),(∀y,(y,NameKind.free)∈l->∃c,env.cells.lookup y=some c) ->
   (forIn l cs (fun(x:Str × NameKind)(r:List (Str × Addr))=>if(x.2==NameKind.free)=true then(do let c <-cellOf env x.1;pure (ForInStep.yield ((x.1,c)::r)):Sem _)else pure (ForInStep.yield r)):Sem (List (Str × Addr)))=pure (z0J env.cells l cs):=by
  intro l;induction l with
  |nil=>intro cs _;rfl
  |cons x r ih =>
   intro cs hc;obtain⟨n,k⟩:=x;rw[y43];by_cases hk:k=.free
   .subst hk;obtain⟨c,e⟩:=hc n y0i;have e1:cellOf env n=pure c:=by unfold cellOf;rw[e]
    have e2:z0J env.cells ((n,NameKind.free)::r) cs=z0J env.cells r ((n,c)::cs):=by show z0J env.cells r (if NameKind.free=NameKind.free then(n,(env.cells.lookup n).getD 0)::cs else cs)=_;rw[if_pos rfl,e];all_goals rfl
    rw[e2,<-ih _ (fun y hy=>hc y (y0g _ hy))];simp only[beq_self_eq_true,y2x,e1];rfl
   .have hb:(k==NameKind.free)=false:=by simpa using hk
    have e2:z0J env.cells ((n,k)::r) cs=z0J env.cells r cs:=by show z0J env.cells r (if k=NameKind.free then _ else cs)=_;rw[if_neg hk]
    rw[e2,<-ih _ (fun y hy=>hc y (y0g _ hy))];simp only[hb,y0n,y1H];rfl
 have:=key scope.names [] h;unfold closureFor;simp only[]at this⊢;exact(y1G (fun m=>m>>=pure) this).trans rfl
def noE:yyE:=fun _ _=>False
section
variable{prog:Program}{w:World}{A:Around}{R:Result->Shared->Prop}{s:Shared}
def zag{elt tg iter:Expr}{scope:Scope}{pos:Pos}{it acc:Value}{env:Env}(I:Nat->Shared->Prop)
  (z5B:∀n s,I n s->wpAny (model prog w) A (pyNext it) (fun r s1=>match r with
   |none=>R (.ok .next) s1
   |some v=>wpAny (model prog w) A (letOwnedTupleGo tg it v) (fun _ s2=>wpAny (model prog w) A (assign tg env v) (fun _ s3=>wpAny (model prog w) A (eval elt env) (fun x s4 =>
     wpAny (model prog w) A (call (.builtin "list.append") [acc,x]) (fun _ s5=>∃m,m<n/\I m s5) noE s4) noE s3) noE s2) noE s1) noE s)
  (n:Nat) (h:I n s):codeAny (model prog w) A (.compLoop (.ListComp elt [⟨tg,iter,[],0⟩] scope pos) 0 it acc env) R s:=by
 have no:∀(P:yyE)(a:Value)(b:Shared),noE a b->P a b:=fun _ _ _ z=>False.elim z;refine codeAny_loop rfl I (fun n s hI=>?_) n h;show wpAny _ _ ((compTurn (.ListComp elt [⟨tg,iter,[],0⟩] scope pos) 0 it acc env).onRaise
  (fun x=>do noteFrame x env;theTreesLotGoes x)) _ _ s
 refine wpAny_noted ?_;rw[compTurn_list1];refine y02 (wpAny_standAt (y02 (y1J (z5B n s hI) (fun r s1 h1=>?_) (no _))));cases r with
 |none=>exact y09 h1
 |some v =>
  refine y02 (y1J h1 (fun _ s2 h2=>?_) (no _));refine y02 (y1J h2 (fun _ s3 h3=>?_) (no _));refine y02 (y02 (y1J h3 (fun x s4 h4=>?_) (no _)));exact y02 (y1J h4 (fun _ s5 h5=>y09 (y09 ⟨rfl,h5⟩)) (no _))
end
def zg5(env:Env)(p:Str × NameKind):Str × NameKind:=if(p.2==NameKind.free&&env.scope.kind == .function&&env.kindOf p.1==some .cell)=true then(p.1,NameKind.cell)else p
def z9s{env:Env}{p:Str × NameKind}(h:(p.2==NameKind.free&&env.scope.kind == .function&&env.kindOf p.1==some .cell)=true):zg5 env p=(p.1,NameKind.cell):=if_pos h
def z9V{env:Env}{p:Str × NameKind}(h:¬(p.2==NameKind.free&&env.scope.kind == .function&&env.kindOf p.1==some .cell)=true):zg5 env p=p:=if_neg h
theorem z2e{env:Env}{x:Str}:∀{l:List (Str × NameKind)},l.lookup x=some .free->(l.map (zg5 env)).lookup x=some .cell\/(l.map (zg5 env)).lookup x=some .free
 |[],h=>by simp at h
 | (n,k)::r,h=>by
  rw[y0m];by_cases hc:(k==NameKind.free&&env.scope.kind == .function&&env.kindOf n==some .cell)=true
  .rw[z9s (p:=(n,k)) hc];cases hx:x==n with
   |true=>left;rw[y1c,hx]
   |false =>
    rw[y1c,hx]at h;rw[y1c,hx];exact z2e h
  .rw[z9V (p:=(n,k)) hc];cases hx:x==n with
   |true=>right;rw[y1c,hx]at h;rw[y1c,hx];exact h
   |false =>
    rw[y1c,hx]at h;rw[y1c,hx];exact z2e h
theorem z2T{env:Env}{x:Str}{kd:NameKind}(hkd:kd=.cell\/kd=.free):∀{l:List (Str × NameKind)},(∀y∈l,y.2≠.cell)->(l.map (zg5 env)).lookup x=some kd->(x,NameKind.free)∈l
 |[],_,h=>by simp at h
 | (n,k)::r,hn,h=>by
  rw[y0m]at h;have hk:k≠.cell:=hn (n,k) y0i;have up:(r.map (zg5 env)).lookup x=some kd->(x,NameKind.free)∈(n,k)::r:=fun h2=>y0g _ (z2T hkd (fun y hy=>hn y (y0g _ hy)) h2);by_cases hc:(k==NameKind.free&&env.scope.kind == .function&&env.kindOf n==some .cell)=true
  .rw[z9s (p:=(n,k)) hc]at h;cases hx:x==n with
   |true =>
    have hxn:x=n:=by simpa using hx
    subst hxn;have z:=hc;simp only[y3b,y3k]at z;rw[z.1.1];exact y0i
   |false=>rw[y1c,hx]at h;exact up h
  .rw[z9V (p:=(n,k)) hc]at h;cases hx:x==n with
   |true =>
    have hxn:x=n:=by simpa using hx
    subst hxn;rw[y1c,hx]at h;have e:k=kd:=y08 h;rcases hkd with z|z
    .exact absurd (e.trans z) hk
    .rw[e,z];exact y0i
   |false=>rw[y1c,hx]at h;exact up h
def z25(X:Cx)(N:List Str)(scope:Scope)(cl:List (Str × Addr))(C:Addr)(ex:List Addr)(s:Shared)(H:Hp):Cx where
 prog:=X.prog
 w:=X.w
 K:=X.K
 mg:=X.mg
 base:=X.base
 A:=X.A
 N:=N
 s₀:=s
 H₀:=H
 env:=compEnvC scope cl C X.env
 outer:=X.stack
 stack:=X.stack
 ex:=ex
 fn:=fun _=>false
 calm:=X.calm
 pn:=[]
 xe:=noE
structure z1k(XN:List Str)(xsc:Scope)(N:List Str)(ix:List (Option Nat))(scope:Scope):Prop where
 kind:scope.kind=.function:=by rfl
 nocell:∀y∈scope.names,y.2≠.cell:=by decide +kernel
 names:∀y∈scope.names,y.2=.local->scope.names.lookup y.1=some .local:=by decide +kernel
 frees:∀y∈scope.names,y.2=.free->xsc.names.lookup y.1=some .cell\/xsc.names.lookup y.1=some .free:=by decide +kernel
 len:ix.length=N.length:=by rfl
 has:((ix.zip N).all fun p=>match p.1 with|none=>true|some j=>XN[j]?==some p.2&&scope.names.lookup p.2==some .free)=true:=by decide +kernel
 nd:N.Nodup:=by decide +kernel
def z1t(ix:List (Option Nat))(σ:St):St:=ix.map fun o=>o.bind fun j=>(σ[j]?).join
def z1k.at_{XN:List Str}{xsc:Scope}{N:List Str}{ix:List (Option Nat)}{scope:Scope}(S:z1k XN xsc N ix scope){i:Nat}{x:Str}{v:V}{σ:St}(hi:N[i]?=some x)(hv:(z1t ix σ)[i]?=some (some v)) : ∃j:Nat,XN[j]?=some x/\scope.names.lookup x=some .free/\σ[j]?=some (some v):=by
 unfold z1t at hv;rw[y04]at hv;cases e:ix[i]? with
 |none=>rw[e]at hv;cases hv
 |some o =>
  rw[e]at hv;cases o with
  |none=>cases hv
  |some j =>
   have hv':(σ[j]?).join=some v:=y08 hv;have hm:((some j:Option Nat),x)∈ix.zip N:=by
    have:(ix.zip N)[i]?=some (some j,x):=by rw[y1C];exact⟨e,hi⟩
    exact y0z this
   have q:=y2L.mp S.has _ hm;simp only[y3b,y3k]at q;refine⟨j,q.1,q.2,?_⟩;cases z:σ[j]? with
   |none=>rw[z]at hv';cases hv'
   |some u=>rw[z]at hv';exact y1G some hv'
section
variable{X:Cx}{pins:yyP}{σ:St}{H:Hp}{s s1:Shared}{N:List Str}{ix:List (Option Nat)}{scope:Scope}{fp:List Addr}{C:Addr}
def z0S(I:Inv X pins σ H s)(S:z1k X.N X.env.scope N ix scope):∀y,(y,NameKind.free)∈scope.names->∃c,X.env.cells.lookup y=some c:=fun y hy=>I.ok.has y (S.frees _ hy rfl)
def z1W(I:Inv X pins σ H s)(S:z1k X.N X.env.scope N ix scope){x:Str}{c:Addr}(h:(z0J X.env.cells scope.names []).lookup x=some c):X.env.cells.lookup x=some c:=by
 by_cases hm:(x,NameKind.free)∈scope.names
 .rw[<-z20 scope.names [] x (z0S I S) (.inl hm)];exact h
 .rw[z4g scope.names [] x hm]at h;cases h
def zeb(I:Inv X pins σ H s)(S:z1k X.N X.env.scope N ix scope)(hC:C=s.heap.objs.size)(hf:∀b∈fp,zaE X pins H b)(hfl:∀b∈fp,b<s.heap.objs.size){h1:Heap}{m:yyS}{tk:Nat}(hn:h1.Ns C m)(hk:∀b o,s.heap.get? b=some o->h1.get? b=some o) : Inv (z25 X N scope (z0J X.env.cells scope.names []) C fp s H) [] (z1t ix σ) H { s with heap:=h1,toks:=tk }:=by
 have hne:∀{b:Addr}{o:Obj},X.base.get? b=some o->b∉fp:=fun{b o} e hb=>by
  obtain⟨_,_,_,hx,_⟩:=hf b hb;rcases hx with hx|hx
  .exact I.ok.noex b o e hx
  .exact absurd (y0r (y0k (I.ok.bs b o e).1) hx) (y2n _)
 refine⟨⟨I.ok.mod,S.kind,I.ok.glob,I.ok.blt,Nat.le_of_eq hC.symm,?_,?_,?_,I.ok.hd,I.ok.frames,.inl rfl,?_,I.bs,y0Q I.ok.bsz I.sz,fun b o e=>hne e,?_,I.stack,I.stkFree⟩,
  rfl,I.bare,Un.kept hk,⟨m,hn,?_⟩,?_,I.hok.fresh (Nat.le_of_eq hC.symm),?_,fun p hp=>absurd (show p∈([]:yyP)from hp) (by simp),I.hok.kept hk,?_⟩
 .intro x y c h1 h2;exact I.ok.inj x y c (z1W I S h1) (z1W I S h2)
 .intro x hx;have hm:(x,NameKind.free)∈scope.names:=by
   rcases hx with hx|hx
   .exact z2T (.inl rfl) S.nocell hx
   .exact z2T (.inr rfl) S.nocell hx
  obtain⟨c,e⟩:=z0S I S x hm;exact⟨c,(z20 scope.names [] x (z0S I S) (.inl hm)).trans e⟩
 .intro x c hx;cases hx
 .intro b hb;obtain⟨_,_,_,_,f4,_⟩:=hf b hb;refine⟨fun e=>?_,fun x c e=>f4 x c (z1W I S e)⟩;have z:=hfl b hb;have e':b=C:=e;rw[e',hC]at z;exact y2n _ z
 .intro b hb hb2;obtain⟨_,f1,f2,_⟩:=hf b hb;exact(y0j.mp (I.stkSub b hb2)).elim f1 f2
 .intro i x v e1 e2 e3;obtain⟨j,g1,g2,g3⟩:=S.at_ e1 e2;have hm:(x,NameKind.free)∈scope.names:=y1f g2;have hk2:=S.frees _ hm rfl;obtain⟨m0,hn0,hl0⟩:=id I.loc;obtain⟨u,r,l⟩:=hl0 j x v g1 g3 (hk2.elim (fun z=>.inr (.inl z)) (fun z=>.inr (.inr z)));refine⟨u,r,.inr ⟨z2e g2,?_⟩⟩;rcases l with⟨k,_⟩|⟨k,c,e,z⟩
  .have k':X.env.scope.names.lookup x=some .local:=k;rcases hk2 with z|z<;>(rw[k']at z;cases z)
  .refine⟨c,(z20 scope.names [] x (z0S I S) (.inl hm)).trans e,?_⟩;obtain⟨o,ho,hd⟩:=z;exact⟨o,hk _ _ ho,hd⟩
 .intro x c e;obtain⟨v,o,ho,hd⟩:=I.cell x c (z1W I S e);exact⟨v,o,hk _ _ ho,hd⟩
 .intro x c e;exact I.freeC x c (z1W I S e)
 .unfold z1t;rw[y01];exact S.len
end
def z6q(ix:List (Option Nat))(J:It)(g:TG)(te:TE)(σ:St)(l:Addr)(H0:Hp)(Qe:Hp->Prop):Prop :=
 ∃W:Nat->Nat->List V->Hp->Prop,(∃m,W 0 m [] H0)/\∀i m ys H,W i m ys H->H l=some (.lst ys) ->
  (J.stop i H/\Qe H)\/(J.go i H/\ys.length<sizeLine/\∃N:List V->Hp->Prop,(∀zs H',N zs H'->∃m',m'<m/\W (i+1) m' zs H')/\∀x H',J.yld i H x H'->g x (z1t ix σ) H' fun σ2 H2=>te σ2 H2 fun v H3 =>
   H3 l=some (.lst ys)/\N (ys++[v]) (upd H3 l (.lst (ys++[v]))))
def zgO(ix:List (Option Nat))(wi:TI)(g:TG)(te:TE):TE:=fun σ H Q=>wi σ H fun J H1=>∀l,H1 l=none->z6q ix J g te σ l (upd H1 l (.lst [])) fun H'=>Q (.ref l) H'
section
variable{X:Cx}{pins:yyP}{σ:St}{H:Hp}{s:Shared}{N:List Str}{ix:List (Option Nat)}{scope:Scope}{elt iter tg:Expr}{pos:Pos}{g:TG}{te:TE}{E:yyE}
def zak{C:Addr}{fp:List Addr}{pins':yyP}{σ':St}{Hc:Hp}{s':Shared}(I:Inv X pins σ H s)(S:z1k X.N X.env.scope N ix scope)(J:Inv (z25 X N scope (z0J X.env.cells scope.names []) C fp s H) pins' σ' Hc s'):Inv (z25 X N scope (z0J X.env.cells scope.names []) C fp s H) [] (z1t ix σ) Hc s':=by
 obtain⟨m,hn,_⟩:=J.loc;refine⟨J.ok,J.os,J.bare,J.base,⟨m,hn,?_⟩,J.cell,J.free,J.freeC,fun p hp=>absurd (show p∈([]:yyP)from hp) (by simp),J.hok,?_⟩
 .intro i x v e1 e2 e3;obtain⟨j,g1,g2,g3⟩:=S.at_ e1 e2;have hm:(x,NameKind.free)∈scope.names:=y1f g2;have hk2:=S.frees _ hm rfl;obtain⟨m0,hn0,hl0⟩:=id I.loc;obtain⟨u,r,l⟩:=hl0 j x v g1 g3 (hk2.elim (fun z=>.inr (.inl z)) (fun z=>.inr (.inr z)));refine⟨u,r,.inr ⟨z2e g2,?_⟩⟩;rcases l with⟨k,_⟩|⟨k,c,e,z⟩
  .have k':X.env.scope.names.lookup x=some .local:=k;rcases hk2 with z|z<;>(rw[k']at z;cases z)
  .have ec:(z0J X.env.cells scope.names []).lookup x=some c:=(z20 scope.names [] x (z0S I S) (.inl hm)).trans e;refine⟨c,ec,?_⟩;obtain⟨o,ho,hd⟩:=z;obtain⟨sl,q⟩:=J.base.any ho (I.freeC x c e) (fun hx=>(J.ok.exf c hx).2 x c ec rfl);exact⟨_,q,hd⟩
 .unfold z1t;rw[y01];exact S.len
def z61{it:Addr}{fp:List Addr}{tn:Nat->Heap->Prop}{J:It}{Qe:Addr->Hp->Prop}{RR:Value->Addr->Result->Shared->Prop}(hc:X.calm=true)(S:z1k X.N X.env.scope N ix scope)(hg:∀cl C ex s H,PG (z25 X N scope cl C ex s H) tg g)(he:∀cl C ex s H,PE (z25 X N scope cl C ex s H) elt te)(I:Inv X pins σ H s)(T:zey X.prog X.w X.K tg J fp it tn)(st:tn 0 s.heap)(hf:∀b∈fp,zaE X pins H b)(hw:∀l,H l=none->z6q ix J g te σ l (upd H l (.lst [])) (Qe l))(hRR:∀l C s' H' m,s'.heap.Ns C m->Inv X pins σ H' s'->zaE X pins H' C->Qe l H'->RR (.ref l) C (.ok .next) s') : wpAny (model X.prog X.w) X.A (newList []) (fun acc s3=>wpAny (model X.prog X.w) X.A (newFunctionEnv scope X.env.globals (z0J X.env.cells scope.names []) [] X.env.qual none .none (some X.env)) (fun cenv s4 => codeAny (model X.prog X.w) X.A (.compStart (.ListComp elt [⟨tg,iter,[],0⟩] scope pos) 0 (.ref it) acc { cenv with scope:=relabel scope X.env }) (RR acc cenv.locals) s4) E s3) E s:=by
 have hlt:∀b∈fp,b<s.heap.objs.size:=fun b hb=>by obtain⟨o,e,_⟩:=T.obj 0 s.heap st b hb;exact y0k e
 have hl0:H s.heap.objs.size=none:=I.fresh;obtain⟨W,⟨m0,w0⟩,z5B⟩:=hw s.heap.objs.size hl0;refine y13 ?_;generalize hs3:({ s with heap:=s.heap.push { cls:=.type "list",dict:=none,data:=.seq ([]:List Value).toArray } }:Shared)=s3;have I3:Inv X pins σ (upd H s.heap.objs.size (.lst [])) s3:=by rw[<-hs3];exact I.lnew (its:=[]) (t':=s.toks) .nil (y0K _)
 have k3:∀b o,s.heap.get? b=some o->s3.heap.get? b=some o:=fun b o e=>by rw[<-hs3];exact y05 _ e
 have sz3:s3.heap.objs.size=s.heap.objs.size+1:=by rw[<-hs3];exact y1g ..
 have lnfp:s.heap.objs.size∉fp:=fun hb=>y2n _ (hlt _ hb);have st3:tn 0 s3.heap:=T.keep 0 _ _ st fun b _ o e=>k3 b o e;have hf3:∀b∈fp,zaE X pins (upd H s.heap.objs.size (.lst [])) b:=fun b hb=>by obtain⟨f0,f⟩:=hf b hb;have nb:b≠s.heap.objs.size:=fun e=>lnfp (by rw[<-e];exact hb);exact⟨by rw[z07 nb];exact f0,f⟩
 have hlt3:∀b∈fp,b<s3.heap.objs.size:=fun b hb=>by rw[sz3];exact y2y (hlt b hb)
 clear hs3;refine wpAny_newFunctionEnv S.nocell (by intro y hy;simp at hy) (fun h1 hn1 hb1=>?_) S.kind;have hk1:∀b o,s3.heap.get? b=some o->h1.get? b=some o:=fun b o e =>
  (hb1.2 b (y0u (y0k e))).trans (y05 _ e)
 have J0:Inv (z25 X N scope (z0J X.env.cells scope.names []) s3.heap.objs.size fp s3 (upd H s.heap.objs.size (.lst []))) [] (z1t ix σ) (upd H s.heap.objs.size (.lst [])) { s3 with heap:=h1,toks:=s3.toks+([]:List (Str × Value)).length } :=
  zeb I3 S rfl hf3 hlt3 hn1 hk1
 have st1:tn 0 h1:=T.keep 0 _ _ st3 fun b _ o e=>hk1 b o e;have fpY:∀{Hc:Hp},(∀b∈fp,Hc b=none)->∀b∈fp,zaE (z25 X N scope (z0J X.env.cells scope.names []) s3.heap.objs.size fp s3 (upd H s.heap.objs.size (.lst []))) [] Hc b:=fun{Hc} hn b hb=>by obtain⟨_,f1,f2,_,f4,_⟩:=hf3 b hb;refine⟨hn b hb,y0u (hlt3 b hb),fun hb2=>(y0j.mp (I3.stkSub b hb2)).elim f1 f2,.inl hb,fun x c e=>f4 x c (z1W I3 S e),fun p hp=>absurd (show p∈([]:yyP)from hp) (by simp)⟩
 have loop:∀s4:Shared,s4=({ s3 with heap:=h1,toks:=s3.toks+([]:List (Str × Value)).length }:Shared)->codeAny (model X.prog X.w) X.A (.compLoop (.ListComp elt [⟨tg,iter,[],0⟩] scope pos) 0 (.ref it) (.ref s.heap.objs.size)
   (compEnvC scope (z0J X.env.cells scope.names []) s3.heap.objs.size X.env)) (RR (.ref s.heap.objs.size) s3.heap.objs.size) s4:=by
  intro s4 hs4;subst hs4;refine zag (fun n s'=>∃i ys Hc,Inv (z25 X N scope (z0J X.env.cells scope.names []) s3.heap.objs.size fp s3 (upd H s.heap.objs.size (.lst []))) [] (z1t ix σ) Hc s'/\tn i s'.heap/\(∀b∈fp,Hc b=none)/\Hc s.heap.objs.size=some (.lst ys)/\W i n ys Hc) ?_ m0 ⟨0,[],_,J0,st1,fun b hb=>(hf3 b hb).1,z01,w0⟩;rintro n s5 ⟨i,ys,Hc,J5,st5,fr5,hl5,w5⟩;rcases z5B i n ys Hc w5 hl5 with⟨stop,qe⟩|⟨go,hz,NN,hNN,step⟩
  .refine thn (T.done (z25 X N scope (z0J X.env.cells scope.names []) s3.heap.objs.size fp s3 (upd H s.heap.objs.size (.lst []))) rfl rfl rfl hc i [] s5 _ Hc noE J5 (fpY fr5) st5 stop) fun r s6 hz8=>?_;obtain⟨hr,J6⟩:=hz8;subst hr;have I6:Inv X pins σ Hc s6:=I3.call' (ch:=fp) J6.os J6.base J6.hok J6.bare fun b hb=>by
    obtain⟨_,f1,f2,f3,f4,f5⟩:=hf3 b hb;exact⟨f3,f1,f4,f5⟩
   obtain⟨m6,hn6,_⟩:=J6.loc;exact hRR _ _ s6 Hc m6 hn6 I6 (I3.fpOk (y0b _) J6.free) qe
  .refine thn (T.item (z25 X N scope (z0J X.env.cells scope.names []) s3.heap.objs.size fp s3 (upd H s.heap.objs.size (.lst []))) rfl rfl rfl hc i [] s5 _ Hc noE J5 (fpY fr5) st5 go) fun r s6 hz8=>?_;obtain⟨u,hr,h6⟩:=hz8;subst hr;refine thn h6 fun _ s7 hz8=>?_;obtain⟨x,H7,J7,r7,y7,st7,fr7⟩:=hz8;have J7':=J7.pinned (fpY fr7) (T.obj _ _ st7);refine thn (hg _ _ _ _ _ _ s7 _ H7 x u _ J7' r7 (step x H7 y7)) fun _ s8 hz8=>?_;obtain⟨σ8,H8,J8,q8⟩:=hz8;refine z1P (he _ _ _ _ _ _ s8 σ8 H8 _ J8 q8) fun y s9 v H9 J9 r9 hz9=>?_;obtain⟨hl9,n9⟩:=hz9;obtain⟨m',hm',w9⟩:=hNN _ _ n9;refine thn (z0D (X:=z25 X N scope (z0J X.env.cells scope.names []) s3.heap.objs.size fp s3 (upd H s.heap.objs.size (.lst []))) _ s9 σ8 H9 (.ref s.heap.objs.size) [v] (.ref s.heap.objs.size) [y]
    (fun z Hz=>z=.non/\Hz=upd H9 s.heap.objs.size (.lst (ys++[v]))) J9 rfl (.cons r9 .nil) ⟨_,ys,v,rfl,rfl,hl9,hz,rfl,rfl⟩) fun _ s10 ⟨_,H10,J10,_,_,e10⟩=>?_
   subst e10;have len8:(z1t ix σ).length=σ8.length:=by rw[J10.len];unfold z1t;rw[y01];exact S.len
   refine⟨m',hm',i+1,ys++[v],_,?_,T.keep _ _ _ st7 fun b hb o e=>(J10.pin (b,o) (y0H _ (y0H _ (z34 hb e)))).1,fun b hb=>?_,z01,w9⟩
   .exact zak I3 S J10
   .obtain⟨o,e,d⟩:=T.obj _ _ st7 b hb;exact(J10.pin (b,o) (y0H _ (y0H _ (z34 hb e)))).2.1
 exact codeAny_compStart_list (loop _ rfl) (T.self _ 0 _ _ _ st1 (loop _ rfl))
def z1b{wi:TI}(hc:X.calm=true)(S:z1k X.N X.env.scope N ix scope)(hi:PI X tg iter wi)(hg:∀cl C ex s H,PG (z25 X N scope cl C ex s H) tg g)(he:∀cl C ex s H,PE (z25 X N scope cl C ex s H) elt te)(hs:∀x,foldedSetIterable iter X.env x=pure x:=by intro _;rfl):PE X (.ListComp elt [⟨tg,iter,[],0⟩] scope pos) (zgO ix wi g te):=by intro pins s σ H Q I h;rw[eval_ListComp];refine wpAny_comprehension_free (use:=none) rfl hs (z2i (z0S I S)) S.kind S.names (thn (hi pins s σ H _ I h) fun v s1 h1=>thn h1 fun itv s2 h2=>?_);obtain⟨it,fp,tn,J,H2,e,I2,T,st2,f2,hw⟩:=h2;subst e;refine z61 (RR:=fun acc C=>compPost (model X.prog X.w) X.A X.xe none (EP X pins σ Q) acc C) hc S hg he I2 T st2 f2 hw fun l C s' H' m hn I' fC q=>⟨m,hn,fun h' hs'=>?_⟩;obtain⟨c0,c1,_,c3,c4,c5⟩:=fC;exact⟨.ref l,H',I'.turned (t':=s'.toks) (fun b o hb e=>(hs'.2 b hb).trans e) c0 c1 c3 c4 c5,rfl,q⟩
def zbs{wi:TI}{i:Nat}{x:Str}{spos pos':Pos}(hc:X.calm=true)(S:z1k X.N X.env.scope N ix scope)(hi:PI X tg iter wi)(hg:∀cl C ex s H,PG (z25 X N scope cl C ex s H) tg g)(he:∀cl C ex s H,PE (z25 X N scope cl C ex s H) elt te)(hN:X.N.Nodup)(hx:X.N[i]?=some x)(hl:X.env.scope.names.lookup x=some .local)(hsw:swapsWith (.ListComp elt [⟨tg,iter,[],0⟩] scope pos) (some (.Name x pos')) spos.line X.env=pure true:=by rfl)(hs:∀x,foldedSetIterable iter X.env x=pure x:=by intro _;rfl):PS X (.Assign [.Name x pos'] (.ListComp elt [⟨tg,iter,[],0⟩] scope pos) spos) (zhL (zgO ix wi g te) (zbD i)):=by
 intro pins s σ H D I h;rw[exec_Assign_Name_used _ _ _ _ hsw];refine y02 (wpAny_standAt (y02 ?_));show wpAny _ _ (comprehension (.ListComp elt [⟨tg,iter,[],0⟩] scope pos) scope X.env _ (newList []) false (eval iter X.env) (some (assign (.Name x pos') X.env))>>=fun _=>pure ()) _ _ s;refine y02 (y1J (wpAny_comprehension_free (use:=some (assign (.Name x pos') X.env)) (Q:=fun _ s'=>SP X pins D .next s') rfl hs (z2i (z0S I S)) S.kind S.names
  (thn (hi pins s σ H _ I h) fun v s1 h1=>thn h1 fun itv s2 h2=>?_)) (fun _ s' q=>y09 (y09 q)) fun _ _ e=>e)
 obtain⟨it,fp,tn,J,H2,e,I2,T,st2,f2,hw⟩:=h2;subst e;refine z61 (RR:=fun acc C=>compPost (model X.prog X.w) X.A X.xe (some (assign (.Name x pos') X.env)) (fun _ s'=>SP X pins D .next s') acc C) hc S hg he I2 T st2 f2 hw fun l C s' H' m hn I' fC q=>?_;obtain⟨c0,c1,c2,c3,c4,c5⟩:=fC;show wpAny _ _ (assign (.Name x pos') X.env (.ref l)) _ _ _;refine wpAny_assign_Name (z7A I' hN hx (.inl hl) (v:=.ref l) rfl (fun s'' I'' hz8=>?_) (.inr hl));obtain⟨a,sb,ha⟩:=hz8;have haC:C≠a:=by
  rcases ha with ha|ha
  .rw[ha];exact c1
  .exact fun z=>c4 x a ha z.symm
 refine⟨m,hn.sameBut sb haC,fun h' hs'=>?_⟩;exact⟨_,H',I''.turned (t':=s''.toks) (fun b o hb e=>(hs'.2 b hb).trans e) c0 c1 c3 c4 c5,q⟩
end
def z5e{J:It}{n:Nat}{l:Addr}{ix:List (Option Nat)}{g:TG}{te:TE}{σ:St}{H0:Hp}{Qe:Hp->Prop}(Pv:Nat->List V->Hp->Prop)(h0:Pv 0 [] H0)(hs:∀i ys H,i<n->Pv i ys H->H l=some (.lst ys)->J.go i H/\ys.length<sizeLine/\∀x H',J.yld i H x H'->g x (z1t ix σ) H' fun σ2 H2=>te σ2 H2 fun v H3=>H3 l=some (.lst ys)/\Pv (i+1) (ys++[v]) (upd H3 l (.lst (ys++[v]))))(hd:∀ys H,Pv n ys H->H l=some (.lst ys)->J.stop n H/\Qe H):z6q ix J g te σ l H0 Qe:=by
 refine⟨fun i m ys H=>m=n-i/\i<=n/\Pv i ys H,⟨n,by simp,y0K _,h0⟩,?_⟩;rintro i m ys H ⟨rfl,hi,p⟩ hl;by_cases hlt:i<n
 .obtain⟨h1,h2,h3⟩:=hs i ys H hlt p hl;exact .inr ⟨h1,h2,Pv (i+1),fun zs H' q=>⟨n-(i+1),by lia,rfl,hlt,q⟩,h3⟩
 .have e:i=n:=by lia
  subst e;exact .inl (hd ys H p hl)
def z1Y{K:yyF}{a l:Addr}{xs:List V}{ix:List (Option Nat)}{g:TG}{te:TE}{σ:St}{H0:Hp}{Qe:Hp->Prop}(Pv:Nat->List V->Hp->Prop)(h0:Pv 0 [] H0)(hl:∀i ys H,i<=xs.length->Pv i ys H->SqL K H a xs)(hz:xs.length<=sizeLine)(hn:∀i ys H,Pv i ys H->ys.length=i)(hs:∀i x ys H,xs[i]?=some x->Pv i ys H->H l=some (.lst ys)->g x (z1t ix σ) H fun σ2 H2=>te σ2 H2 fun v H3=>H3 l=some (.lst ys)/\Pv (i+1) (ys++[v]) (upd H3 l (.lst (ys++[v]))))(hd:∀ys H,Pv xs.length ys H->H l=some (.lst ys)->Qe H):z6q ix (Itl K a) g te σ l H0 Qe:=by refine z5e (n:=xs.length) Pv h0 (fun i ys H hi p hy=>?_) fun ys H p hy=>⟨⟨xs,hl _ ys H (y0b _) p,y0b _⟩,hd ys H p hy⟩;have q:=hl i ys H (y1p hi) p;refine⟨⟨xs,xs[i],q,by simp[hi]⟩,by rw[hn i ys H p];exact y0r hi hz,fun x H' y=>?_⟩;obtain⟨e,y⟩:=y;subst e;exact hs i x ys _ (y xs q) p hy
def z2a{K:yyF}{a l:Addr}{xs:List V}{ix:List (Option Nat)}{g:TG}{te:TE}{σ:St}{H0:Hp}{Qe:Hp->Prop}(Pv:Nat->List V->Hp->Prop)(h0:Pv 0 [] H0)(hl:∀i ys H,i<=xs.length->Pv i ys H->SqT K H a xs)(hz:xs.length<=sizeLine)(hn:∀i ys H,Pv i ys H->ys.length=i)(hs:∀i x ys H,xs[i]?=some x->Pv i ys H->H l=some (.lst ys)->g x (z1t ix σ) H fun σ2 H2=>te σ2 H2 fun v H3=>H3 l=some (.lst ys)/\Pv (i+1) (ys++[v]) (upd H3 l (.lst (ys++[v]))))(hd:∀ys H,Pv xs.length ys H->H l=some (.lst ys)->Qe H):z6q ix (Itt K a) g te σ l H0 Qe:=by refine z5e (n:=xs.length) Pv h0 (fun i ys H hi p hy=>?_) fun ys H p hy=>⟨⟨xs,hl _ ys H (y0b _) p,y0b _⟩,hd ys H p hy⟩;have q:=hl i ys H (y1p hi) p;refine⟨⟨xs,xs[i],q,by simp[hi]⟩,by rw[hn i ys H p];exact y0r hi hz,fun x H' y=>?_⟩;obtain⟨e,y⟩:=y;subst e;exact hs i x ys _ (y xs q) p hy
def z4f{lo:Int}{n:Nat}{l:Addr}{ix:List (Option Nat)}{g:TG}{te:TE}{σ:St}{H0:Hp}{Qe:Hp->Prop}(Pv:Nat->List V->Hp->Prop)(h0:Pv 0 [] H0)(hz:n<=sizeLine)(hn:∀i ys H,Pv i ys H->ys.length=i)(hs:∀i ys H,i<n->Pv i ys H->H l=some (.lst ys)->g (.int (lo+i)) (z1t ix σ) H fun σ2 H2=>te σ2 H2 fun v H3=>H3 l=some (.lst ys)/\Pv (i+1) (ys++[v]) (upd H3 l (.lst (ys++[v]))))(hd:∀ys H,Pv n ys H->H l=some (.lst ys)->Qe H):z6q ix (Itr lo n) g te σ l H0 Qe:=by refine z5e (n:=n) Pv h0 (fun i ys H hi p hy=>⟨hi,by rw[hn i ys H p];exact y0r hi hz,fun x H' y=>?_⟩) fun ys H p hy=>⟨y0b _,hd ys H p hy⟩;obtain⟨e,y⟩:=y;subst e y;exact hs i ys _ hi p hy
open PySem.AutoSeq1 (wpAny_loadPart')
def zd7(lo:Int)(n:Nat):List V:=(List.range n).map fun i=>V.int (lo+(i:Nat))
def z5j(lo:Int)(n:Nat):(zd7 lo n).length=n:=by unfold zd7;simp
def z3U{lo c:Int}{acc:Array Value}{n:Nat}(hc:c=1)(h:ItemsOf (fun i v=>∃t,v=.int (lo+i*c) t) acc n):z0T (zd7 lo n) acc.toList:=by
 subst hc;obtain⟨hs,hi⟩:=h;have key:∀(k:Nat)(i:Nat),i+k=n->z0T (((List.range n).drop i).map fun j=>V.int (lo+(j:Nat))) (acc.toList.drop i):=by
  intro k;induction k with
  |zero =>
   intro i hk;rw[y1A (by simp;lia),y1A (by simp;lia)];exact .nil
  |succ k ih =>
   intro i hk;have h1:i<acc.size:=by lia
   have e1:(List.range n).drop i=i::(List.range n).drop (i+1):=by rw[y1D (by simp;lia)];simp
   have e2:acc.toList.drop i=acc[i]::acc.toList.drop (i+1):=by rw[y1D (by simpa using h1)];simp
   rw[e1,e2,y0m];refine .cons ?_ (ih (i+1) (by lia));obtain⟨t,e⟩:=hi i acc[i] (by simp[h1]);exact⟨t,by rw[e,Int.mul_one]⟩
 have:=key n 0 (by lia);simpa[zd7]using this
section
variable{X:Cx}
def z9r:z2s X (.type "range") (fun xs H Q=>∃j:Int,xs=[.int j]/\-(2^62)<=j/\j<2^62/\∀p,H p=none->Q (.ref p) (upd H p (.rng 0 j))):=by intro pins s σ H xs us Q I r h;obtain⟨j,rfl,h1,h2,q⟩:=h;obtain⟨u,rfl,ru⟩:=z48 r;obtain⟨t,rfl⟩:=ru;refine call_range_1 ?_;exact⟨.ref s.heap.objs.size,upd H s.heap.objs.size (.rng 0 j),I.laid (o:=.rng 0 j) (fun b u e=>y05 _ e) (y0b _) ⟨_,_,_,y0e _ rfl⟩,rfl,q _ I.fresh⟩
theorem Inv.rng{pins:yyP}{σ:St}{H:Hp}{s:Shared}{p:Addr}{lo hi:Int}(I:Inv X pins σ H s)(h:H p=some (.rng lo hi)):∃t u v,IsRange s.heap p lo hi 1 t u v:=by obtain⟨t,u,v,e⟩:=I.hok p _ h;exact⟨t,u,v,e⟩
def z9u{lo hi:Int}:Builtin.Range.rangeSize lo hi 1=(((hi-lo).toNat:Nat):Int):=by rw[rangeSize_one];split<;>lia
def z6Y(hc:X.calm=true):z2s X (.type "list") (fun xs H Q=>∃p lo hi,xs=[.ref p]/\H p=some (.rng lo hi)/\(-(2^62)<=lo/\lo<2^62/\-(2^62)<=hi/\hi<2^62)/\(hi-lo).toNat<=2^24 /\ ∀l,H l=none->Q (.ref l) (upd H l (.lst (zd7 lo (hi-lo).toNat)))):=by intro pins s σ H xs us Q I r h;obtain⟨p,lo,hi,rfl,hp,⟨b1,b2,b3,b4⟩,hn,q⟩:=h;obtain⟨u,rfl,ru⟩:=z48 r;cases ru;obtain⟨t,u,v,hr⟩:=I.rng hp;refine call_list_range (I.ok.hd hc) hr (small_one b1 b2 b3 b4) z9u hn fun h' tk acc c' hk hl hacc=>?_;have hv:=z3U rfl hacc;exact⟨.ref _,_,I.laid (o:=.lst (zd7 lo (hi-lo).toNat)) (fun b u e=>hk b u e) (y0b _) ⟨by rw[z5j,y3A];lia,acc.toList,c',hv,by simpa using hl⟩,rfl,q _ I.fresh⟩
end
section
variable{prog:Program}{w:World}{A:Around}{E:yyE}{s:Shared}
def z8n{Q:List Value->Shared->Prop}{r:Addr}{a b c:Int}{t u v:Tok}{n:Nat}(hh:A.handled=none)(hr:IsRange s.heap r a b c t u v)(hsmall:Builtin.Range.small a b c=true)(hn:Builtin.Range.rangeSize a b c=n)(hlen:n<=2^24)(hQ:∀h' tk acc,(∀b o,s.heap.get? b=some o->h'.get? b=some o)->s.heap.objs.size<=h'.objs.size->ItemsOf (fun i v=>∃t,v=.int (a+i*c) t) acc n->Q acc.toList { s with heap:=h',toks:=tk }) : wpAny (model prog w) A (collect (.ref r)) Q E s:=by
 unfold collect;refine y02 (wpAny_runValue (y2g F.entry_proto_collect ?_));rw[y1S F.plain_proto_collect _];show wpAny _ A.in1 (newList []>>=fun l =>
  again (.builtin "list.__iadd__" ⟨[l,.ref r],[]⟩)) _ _ s
 refine y02 (y13 ?_);refine y09 ⟨y3q y3C _,y2g F.entry_list_iadd ?_⟩;rw[y1S y3C _];show wpAny _ A.in1 (Builtin.List.listExtendWith (.ref s.heap.objs.size) (.ref r)
  (.ref s.heap.objs.size)) _ _ _
 have hS:(s.heap.push { cls:=.type "list",data:=.seq ([]:List Value).toArray }).get? s.heap.objs.size=some
  { cls:=.type "list",data:=.seq #[] 0 }:=y0e _ rfl
 have fin':∀(h':Heap) (tk:Nat) (acc:Array Value) (c':Nat),(∀b o,b≠s.heap.objs.size->(s.heap.push { cls:=.type "list",data:=.seq ([]:List Value).toArray }).get? b=some o->h'.get? b=some o) ->
   h'.get? s.heap.objs.size=some { cls:=.type "list",dict:=none,data:=.seq acc c',slots:=#[] }->ItemsOf (fun i v=>∃t,v=.int (a+i*c) t) acc n ->
   wpAny (model prog w) A (match Value.ref s.heap.objs.size with
    |Value.ref a=>do
     match (<-load a).data with
      |Data.seq xs _=>pure xs.toList
      |_=>unsupported "internal:collect"
    |_=>unsupported "internal:collect") Q E { s with heap:=h',toks:=tk }:=fun h' tk acc c' hk hS' hacc=>by
  show wpAny _ A (load s.heap.objs.size>>=_) _ _ _;refine y02 (wpAny_load hS' (y09 ?_));exact hQ h' tk acc (fun b o e=>hk b o (y0u (y0k e)) (y05 _ e)) (y1p (y0k hS')) hacc
 refine y1J (wpAny_extend_range (A:=A) (R:=fun r s'=>r=.ok (.ret (.ref s.heap.objs.size))/\wpAny (model prog w) A (match Value.ref s.heap.objs.size with
    |Value.ref a=>do
     match (<-load a).data with
      |Data.seq xs _=>pure xs.toList
      |_=>unsupported "internal:collect"
    |_=>unsupported "internal:collect") Q E s') (s:={ s with heap:=s.heap.push { cls:=.type "list",data:=.seq ([]:List Value).toArray } }) hh (y05 _ hr) hsmall hn hlen _ (.ref s.heap.objs.size) 0 hS
  fun h' tk acc c' hk hS' hacc=>⟨rfl,fin' h' tk acc c' hk hS' hacc⟩) (fun fin s' h=>?_) (fun e s' h=>?_)
 .cases fin with
  |done f =>
   obtain⟨e,h⟩:=h;cases e;exact h
  |again c'=>exact⟨h.1,y2F h.2 fun r s'' hr=>by obtain⟨rfl,h2⟩:=hr;exact h2⟩
 .exact absurd h.1 (by simp)
end
def z4S(r:Addr){a b c:Int}{t u v:Tok}{n:Nat}(hsmall:Builtin.Range.small a b c=true)(hn:Builtin.Range.rangeSize a b c=n)(hlen:n<=2^24) : Meets (Builtin.«tuple.__new__» ⟨[.type "tuple",.ref r],[]⟩) (fun A R s=>A.handled=none/\IsRange s.heap r a b c t u v/\∀(h':Heap) (tk:Nat) (acc:Array Value),(∀b o,s.heap.get? b=some o->h'.get? b=some o)->s.heap.objs.size<=h'.objs.size->ItemsOf (fun i v=>∃t,v=.int (a+i*c) t) acc n -> R (.ok (.ret (.ref h'.objs.size))) { s with heap:=h'.push { cls:=.type "tuple",data:=.seq acc },toks:=tk }) :=
 .of_wp fun prog w A R s h=>by
  obtain⟨hh,hr,h⟩:=h;have hsub:=sub_tuple_self;have hinit:=init_tuple_lookup;have hmh:=madeHere_tuple;have hT:s.TypeIs (.ref r) "range":=⟨_,hr,rfl⟩;have hh1:A.in1.handled=none:=hh
  wp_walk using wpAny_typeOf hT,z8n hh1 hr hsmall hn hlen
  intro h' tk acc hk hz hacc;show wpAny _ _ (Builtin.Tuple.tupleExact acc.toList.toArray >>=
   fun v=>ret v) _ _ _
  unfold Builtin.Tuple.tupleExact;refine y02 (y13 ?_ (show acc.toList.toArray.size<=sizeLine by simp only[Array.toArray_toList];rw[hacc.1,y3A];lia));refine y09 ⟨_,rfl,?_⟩;have e:acc.toList.toArray=acc:=by simp
  rw[e];exact h h' tk acc hk hz hacc
section
variable{X:Cx}
def z5G(hc:X.calm=true):z2s X (.type "tuple") (fun xs H Q=>∃p lo hi,xs=[.ref p]/\H p=some (.rng lo hi)/\(-(2^62)<=lo/\lo<2^62/\-(2^62)<=hi/\hi<2^62)/\(hi-lo).toNat<=2^24 /\ ∀l,H l=none->Q (.ref l) (upd H l (.tup (zd7 lo (hi-lo).toNat)))):=by
 intro pins s σ H xs us Q I r h;obtain⟨p,lo,hi,rfl,hp,⟨b1,b2,b3,b4⟩,hn,q⟩:=h;obtain⟨u,rfl,ru⟩:=z48 r;cases ru;obtain⟨t,u,v,hr⟩:=I.rng hp;refine callType_new F.called_tuple (by decide) (F.typeCall_tuple_1 _) (F.newCall_tuple_1 _) (fun obj=>F.args_object_init_2 obj _) F.entry_tuple_new
  (z4S p (t:=t) (u:=u) (v:=v) (small_one b1 b2 b3 b4) z9u hn) ⟨I.ok.hd hc,hr,fun h' tk acc hk hz hacc=>⟨⟨_,y0e _ rfl,rfl⟩,?_⟩⟩
 have hv:=z3U rfl hacc;have hf:H h'.objs.size=none:=I.hok.fresh hz;refine⟨.ref _,_,I.laid (o:=.tup (zd7 lo (hi-lo).toNat)) (fun b u e=>y05 _ (hk b u e)) hz ⟨by rw[z5j,y3A];lia,acc.toList,0,hv,by rw[show acc.toList.toArray=acc by simp];exact y0e _ rfl⟩,rfl,q _ hf⟩
end
section
variable{X:Cx}
def z8h{prog:Program}{w:World}{A:Around}{its:Array Value}{bs:List Bool}(r:z0T (bs.map V.bl) its.toList):TruthOf prog w A (fun i v=>its[i]?=some v) (fun i=>bs.getD i false):=by
 intro i v s Q E hi hq;have hl:=r.length;rw[y01]at hl;have hlt:i<bs.length:=by
  have:i<its.size:=by
   rcases y1q i its.size with z|z
   .exact z
   .rw[y2j z]at hi;cases hi
  simp at hl;lia
 have h1:(bs.map V.bl)[i]?=some (.bl bs[i]):=by simp[hlt]
 obtain⟨u,hu,ru⟩:=r.get h1;have:u=v:=by
  have e:its.toList[i]?=some v:=by simpa using hi
  rw[e]at hu;exact(y08 hu).symm
 subst this;cases ru;refine y1V ?_;have e:bs.getD i false=bs[i]:=by simp[hlt]
 have hq':Q (bs.getD i false) s:=hq;rw[e]at hq';exact hq'
def zba{n:Nat}{bs:List Bool}(h:bs.length=n):(List.range n).any (fun i=>bs.getD i false)=bs.any id:=by
 subst h;rw[y1P,y2M,y2M];constructor
 .rintro⟨i,hi,e⟩;have hi:i<bs.length:=by simpa using hi
  refine⟨bs[i],y0h hi,?_⟩;simp[hi]at e;exact e
 .rintro⟨b,hb,e⟩;obtain⟨i,hi,e'⟩:=y17 hb;refine⟨i,by simpa using hi,?_⟩;simp[hi,e'];exact e
def zdw(hc:X.calm=true):z2s X (.builtin "any") (fun xs H Q=>∃(p:Addr) (bs:List Bool),xs=[.ref p]/\SqL X.K H p (bs.map V.bl)/\Q (.bl (bs.any id)) H):=by
 intro pins s σ H xs us Q I r h;obtain⟨p,bs,rfl,hp,q⟩:=h;obtain⟨u,rfl,ru⟩:=z48 r;cases ru;obtain⟨its,rv,pl,hz⟩:=I.list hp;have hlt:p<s.heap.objs.size:=by obtain⟨o,n,e,_⟩:=pl;exact y0k e
 have hl:=rv.length;rw[y01]at hl;refine call_any_walk (wpAny_pyIter_list pl.isList ?_);refine⟨s.heap.objs.size,_,_,_,_,_,fun i=>bs.getD i false,rfl,Walks.list (A:=X.A.in1) (show X.A.in1.handled=none from I.ok.hd hc) s.heap.objs.size p (y0u hlt) its.toArray,⟨⟨_,y0e _ rfl,rfl,rfl⟩,Heap.IsList.push pl.isList _⟩,z8h (by simpa using rv),fun h' tk hk=>?_⟩;rw[zba (by simpa using hl)];exact⟨.bl _,H,I.kept (t':=tk) (fun b o e=>hk b o (by simpa using(y0u (y0k e))) (y05 _ e)),rfl,q⟩
end
section
variable{prog:Program}{w:World}{A:Around}{E:yyE}{s:Shared}
def z6A{it t:Addr}{i:Nat}{its:Array Value}{x:Value}{Q:yyE}(hit:s.heap.IsTupleIter it t i)(ht:s.heap.IsTuple t its)(hx:its[i]?=some x)(hQ:∀h',h'.IsTupleIter it t (i+1)->Heap.SameBut it s.heap h'->Q x { s with heap:=h' }):wpAny (model prog w) A (Builtin.SmallTypes.nextOf (.ref it)) Q E s:=by
 obtain⟨o,ho,hc,hd⟩:=id hit;obtain⟨ol,hol,_,nl,hdl⟩:=ht;unfold Builtin.SmallTypes.nextOf;refine y02 (y10 (name:=Str.ofString "__next__") hit.typeIs y2l
  (y15 y2l hit.typeIs F.entry_tuple_iterator_next ?_
   (F.args_tuple_iterator_next_1 _)))
 show wpAny _ _ (field (.ref it) 0>>=_) _ _ s;refine y02 (y29 ho hd (x:=.ref t) rfl ?_);show wpAny _ _ (if(Value.ref t==Value.none)=true
  then _ else _) _ _ s
 rw[if_neg (show ¬((Value.ref t==Value.none)=true)
  from y0M)]
 show wpAny _ _ (field (.ref it) 1>>=_) _ _ s;refine y02 (y29 ho hd (x:=.int i 0) rfl ?_);show wpAny _ _ (seqItems? (.ref t)>>=_) _ _ s;refine y02 (y21 hol hdl ?_);simp only[y0l,hx];refine y02 (y2r ho hd (by simp) (y09
  ⟨x,rfl,y09 (hQ _ ?_ (y1n ..))⟩))
 exact⟨_,y1l _ ho (y2p (y1s hd _)),
  (y3D ..).trans hc,by rw[y1s hd];simp[rawInt]⟩
def z4j{it t:Addr}{i:Nat}{its:Array Value}{Q:yyE}(hh:A.handled=none)(hit:s.heap.IsTupleIter it t i)(ht:s.heap.IsTuple t its)(hx:its[i]?=none)(hE:∀h' e,Heap.ExtBut it s.heap h'->(∃o,h'.get? e=some o/\o.cls=.type "StopIteration")->E (.ref e) { s with heap:=h' }):wpAny (model prog w) A (Builtin.SmallTypes.nextOf (.ref it)) Q E s:=by
 obtain⟨o,ho,hc,hd⟩:=id hit;obtain⟨ol,hol,_,nl,hdl⟩:=ht;unfold Builtin.SmallTypes.nextOf;refine y02 (y10 (name:=Str.ofString "__next__") hit.typeIs y2l
  (y15 y2l hit.typeIs F.entry_tuple_iterator_next ?_
   (F.args_tuple_iterator_next_1 _)))
 show wpAny _ _ (field (.ref it) 0>>=_) _ _ s;refine y02 (y29 ho hd (x:=.ref t) rfl ?_);show wpAny _ _ (if(Value.ref t==Value.none)=true
  then _ else _) _ _ s
 rw[if_neg (show ¬((Value.ref t==Value.none)=true)
  from y0M)]
 show wpAny _ _ (field (.ref it) 1>>=_) _ _ s;refine y02 (y29 ho hd (x:=.int i 0) rfl ?_);show wpAny _ _ (seqItems? (.ref t)>>=_) _ _ s;refine y02 (y21 hol hdl ?_);simp only[y0l,hx];refine y02 (y27 (y02 (y2r ho hd (by simp) ?_)));show wpAny _ _ (newExc (.type "StopIteration") []>>=_) _ _ _;refine y02 ?_;simp only[newExc,newTuple];refine y02 (y13 ?_ (by size_fits));refine y02 (m:=firstArgMember _ _) (wpAny_of_eq (a:=Value.none)
  (by first|rfl|(simp only[firstArgMember];rfl)) ?_)
 refine y13 ?_ (by size_fits);simp only[raiseNew];refine y02 (wpAny_handled ?_);first|rw[show A.in1.handled=none from hh]|rw[hh]
 refine y02 (y09 (wpAny_throw ?_));exact hE _ _ (((y1n ..).extBut.push _).push _)
  ⟨_,y0e _ rfl,rfl⟩
def z3H(hh:A.handled=none)(it t:Addr)(hne:t≠it)(its:Array Value):Draws prog w A it [it,t] its.size (fun i v=>its[i]?=some v) (fun i h=>h.IsTupleIter it t i/\h.IsTuple t its) where
 live:=fun i h st=>by obtain⟨⟨o,e,_⟩,_⟩:=st;exact⟨o,e⟩
 frame:=fun i h h' st hk=>by obtain⟨⟨o,e,c⟩,⟨o2,e2,c2⟩⟩:=st;exact⟨⟨o,hk it (by simp) _ e,c⟩,⟨o2,hk t (by simp) _ e2,c2⟩⟩
 item:=fun i s Q E hi st hQ=>by refine z6A st.1 st.2 (x:=its[i]) (by simp[hi]) fun h' hit' hs'=>?_;obtain⟨o2,e2,c2⟩:=st.2;exact hQ _ h' s.toks (by simp[hi]) ⟨hit',⟨o2,(hs'.2 t hne).trans e2,c2⟩⟩ hs'
 done:=fun s Q E st hE=>z4j hh st.1 st.2 (by simp) hE
def z5E(t:Addr)(its:Array Value) : Meets (Builtin.«enumerate.__new__» ⟨[.type "enumerate",.ref t],[]⟩) (fun _ R s=>s.heap.IsTuple t its /\ R (.ok (.ret (.ref (s.heap.push { cls:=.type "tuple_iterator",data:=.fields #[.ref t,.int 0 0] }).objs.size))) { s with heap:=(s.heap.push { cls:=.type "tuple_iterator",data:=.fields #[.ref t,.int 0 0] }).push { cls:=.type "enumerate",data:=.fields #[.none,.bool false,.ref s.heap.objs.size,rawInt 0,.none,.none] } }) :=
 .of_wp fun prog w A R s h=>by
  obtain⟨hp,g,d,tk,os⟩:=s;obtain⟨hl,h⟩:=h;have hsub:=sub_enumerate;have hL:Heap.IsTuple (Shared.heap ⟨hp,g,d,tk,os⟩) t its:=hl
  wp_walk
  refine wpAny_stack_any fun st=>y09 ?_;split
  .rename_i c _ _ _ _ _;cases(c==Value.type "enumerate");all_goals
    wp_walk using y2S hL
    exact⟨_,rfl,h⟩
  .wp_walk using y2S hL
   exact⟨_,rfl,h⟩
def z6F{t:Addr}{its:Array Value}{Q:yyE}(hL:s.heap.IsTuple t its)(h:∀h',IsEnum h' (s.heap.objs.size+1) s.heap.objs.size 0 .none->h'.IsTupleIter s.heap.objs.size t 0->h'.objs.size=s.heap.objs.size+2->(∀b o,s.heap.get? b=some o->h'.get? b=some o)->Q (.ref (s.heap.objs.size+1)) { s with heap:=h' }) : wpAny (model prog w) A (call (.type "enumerate") [.ref t]) Q E s:=by
 refine callType_new F.called_enumerate (by decide) (F.typeCall_enumerate_1 _) (F.newCall_enumerate_1 _) (fun obj=>F.args_object_init_2 obj _) F.entry_enumerate_new (z5E t its) ⟨hL,?_⟩;have hz:(s.heap.push { cls:=.type "tuple_iterator",data:=.fields #[.ref t,.int 0 0] }).objs.size=s.heap.objs.size+1:=y1g ..;show _/\_;rw[hz];have he:IsEnum ((s.heap.push { cls:=.type "tuple_iterator",data:=.fields #[.ref t,.int 0 0] }).push
   { cls:=.type "enumerate",data:=.fields #[.none,.bool false,.ref s.heap.objs.size,rawInt 0,.none,.none] }) (s.heap.objs.size+1) s.heap.objs.size 0 .none:=by
  have q:=y0e (s.heap.push { cls:=.type "tuple_iterator",data:=.fields #[.ref t,.int 0 0] })
   (o:={ cls:=.type "enumerate",data:=.fields #[.none,.bool false,.ref s.heap.objs.size,rawInt 0,.none,.none] }) rfl
  rw[hz]at q;exact q
 exact⟨⟨_,he,rfl⟩,h _ he ⟨_,y05 _ (y0e _ rfl),rfl,by rfl⟩ (by rw[y1g,hz]) fun b o x=>y05 _ (y05 _ x)⟩
end
def Inv.turnedNew{X:Cx}{pins:yyP}{σ:St}{H:Hp}{s:Shared}{ch:List Addr}{p:Addr}{o:HO}{h':Heap}{t':Nat}(I:Inv X pins σ H s)(k:∀b u,b∉ch->s.heap.get? b=some u->h'.get? b=some u)(hp:s.heap.objs.size<=p)(new:z1Q X.prog X.w (upd H p o) h' p o)(hf:∀b∈ch,zaE X pins H b):Inv X pins σ (upd H p o) { s with heap:=h',toks:=t' }:=by
 have hn:H p=none:=I.hok.fresh hp;have nc:∀b u,H b=some u->b∉ch:=fun b u e z=>by rw[(hf b z).1]at e;cases e
 refine I.step (g':=s.gens) (d':=s.drawn) (ch:=ch) (fun b hb=>?_) (fun b u _ _ hc e _=>k b u hc e) (fun b u _ _ hc e _=>⟨u.slots,k b u hc e⟩) (fun b u _ e n=>?_) (fun b u hc e=>⟨u,k b u hc e⟩)
  (fun b xs e=>?_) (fun b u xs e=>?_) (fun b ps e=>⟨#[],?_⟩) (fun m hm=>?_) (fun b u e=>?_) I.bare
 .obtain⟨_,f1,_,f3,f4,f5⟩:=hf b hb;exact⟨f3,f1,f4,f5⟩
 .rw[z07 (y0u (y0r (y0k e) hp))];exact n
 .rw[z07 (z0e e hn)];exact e
 .rw[z07 (z0e e hn)];exact e
 .rw[z07 (z0e e hn),e];simp
 .obtain⟨ob,es,ep,ho,r⟩:=hm;exact⟨ob,es,ep,k _ ob (fun z=>(hf _ z).2.1 rfl) ho,r⟩
 .by_cases hb:b=p
  .subst hb;rw[z01]at e;cases e;exact new
  .rw[z07 hb]at e;refine(I.hok b u e).stay (fun c v hc q=>k c v ?_ q) (fun c q=>by rw[z07 (z0e q hn)];exact q) fun c xs q=>by rw[z07 (z0e q hn)];exact q
   rcases hc with z|z
   .rw[z];exact nc b u e
   .exact nc c _ z
def Inv.turnedL{X:Cx}{pins:yyP}{σ:St}{H:Hp}{s:Shared}{ch:List Addr}{h':Heap}{t':Nat}(I:Inv X pins σ H s)(k:∀b u,b∉ch->s.heap.get? b=some u->h'.get? b=some u)(hf:∀b∈ch,zaE X pins H b):Inv X pins σ H { s with heap:=h',toks:=t' }:=by
 have nc:∀b u,H b=some u->b∉ch:=fun b u e z=>by rw[(hf b z).1]at e;cases e
 refine I.step (g':=s.gens) (d':=s.drawn) (ch:=ch) (fun b hb=>?_) (fun b u _ _ hc e _=>k b u hc e) (fun b u _ _ hc e _=>⟨u.slots,k b u hc e⟩) (fun b u _ e n=>n) (fun b u hc e=>⟨u,k b u hc e⟩)
  (fun b xs e=>e) (fun b u xs e=>e) (fun b ps e=>⟨#[],by rw[e];simp⟩) (fun m hm=>?_) (fun b u e=>?_) I.bare
 .obtain⟨_,f1,_,f3,f4,f5⟩:=hf b hb;exact⟨f3,f1,f4,f5⟩
 .obtain⟨ob,es,ep,ho,r⟩:=hm;exact⟨ob,es,ep,k _ ob (fun z=>(hf _ z).2.1 rfl) ho,r⟩
 .refine(I.hok b u e).stay (fun c v hc q=>k c v ?_ q) (fun c q=>q) fun c xs q=>q;rcases hc with z|z
  .rw[z];exact nc b u e
  .exact nc c _ z
def Ite(K:yyF)(a:Addr):It :=
 ⟨fun i H=>∃xs x,SqT K H a xs/\xs[i]?=some x,fun i H x H'=>∃p y,x=.ref p/\H p=none/\(∀xs,SqT K H a xs->xs[i]?=some y)/\H'=upd H p (.tup [.int i,y]),fun i H=>∃xs,SqT K H a xs/\xs.length<=i⟩
def zbC{P:Program}{w:World}{K:yyF}{elts:List Expr}{k:Nat}{tp:Pos}(a it e:Addr)(hne:e≠it) : zey P w K (.Tuple elts k tp) (Ite K a) [e,it] e (fun i h=>(∃old,IsEnum h e it i old)/\h.IsTupleIter it a i) where
 mem:=by simp
 obj:=fun i h st b hb=>by
  obtain⟨⟨old,he⟩,⟨o,ho,hc,hd⟩⟩:=st;rcases y0j.mp hb with z|z
  .subst z;exact⟨_,he,fun v z=>by cases z⟩
  .have z:=y07.mp z;subst z;exact⟨o,ho,fun v z=>by rw[hd]at z;cases z⟩
 keep:=fun i h h' st k=>by obtain⟨⟨old,he⟩,⟨o,ho,c⟩⟩:=st;exact⟨⟨old,k e (by simp) _ he⟩,⟨o,k it (by simp) _ ho,c⟩⟩
 item:=by
  intro X hP hw hK hc i pins s σ H E I hf st hg;subst hP hw hK;obtain⟨xs,x,hq,hx⟩:=hg;obtain⟨its,rv,p,hz⟩:=I.tuple hq;obtain⟨u,hu,ru⟩:=rv.get hx;obtain⟨⟨old,he⟩,hit⟩:=st;have hai:a≠it:=fun z=>by obtain⟨o,e1,c1,_⟩:=id p;obtain⟨o2,e2,c2,_⟩:=id hit;rw[z,e2]at e1;cases e1;rw[c2]at c1;exact absurd c1 (by intro h;injection h with h;exact absurd h (by decide))
  have hae:a≠e:=fun z=>by obtain⟨o,e1,c1,_⟩:=id p;rw[z,he]at e1;cases e1;exact absurd c1 (by intro h;injection h with h;exact absurd h (by decide))
  have lt:i<its.toArray.size:=by have:=(y06.mp hu).1;simpa using this
  have D:=z3H (prog:=X.prog) (w:=X.w) (A:=X.A.in1) (I.ok.hd hc) it a hai its.toArray;refine wpAny_pyNext_enum_itemD D he ⟨hit,p⟩ lt hne (by simp[hne,y1v hae]) fun y h' tk hy ho hst hT hsz hk=>?_;have hyu:y=u:=by
   have e1:its.toArray[i]?=some u:=by simpa using hu
   rw[e1]at hy;exact(y08 hy).symm
  subst hyu;refine⟨_,rfl,?_⟩;refine wpAny_letOwnedTupleGo_enum ho fun h2 he2 hs2=>?_;have hp0:H s.heap.objs.size=none:=I.fresh;have elt:e<s.heap.objs.size:=y0k he;have ilt:it<s.heap.objs.size:=by obtain⟨o,e2,_⟩:=hit;exact y0k e2
  have kk:∀b o,b≠e->b≠it->s.heap.get? b=some o->h2.get? b=some o:=fun b o h1 h3 q=>(hs2.2 b h1).trans (hk b o h1 h3 q);obtain⟨e0,e1,e2,e3,e4,e5⟩:=hf e (by simp);obtain⟨i0,i1,i2,i3,i4,i5⟩:=hf it (by simp);have I1:Inv X pins σ (upd H s.heap.objs.size (.tup [.int i,x])) { s with heap:=h2,toks:=tk+1 }:=by refine I.turnedNew (ch:=[e,it]) (fun b u hb q=>kk b u (fun z=>hb (by simp[z])) (fun z=>hb (by simp[z])) q) (y0b _) ?_ (fun b hb=>hf b hb);have nT:s.heap.objs.size≠e:=y2E elt;exact⟨by show 2<=sizeLine;decide,[.int i tk,y],0,.cons ⟨tk,rfl⟩ (.cons ru .nil),(hs2.2 _ nT).trans hT⟩
  refine⟨.ref s.heap.objs.size,_,I1,rfl,⟨s.heap.objs.size,x,rfl,hp0,fun ys hy=>by rw[I.tuple_inj hy hq];exact hx,rfl⟩,⟨⟨y,by simpa using he2⟩,?_⟩,fun b hb=>?_⟩
  .obtain⟨⟨o,e9,c9⟩,_⟩:=hst;exact⟨o,(hs2.2 it (y1v hne)).trans e9,c9⟩
  .have hb0:=(hf b hb).1;have:b≠s.heap.objs.size:=by
    rcases y0j.mp hb with z|z
    .rw[z];exact y0u elt
    .rw[y07.mp z];exact y0u ilt
   rw[z07 this];exact hb0
 done:=by
  intro X hP hw hK hc i pins s σ H E I hf st hg;subst hP hw hK;obtain⟨xs,hq,hx⟩:=hg;obtain⟨its,rv,p,hz⟩:=I.tuple hq;obtain⟨⟨old,he⟩,hit⟩:=st;have hai:a≠it:=fun z=>by obtain⟨o,e1,c1,_⟩:=id p;obtain⟨o2,e2,c2,_⟩:=id hit;rw[z,e2]at e1;cases e1;rw[c2]at c1;exact absurd c1 (by intro h;injection h with h;exact absurd h (by decide))
  have hlen:=rv.length;have hT:s.TypeIs (.ref e) "enumerate":=⟨_,he,rfl⟩;unfold pyNext;refine y02 (y2G (y10 (name:=Str.ofString "__next__") hT F.slot_enumerate_next
   (y15 F.slot_enumerate_next hT F.entry_enumerate_next ?_ (F.args_enumerate_next_1 _))))
  show wpAny _ _ (field (.ref e) 2>>=_) _ _ _;refine y02 (y29 he rfl (x:=.ref it) rfl ?_);refine y02 (z4j (show X.A.in1.handled=none from I.ok.hd hc) hit p (by simp;lia) fun h' x he' hx'=>?_);obtain⟨o,ho,hcl⟩:=hx';refine y02 (y2N (T:="StopIteration") (b:=true) ⟨o,ho,hcl⟩ isSubtype_stop ?_);refine y09 ⟨rfl,?_⟩;exact I.turnedL (ch:=[it]) (t':=s.toks) (fun b u hb q=>he' b u (fun z=>hb (by simp[z])) q) (fun b hb=>hf b (by rw[y07.mp hb];simp))
 self:=fun A i s Q E st h=>by obtain⟨⟨old,he⟩,_⟩:=st;exact wpAny_pyIter_enum he h
def zdE{K:yyF}{a:Addr}{xs:List V}{g:TG}{tb:TS}{D:z46}{σ:St}{H:Hp}(Pv:Nat->St->Hp->Prop)(h0:Pv 0 σ H)(hl:∀i σ H,i<=xs.length->Pv i σ H->SqT K H a xs)(hs:∀i x p σ H,xs[i]?=some x->Pv i σ H->H p=none->g (.ref p) σ (upd H p (.tup [.int (i:Nat),x])) fun σ2 H2=>tb { D with nx:=Pv (i+1),ct:=Pv (i+1),bk:=D.nx } σ2 H2)(hd:∀σ H,Pv xs.length σ H->D.nx σ H) : ∃W:Nat->Nat->St->Hp->Prop,(∃m,W 0 m σ H)/\∀i m σ H,W i m σ H -> ((Ite K a).stop i H/\D.nx σ H)\/((Ite K a).go i H/\∃N:St->Hp->Prop,(∀σ' H',N σ' H'->∃m',m'<m/\W (i+1) m' σ' H')/\∀x H',(Ite K a).yld i H x H'->g x σ H' fun σ2 H2=>tb { D with nx:=N,ct:=N,bk:=D.nx } σ2 H2):=by
 refine⟨fun i m σ H=>m=xs.length-i/\i<=xs.length/\Pv i σ H,⟨xs.length,by simp,y0K _,h0⟩,?_⟩;rintro i m σ H ⟨rfl,hi,p⟩;have q:=hl i σ H hi p;by_cases hlt:i<xs.length
 .refine .inr ⟨⟨xs,xs[i],q,by simp[hlt]⟩,Pv (i+1),fun σ' H' p'=>⟨xs.length-(i+1),by lia,rfl,hlt,p'⟩,fun x H' y=>?_⟩;obtain⟨b,z,rfl,hb,hz,rfl⟩:=y;exact hs i z b σ H (hz xs q) p hb
 .have e:i=xs.length:=by lia
  subst e;exact .inl ⟨⟨xs,q,y0b _⟩,hd σ H p⟩
section
variable{X:Cx}{elts:List Expr}{tk:Nat}{tp:Pos}
def zhN(K:yyF)(ta:TA):TI:=fun σ H R=>ta σ H fun vs H1=>∃a:Addr,vs=[.ref a]/\(∃xs,SqT K H1 a xs)/\R (Ite K a) H1
def zf5{a:Expr}{ta:TA}{p pos:Pos}(hg:Gl X "enumerate")(hm:X.mg "enumerate"=none)(ha:PA X [a] ta)(hs:starEach [a] X.env=[(false,eval a X.env)]:=by rfl) : PI X (.Tuple elts tk tp) (.Call (.Name "enumerate" p) [a] [] pos) (zhN X.K ta):=by
 intro pins s σ H R I h;refine Call_ (z64 I hg hm boot_enumerate (y1O (thn (ha pos pins s σ H _ I h) fun us s1 hz8=>?_) hs rfl));obtain⟨vs,H1,I1,r1,q1⟩:=hz8;obtain⟨a,e,⟨xs,hq⟩,q⟩:=q1;subst e;obtain⟨u,rfl,ru⟩:=z48 r1;cases ru;obtain⟨its,rv,pl,hz⟩:=I1.tuple hq;refine z6F pl fun h' he hit hsz hk=>wpAny_pyIter_enum he ?_;have I2:Inv X pins σ H1 { s1 with heap:=h' }:=I1.kept (t':=s1.toks) hk;refine⟨s1.heap.objs.size+1,[s1.heap.objs.size+1,s1.heap.objs.size],_,_,H1,rfl,I2,zbC a s1.heap.objs.size (s1.heap.objs.size+1) (show @Ne Nat _ _ by lia),⟨⟨_,he⟩,hit⟩,fun b hb=>?_,q⟩;have hb':s1.heap.objs.size<=b:=by
  rcases y0j.mp hb with z|z
  .have z:@Eq Nat b (s1.heap.objs.size+1):=z;lia
  .rw[y07.mp z];exact y0b _
 exact I1.fpOk hb' (I1.hok.fresh hb')
def Itz(K:yyF)(a b:Addr):It :=
 ⟨fun i H=>∃xs ys x y,SqL K H a xs/\SqL K H b ys/\xs[i]?=some x/\ys[i]?=some y,
  fun i H v H'=>∃p x y,v=.ref p/\H p=none/\(∀xs,SqL K H a xs->xs[i]?=some x)/\(∀ys,SqL K H b ys->ys[i]?=some y)/\H'=upd H p (.tup [x,y]),
  fun i H=>∃xs ys,SqL K H a xs/\SqL K H b ys/\(xs.length<=i\/ys.length<=i)⟩
def z28{h:Heap}{a b:Addr}{o u:Obj}{x y:String}(ha:h.get? a=some o)(hb:h.get? b=some u)(hx:o.cls=.type x)(hy:u.cls=.type y)(hxy:x≠y):a≠b:=by intro e;subst e;rw[ha]at hb;cases hb;rw[hx]at hy;injection hy with hy;exact hxy hy
def zdT{P:Program}{w:World}{K:yyF}(a b z TI TO i1 i2:Addr)(D:TI≠z/\TO≠z/\i1≠z/\i2≠z/\TI≠TO/\TI≠i1/\TI≠i2/\TO≠i1/\TO≠i2/\i1≠i2) : zey P w K (.Tuple elts tk tp) (Itz K a b) [z,TI,TO,i1,i2] z (fun i h=>IsZip h z TI TO .none/\IsPair h TI (.ref i1) (.ref i2)/\(∃u v,IsPair h TO u v)/\h.IsListIter i1 a i/\h.IsListIter i2 b i) where
 mem:=by simp
 obj:=fun i h st c hc=>by
  obtain⟨hz,hTI,⟨u,v,hTO⟩,⟨o1,e1,c1,d1⟩,⟨o2,e2,c2,d2⟩⟩:=st;simp at hc;rcases hc with q|q|q|q|q
  .rw[q];exact⟨_,hz,fun v z=>by cases z⟩
  .rw[q];exact⟨_,hTI,fun v z=>by cases z⟩
  .rw[q];exact⟨_,hTO,fun v z=>by cases z⟩
  .rw[q];exact⟨_,e1,fun v z=>by rw[d1]at z;cases z⟩
  .rw[q];exact⟨_,e2,fun v z=>by rw[d2]at z;cases z⟩
 keep:=fun i h h' st k=>by obtain⟨hz,hTI,⟨u,v,hTO⟩,⟨o1,e1,c1⟩,⟨o2,e2,c2⟩⟩:=st;exact⟨k z (by simp) _ hz,k TI (by simp) _ hTI,⟨u,v,k TO (by simp) _ hTO⟩,⟨o1,k i1 (by simp) _ e1,c1⟩,⟨o2,k i2 (by simp) _ e2,c2⟩⟩
 item:=by
  intro X hP hw hK hc i pins s σ H E I hf st hg;subst hP hw hK;obtain⟨hz,hTI,⟨u,v,hTO⟩,h1,h2⟩:=st;obtain⟨xs,ys,x,y,hxs,hys,hx,hy⟩:=hg;obtain⟨its,rv,p,_⟩:=I.list hxs;obtain⟨itt,rw',p',_⟩:=I.list hys;obtain⟨ux,hux,rux⟩:=rv.get hx;obtain⟨uy,huy,ruy⟩:=rw'.get hy;obtain⟨d1,d2,d3,d4,d5,d6,d7,d8,d9,d10⟩:=D;have Da:∀{l:Addr}{its:Array Value},s.heap.IsList l its->l≠z/\l≠TO/\l≠i1/\l≠i2:=fun{l its} hl=>by obtain⟨o,e,c,_⟩:=hl;obtain⟨o1,e1,c1,_⟩:=id h1;obtain⟨o2,e2,c2,_⟩:=id h2;exact⟨z28 e hz c rfl (by decide),z28 e hTO c rfl (by decide),z28 e e1 c c1 (by decide),z28 e e2 c c2 (by decide)⟩
  obtain⟨a1,a2,a3,a4⟩:=Da p.isList;obtain⟨b1,b2,b3,b4⟩:=Da p'.isList;refine wpAny_pyNext_zip_item ⟨d1,d2,d3,d4,d5,d6,d7,d8,d9,d10,a1,a2,a3,a4,b1,b2,b3,b4⟩ hz hTI hTO h1 h2 p.isList p'.isList (x:=ux) (y:=uy) (by simpa using hux) (by simpa using huy) fun h' q1 q2 q3 q4 q5 q6 hk=>?_;refine⟨_,rfl,wpAny_letOwnedTupleGo_zip q1 fun h2' hz2 hs2=>?_⟩;have zlt:z<s.heap.objs.size:=y0k hz;have kk:∀c o,c∉[z,TO,i1,i2]->s.heap.get? c=some o->h2'.get? c=some o:=fun c o hc q=>by simp at hc;exact(hs2.2 c hc.1).trans (hk c o hc.1 hc.2.1 hc.2.2.1 hc.2.2.2 q)
  have sub:∀c∈[z,TO,i1,i2],c∈[z,TI,TO,i1,i2]:=fun c hc=>by simp at hc⊢;rcases hc with q|q|q|q<;>simp[q]
  have I1:Inv X pins σ (upd H s.heap.objs.size (.tup [x,y])) { s with heap:=h2',toks:=s.toks }:=by refine I.turnedNew (ch:=[z,TO,i1,i2]) kk (y0b _) ?_ (fun c hc=>hf c (sub c hc));exact⟨by show 2<=sizeLine;decide,[ux,uy],0,.cons rux (.cons ruy .nil),(hs2.2 _ (y2E zlt)).trans q5⟩
  have up:∀{c:Addr}{o:Obj},c≠z->h'.get? c=some o->h2'.get? c=some o:=fun{c o} hc q=>(hs2.2 c hc).trans q;obtain⟨o3,e3,c3⟩:=q3;obtain⟨o4,e4,c4⟩:=q4;refine⟨.ref s.heap.objs.size,_,I1,rfl,⟨s.heap.objs.size,x,y,rfl,I.fresh,fun zs hz'=>by rw[I.list_inj hz' hxs];exact hx,fun zs hz'=>by rw[I.list_inj hz' hys];exact hy,rfl⟩,⟨hz2,?_,⟨_,_,up d2 q2⟩,⟨o3,up d3 e3,c3⟩,⟨o4,up d4 e4,c4⟩⟩,fun c hc=>?_⟩
  .exact up d1 (hk TI _ d1 d5 d6 d7 hTI)
  .have c0:=(hf c hc).1;have lt:c<s.heap.objs.size:=by
    obtain⟨o1,e1,_⟩:=id h1;obtain⟨o2,e2,_⟩:=id h2;simp at hc;rcases hc with q|q|q|q|q
    .rw[q];exact zlt
    .rw[q];exact y0k hTI
    .rw[q];exact y0k hTO
    .rw[q];exact y0k e1
    .rw[q];exact y0k e2
   rw[z07 (y0u lt)];exact c0
 done:=by
  intro X hP hw hK hc i pins s σ H E I hf st hg;subst hP hw hK;obtain⟨hz,hTI,⟨u,v,hTO⟩,h1,h2⟩:=st;obtain⟨xs,ys,hxs,hys,hx⟩:=hg;obtain⟨its,rv,p,_⟩:=I.list hxs;obtain⟨itt,rw',p',_⟩:=I.list hys;obtain⟨d1,d2,d3,d4,d5,d6,d7,d8,d9,d10⟩:=D;have Da:∀{l:Addr}{its:Array Value},s.heap.IsList l its->l≠z/\l≠TO/\l≠i1/\l≠i2:=fun{l its} hl=>by obtain⟨o,e,c,_⟩:=hl;obtain⟨o1,e1,c1,_⟩:=id h1;obtain⟨o2,e2,c2,_⟩:=id h2;exact⟨z28 e hz c rfl (by decide),z28 e hTO c rfl (by decide),z28 e e1 c c1 (by decide),z28 e e2 c c2 (by decide)⟩
  obtain⟨a1,a2,a3,a4⟩:=Da p.isList;obtain⟨b1,b2,b3,b4⟩:=Da p'.isList;have l1:=rv.length;have l2:=rw'.length;refine wpAny_pyNext_zip_end (I.ok.hd hc) ⟨d1,d2,d3,d4,d5,d6,d7,d8,d9,d10,a1,a2,a3,a4,b1,b2,b3,b4⟩ hz hTI hTO h1 h2 p.isList p'.isList ?_ fun h' hk=>⟨rfl,?_⟩
  .rcases hx with q|q
   .left;simp;lia
   .right;simp;lia
  .refine I.turnedL (ch:=[z,TO,i1,i2]) (t':=s.toks) (fun c o hcc q=>?_) (fun c hcc=>hf c ?_)
   .simp at hcc;exact hk c o hcc.1 hcc.2.1 hcc.2.2.1 hcc.2.2.2 q
   .simp at hcc⊢;rcases hcc with q|q|q|q<;>simp[q]
 self:=fun A i s Q E st h=>y3U st.1 h
def zia(K:yyF)(ta:TA):TI:=fun σ H R=>ta σ H fun vs H1=>∃a b:Addr,vs=[.ref a,.ref b]/\(∃xs,SqL K H1 a xs)/\(∃ys,SqL K H1 b ys)/\R (Itz K a b) H1
def zeE{a b:Expr}{ta:TA}{p pos:Pos}(hg:Gl X "zip")(hm:X.mg "zip"=none)(ha:PA X [a,b] ta)(hs:starEach [a,b] X.env=[(false,eval a X.env),(false,eval b X.env)]:=by rfl)(hs2:starEach [b] X.env=[(false,eval b X.env)]:=by rfl) : PI X (.Tuple elts tk tp) (.Call (.Name "zip" p) [a,b] [] pos) (zia X.K ta):=by
 intro pins s σ H R I h;refine Call_ (z64 I hg hm boot_zip (y1O (thn (ha pos pins s σ H _ I h) fun us s1 hz8=>?_) (by rw[hs,hs2]) (by rw[hs2];rfl)));obtain⟨vs,H1,I1,r1,q1⟩:=hz8;obtain⟨a,b,e,⟨xs,hq⟩,⟨ys,hq'⟩,q⟩:=q1;subst e;obtain⟨u,v,rfl,ru,rv'⟩:=zbm r1;cases ru;cases rv';obtain⟨its,rv,pl,hz⟩:=I1.list hq;obtain⟨its2,rv2,pl2,hz2⟩:=I1.list hq';refine call_zip_2 pl.isList pl2.isList fun h' z1 z2 z3 z4 z5 z6 hk=>y3U z1 ?_;have I2:Inv X pins σ H1 { s1 with heap:=h' }:=I1.kept (t':=s1.toks) hk;refine⟨s1.heap.objs.size+4,[s1.heap.objs.size+4,s1.heap.objs.size+2,s1.heap.objs.size+3,s1.heap.objs.size,s1.heap.objs.size+1],_,_,H1,rfl,I2,
  zdT a b (s1.heap.objs.size+4) (s1.heap.objs.size+2) (s1.heap.objs.size+3) s1.heap.objs.size (s1.heap.objs.size+1) (by refine⟨?_,?_,?_,?_,?_,?_,?_,?_,?_,?_⟩<;>(show @Ne Nat _ _;lia)),⟨z1,z2,⟨_,_,z3⟩,z4,z5⟩,fun c hb=>?_,q⟩
 have hb':s1.heap.objs.size<=c:=by simp only[y0j,y1o,y3r]at hb;rcases hb with q|q|q|q|q<;>(have q:@Eq Nat c _:=q;lia)
 exact I1.fpOk hb' (I1.hok.fresh hb')
end
def zfs{K:yyF}{a b:Addr}{xs ys:List V}{g:TG}{tb:TS}{D:z46}{σ:St}{H:Hp}(hlen:xs.length=ys.length)(Pv:Nat->St->Hp->Prop)(h0:Pv 0 σ H)(hl:∀i σ H,i<=xs.length->Pv i σ H->SqL K H a xs/\SqL K H b ys)(hs:∀i x y p σ H,xs[i]?=some x->ys[i]?=some y->Pv i σ H->H p=none->g (.ref p) σ (upd H p (.tup [x,y])) fun σ2 H2=>tb { D with nx:=Pv (i+1),ct:=Pv (i+1),bk:=D.nx } σ2 H2)(hd:∀σ H,Pv xs.length σ H->D.nx σ H) : ∃W:Nat->Nat->St->Hp->Prop,(∃m,W 0 m σ H)/\∀i m σ H,W i m σ H -> ((Itz K a b).stop i H/\D.nx σ H)\/((Itz K a b).go i H/\∃N:St->Hp->Prop,(∀σ' H',N σ' H'->∃m',m'<m/\W (i+1) m' σ' H')/\∀x H',(Itz K a b).yld i H x H'->g x σ H' fun σ2 H2=>tb { D with nx:=N,ct:=N,bk:=D.nx } σ2 H2):=by
 refine⟨fun i m σ H=>m=xs.length-i/\i<=xs.length/\Pv i σ H,⟨xs.length,by simp,y0K _,h0⟩,?_⟩;rintro i m σ H ⟨rfl,hi,p⟩;obtain⟨q,q'⟩:=hl i σ H hi p;by_cases hlt:i<xs.length
 .refine .inr ⟨⟨xs,ys,xs[i],ys[i]'(by lia),q,q',by simp[hlt],by simp[show i<ys.length by lia]⟩,Pv (i+1),fun σ' H' p'=>⟨xs.length-(i+1),by lia,rfl,hlt,p'⟩,fun x H' y=>?_⟩;obtain⟨c,z,z',rfl,hb,hz,hz',rfl⟩:=y;exact hs i z z' c σ H (hz xs q) (hz' ys q') p hb
 .have e:i=xs.length:=by lia
  subst e;exact .inl ⟨⟨xs,ys,q,q',.inl (y0b _)⟩,hd σ H p⟩
def zdZ{K:yyF}{a b l:Addr}{xs zs:List V}{ix:List (Option Nat)}{g:TG}{te:TE}{σ:St}{H0:Hp}{Qe:Hp->Prop}(hlen:xs.length=zs.length)(Pv:Nat->List V->Hp->Prop)(h0:Pv 0 [] H0)(hl:∀i ys H,i<=xs.length->Pv i ys H->SqL K H a xs/\SqL K H b zs)(hz:xs.length<=sizeLine)(hn:∀i ys H,Pv i ys H->ys.length=i)(hs:∀i x y p ys H,xs[i]?=some x->zs[i]?=some y->Pv i ys H->H l=some (.lst ys)->H p=none->g (.ref p) (z1t ix σ) (upd H p (.tup [x,y])) fun σ2 H2=>te σ2 H2 fun v H3=>H3 l=some (.lst ys)/\Pv (i+1) (ys++[v]) (upd H3 l (.lst (ys++[v]))))(hd:∀ys H,Pv xs.length ys H->H l=some (.lst ys)->Qe H):z6q ix (Itz K a b) g te σ l H0 Qe:=by refine z5e (n:=xs.length) Pv h0 (fun i ys H hi p hy=>?_) fun ys H p hy=>⟨⟨xs,zs,(hl _ ys H (y0b _) p).1,(hl _ ys H (y0b _) p).2,.inl (y0b _)⟩,hd ys H p hy⟩;obtain⟨q,q'⟩:=hl i ys H (y1p hi) p;refine⟨⟨xs,zs,xs[i],zs[i]'(by lia),q,q',by simp[hi],by simp[show i<zs.length by lia]⟩,by rw[hn i ys H p];exact y0r hi hz,fun x H' y=>?_⟩;obtain⟨c,z,z',rfl,hb,hz,hz',rfl⟩:=y;exact hs i z z' c ys H (hz xs q) (hz' zs q') p hy hb
inductive D where
 |non|bl (b:Bool)|int (i:Int)|str (x:Str)|tup (ds:List D)|lst (ds:List D)
mutual
def Dr(K:yyF)(H:Hp):D->V->Prop
 |.non,v=>v=.non
 |.bl b,v=>v=.bl b
 |.int i,v=>v=.int i
 |.str x,v=>v=.str x
 |.tup ds,v=>∃(a:Addr)(vs:List V),v=.ref a/\H a=some (.tup vs)/\DrL K H ds vs
 |.lst ds,v=>∃(a:Addr)(vs:List V),v=.ref a/\SqL K H a vs/\DrL K H ds vs
def DrL(K:yyF)(H:Hp):List D->List V->Prop
 |[],vs=>vs=[]
 |d::ds,vs=>∃v r,vs=v::r/\Dr K H d v/\DrL K H ds r
end
def z0c.tupl{K:yyF}{H H':Hp}{a:Addr}{xs:List V}(s:z0c H H')(h:SqT K H a xs):SqT K H' a xs:=by
 rcases h with(h|⟨o,h⟩)|h
 .exact .inl (.inl (s _ _ h))
 .exact .inl (.inr ⟨o,s _ _ h⟩)
 .exact .inr h
mutual
theorem Dr.mono{K:yyF}{H H':Hp}(s:z0c H H'):∀{d:D}{v:V},Dr K H d v->Dr K H' d v
 |.non,_,h=>by simp only[Dr]at h⊢;exact h
 |.bl _,_,h=>by simp only[Dr]at h⊢;exact h
 |.int _,_,h=>by simp only[Dr]at h⊢;exact h
 |.str _,_,h=>by simp only[Dr]at h⊢;exact h
 |.tup ds,_,h=>by
  simp only[Dr]at h⊢;obtain⟨a,vs,e,q,r⟩:=h;exact⟨a,vs,e,s _ _ q,DrL.mono s r⟩
 |.lst ds,_,h=>by simp only[Dr]at h⊢;obtain⟨a,vs,e,q,r⟩:=h;exact⟨a,vs,e,s.seq q,DrL.mono s r⟩
theorem DrL.mono{K:yyF}{H H':Hp}(s:z0c H H'):∀{ds:List D}{vs:List V},DrL K H ds vs->DrL K H' ds vs
 |[],_,h=>by simp only[DrL]at h⊢;exact h
 |d::ds,_,h=>by simp only[DrL]at h⊢;obtain⟨v,r,e,q,q'⟩:=h;exact⟨v,r,e,Dr.mono s q,DrL.mono s q'⟩
end
theorem DrL.length{K:yyF}{H:Hp}:∀{ds:List D}{vs:List V},DrL K H ds vs->ds.length=vs.length
 |[],_,h=>by simp only[DrL]at h;subst h;rfl
 |d::ds,_,h=>by simp only[DrL]at h;obtain⟨v,r,rfl,_,q⟩:=h;rw[y0N,y0N,DrL.length q]
theorem DrL.get{K:yyF}{H:Hp}:∀{ds:List D}{vs:List V}{i:Nat}{d:D},DrL K H ds vs->ds[i]?=some d->∃v,vs[i]?=some v/\Dr K H d v
 |[],_,_,_,_,e=>by simp at e
 |d::ds,_,0,_,h,e=>by
  simp only[DrL]at h;obtain⟨v,r,rfl,q,_⟩:=h;simp at e;subst e;exact⟨v,rfl,q⟩
 |d::ds,_,i+1,d',h,e=>by simp only[DrL]at h;obtain⟨v,r,rfl,_,q⟩:=h;obtain⟨v',h1,h2⟩:=DrL.get (i:=i) q (by simpa using e);exact⟨v',by simpa using h1,h2⟩
theorem DrL.append{K:yyF}{H:Hp}:∀{ds es:List D}{vs us:List V},DrL K H ds vs->DrL K H es us->DrL K H (ds++es) (vs++us)
 |[],_,_,_,h,h'=>by simp only[DrL]at h;subst h;exact h'
 |d::ds,es,_,us,h,h'=>by simp only[DrL]at h;obtain⟨v,r,rfl,q,q'⟩:=h;show DrL K H (d::(ds++es)) (v::(r++us));simp only[DrL];exact⟨v,_,rfl,q,DrL.append q' h'⟩
def DrL.one{K:yyF}{H:Hp}{d:D}{v:V}(h:Dr K H d v):DrL K H [d] [v]:=by simp only[DrL];exact⟨v,[],rfl,h,rfl⟩
def DrL.nil{K:yyF}{H:Hp}:DrL K H [] []:=by simp only[DrL]
def DrL.cons{K:yyF}{H:Hp}{d:D}{v:V}{ds:List D}{vs:List V}(h:Dr K H d v)(h':DrL K H ds vs):DrL K H (d::ds) (v::vs):=by simp only[DrL];exact⟨v,vs,rfl,h,h'⟩
theorem DrL.ints{K:yyF}{H:Hp}:∀(ns:List Int),DrL K H (ns.map D.int) (ns.map V.int)
 |[]=>DrL.nil
 |n::r=>DrL.cons (by simp only[Dr]) (DrL.ints r)
theorem DrL.ints_inv{K:yyF}{H:Hp}:∀{ns:List Int}{vs:List V},DrL K H (ns.map D.int) vs->vs=ns.map V.int
 |[],_,h=>by simp only[y19,DrL]at h;rw[h];rfl
 |n::r,_,h=>by simp only[y0m,DrL]at h;obtain⟨v,w,rfl,q,q'⟩:=h;simp only[Dr]at q;subst q;rw[DrL.ints_inv q',y0m]
theorem Dr.tup{K:yyF}{H:Hp}{a:Addr}{ds:List D}{vs:List V}(h:H a=some (.tup vs))(r:DrL K H ds vs):Dr K H (.tup ds) (.ref a):=by simp only[Dr];exact⟨a,vs,rfl,h,r⟩
theorem Dr.lst{K:yyF}{H:Hp}{a:Addr}{ds:List D}{vs:List V}(h:H a=some (.lst vs))(r:DrL K H ds vs):Dr K H (.lst ds) (.ref a):=by simp only[Dr];exact⟨a,vs,rfl,SqL.of h,r⟩
theorem Dr.int{K:yyF}{H:Hp}(i:Int):Dr K H (.int i) (.int i):=by simp only[Dr]
abbrev D.its(ns:List Int):D:=.tup (ns.map D.int)
open PySem PySem.Spec PyProof.Rows
open PySem.SeqAt
mutual
def D.eq:D->D->Bool
 |.non,.non=>true
 |.bl a,.bl b=>a==b
 |.int i,.int j=>i==j
 |.str x,.str y=>decide (x=y)
 |.tup a,.tup b=>D.eqL a b
 |.lst a,.lst b=>D.eqL a b
 |_,_=>false
def D.eqL:List D->List D->Bool
 |[],[]=>true
 |d::ds,e::es=>D.eq d e&&D.eqL ds es
 |_,_=>false
end
mutual
def D.ok:D->D->Prop
 |.non,.non=>True
 |.bl _,.bl _=>True
 |.int _,.int _=>True
 |.str _,.str _=>True
 |.tup a,.tup b=>D.okL a b
 |.lst a,.lst b=>D.okL a b
 |_,_=>False
def D.okL:List D->List D->Prop
 |d::ds,e::es=>D.ok d e/\D.okL ds es
 |_,_=>True
end
mutual
def D.dep:D->Nat
 |.tup a=>D.depL a+1
 |.lst a=>D.depL a+1
 |_=>0
def D.depL:List D->Nat
 |[]=>0
 |d::ds=>max (D.dep d) (D.depL ds)
end
mutual
theorem D.eq_refl:∀d:D,D.eq d d=true
 |.non=>by simp only[D.eq]
 |.bl b=>by simp only[D.eq,beq_self_eq_true]
 |.int i=>by simp only[D.eq,beq_self_eq_true]
 |.str x=>by simp only[D.eq,decide_true]
 |.tup a=>by simp only[D.eq];exact D.eqL_refl a
 |.lst a=>by simp only[D.eq];exact D.eqL_refl a
theorem D.eqL_refl:∀ds:List D,D.eqL ds ds=true
 |[]=>by simp only[D.eqL]
 |d::ds=>by simp only[D.eqL,D.eq_refl d,D.eqL_refl ds,Bool.and_self]
end
mutual
theorem D.eq_of:∀{d e:D},D.eq d e=true->d=e
 |.non,e,h=>by cases e<;>simp only[D.eq,y0n]at h<;>rfl
 |.bl b,e,h=>by cases e<;>simp only[D.eq,y0n,y3k]at h;rw[h]
 |.int b,e,h=>by cases e<;>simp only[D.eq,y0n,y3k]at h;rw[h]
 |.str b,e,h=>by cases e<;>simp only[D.eq,y0n,decide_eq_true_eq]at h;rw[h]
 |.tup b,e,h=>by
  cases e<;>simp only[D.eq,y0n]at h;rw[D.eqL_of h]
 |.lst b,e,h=>by cases e<;>simp only[D.eq,y0n]at h;rw[D.eqL_of h]
theorem D.eqL_of:∀{d e:List D},D.eqL d e=true->d=e
 |[],e,h=>by cases e<;>simp only[D.eqL,y0n]at h;rfl
 |d::ds,e,h=>by cases e<;>simp only[D.eqL,y0n,y3b]at h;rw[D.eq_of h.1,D.eqL_of h.2]
end
theorem D.okL_get:∀{ds es:List D}{j:Nat}{d e:D},D.okL ds es->ds[j]?=some d->es[j]?=some e->D.ok d e
 |[],_,_,_,_,_,h,_=>by simp at h
 |_::_,[],_,_,_,_,_,h=>by simp at h
 |_::_,_::_,0,_,_,h,h1,h2=>by
  simp only[D.okL]at h;simp at h1 h2;subst h1 h2;exact h.1
 |_::_,_::_,j+1,_,_,h,h1,h2=>by simp only[D.okL]at h;exact D.okL_get h.2 (by simpa using h1) (by simpa using h2)
theorem D.depL_get:∀{ds:List D}{j:Nat}{d:D},ds[j]?=some d->D.dep d<=D.depL ds
 |[],_,_,h=>by simp at h
 |_::_,0,_,h=>by
  simp at h;subst h;simp only[D.depL];exact Nat.le_max_left _ _
 |_::ds,j+1,_,h=>by simp only[D.depL];exact y0Q (D.depL_get (ds:=ds) (j:=j) (by simpa using h)) (Nat.le_max_right _ _)
def D.at_(ds es:List D)(j:Nat):Bool:=match ds[j]?,es[j]? with|some d,some e=>D.eq d e|_,_=>true
theorem D.all_eqL:∀(ds es:List D),(((List.range (min ds.length es.length)).all (D.at_ ds es))&&ds.length==es.length)=D.eqL ds es
 |[],[]=>by simp[D.eqL]
 |[],e::es=>by simp[D.eqL]
 |d::ds,[]=>by simp[D.eqL]
 |d::ds,e::es=>by
  have ih:=D.all_eqL ds es;simp only[D.eqL];rw[<-ih];have e1:min (d::ds).length (e::es).length=min ds.length es.length+1:=by simp only[y0N];lia
  rw[e1,List.range_succ_eq_map,List.all_cons,List.all_map,Bool.and_assoc];have e2:D.at_ (d::ds) (e::es) 0=D.eq d e:=by simp[D.at_]
  have e3:(D.at_ (d::ds) (e::es)∘Nat.succ)=D.at_ ds es:=by funext j;simp[D.at_]
  have e4:((d::ds).length==(e::es).length)=(ds.length==es.length):=by simp
  rw[e2,e3,e4]
def D.all_eqL'{ds es:List D}(h:ds.length=es.length):(List.range ds.length).all (D.at_ ds es)=D.eqL ds es:=by
 rw[<-D.all_eqL ds es];have:min ds.length es.length=ds.length:=by lia
 rw[this];simp[h]
def D.eqL_len{ds es:List D}(h:ds.length≠es.length):D.eqL ds es=false:=by
 rw[<-D.all_eqL ds es];have:(ds.length==es.length)=false:=by simpa using h
 rw[this,Bool.and_false]
section
variable{X:Cx}{pins:yyP}{σ:St}{H:Hp}{s:Shared}
mutual
theorem Dr.inj(I:Inv X pins σ H s):∀{d e:D}{v:V},Dr X.K H d v->Dr X.K H e v->D.ok d e->d=e
 |.non,e,v,h,h',o=>by cases e<;>simp only[D.ok]at o<;>rfl
 |.bl b,e,v,h,h',o=>by
  cases e<;>simp only[D.ok]at o;simp only[Dr]at h h';rw[h]at h';cases h';rfl
 |.int b,e,v,h,h',o=>by
  cases e<;>simp only[D.ok]at o;simp only[Dr]at h h';rw[h]at h';cases h';rfl
 |.str b,e,v,h,h',o=>by
  cases e<;>simp only[D.ok]at o;simp only[Dr]at h h';rw[h]at h';cases h';rfl
 |.tup ds,e,v,h,h',o=>by
  cases e<;>simp only[D.ok]at o;simp only[Dr]at h h';obtain⟨a,vs,rfl,q,r⟩:=h;obtain⟨b,us,eq,q',r'⟩:=h';cases eq;have:=I.tuple_inj (SqT.of q) (SqT.of q');subst this;rw[DrL.inj I r r' o]
 |.lst ds,e,v,h,h',o=>by cases e<;>simp only[D.ok]at o;simp only[Dr]at h h';obtain⟨a,vs,rfl,q,r⟩:=h;obtain⟨b,us,eq,q',r'⟩:=h';cases eq;have:=I.list_inj q q';subst this;rw[DrL.inj I r r' o]
theorem DrL.inj(I:Inv X pins σ H s):∀{ds es:List D}{vs:List V},DrL X.K H ds vs->DrL X.K H es vs->D.okL ds es->ds=es
 |[],[],_,_,_,_=>rfl
 |[],_::_,_,h,h',_=>by
  simp only[DrL]at h h';obtain⟨_,_,e,_⟩:=h';rw[h]at e;cases e
 |_::_,[],_,h,h',_=>by
  simp only[DrL]at h h';obtain⟨_,_,e,_⟩:=h;rw[h']at e;cases e
 |d::ds,e::es,_,h,h',o=>by simp only[DrL]at h h';simp only[D.okL]at o;obtain⟨v,r,rfl,q,q'⟩:=h;obtain⟨u,w,eq,p,p'⟩:=h';cases eq;rw[Dr.inj I q p o.1,DrL.inj I q' p' o.2]
end
def zgc(I:Inv X pins σ H s):∀(n:Nat)(A:Around){d e:D}{x y:V}{v u:Value},D.dep d<=n->A.units+n<cLine->Dr X.K H d x->Dr X.K H e y->D.ok d e->z1i x v->z1i y u->EqAt A s v u (D.eq d e)/\(∀l b,x=.ref l->y=.ref b->RcAt A s v u (D.eq d e)):=by
 intro n;induction n with
 |zero =>
  intro A d e x y v u hd hu hx hy o rx ry;cases d<;>cases e<;>simp only[D.ok]at o<;>simp only[D.dep,Nat.le_zero,y3f,y44,and_false]at hd
  .simp only[Dr]at hx hy;subst hx hy;cases rx;cases ry;exact⟨EqAt.same _,fun _ _ h=>nomatch h⟩
  .rename_i a b;simp only[Dr]at hx hy;subst hx hy;cases rx;cases ry;simp only[D.eq];exact⟨EqAt.bool_bool _ _,fun _ _ h=>nomatch h⟩
  .rename_i a b;simp only[Dr]at hx hy;subst hx hy;obtain⟨t,rfl⟩:=rx;obtain⟨t',rfl⟩:=ry;simp only[D.eq];exact⟨fun prog w E Q h=>wpAny_eqBool_int h,fun _ _ h=>nomatch h⟩
  .rename_i a b;simp only[Dr]at hx hy;subst hx hy;obtain⟨t,rfl⟩:=rx;obtain⟨t',rfl⟩:=ry;simp only[D.eq];exact⟨fun prog w E Q h=>wpAny_eqBool_str h,fun _ _ h=>nomatch h⟩
 |succ n ih =>
  intro A d e x y v u hd hu hx hy o rx ry;have flat:D.dep d<=0->EqAt A s v u (D.eq d e)/\(∀l b,x=.ref l->y=.ref b->RcAt A s v u (D.eq d e)):=fun z=>ih A (y0Q z (y0K _)) (by lia) hx hy o rx ry;have hin:A.in1.units+n<cLine:=by show A.units+1+n<cLine;lia
  have both:∀{l b:Addr}{k:Bool},RcAt A s (.ref l) (.ref b) k->(l=b->k=true)->EqAt A s (.ref l) (.ref b) k:=fun{l b k} h hk=>by
   by_cases e:l=b
   .have z:=hk e;subst e;rw[z];exact EqAt.same _
   .exact EqAt.of_refs e h
  have items:∀{ds es:List D}{vs us:List V}{its itt:List Value},D.depL ds<=n->D.okL ds es->DrL X.K H ds vs->DrL X.K H es us->z0T vs its->z0T us itt->∀j (h1:j<its.toArray.size) (h2:j<itt.toArray.size),EqAt A.in1 s its.toArray[j] itt.toArray[j] (D.at_ ds es j):=by
   intro ds es vs us its itt hdp hok r r' rv rv' j h1 h2;have l1:=rv.length;have l2:=rv'.length;have l3:=r.length;have l4:=r'.length;have h1':j<its.length:=by simpa using h1
   have h2':j<itt.length:=by simpa using h2
   have e1:ds[j]?=some ds[j]:=y00 (by lia);have e2:es[j]?=some es[j]:=y00 (by lia);obtain⟨x1,g1,d1⟩:=r.get e1;obtain⟨x2,g2,d2⟩:=r'.get e2;obtain⟨u1,k1,q1⟩:=rv.get g1;obtain⟨u2,k2,q2⟩:=rv'.get g2;have z1:u1=its.toArray[j]:=by rw[y00 h1']at k1;have:=y08 k1;simpa using this.symm
   have z2:u2=itt.toArray[j]:=by rw[y00 h2']at k2;have:=y08 k2;simpa using this.symm
   have z3:D.at_ ds es j=D.eq ds[j] es[j]:=by unfold D.at_;rw[e1,e2]
   rw[z3,<-z1,<-z2];exact(ih A.in1 (y0Q (D.depL_get e1) hdp) hin d1 d2 (D.okL_get hok e1 e2) q1 q2).1
  cases d with
  |non=>exact flat (y0b _)
  |bl _=>exact flat (y0b _)
  |int _=>exact flat (y0b _)
  |str _=>exact flat (y0b _)
  |tup ds =>
   cases e<;>simp only[D.ok]at o;rename_i es;have inj:=fun(q:x=y)=>Dr.inj I hx (q▸hy) (by simp only[D.ok];exact o);have hdp:D.depL ds<=n:=by simp only[D.dep]at hd;lia
   simp only[Dr]at hx hy;obtain⟨l,vs,rfl,q,r⟩:=hx;obtain⟨b,us,rfl,q',r'⟩:=hy;cases rx;cases ry;obtain⟨its,rv,pl,_⟩:=I.tuple (SqT.of q);obtain⟨itt,rv',pl',_⟩:=I.tuple (SqT.of q');have R:RcAt A s (.ref l) (.ref b) (D.eq (.tup ds) (.tup es)):=by
    have z:=RcAt.tuples (A:=A) (e:=D.at_ ds es) pl pl' (by lia) (items hdp o r r' rv rv');have e1:its.toArray.size=ds.length:=by rw[r.length,rv.length];simp
    have e2:itt.toArray.size=es.length:=by rw[r'.length,rv'.length];simp
    rw[e1,e2,D.all_eqL]at z;simp only[D.eq];exact z
   exact⟨both R fun h=>by subst h;have:=inj rfl;rw[this];exact D.eq_refl _,fun _ _ _ _=>R⟩
  |lst ds =>
   cases e<;>simp only[D.ok]at o;rename_i es;have inj:=fun(q:x=y)=>Dr.inj I hx (q▸hy) (by simp only[D.ok];exact o);have hdp:D.depL ds<=n:=by simp only[D.dep]at hd;lia
   simp only[Dr]at hx hy;obtain⟨l,vs,rfl,q,r⟩:=hx;obtain⟨b,us,rfl,q',r'⟩:=hy;cases rx;cases ry;obtain⟨its,rv,pl,_⟩:=I.list q;obtain⟨itt,rv',pl',_⟩:=I.list q';have e1:its.toArray.size=ds.length:=by rw[r.length,rv.length];simp
   have e2:itt.toArray.size=es.length:=by rw[r'.length,rv'.length];simp
   have R:RcAt A s (.ref l) (.ref b) (D.eq (.lst ds) (.lst es)):=by
    by_cases hl:ds.length=es.length
    .have z:=RcAt.lists (A:=A) (e:=D.at_ ds es) pl.isList pl'.isList (by lia) (by lia) (items hdp o r r' rv rv');rw[e1,D.all_eqL' hl]at z;simp only[D.eq];exact z
    .have z:=RcAt.lists_lengths (A:=A) pl.isList pl'.isList (by rw[e1,e2];simpa using hl) (by lia);simp only[D.eq];rw[D.eqL_len hl];exact z
   exact⟨both R fun h=>by subst h;have:=inj rfl;rw[this];exact D.eq_refl _,fun _ _ _ _=>R⟩
end
open PySem PySem.Spec PyProof.Rows PySem.SeqAt
open PySem.AutoSeq1 (wpAny_loadPart')
section
variable{X:Cx}
end
open PySem PySem.Spec PyProof.Rows
section
variable{X:Cx}(K:yyF)
def ixL(h:X.K=K):IxR X (zhX K):=h▸z1s
def ixT(h:X.K=K):IxR X (zis K):=h▸z27
def ziv(h:X.K=K):z2s X (.builtin "len") (fun xs H Q=>∃p ys,xs=[.ref p]/\(SqL K H p ys\/SqT K H p ys)/\Q (.int ys.length) H):=h▸z0d
def zid(h:X.K=K):z2s X (.type "tuple") (fun xs H Q=>∃p ys,xs=[.ref p]/\((SqL K H p ys/\∀l,H l=none->Q (.ref l) (upd H l (.tup ys)))\/(SqT K H p ys/\Q (.ref p) H))):=h▸z0o
def piT{tg l:Expr}{tl:TE}(h:X.K=K)(hl:PE X l tl):PI X tg l (zhZ K tl):=h▸z2r hl
variable{o e:Expr}{es:List Expr}{to:TE}{t:TA}{name:Str}{apos cpos:Pos}{T id:String}{r:V->List V->Hp->VK->Prop}
def zi5(h:X.K=K)(pa:PlainAttrs T)(slot:Slot T name id)(hty:typeOf (.builtin id)=pure (.type "method_descriptor"))(hm:MtR X id r)(ho:PE X o to)(ha:PA X (e::es) t)(hbase:attributeBase o name X.env (eval o X.env)=eval o X.env:=by rfl)(hfew:((backTo cpos (starEach (e::es) X.env)).all (fun x=>!x.1)&&(backToKw cpos (keywordEach [] X.env)).all (fun x=>x.1.isSome)&&decide ((e::es).length+([]:List Keyword).length+(if([]:List Keyword).isEmpty then 0 else 1)<30))=true:=by rfl)(hline:(apos.endLine==cpos.line)=true:=by rfl)(hs:starEach (e::es) X.env=(false,eval e X.env)::starEach es X.env:=by rfl)(hplain:(backTo cpos (starEach es X.env)).any (·.1)=false:=by rfl) : PE X (.Call (.Attribute o name apos) (e::es) [] cpos) (tBM K T r to t):=h▸z2V pa slot hty hm ho ha hbase hfew hline hs hplain
def ziR(h:X.K=K)(hc:X.calm=true):z2s X (.builtin "any") (fun xs H Q=>∃(p:Addr) (bs:List Bool),xs=[.ref p]/\SqL K H p (bs.map V.bl)/\Q (.bl (bs.any _root_.id)) H):=h▸zdw hc
def pgT{es:List Expr}{k:Nat}{t:TGs}{n:Nat}{pos:Pos}(h:X.K=K)(hc:X.calm=true)(hp:PGs X es t)(hn:(assignEach es X.env).length=n:=by rfl)(hst:(assignEach es X.env).findIdx? (·.1)=none:=by rfl):PG X (.Tuple es k pos) (zio K n t):=h▸z2f hc hp hn hst
def zhm{elts:List Expr}{tk:Nat}{tp:Pos}{a b:Expr}{ta:TA}{p pos:Pos}(h:X.K=K)(hg:Gl X "zip")(hm:X.mg "zip"=none)(ha:PA X [a,b] ta)(hs:starEach [a,b] X.env=[(false,eval a X.env),(false,eval b X.env)]:=by rfl)(hs2:starEach [b] X.env=[(false,eval b X.env)]:=by rfl) : PI X (.Tuple elts tk tp) (.Call (.Name "zip" p) [a,b] [] pos) (zia K ta):=h▸zeE hg hm ha hs hs2
end
mutual
def D.few:D->Prop
 |.tup a=>a.length<=5000/\D.fewL a
 |.lst a=>a.length<=5000/\D.fewL a
 |_=>True
def D.fewL:List D->Prop
 |[]=>True
 |d::ds=>D.few d/\D.fewL ds
end
theorem D.depL_ints:∀ns:List Int,D.depL (ns.map D.int)=0
 |[]=>by simp only[y19,D.depL]
 |n::r=>by simp only[y0m,D.depL,D.dep,D.depL_ints r];rfl
end L2
namespace Gu
open PySem L2
def cell(ns:List Int)(i:Nat):Int:=if i<ns.length then ns.getD i 0 else if ns.length=0 then 29*i+5 else ns.getD (i%ns.length) 0%1000003+103*i
def z4c(ns:List Int)(i:Nat):Int:=2+cell ns i%4
def z5X(ns:List Int)(i:Nat):2<=z4c ns i:=by unfold z4c;have:=y2z (cell ns i) (show(4:Int)≠0 by decide);lia
def zaM(ns:List Int)(i:Nat):z4c ns i<=5:=by unfold z4c;have:=y28 (cell ns i) (show(0:Int)<4 by decide);lia
def zeH(ns:List Int)(i:Nat):Nat:=(z4c ns i).toNat
def zfS(ns:List Int)(i:Nat):2<=zeH ns i:=by unfold zeH;have:=z5X ns i;lia
def zeX(ns:List Int)(i:Nat):zeH ns i<=5:=by unfold zeH;have:=zaM ns i;lia
def zdC(ns:List Int)(i:Nat):((zeH ns i:Nat):Int)=2+cell ns i%4:=by unfold zeH;have:=z5X ns i;unfold z4c at *;lia
def z0p(n:Nat):List Int:=(List.range n).map fun(i:Nat)=>(i:Int)
def z0y(n:Nat):(z0p n).length=n:=by simp[z0p]
def z1G{n i:Nat}(h:i<n):(z0p n)[i]?=some (i:Int):=by simp[z0p,h]
def z0L{n:Nat}{x:Int}:x∈z0p n↔0<=x/\x<n:=by
 constructor
 .intro h;obtain⟨i,hi,rfl⟩:=y0a.mp h;have:=y1N.mp hi;lia
 .intro⟨h0,h1⟩;exact y0a.mpr ⟨x.toNat,y1N.mpr (by lia),by lia⟩
def z1h(n:Nat):(z0p n).Nodup:=by unfold z0p;rw[y1b,y1W];exact List.Pairwise.imp (fun h=>by lia) List.nodup_range
def z82(n:Nat):zd7 0 n=(z0p n).map V.int:=by unfold zd7 z0p;rw[y1h];refine y0L fun i _=>?_;simp
theorem z2U:∀(l:List Int)(i:Nat)(h:i<l.length),(l[i]::l.eraseIdx i).Perm l
 |[],_,h=>by simp at h
 |a::r,0,_=>List.Perm.refl _
 |a::r,i+1,h=>by have ih:=z2U r i (by simpa using h);show(r[i]'(by simpa using h)::a::r.eraseIdx i).Perm (a::r);exact(List.Perm.swap _ _ _).trans (ih.cons a)
def zem:Nat->Int->List Int->List Int
 |0,_,_=>[]
 |k+1,p,left=>left.getD (p%(left.length:Int)).toNat 0::zem k (p/(left.length:Int)) (left.eraseIdx (p%(left.length:Int)).toNat)
def zdQ(pick:Int)(n:Nat):List Int:=zem n pick (z0p n)
theorem z86:∀(k:Nat)(p:Int)(left:List Int),left.length=k->(zem k p left).Perm left
 |0,_,left,h=>by
  have:left=[]:=y2H.mp h;subst this;exact List.Perm.refl _
 |k+1,p,left,h=>by
  have hpos:(0:Int)<left.length:=by lia
  have h0:=y2z p (show(left.length:Int)≠0 by lia);have h1:=y28 p hpos;have hi:(p%(left.length:Int)).toNat<left.length:=by lia
  unfold zem;have e:left.getD (p%(left.length:Int)).toNat 0=left[(p%(left.length:Int)).toNat]:=by simp[hi]
  rw[e];have ih:=z86 k (p/(left.length:Int)) (left.eraseIdx (p%(left.length:Int)).toNat) (by rw[y37 hi];lia);exact(ih.cons _).trans (z2U _ _ hi)
def zaO(pick:Int)(n:Nat):(zdQ pick n).Perm (z0p n):=z86 n pick (z0p n) (z0y n)
def IsP(n:Nat)(p:List Int):Prop:=p.Perm (z0p n)
def IsP.len{n:Nat}{p:List Int}(h:IsP n p):p.length=n:=by rw[List.Perm.length_eq h,z0y]
def IsP.nodup{n:Nat}{p:List Int}(h:IsP n p):p.Nodup:=(List.Perm.nodup_iff h).mpr (z1h n)
def IsP.mem{n:Nat}{p:List Int}(h:IsP n p){x:Int}:x∈p↔0<=x/\x<n:=(List.Perm.mem_iff h).trans z0L
def IsP.get{n:Nat}{p:List Int}(h:IsP n p){i:Nat}(hi:i<n):∃x:Int,p[i]?=some x/\0<=x/\x<n:=by have hl:=h.len;refine⟨p[i],y00 (by lia),?_⟩;exact h.mem.mp (y0h (by lia))
def IsP.find{n:Nat}{p:List Int}(h:IsP n p){x:Int}(h0:0<=x)(h1:x<n):∃j:Nat,j<n/\p[j]?=some x/\∀m,m<j->p[m]?≠some x:=by
 obtain⟨j,hj,e⟩:=y17 (h.mem.mpr ⟨h0,h1⟩);have hl:=h.len;have ej:p[j]?=some x:=by rw[y00 hj,e]
 refine⟨j,by lia,ej,fun m hm q=>?_⟩;have hml:m<p.length:=by lia
 rw[y00 hml]at q;have q':p[m]=p[j]:=by rw[e];exact y08 q
 have:=(y3Q h.nodup).mp q';lia
def z5B(one other:List Int):List Int:=one.map fun x=>other.getD x.toNat 0
def z2G(p:List Int):List Int:=(z0p p.length).map fun k=>((p.idxOf k:Nat):Int)
def zfd{n:Nat}{p ys:List Int}(h:IsP n p)(hl:ys.length=n)(hy:∀(m:Nat)(x:Int),p[m]?=some x->ys[x.toNat]?=some (m:Int)):ys=z2G p:=by
 unfold z2G;rw[h.len];refine y1X fun k=>?_;by_cases hk:k<n
 .obtain⟨j,hj,ej,hm⟩:=h.find (x:=(k:Int)) (by lia) (by lia);have:=hy j k ej;simp only[y0l]at this;rw[this,y04,z1G hk];have hjl:j<p.length:=by rw[h.len];exact hj
  have e1:p[j]=(k:Int):=by rw[y00 hjl]at ej;exact y08 ej
  have e2:p.idxOf (k:Int)=j:=by rw[<-e1];exact List.Nodup.idxOf_getElem h.nodup j hjl
  simp[e2]
 .rw[y0I (by lia),y0I (by rw[y01,z0y];lia)]
def z9p{n:Nat}{p:List Int}(h:IsP n p){m:Nat}{x:Int}(e:p[m]?=some x):(z2G p)[x.toNat]?=some (m:Int):=by
 have hm:m<p.length:=(y06.mp e).1;have e1:p[m]=x:=by rw[y00 hm]at e;exact y08 e
 have hx:=h.mem.mp (e1▸y0h hm);unfold z2G;rw[y04,z1G (n:=p.length) (i:=x.toNat) (by rw[h.len];lia)];have e2:((x.toNat:Nat):Int)=x:=by lia
 have e3:p.idxOf x=m:=by rw[<-e1];exact List.Nodup.idxOf_getElem h.nodup m hm
 simp[e2,e3]
def z9j{p:List Int}:(z2G p).length=p.length:=by simp[z2G,z0y]
def zcm{n:Nat}{p:List Int}(h:IsP n p):z5B p (z2G p)=z0p n:=by
 refine y1X fun m=>?_;unfold z5B;rw[y04];by_cases hm:m<n
 .have hml:m<p.length:=by rw[h.len];exact hm
  have e:p[m]?=some p[m]:=y00 hml;rw[e,z1G hm];have:=z9p h e;simp[this]
 .rw[y0I (by rw[h.len];lia),y0I (by rw[z0y];lia)];rfl
end Gu
namespace L2
open PySem PySem.Spec PyProof.Rows PySem.SeqAt
instance:DecidableEq D:=fun a b=>if h:D.eq a b=true then isTrue (D.eq_of h)else isFalse fun e=>h (by rw[e];exact D.eq_refl b)
def D.dec(a b:D):decide (a=b)=D.eq a b:=by
 by_cases h:D.eq a b=true
 .rw[y11 (D.eq_of h),h]
 .rw[y0Z (fun e=>h (by rw[e];exact D.eq_refl b)),y14.mpr h]
mutual
def Hd(h:Heap):D->Value->Prop
 |.int i,v=>∃t,v=.int i t
 |.tup ds,v=>∃(a:Addr) (o:Obj) (its:Array Value) (n:Nat),v=.ref a/\h.get? a=some o/\o.cls=.type "tuple"/\o.data=.seq its n/\HdL h ds its.toList
 |_,_=>False
def HdL(h:Heap):List D->List Value->Prop
 |[],vs=>vs=[]
 |d::ds,vs=>∃v r,vs=v::r/\Hd h d v/\HdL h ds r
end
mutual
def D.hash:D->Int
 |.int i=>hashInt i
 |.tup ds=>reduceHash (Builtin.Tuple.tupleHashOf (D.hashL ds))
 |_=>0
def D.hashL:List D->List Int
 |[]=>[]
 |d::ds=>D.hash d::D.hashL ds
end
mutual
def D.draws:D->Nat
 |.tup ds=>D.drawsL ds+1
 |_=>1
def D.drawsL:List D->Nat
 |[]=>0
 |d::ds=>D.draws d+D.drawsL ds
end
theorem D.hashL_app:∀a b:List D,D.hashL (a++b)=D.hashL a++D.hashL b
 |[],b=>by simp only[y1Q,D.hashL]
 |d::a,b=>by simp only[List.cons_append,D.hashL,D.hashL_app a b]
theorem D.drawsL_app:∀a b:List D,D.drawsL (a++b)=D.drawsL a+D.drawsL b
 |[],b=>by simp only[y1Q,D.drawsL,y2Y]
 |d::a,b=>by simp only[List.cons_append,D.drawsL,D.drawsL_app a b,y3s]
theorem HdL.length{h:Heap}:∀{ds:List D}{vs:List Value},HdL h ds vs->ds.length=vs.length
 |[],_,h=>by simp only[HdL]at h;subst h;rfl
 |d::ds,_,h=>by simp only[HdL]at h;obtain⟨v,r,rfl,_,q⟩:=h;rw[y0N,y0N,HdL.length q]
theorem HdL.get{h:Heap}:∀{ds:List D}{vs:List Value}{i:Nat}{d:D},HdL h ds vs->ds[i]?=some d->∃v,vs[i]?=some v/\Hd h d v
 |[],_,_,_,_,e=>by simp at e
 |d::ds,_,0,_,h,e=>by
  simp only[HdL]at h;obtain⟨v,r,rfl,q,_⟩:=h;simp at e;subst e;exact⟨v,rfl,q⟩
 |d::ds,_,i+1,d',h,e=>by simp only[HdL]at h;obtain⟨v,r,rfl,_,q⟩:=h;obtain⟨v',h1,h2⟩:=HdL.get (i:=i) q (by simpa using e);exact⟨v',by simpa using h1,h2⟩
mutual
theorem Hd.keep{h h':Heap}(k:∀a o its n,h.get? a=some o->o.cls=.type "tuple"->o.data=.seq its n->h'.get? a=some o):∀{d:D} {v:Value},Hd h d v->Hd h' d v
 |.int _,_,q=>by simp only[Hd]at q⊢;exact q
 |.tup ds,_,q=>by
  simp only[Hd]at q⊢;obtain⟨a,o,its,n,e,h1,h2,h3,h4⟩:=q;exact⟨a,o,its,n,e,k a o its n h1 h2 h3,h2,h3,HdL.keep k h4⟩
 |.non,_,q=>by simp only[Hd]at q
 |.bl _,_,q=>by simp only[Hd]at q
 |.str _,_,q=>by simp only[Hd]at q
 |.lst _,_,q=>by simp only[Hd]at q
theorem HdL.keep{h h':Heap}(k:∀a o its n,h.get? a=some o->o.cls=.type "tuple"->o.data=.seq its n->h'.get? a=some o):∀{ds:List D} {vs:List Value},HdL h ds vs->HdL h' ds vs
 |[],_,q=>by simp only[HdL]at q⊢;exact q
 |d::ds,_,q=>by simp only[HdL]at q⊢;obtain⟨v,r,e,q1,q2⟩:=q;exact⟨v,r,e,Hd.keep k q1,HdL.keep k q2⟩
end
mutual
theorem Hd.inj{h:Heap}:∀{d e:D}{v:Value},Hd h d v->Hd h e v->d=e
 |.int _,e,v,p,q=>by
  simp only[Hd]at p;obtain⟨t,rfl⟩:=p;cases e<;>simp only[Hd]at q
  .obtain⟨t',e⟩:=q;injection e with e;rw[e]
  .obtain⟨a,_,_,_,e,_⟩:=q;cases e
 |.tup ds,e,v,p,q=>by
  simp only[Hd]at p;obtain⟨a,o,its,n,rfl,h1,h2,h3,h4⟩:=p;cases e<;>simp only[Hd]at q
  .obtain⟨t',e⟩:=q;cases e
  .obtain⟨b,o',its',n',e,g1,g2,g3,g4⟩:=q;cases e;rw[h1]at g1;cases g1;rw[h3]at g3;injection g3 with e1 _;subst e1;rw[HdL.inj h4 g4]
 |.non,_,_,q,_=>by simp only[Hd]at q
 |.bl _,_,_,q,_=>by simp only[Hd]at q
 |.str _,_,_,q,_=>by simp only[Hd]at q
 |.lst _,_,_,q,_=>by simp only[Hd]at q
theorem HdL.inj{h:Heap}:∀{ds es:List D}{vs:List Value},HdL h ds vs->HdL h es vs->ds=es
 |[],[],_,_,_=>rfl
 |[],_::_,_,p,q=>by
  simp only[HdL]at p q;obtain⟨_,_,e,_⟩:=q;rw[p]at e;cases e
 |_::_,[],_,p,q=>by
  simp only[HdL]at p q;obtain⟨_,_,e,_⟩:=p;rw[q]at e;cases e
 |d::ds,e::es,_,p,q=>by simp only[HdL]at p q;obtain⟨v,r,rfl,p1,p2⟩:=p;obtain⟨u,w,eq,q1,q2⟩:=q;cases eq;rw[Hd.inj p1 q1,HdL.inj p2 q2]
end
section
variable{prog:Program}{w:World}
def zcn:∀(n:Nat){A:Around}{E:yyE}{s:Shared}{d:D}{v:Value}{Q:Int->Shared->Prop},D.dep d<=n->A.units+n<cLine->Hd s.heap d v->Q (D.hash d) { s with toks:=s.toks+D.draws d }->wpAny (model prog w) A (pyHash v) Q E s:=by
 intro n;induction n with
 |zero =>
  intro A E s d v Q hd hu hv h;cases d<;>simp only[Hd]at hv<;>simp only[D.dep,Nat.le_zero,y3f,y44,and_false]at hd;obtain⟨t,rfl⟩:=hv;exact wpAny_pyHash_int h
 |succ n ih =>
  intro A E s d v Q hd hu hv h;cases d with
  |int i =>
   simp only[Hd]at hv;obtain⟨t,rfl⟩:=hv;exact wpAny_pyHash_int h
  |tup ds =>
   simp only[Hd]at hv;simp only[D.dep]at hd;obtain⟨a,o,its,m,rfl,ho,hc,hdd,hi⟩:=hv;have hT:s.TypeIs (.ref a) "tuple":=⟨o,ho,hc⟩;have hin:A.in1.units+n<cLine:=by show A.units+1+n<cLine;lia
   unfold pyHash;first|unfold pyHashByItsType|skip
   first|refine y02 (wpAny_cRoomFor_or (.inr (show A.units<cLine by lia)) ?_)|skip
   refine y02 (y3p hT y3E.lookup ?_);show wpAny _ _ (if(some (Value.builtin "tuple.__hash__")==some Value.none)=true
    then _ else _) Q E s
   rw[if_neg (by rw[beq_builtin_none];exact y0M)];refine y02 (y3p hT y3E.lookup ?_);show wpAny _ _ (callSpecialIfBoundUnlessNone? (.ref a) "__hash__" _
    >>= _) Q E s
   refine y02 (wpAny_callSpecialIfBoundUnlessNone?_slot hT y3E (y15 y3E
    hT F.entry_tuple_hash ?_ (F.args_tuple_hash_1 _)))
   show wpAny _ _ (Builtin.Tuple.tupleItemsOf (.ref a)>>=_) _ _ s;refine y02 (wpAny_tupleItemsOf ho hdd (y02 ?_));rw[<-Array.forIn_toList];refine wpAny_forIn_list _ (fun z1B (b:Array Int) s'=>∃done left,ds=done++left/\HdL s.heap left z1B/\b.toList=D.hashL done/\s'={ s with toks:=s.toks+D.drawsL done }) _ ?_ ?_ _ _ ⟨[],ds,rfl,hi,by simp only[D.hashL],by simp only[D.drawsL,y3J]⟩
   .rintro x z1B b s' ⟨done,left,e,hl,hb,rfl⟩;cases left with
    |nil=>simp only[HdL]at hl;cases hl
    |cons k ks =>
     simp only[HdL]at hl;obtain⟨v',r,ev,q1,q2⟩:=hl;cases ev;have hk:D.dep k<=n:=by
      have z:ds[done.length]?=some k:=by rw[e];simp
      have:=D.depL_get z;lia
     refine y02 (ih hk hin q1 ?_);have fin:∃done' left',ds=done'++left'/\HdL s.heap left' z1B/\(b.push (D.hash k)).toList=D.hashL done'/\({ s with toks:=s.toks+D.drawsL done+D.draws k }:Shared)={ s with toks:=s.toks+D.drawsL done' } :=
      ⟨done++[k],ks,by rw[e];simp,q2,by rw[D.hashL_app,<-hb];simp[D.hashL],by rw[D.drawsL_app];simp only[D.drawsL,y3J,y3s]⟩
     first
      |exact y09 fin
      |exact y02 (y09 (y09 fin))
   .rintro b s' ⟨done,left,e,hl,hb,rfl⟩;cases left with
    |cons k ks=>simp only[HdL]at hl;obtain⟨_,_,e,_⟩:=hl;cases e
    |nil =>
     rw[y1t]at e;subst e;show wpAny _ _ (retInt (Builtin.Tuple.tupleHashOf b.toList))
      _ _ _
     rw[hb];refine wpAny_ret_mkInt ?_;show wpAny _ _ (if(decide (-(2:Int)^63<=Builtin.Tuple.tupleHashOf (D.hashL ds))&&decide (Builtin.Tuple.tupleHashOf (D.hashL ds)<2^63))=true then _ else _) Q E _;simp only[D.hash]at h;unfold reduceHash at h;simp only[D.draws]at h;by_cases hr:(decide (-(2:Int)^63<=Builtin.Tuple.tupleHashOf (D.hashL ds))&&decide (Builtin.Tuple.tupleHashOf (D.hashL ds)<2^63))=true
     .rw[if_pos hr];rw[if_pos hr]at h;exact y09 (by simpa[y3s]using h)
     .rw[if_neg hr];rw[if_neg hr]at h;exact y02 (y27 (y09 (by simpa[y3s]using h)))
  |non=>simp only[Hd]at hv
  |bl _=>simp only[Hd]at hv
  |str _=>simp only[Hd]at hv
  |lst _=>simp only[Hd]at hv
end
open PySem PySem.Spec PyProof.Rows PySem.SeqAt
section
variable{prog:Program}{w:World}
def zfe{s:Shared}:∀(n:Nat)(A:Around){d e:D}{v u:Value},D.dep d<=n->A.units+n<cLine->Hd s.heap d v->Hd s.heap e u->EqAt A s v u (D.eq d e):=by
 intro n;induction n with
 |zero =>
  intro A d e v u hd hu hv hx;cases d<;>simp only[Hd]at hv<;>simp only[D.dep,Nat.le_zero,y3f,y44,and_false]at hd;obtain⟨t,rfl⟩:=hv;cases e<;>simp only[Hd]at hx
  .obtain⟨t',rfl⟩:=hx;simp only[D.eq];exact EqAt.int_int _ _ _ _
  .obtain⟨a,o,its,m,rfl,ho,hc,hdd,hi⟩:=hx;simp only[D.eq];exact EqAt.int_tuple _ _ (items:=its) ⟨o,ho,hc,m,hdd⟩ (by lia)
 |succ n ih =>
  intro A d e v u hd hu hv hx;have hin:A.in1.units+n<cLine:=by show A.units+1+n<cLine;lia
  cases d with
  |int i=>exact ih A (y0K _) (by lia) hv hx
  |tup ds =>
   simp only[Hd]at hv;simp only[D.dep]at hd;obtain⟨a,o,its,m,rfl,ho,hc,hdd,hi⟩:=hv;have ta:s.heap.IsTuple a its:=⟨o,ho,hc,m,hdd⟩;cases e with
   |int j =>
    simp only[Hd]at hx;obtain⟨t',rfl⟩:=hx;simp only[D.eq];exact EqAt.tuple_int _ _ ta (by lia)
   |tup es =>
    have inj:Value.ref a=u->D.tup ds=D.tup es:=fun z=>Hd.inj (h:=s.heap) (v:=u) (by rw[<-z];simp only[Hd];exact⟨a,o,its,m,rfl,ho,hc,hdd,hi⟩) hx;simp only[Hd]at hx;obtain⟨b,o',its',m',rfl,ho',hc',hdd',hi'⟩:=hx;have tb:s.heap.IsTuple b its':=⟨o',ho',hc',m',hdd'⟩;have e1:its.size=ds.length:=by have:=hi.length;simp at this;lia
    have e2:its'.size=es.length:=by have:=hi'.length;simp at this;lia
    have z:=RcAt.tuples (A:=A) (e:=D.at_ ds es) ta tb (by lia) (fun j h1 h2=>by
     have g1:ds[j]?=some ds[j]:=y00 (by lia);have g2:es[j]?=some es[j]:=y00 (by lia);obtain⟨x1,k1,q1⟩:=hi.get g1;obtain⟨x2,k2,q2⟩:=hi'.get g2;have z1:x1=its[j]:=by simp[h1]at k1;exact k1.symm
     have z2:x2=its'[j]:=by simp[h2]at k2;exact k2.symm
     have z3:D.at_ ds es j=D.eq ds[j] es[j]:=by unfold D.at_;rw[g1,g2]
     rw[z3,<-z1,<-z2];exact ih A.in1 (y0Q (D.depL_get g1) (by lia)) hin q1 q2)
    rw[e1,e2,D.all_eqL]at z;simp only[D.eq];by_cases hab:a=b
    .have:=inj (by rw[hab]);injection this with this;subst this hab;rw[D.eqL_refl];exact EqAt.same _
    .exact EqAt.of_refs hab z
   |non=>simp only[Hd]at hx
   |bl _=>simp only[Hd]at hx
   |str _=>simp only[Hd]at hx
   |lst _=>simp only[Hd]at hx
  |non=>simp only[Hd]at hv
  |bl _=>simp only[Hd]at hv
  |str _=>simp only[Hd]at hv
  |lst _=>simp only[Hd]at hv
def zaP{A:Around}{E:yyE}{s:Shared}:∀(n:Nat){d:D}{v:Value}{Q:Bool->Shared->Prop},D.dep d<=n->Hd s.heap d v->Q true s->wpAny (model prog w) A (eqIsQuiet n v) Q E s:=by
 have flat:∀(n:Nat){i:Int}{t:Tok}{Q:Bool->Shared->Prop},Q true s->wpAny (model prog w) A (eqIsQuiet n (.int i t)) Q E s:=fun n i t Q h=>by rw[eqIsQuiet_byValue n (v:=.int i t) rfl];exact y09 h
 intro n;induction n with
 |zero =>
  intro d v Q hd hv h;cases d<;>simp only[Hd]at hv<;>simp only[D.dep,Nat.le_zero,y3f,y44,and_false]at hd;obtain⟨t,rfl⟩:=hv;exact flat 0 h
 |succ n ih =>
  intro d v Q hd hv h;cases d with
  |int i =>
   simp only[Hd]at hv;obtain⟨t,rfl⟩:=hv;exact flat _ h
  |tup ds =>
   simp only[Hd]at hv;simp only[D.dep]at hd;obtain⟨a,o,its,m,rfl,ho,hc,hdd,hi⟩:=hv;have hT:s.TypeIs (.ref a) "tuple":=⟨o,ho,hc⟩;unfold eqIsQuiet;refine y02 (y3p hT F.slot_tuple_eq.lookup ?_);show wpAny _ _ (isInstance (.ref a) (.type "tuple")
    >>= _) _ _ s
   refine y02 (y2N hT isSubtype_tuple_tuple ?_);simp only[y2I,y0n,y1H];refine y02 (y21 ho hdd (y02 ?_));show wpAny _ _ (forIn its _ _) _ _ s;rw[<-Array.forIn_toList];refine wpAny_forIn_list _ (fun z1B r s'=>r.1=none/\s'=s/\∃left,HdL s.heap left z1B/\D.depL left<=n) _ ?_ ?_ _ _ ⟨rfl,rfl,ds,hi,by lia⟩
   .rintro x z1B r s' ⟨hr,rfl,left,hl,hdl⟩;cases left with
    |nil=>simp only[HdL]at hl;cases hl
    |cons k ks =>
     simp only[HdL]at hl;simp only[D.depL]at hdl;obtain⟨v',q,ev,q1,q2⟩:=hl;cases ev;refine y02 (ih (by lia) q1 ?_);simp only[y2I,y0n,y1H];exact y09 ⟨rfl,rfl,ks,q2,by lia⟩
   .rintro⟨r1,r2⟩ s' ⟨hr,rfl,_⟩;simp only at hr;subst hr;exact y09 h
  |non=>simp only[Hd]at hv
  |bl _=>simp only[Hd]at hv
  |str _=>simp only[Hd]at hv
  |lst _=>simp only[Hd]at hv
def z2E(prog:Program)(w:World):HeapKind prog w D where
 is:=fun h d a=>Hd h d (.ref a)/\D.dep d<=8
 hash:=D.hash
 draws:=D.draws
 room:=fun A=>A.units+8<cLine
 inj:=fun hx hy=>Hd.inj hx.1 hy.1
 keeps:=fun{h h' k a d o es ep} hx ho hd hs=>⟨Hd.keep (fun b o' its n e c q=>(hs.2 b (by rintro rfl;rw[ho]at e;cases e;rw[hd]at q;cases q)).trans e) hx.1,hx.2⟩
 pyHash:=fun hu hk h=>zcn 8 hk.2 hu hk.1 h
 eqBool:=fun hu hx hy h=>by rw[D.dec]at h;exact zfe 8 _ hx.2 hu hx.1 hy.1 _ _ _ _ h
 quiet:=fun hk h=>zaP 8 hk.2 hk.1 h
end
mutual
def D.key:D->Prop
 |.int _=>True
 |.tup ds=>D.keyL ds
 |_=>False
def D.keyL:List D->Prop
 |[]=>True
 |d::ds=>D.key d/\D.keyL ds
end
section
variable{P:Program}{w:World}{K:yyF}{H:Hp}{h:Heap}
mutual
theorem Dr.hd(ok:HOk P w H h):∀{d:D}{v:V}{u:Value},D.key d->Dr K H d v->z1i v u->Hd h d u
 |.int i,v,u,_,q,r=>by
  simp only[Dr]at q;subst q;simp only[Hd];exact r
 |.tup ds,v,u,k,q,r=>by
  simp only[Dr]at q;simp only[D.key]at k;obtain⟨a,vs,rfl,e,q⟩:=q;cases r;obtain⟨_,its,n,rv,h1⟩:=ok a _ e;simp only[Hd];exact⟨a,_,its.toArray,n,rfl,h1,rfl,rfl,by simpa using DrL.hd ok k q rv⟩
 |.non,_,_,k,_,_=>by simp only[D.key]at k
 |.bl _,_,_,k,_,_=>by simp only[D.key]at k
 |.str _,_,_,k,_,_=>by simp only[D.key]at k
 |.lst _,_,_,k,_,_=>by simp only[D.key]at k
theorem DrL.hd(ok:HOk P w H h):∀{ds:List D}{vs:List V}{us:List Value},D.keyL ds->DrL K H ds vs->z0T vs us->HdL h ds us
 |[],vs,us,_,q,r=>by
  simp only[DrL]at q;subst q;cases r;simp only[HdL]
 |d::ds,vs,us,k,q,r=>by
  simp only[DrL]at q;simp only[D.keyL]at k;obtain⟨v,z,rfl,q1,q2⟩:=q;cases r with
  |cons r1 r2 =>
   simp only[HdL];exact⟨_,_,rfl,Dr.hd ok k.1 q1 r1,DrL.hd ok k.2 q2 r2⟩
end
end
open PySem PySem.Spec PyProof.Rows PySem.SeqAt
def zbQ(P:Program)(w:World)(a:Addr)(xs:List (D × Addr × Value)):HO :=
 .ext fun h=>(a==sysModules)=false/\∃o es ep,h.get? a=some o/\o.ExactDict/\o.data=.dict es ep/\es.toList=xs.map (entryOfKey (z2E P w))
abbrev KDr(K:yyF)(H:Hp):List (D × V)->List (D × Addr × Value)->Prop:=Paired fun p q=>p.1=q.1/\(D.key p.1/\D.dep p.1<=8/\Dr K H p.1 (.ref q.2.1))/\z1i p.2 q.2.2
def DD(P:Program)(w:World)(K:yyF)(H:Hp)(a:Addr)(kvs:List (D × V)):Prop :=
 ∃xs,H a=some (zbQ P w a xs)/\KDr K H kvs xs/\(kvs.map (·.1)).Nodup/\kvs.length<=sizeLine
def KDr.val{K:yyF}{H:Hp}{kvs:List (D × V)}{xs:List (D × Addr × Value)}(r:KDr K H kvs xs)(k:D):za5 (z3d kvs k) ((atKey xs k).map (·.2)):=by
 induction r with
 |nil=>exact y3j
 |@cons p q ps qs h t ih =>
  obtain⟨h1,_,h2⟩:=h;by_cases e:p.1=k
  .have e':q.1=k:=h1.symm.trans e;have b:atKey (q::qs) k=some q.2:=by simp[atKey,y2f,e']
   rw[z37 e,b];exact h2
  .have e':¬q.1=k:=fun z=>e (h1.trans z);have b:atKey (q::qs) k=atKey qs k:=by simp[atKey,y2f,e']
   rw[z2w e,b];exact ih
def KDr.repl{K:yyF}{H:Hp}{kvs:List (D × V)}{xs:List (D × Addr × Value)}(r:KDr K H kvs xs)(k:D){y:V}{u:Value}(ry:z1i y u) : KDr K H (kvs.map fun kv=>if kv.1=k then(kv.1,y)else kv) (xs.map (putAt k u)):=by
 induction r with
 |nil=>exact .nil
 |@cons p q ps qs h t ih =>
  rw[y0m,y0m];refine .cons ?_ ih;obtain⟨h1,h2,h3⟩:=h;unfold putAt;by_cases e:p.1=k
  .rw[if_pos e,if_pos (h1.symm.trans e)];exact⟨h1,h2,ry⟩
  .rw[if_neg e,if_neg (fun z=>e (h1.trans z))];exact⟨h1,h2,h3⟩
def KDr.put{K:yyF}{H:Hp}{kvs:List (D × V)}{xs:List (D × Addr × Value)}(r:KDr K H kvs xs)(k:D){b:Addr}{y:V}{u:Value}(hb:D.key k/\D.dep k<=8/\Dr K H k (.ref b))(ry:z1i y u) : KDr K H (z2K kvs k y) (storedH xs k b u):=by
 have e:(kvs.any fun kv=>decide (kv.1=k))=(atKey xs k).isSome:=by rw[z3P,(r.val k).isSome_eq,y34]
 unfold z2K storedH;rw[e];by_cases q:(atKey xs k).isSome=true
 .rw[if_pos q,if_pos q];exact r.repl k ry
 .rw[if_neg q,if_neg q];exact Paired.snoc r ⟨rfl,hb,ry⟩
def KDr.keys{K:yyF}{H:Hp}{kvs:List (D × V)}{xs:List (D × Addr × Value)}(r:KDr K H kvs xs):kvs.map (·.1)=xs.map (·.1):=by
 induction r with
 |nil=>rfl
 |@cons p q ps qs h t ih=>rw[y0m,y0m,ih,h.1]
def KDr.mono{K:yyF}{H H':Hp}{kvs:List (D × V)}{xs:List (D × Addr × Value)}(r:KDr K H kvs xs)(f:∀d v,D.key d->Dr K H d v->Dr K H' d v):KDr K H' kvs xs :=
 Paired.mapP r fun _ _ z=>⟨z.1,⟨z.2.1.1,z.2.1.2.1,f _ _ z.2.1.1 z.2.1.2.2⟩,z.2.2⟩
theorem DD.mono{P:Program}{w:World}{K:yyF}{H H':Hp}{a:Addr}{kvs:List (D × V)}(h:DD P w K H a kvs)(s:z0c H H'):DD P w K H' a kvs:=by obtain⟨xs,e,r,n,z⟩:=h;exact⟨xs,s _ _ e,r.mono fun _ _ _ q=>q.mono s,n,z⟩
mutual
theorem Dr.keyed{K:yyF}{H H':Hp}(k:∀b xs,H b=some (.tup xs)->H' b=some (.tup xs)):∀{d:D}{v:V},D.key d->Dr K H d v->Dr K H' d v
 |.int _,_,_,h=>by simp only[Dr]at h⊢;exact h
 |.tup ds,_,q,h=>by
  simp only[Dr]at h⊢;simp only[D.key]at q;obtain⟨a,vs,e,z,r⟩:=h;exact⟨a,vs,e,k _ _ z,DrL.keyed k q r⟩
 |.non,_,q,_=>by simp only[D.key]at q
 |.bl _,_,q,_=>by simp only[D.key]at q
 |.str _,_,q,_=>by simp only[D.key]at q
 |.lst _,_,q,_=>by simp only[D.key]at q
theorem DrL.keyed{K:yyF}{H H':Hp}(k:∀b xs,H b=some (.tup xs)->H' b=some (.tup xs)):∀{ds:List D}{vs:List V},D.keyL ds->DrL K H ds vs->DrL K H' ds vs
 |[],_,_,h=>by simp only[DrL]at h⊢;exact h
 |d::ds,_,q,h=>by simp only[DrL]at h⊢;simp only[D.keyL]at q;obtain⟨v,r,e,q1,q2⟩:=h;exact⟨v,r,e,Dr.keyed k q.1 q1,DrL.keyed k q.2 q2⟩
end
section
variable{X:Cx}{pins:yyP}{σ:St}{H:Hp}{s:Shared}{a:Addr}{kvs:List (D × V)}{K:yyF}
def DD.at(I:Inv X pins σ H s)(h:DD X.prog X.w K H a kvs):(a==sysModules)=false/\∃xs,H a=some (zbQ X.prog X.w a xs)/\KDr K H kvs xs/\s.heap.DictOfH (z2E X.prog X.w) a xs:=by
 obtain⟨xs,e,r,n,z⟩:=h;obtain⟨⟨hs,o,es,ep,h1,h2,h3,h4⟩,_,_⟩:=I.hok a _ e;refine⟨hs,xs,e,r,o,es,ep,h1,h2,h3,h4,?_,by rw[<-r.keys];exact n⟩;have all:∀{l:List (D × V)}{m:List (D × Addr × Value)},KDr K H l m->∀x∈m,(z2E X.prog X.w).is s.heap x.1 x.2.1:=by
  intro l m q;induction q with
  |nil=>intro x hx;exact nomatch hx
  |@cons p q ps qs hq t ih =>
   intro x hx;rcases y0j.mp hx with e|hx
   .subst e;rw[<-hq.1];exact⟨Dr.hd I.hok hq.2.1.1 hq.2.1.2.2 rfl,hq.2.1.2.1⟩
   .exact ih x hx
 exact all r
def z7H(I:Inv X pins σ H s){d:D}{b:Addr}(k:D.key d)(hd:D.dep d<=8)(h:Dr K H d (.ref b)):(z2E X.prog X.w).is s.heap d b:=⟨Dr.hd I.hok k h rfl,hd⟩
def zfL(K:yyF)(H:Hp)(d:D)(y:V):Prop:=(∃b,y=.ref b)/\D.key d/\D.dep d<=8/\Dr K H d y
variable{o i e f value:Expr}{pos pos' apos cpos:Pos}{td ty tv tx:TE}
def zgH(P:Program)(w:World)(K:yyF)(td ty:TE):TE:=fun σ H Q=>td σ H fun x H1=>ty σ H1 fun y H2=>∃a kvs d v,x=.ref a/\DD P w K H2 a kvs/\zfL K H2 d y/\z3d kvs d=some v/\Q v H2
def zcX(hu:X.A.units+9<cLine)(ho:PE X o td)(hi:PE X i ty)(hs:zha i):PE X (.Subscript o i pos) (zgH X.prog X.w K td ty):=by intro pins s σ H Q I h;refine zcV PySem.F.slot_dict_getitem.lookup hs (z1P (ho pins s σ H _ I h) fun u s1 x H1 I1 rx q1=>z1P (hi pins s1 σ H1 _ I1 q1) fun iv s2 y H2 I2 ry hz9=>?_);obtain⟨a,kvs,d,v,ex,g,⟨⟨b,eb⟩,k1,k2,k3⟩,hv,q2⟩:=hz9;subst ex eb;obtain rfl:u=Value.ref a:=rx;obtain rfl:iv=Value.ref b:=ry;obtain⟨hsm,xs,e,r,dd⟩:=g.at I2;obtain⟨w',hw,rw'⟩:=za5.some_of (v:=v) (o:=(atKey xs d).map (·.2)) (by rw[<-hv];exact r.val d);obtain⟨p,hp,hp2⟩:=y2i.mp hw;refine⟨dd.typeIs,wpAny_getItem_heap (show X.A.units+1+8<cLine by lia) (z7H I2 k1 k2 k3) dd hp ?_⟩;rw[hp2];exact⟨v,H2,I2.tok _,rw',q2⟩
def zfB(P:Program)(w:World)(K:yyF)(ty td:TE):TE:=fun σ H Q=>ty σ H fun y H1=>td σ H1 fun x H2=>∃a kvs d,x=.ref a/\DD P w K H2 a kvs/\zfL K H2 d y/\Q (.bl (!(z3d kvs d).isSome)) H2
def z7y(hu:X.A.units+9<cLine)(hi:PE X i ty)(ho:PE X o td):PC X .NotIn i o (zfB X.prog X.w K ty td):=by intro pins s σ H Q I h;refine z1P (hi pins s σ H _ I h) fun iv s1 y H1 I1 ry q1=>z1P (ho pins s1 σ H1 _ I1 q1) fun u s2 x H2 I2 rx hz9=>?_;obtain⟨a,kvs,d,ex,g,⟨⟨b,eb⟩,k1,k2,k3⟩,q2⟩:=hz9;subst ex eb;obtain rfl:u=Value.ref a:=rx;obtain rfl:iv=Value.ref b:=ry;obtain⟨hsm,xs,e,r,dd⟩:=g.at I2;refine wpAny_notIn_heap (show X.A.units+1+8<cLine by lia) (z7H I2 k1 k2 k3) hsm dd ?_;have q:=(r.val d).isSome_eq;rw[y34]at q;rw[<-q];exact⟨.bl _,H2,I2.tok _,rfl,q2⟩
def zhv(P:Program)(w:World)(K:yyF)(td ty tv:TE):TS:=fun Dd σ H=>tv σ H fun v H1=>td σ H1 fun x H2=>ty σ H2 fun y H3=>∃a kvs d,x=.ref a/\DD P w K H3 a kvs/\zfL K H3 d y/\kvs.length<sizeLine /\
 ∀ob,DD P w K (upd H3 a ob) a (z2K kvs d v)->Dd.nx σ (upd H3 a ob)
def z9Y{P:Program}{w:World}(h:DD P w K H a kvs):∀b xs,H b=some (.tup xs)->b≠a:=fun b xs e z=>by obtain⟨ys,q,_⟩:=h;rw[z,q]at e;cases e
def z8B(hu:X.A.units+9<cLine)(ho:PE X o td)(hi:PE X i ty)(hv:PE X value tv)(hs:swapsWith value (some (.Subscript o i pos')) pos.line X.env=pure false:=by rfl) : PS X (.Assign [.Subscript o i pos'] value pos) (zhv X.prog X.w K td ty tv):=by
 intro pins s σ H D I h;refine wpAny_Assign_Subscript (z1P (hv pins s σ H _ I h) fun r s1 v H1 I1 rv q1=>z1P (ho pins s1 σ H1 _ I1 q1) fun u s2 x H2 I2 rx q2=>z1P (hi pins s2 σ H2 _ I2 q2) fun iv s3 y H3 I3 ry hz9=>?_) hs;obtain⟨a,kvs,d,ex,g,⟨⟨b,eb⟩,k1,k2,k3⟩,hz,q3⟩:=hz9;subst ex eb;obtain rfl:u=Value.ref a:=rx;obtain rfl:iv=Value.ref b:=ry;obtain⟨hsm,xs,e,rr,dd⟩:=g.at I3;have hlen:xs.length<=sizeLine:=by rw[<-y40 rr];exact y1p hz
 have hl:(z2K kvs d v).length<=sizeLine:=by have:=z23 kvs d v;lia
 refine wpAny_setItem_heap (hsz:=hlen) (show X.A.units+1+8<cLine by lia) (z7H I3 k1 k2 k3) dd fun h' dd' hsb=>?_;obtain⟨q,es,ep,hq,h2,h3,h4,_,h5⟩:=dd';have Iw:Inv X pins σ (upd H3 a (zbQ X.prog X.w a (storedH xs d b r))) { s3 with heap:=h',toks:=s3.toks+(z2E X.prog X.w).draws d }:=by refine z5u I3 (by rw[e];exact y3j) hsb ⟨q,hq⟩ ⟨⟨hsm,q,es,ep,hq,h2,h3,h4⟩,⟨q,hq⟩,fun h1 h2' p k=>?_⟩;obtain⟨p0,o1,es1,ep1,p1,p2,p3,p4⟩:=p;exact⟨p0,o1,es1,ep1,k _ p1,p2,p3,p4⟩
 have kt:∀c ys,H3 c=some (.tup ys)->upd H3 a (zbQ X.prog X.w a (storedH xs d b r)) c=some (.tup ys):=fun c ys ec=>by rw[z07 (z9Y g c ys ec)];exact ec
 refine⟨σ,_,Iw,q3 _ ⟨_,z01,(rr.put d ⟨k1,k2,k3⟩ rv).mono fun d' v' kd q=>q.keyed kt kd,?_,hl⟩⟩;have nd:=h5;have ek:=(rr.put d ⟨k1,k2,k3⟩ rv).keys;rw[ek];exact nd
def zhH(P:Program)(w:World)(K:yyF):TE:=fun _ H Q=>∀p,H p=none->∀ob,DD P w K (upd H p ob) p []->Q (.ref p) (upd H p ob)
def zcB:PE X (.Dict [] [] pos) (zhH X.prog X.w K):=fun pins s σ H Q I h=>by have hb:(s.heap.objs.size==sysModules)=false:=y3e.mpr (y1v (y0u I.big));refine wpAny_Dict_empty ⟨.ref s.heap.objs.size,_,I.laid (a:=s.heap.objs.size) (o:=zbQ X.prog X.w s.heap.objs.size []) (t':=s.toks) (fun _ _ q=>y05 _ q) (y0b _) ⟨⟨hb,_,#[],0,y0e _ rfl,⟨rfl,rfl,rfl⟩,rfl,rfl⟩,⟨_,y0e _ rfl⟩,fun h1 h2 p k=>?_⟩,rfl,h _ I.fresh _ ⟨[],z01,.nil,y2s,y0K _⟩⟩;obtain⟨p0,o1,es1,ep1,p1,p2,p3,p4⟩:=p;exact⟨p0,o1,es1,ep1,k _ p1,p2,p3,p4⟩
def zgE(P:Program)(w:World)(K:yyF)(td ty tx:TE):TE:=fun σ H Q=>td σ H fun x H1=>∃a kvs0,x=.ref a/\DD P w K H1 a kvs0/\ty σ H1 fun y H2=>tx σ H2 fun z H3=>∃kvs d,DD P w K H3 a kvs/\zfL K H3 d y/\Q ((z3d kvs d).getD z) H3
def zdd(hu:X.A.units+9<cLine)(ho:PE X o td)(he:PE X e ty)(hf:PE X f tx)(m:M2 X o "get" apos e f cpos):PE X (.Call (.Attribute o "get" apos) [e,f] [] cpos) (zgE X.prog X.w K td ty tx):=by
 intro pins s σ H Q I h;refine wpAny_Call_method m.base m.few m.line PySem.F.plainAttrs_dict PySem.F.slot_dict_get PySem.F.type_dict_get (z1P (ho pins s σ H _ I h) fun u s1 x H1 I1 rx hz9=>?_);obtain⟨a,kvs0,ex,g0,q1⟩:=hz9;subst ex;obtain rfl:u=Value.ref a:=rx;obtain⟨hsm,xs0,_,_,dd0⟩:=g0.at I1;refine⟨dd0.typeIs,fun b q=>?_,?_⟩
 .cases q;obtain⟨ob,_,_,h1,h2,_⟩:=dd0;exact⟨ob,h1,h2.2.1⟩
 rw[m.trees];refine Calls.callWith_builtin rfl (y3Y (y3n (z1P (he pins s1 σ H1 _ I1 q1) fun iv s2 y H2 I2 ry q2 =>
  y3n (thn (hf pins s2 σ H2 _ I2 q2) fun fv s3 ⟨z,H3,I3,rz,kvs,d,g,⟨⟨b,eb⟩,k1,k2,k3⟩,q3⟩=>Calls.spliced_nil ?_))))
 subst eb;obtain rfl:iv=Value.ref b:=ry;obtain⟨_,xs,_,r,dd⟩:=g.at I3;refine call_meetsIn PySem.F.slot_dict_get dd.typeIs PySem.F.entry_dict_get (PySem.F.args_dict_get_3 _ _ _) (meetsH_dict_get_default (z2E X.prog X.w) a b hsm fv) ⟨show X.A.units+1+8<cLine by lia,d,xs,z7H I3 k1 k2 k3,dd,?_⟩;exact⟨_,H3,I3.tok _,(r.val d).getD rz,q3⟩
end
open PySem PySem.Spec PyProof.Rows PySem.SeqAt
open PySem.AutoSeq1 (wpAny_loadPart')
section
variable{X:Cx}(K:yyF)
def zej:z2s X (.builtin "len") (fun xs H Q=>∃a kvs,xs=[V.ref a]/\DD X.prog X.w K H a kvs/\Q (.int kvs.length) H):=by
 intro pins s σ H xs us Q I r h;obtain⟨a,kvs,rfl,g,q⟩:=h;obtain⟨u,rfl,ru⟩:=z48 r;cases ru;obtain⟨hsm,xs,_,rr,dd⟩:=g.at I;obtain⟨o,es,ep,ho,hc,hdat,hes,_⟩:=id dd;have hlen:es.size=kvs.length:=by
  have:es.toList.length=xs.length:=by rw[hes,y01]
  rw[y40 rr,<-this];simp
 have hz:kvs.length<=sizeLine:=by obtain⟨_,_,_,_,z⟩:=g;exact z
 have hz2:(kvs.length:Int)<2^63:=by have:=z7R;lia
 refine y3a kind_len plain_len entry_len (args_len1 _) ?_;unfold Builtin.«len»;refine y02 (m:=oneArg "len" _) (y09 ?_);refine y02 (m:=callSpecial? (.ref a) (Str.ofString "__len__")) (y10 (name:=Str.ofString "__len__") dd.typeIs F.slot_dict_len
  (y15 F.slot_dict_len dd.typeIs F.entry_dict_len ?_ (F.args_dict_len_1 _)))
 show wpAny _ _ (dictSize a>>=_) _ _ s;unfold dictSize;refine y02 (y02 (wpAny_dictEntries ho hdat (y09 ?_)));show wpAny _ _ (Builtin.Dict.pendingCount a>>=_) _ _ s;refine y02 (wpAny_pendingCount_other hsm ?_);refine wpAny_ret_mkInt ?_;rw[y3J,hlen];refine y02 (y20 (y09 ?_));refine y02 (wpAny_letGo ?_);show wpAny _ _ (if((kvs.length:Nat):Int)<0
  then _ else _) _ _ _
 rw[if_neg (by lia)];show wpAny _ _ (if((kvs.length:Nat):Int) ≥ 2^63
  then _ else _) _ _ _
 rw[if_neg (by lia)];exact y02 (wpAny_mkInt (y09 ⟨_,rfl,.int kvs.length,H,I.tok _,⟨_,rfl⟩,q⟩))
end
open PySem PySem.Spec PyProof.Rows PySem.SeqAt
open PySem.AutoSeq1 (wpAny_loadPart')
theorem z5y:∀{ns:List Int}{its:List Value},z0T (ns.map V.int) its->∃xs:List (Int × Tok),its=xs.map (fun p=>Value.int p.1 p.2)/\xs.map (·.1)=ns
 |[],_,r=>by rw[y19]at r;cases r;exact⟨[],rfl,rfl⟩
 |n::ns,_,r=>by
  rw[y0m]at r;cases r with
  |cons r rr =>
   obtain⟨t,rfl⟩:=r;obtain⟨xs,rfl,e⟩:=z5y rr;exact⟨(n,t)::xs,rfl,by rw[y0m,e]⟩
theorem z75:∀{ns:List Int}{its:List Value},z0T (ns.map V.int) its->IntsAre its ns
 |[],_,r=>by rw[y19]at r;cases r;exact .nil
 |n::ns,_,r=>by
  rw[y0m]at r;cases r with
  |cons r rr =>
   obtain⟨t,rfl⟩:=r;exact .cons n t (z75 rr)
theorem z8U:∀{ns:List Int}{its:List Value},IntsAre its ns->z0T (ns.map V.int) its
 |_,_,.nil=>.nil
 |_,_,.cons n t r=>.cons ⟨t,rfl⟩ (z8U r)
section
variable{X:Cx}(K:yyF)
def zig(hK:X.K=K)(hc:X.calm=true):z2s X (.builtin "max") (fun xs H Q=>∃(p:Addr) (ns:List Int) (M:Int),xs=[.ref p]/\SqL K H p (ns.map V.int)/\M∈ns/\(∀a∈ns,a<=M)/\Q (.int M) H):=by
 subst hK;intro pins s σ H xs us Q I r h;obtain⟨p,ns,M,rfl,hp,hM,hle,q⟩:=h;obtain⟨u,rfl,ru⟩:=z48 r;cases ru;obtain⟨its,rv,pl,hz⟩:=I.list hp;obtain⟨ys,rfl,ey⟩:=z5y rv;have hne:0<ys.length:=by have:0<ns.length:=y1T hM;rw[<-ey,y01]at this;exact this
 have e1:(ys.map fun p=>Value.int p.1 p.2).toArray=intItems ys.toArray:=by unfold intItems;simp
 have pl':=pl.isList;rw[e1]at pl';refine max_intList (xs:=ys.toArray) (I.ok.hd hc) pl' (by simpa using hne) fun v h' tk hv hk=>?_;obtain⟨t,rfl⟩:=intItems_at hv;obtain⟨h1,h2⟩:=argBest_gt (numAt ys.toArray) (ys.toArray.size-1);have emem:∀j,j<ys.length->numAt ys.toArray j∈ns:=fun j hj=>by
  rw[numAt_eq];have:(ys.toArray.toList.map (·.1))=ns:=by simpa using ey
  rw[this];have hjn:j<ns.length:=by rw[<-ey,y01];exact hj
  simp[hjn]
 have hb:argBest (fun i j=>decide (numAt ys.toArray i>numAt ys.toArray j)) (ys.toArray.size-1)<ys.length:=by
  have:ys.toArray.size=ys.length:=by simp
  lia
 have eM:numAt ys.toArray (argBest (fun i j=>decide (numAt ys.toArray i>numAt ys.toArray j)) (ys.toArray.size-1))=M:=by
  refine Int.le_antisymm (hle _ (emem _ hb)) ?_;obtain⟨j,hj,e⟩:=y17 hM;have hjy:j<ys.length:=by rw[<-ey,y01]at hj;exact hj
  have z:=h2 j (by simp;lia);have e2:numAt ys.toArray j=M:=by
   rw[numAt_eq];have:(ys.toArray.toList.map (·.1))=ns:=by simpa using ey
   rw[this];simp[hj,e]
  rw[e2]at z;exact z
 rw[eM];exact⟨.int M,H,I.kept (t':=tk) hk,⟨_,rfl⟩,q⟩
def z2Q:fillsNumberSlot (.type "tuple") "mul"=pure false :=
 PySem.fillsNumberSlot_seq (id:="tuple.__mul__") (r:=some (.builtin "tuple.__rmul__")) y3c.lookup (by decide +kernel) F.slot_tuple_rmul.lookup (by decide +kernel)
def z4d:seqRepeat? (.type "tuple")=pure (some (.builtin "tuple.__mul__")):=by unfold seqRepeat?;rw[PySem.seqSlot_of (T:="tuple") (name:="__mul__") (id:="tuple.__mul__") y3c.lookup (by decide +kernel),PySem.seqSlot_of (T:="tuple") (name:="__rmul__") (id:="tuple.__rmul__") F.slot_tuple_rmul.lookup (by decide +kernel)];rfl
def z2N(a:Int)(t:Tok)(l:Addr)(its:Array Value)(n:Nat) : Meets (Builtin.«int.__rmul__» ⟨[.int a t,.ref l],[]⟩) (fun _ R s=>s.heap.get? l=some { cls:=.type "tuple",dict:=none,data:=.seq its n,slots:=#[] }/\R (.ok (.ret Value.notImplemented)) s) :=
 .of_wp fun prog w A R s h=>by
  obtain⟨hp,g,d,tk,os⟩:=s;obtain⟨hl,h⟩:=h
  wp_walk
  exact⟨_,rfl,h⟩
def zfl(l:Addr)(its:List Value)(n:Nat)(k:Int)(t:Tok)(h2:2<=k)(hk:k<=1000)(hne:its≠[])(hz:its.length*k.toNat<=sizeLine) : Meets (Builtin.«tuple.__mul__» ⟨[.ref l,.int k t],[]⟩) (fun _ R s=>s.heap.get? l=some { cls:=.type "tuple",dict:=none,data:=.seq its.toArray n,slots:=#[] } /\ R (.ok (.ret (.ref s.heap.objs.size))) { s with heap:=s.heap.push { cls:=.type "tuple",data:=.seq (List.replicate k.toNat its).flatten.toArray } }) :=
 .of_wp fun prog w A R s h=>by
  obtain⟨hp,g,d,tk,os⟩:=s;obtain⟨hl,h⟩:=h;have hie:its.toArray.isEmpty=false:=by cases its with|nil=>exact absurd rfl hne|cons a r=>simp
  have hcap:¬((its.toArray.size:Int)*k>(2^63-1)/8):=by
   have h1:((its.length*k.toNat:Nat):Int)<=sizeLine:=by lia
   have h3:((its.length*k.toNat:Nat):Int)=(its.length:Int)*k:=by rw[y24];congr 1;lia
   have h4:(sizeLine:Int)<=(2^63-1)/8:=by rw[y3A];decide
   simp only[y0C];lia
  wp_walk using wpAny_loadPart' hl
  refine y1j (fun hab=>absurd hab (by simp;lia)) (fun _=>?_)
  wp_walk using wpAny_loadPart' hl
  have hk1:(k==1)=false:=by simpa using(show k≠1 by lia)
  have hk0:decide (k<=0)=false:=by simpa using(show ¬k<=0 by lia)
  refine y1j (fun hab=>absurd hab (by rw[hie,hk1];decide)) (fun _=>?_);refine y1j (fun hab=>absurd hab (by rw[hie,hk0];decide)) (fun _=>?_);refine y1j (fun hab=>absurd hab hcap) (fun _=>?_);have htm:Builtin.Tuple.tupleTooMany ((its.toArray.size:Int)*k)=false:=by
   have h1:((its.length*k.toNat:Nat):Int)<=sizeLine:=by lia
   have h3:((its.length*k.toNat:Nat):Int)=(its.length:Int)*k:=by rw[y24];congr 1;lia
   unfold Builtin.Tuple.tupleTooMany;simp only[y0C];exact y0Z (by lia)
  refine y1j (fun hab=>absurd hab (by rw[htm];decide)) (fun _=>?_);have hnew:List.foldl (fun x1 x2=>x1++x2) #[] (List.replicate k.toNat its.toArray)=(List.replicate k.toNat its).flatten.toArray:=by have q:=z5b its k.toNat [];rw[y1Q]at q;exact q
  rw[hnew];unfold Builtin.Tuple.tupleExact;refine y02 (y13 ?_ (by show(List.replicate k.toNat its).flatten.toArray.size<=sizeLine;rw[y0C,z8W,Nat.mul_comm];exact hz));exact y09 ⟨_,rfl,h⟩
def zfN:OpR X (binaryOp .Mult) (fun x y H Q=>∃(l:Addr)(k:Int)(xs:List V),x=.ref l/\y=.int k/\H l=some (.tup xs)/\xs≠[]/\2<=k/\k<=1000/\xs.length*k.toNat<=sizeLine /\ ∀p,H p=none->Q (.ref p) (upd H p (.tup (List.replicate k.toNat xs).flatten))):=by
 intro pins s σ H x y v u Q I rx ry h;obtain⟨l,k,xs,rfl,rfl,hH,hne,h2,hk,hz,q⟩:=h;cases rx;obtain⟨t,rfl⟩:=ry;obtain⟨z,its,n,r,e⟩:=I.hok l _ hH;have hl:=r.length;have hne':its≠[]:=fun w=>by subst w;exact hne (y2H.mp (by simpa using hl))
 refine y2q (T:="tuple") (U:="int") (by decide) ⟨_,e,rfl⟩ (fun s'=>y3i s' k t) z2Q y42 y2e z4d y3S.lookup
  (y33 y2e (y3i s k t) y3T (y3B _ _) (z2N k t l its.toArray n)
   ⟨e,rfl,⟨_,e,rfl⟩,y33 y3c ⟨_,e,rfl⟩ F.entry_tuple_mul (F.args_tuple_mul_2 _ _) (zfl l its n k t h2 hk hne' (by rw[<-hl];exact hz)) ⟨e,?_⟩⟩)
 exact⟨.ref _,_,I.laid (o:=.tup (List.replicate k.toNat xs).flatten) (t':=s.toks) (fun b u q=>y05 _ q) (y0b _) ⟨by rw[z8W,Nat.mul_comm];exact hz,_,0,r.rep k.toNat,y0e _ rfl⟩,rfl,q _ I.fresh⟩
end
section
variable{X:Cx}(P:Program)(w:World)(K:yyF){o i e f value:Expr}{pos pos' apos cpos:Pos}{td ty tv tx:TE}
def zex(hP:X.prog=P)(hw:X.w=w)(hu:X.A.units+9<cLine)(ho:PE X o td)(hi:PE X i ty)(hs:zha i):PE X (.Subscript o i pos) (zgH P w K td ty):=by subst hP hw;exact zcX hu ho hi hs
end
open PySem PySem.Spec PyProof.Rows
class NoE (CX:CXT):Prop where
 no:∀{outer:List Env}{H:Hp}{s:Shared}{e:Value}{s':Shared},¬CX outer H s E0 e s'
def z0K{CX:CXT}[N:NoE CX]{X:Cx}:z7I CX X E0:=fun _ _ _ _ _ _ _ h=>absurd h N.no
def Fun.okc{CX:CXT}{P:Program}{w:World}{K:yyF}{mg:yyS}{base:Heap}{x qual:Str}{st:Stmt}{f:Addr}{fd:FuncData}{N ps:List Str}{k:Nat}{sp:Sp}(F:Fun K x qual st f fd)(S:z0n N ps (z04 st))(len:∀vs H Q E,sp vs H Q E->vs.length=ps.length)(hbody:∀(cdv:Value)(A:Around)(outer:List Env)(s:Shared)(H:Hp)(vs:List V)(Q:VK)(E:XK),z3s k (A.deeper (envOfC qual (z04 st) s.heap.objs.size f cdv))->sp vs H Q E -> ∃t,PSs (z7h CX P w K mg base N qual (z04 st) f cdv A outer s H E).nox (z0Y st) t/\t { nx:=fun _ H'=>Q .non H',rt:=Q } (z5L N vs) H):z0u P w K mg base CX (k+1) f fd ps sp:=by obtain⟨oc,od,kV,doc,pm,an,cdv,ct,osl,rfl,lk,hcd⟩:=F.ex;refine zeT lk hcd S len fun A outer s H vs Q E hr hsp=>?_;obtain⟨t,h,q⟩:=hbody cdv A outer s H vs Q E hr hsp;exact⟨t,h.nox,q⟩
def PS.weak{X:Cx}{st:Stmt}{t:TS}(t':TS)(h:PS X st t)(k:∀D σ H,t' D σ H->t D σ H):PS X st t':=fun pins s σ H D I hw=>h pins s σ H D I (k D σ H hw)
def PT.weak{X:Cx}{e:Expr}{t:TT}(t':TT)(h:PT X e t)(k:∀σ H Q,t' σ H Q->t σ H Q):PT X e t':=fun pins s σ H Q I hw=>h pins s σ H Q I (k σ H Q hw)
def zi1(Pre:St->Hp->Prop):TT:=fun σ H Q=>Pre σ H/\∀c:Bool,Q c H
end L2
namespace Gu
open PySem L2
section
variable{α:Type}[DecidableEq α]
def z26(o:List α)(g:α):List α:=if g∈o then o else o++[g]
def z06(o:List α)(gs:List α):List α:=gs.foldl z26 o
def z0F(ks:List α):List α:=z06 [] ks
def z2k(ks:List α):List Int:=ks.map fun k=>(((z0F ks).idxOf k:Nat):Int)
def z0q{o:List α}{g:α}(h:g∈o):z26 o g=o:=if_pos h
def z0r{o:List α}{g:α}(h:g∉o):z26 o g=o++[g]:=if_neg h
def zdp(o:List α)(g:α):g∈z26 o g:=by
 by_cases h:g∈o
 .rw[z0q h];exact h
 .rw[z0r h];simp
def zei(o:List α)(g:α):∃m,z26 o g=o++m:=by
 by_cases h:g∈o
 .exact⟨[],by rw[z0q h];simp⟩
 .exact⟨[g],z0r h⟩
theorem z0A:∀(gs o:List α),∃m,z06 o gs=o++m
 |[],o=>⟨[],by simp[z06]⟩
 |g::gs,o=>by obtain⟨m1,e1⟩:=zei o g;obtain⟨m2,e2⟩:=z0A gs (z26 o g);refine⟨m1++m2,?_⟩;show z06 (z26 o g) gs=_;rw[e2,e1,y0p]
def z1f(o gs:List α)(g:α):z06 o (gs++[g])=z26 (z06 o gs) g:=by unfold z06;rw[y2c];rfl
def zau{o:List α}{g:α}(h:o.Nodup):(z26 o g).Nodup:=by
 by_cases hg:g∈o
 .rw[z0q hg];exact h
 .rw[z0r hg];exact zce h hg
theorem z0O:∀(gs o:List α),o.Nodup->(z06 o gs).Nodup
 |[],o,h=>h
 |g::gs,o,h=>z0O gs (z26 o g) (zau h)
def z2R{o:List α}{g x:α}:x∈z26 o g↔x∈o\/x=g:=by
 by_cases hg:g∈o
 .rw[z0q hg];constructor
  .exact .inl
  .rintro(h|rfl)
   .exact h
   .exact hg
 .rw[z0r hg];simp
theorem z0k:∀{gs o:List α}{x:α},x∈z06 o gs↔x∈o\/x∈gs
 |[],o,x=>by simp[z06]
 |g::gs,o,x=>by
  have ih:=z0k (gs:=gs) (o:=z26 o g) (x:=x);show x∈z06 (z26 o g) gs↔_;rw[ih,z2R,y0j];constructor
  .rintro((h|h)|h)
   .exact .inl h
   .exact .inr (.inl h)
   .exact .inr (.inr h)
  .rintro(h|h|h)
   .exact .inl (.inl h)
   .exact .inl (.inr h)
   .exact .inr h
theorem z1V:∀(gs o:List α),(z06 o gs).length<=o.length+gs.length
 |[],o=>by simp[z06]
 |g::gs,o=>by
  have ih:=z1V gs (z26 o g);have h1:(z26 o g).length<=o.length+1:=by
   by_cases hg:g∈o
   .rw[z0q hg];lia
   .rw[z0r hg];simp
  show(z06 (z26 o g) gs).length<=_;rw[y0N];lia
def z5r{o m:List α}{g:α}(h:g∈o):(o++m).idxOf g=o.idxOf g:=by rw[List.idxOf_append,if_pos h]
theorem z5l:∀(n:Nat)(o:List Nat),o.Nodup->(∀x∈o,x<n)->o.length<=n
 |0,o,_,h=>by
  cases o with
  |nil=>simp
  |cons a r=>exact absurd (h a (by simp)) (y2Z _)
 |n+1,o,hn,h=>by
  by_cases hm:n∈o
  .have ih:=z5l n (o.erase n) (hn.erase n) fun x hx=>by
    have h1:=(hn.mem_erase_iff).mp hx;have:=h x h1.2;have:=h1.1;lia
   rw[List.length_erase_of_mem hm]at ih;lia
  .have ih:=z5l n o hn fun x hx=>by
    have:=h x hx;have:x≠n:=fun e=>hm (e▸hx);lia
   lia
def z24{n:Nat}{o:List Int}(h:o.Nodup)(hr:∀x∈o,0<=x/\x<(n:Int)):o.length<=n:=by
 have h1:(o.map Int.toNat).Nodup:=by rw[y1b,y1W];refine y2A (fun{a b} ha hb hab e=>?_) (y1b.mp h);have:=hr a ha;have:=hr b hb;exact hab (by lia)
 have h3:=z5l n _ h1 fun x hx=>by obtain⟨y,hy,rfl⟩:=y0a.mp hx;have:=hr y hy;lia
 simpa using h3
end
abbrev Row:=List Int × List Int
def row(rows:List Row)(r:Int):Row:=rows.getD r.toNat ([],[])
structure z0h(n:Nat)(rows:List Row):Prop where
 few:rows.length<=4000
 some:1<=rows.length
 perm:∀r∈rows,IsP n r.1
 len:∀r∈rows,r.2.length=n
 go:∀r∈rows,∀g∈r.2,0<=g/\g<(rows.length:Int)
def z8o(r:Row):D:=.tup [D.its r.1,D.its r.2]
def bfs(rows:List Row):Nat->Nat->List Int->List Int
 |0,_,o=>o
 |f+1,i,o=>match o[i]? with
  |none=>o
  |some r=>bfs rows f (i+1) (z06 o (row rows r).2)
def z0g(rows:List Row):List Int:=bfs rows (rows.length+1) 0 [0]
def z3u{rows:List Row}{f i:Nat}{o:List Int}{r:Int}(e:o[i]?=some r):bfs rows (f+1) i o=bfs rows f (i+1) (z06 o (row rows r).2):=by
 show(match o[i]? with|none=>o|some r=>bfs rows f (i+1) (z06 o (row rows r).2))=_
 rw[e]
def z3x{rows:List Row}{f i:Nat}{o:List Int}(e:o.length<=i):bfs rows f i o=o:=by
 cases f with
 |zero=>rfl
 |succ f =>
  show(match o[i]? with|none=>o|some r=>bfs rows f (i+1) (z06 o (row rows r).2))=_
  rw[y0I e]
theorem z3V(rows:List Row):∀(f i:Nat)(o:List Int),∃m,bfs rows f i o=o++m
 |0,i,o=>⟨[],by simp[bfs]⟩
 |f+1,i,o=>by
  unfold bfs;cases e:o[i]? with
  |none=>exact⟨[],by simp⟩
  |some r =>
   obtain⟨m1,e1⟩:=z0A (row rows r).2 o;obtain⟨m2,e2⟩:=z3V rows f (i+1) (z06 o (row rows r).2);exact⟨m1++m2,by show bfs rows f (i+1) (z06 o (row rows r).2)=_;rw[e2,e1,y0p]⟩
structure z7g(rows:List Row)(o:List Int):Prop where
 nd:o.Nodup
 rg:∀x∈o,0<=x/\x<(rows.length:Int)
 hd:∃t,o=0::t
def z0t{rows:List Row}{r:Int}(h0:0<=r)(h1:r<(rows.length:Int)):row rows r∈rows:=by
 unfold row;have:r.toNat<rows.length:=by lia
 have e:rows.getD r.toNat ([],[])=rows[r.toNat]:=by simp[this]
 rw[e];exact y0h this
def z40{rows:List Row}{r:Int}(h0:0<=r)(h1:r<(rows.length:Int)):rows[r.toNat]?=some (row rows r):=by
 unfold row;have:r.toNat<rows.length:=by lia
 simp[this]
def z7g.add{n:Nat}{rows:List Row}{o:List Int}(G:z0h n rows)(L:z7g rows o){r:Int}(h:r∈o):z7g rows (z06 o (row rows r).2):=by
 refine⟨z0O _ _ L.nd,fun x hx=>?_,?_⟩
 .rcases z0k.mp hx with hx|hx
  .exact L.rg x hx
  .exact G.go _ (z0t (L.rg r h).1 (L.rg r h).2) x hx
 .obtain⟨t,e⟩:=L.hd;obtain⟨m,e2⟩:=z0A (row rows r).2 o;exact⟨t++m,by rw[e2,e];rfl⟩
def z7g.len{rows:List Row}{o:List Int}(L:z7g rows o):o.length<=rows.length:=z24 L.nd L.rg
def zci{n:Nat}{rows:List Row}(G:z0h n rows):z7g rows [0]:=by
 refine⟨by simp,fun x hx=>?_,⟨[],rfl⟩⟩;have:x=0:=by simpa using hx
 have:=G.some;lia
theorem zcv{n:Nat}{rows:List Row}(G:z0h n rows):∀(f i:Nat)(o:List Int),z7g rows o->i<=o.length->rows.length+1<=f+i->(∀j r,j<i->o[j]?=some r->∀g∈(row rows r).2,g∈o) ->
  z7g rows (bfs rows f i o)/\∀r∈bfs rows f i o,∀g∈(row rows r).2,g∈bfs rows f i o
 |0,i,o,L,hi,hf,hc=>by
  have:=L.len;lia
 |f+1,i,o,L,hi,hf,hc=>by
  cases e:o[i]? with
  |none =>
   rw[z3x (y1E.mp e)];refine⟨L,fun r hr g hg=>?_⟩;obtain⟨j,hj,e2⟩:=y17 hr;have:o.length<=i:=y1E.mp e;exact hc j r (by lia) (by rw[y00 hj,e2]) g hg
  |some r =>
   rw[z3u e];have hr:r∈o:=y0z e;have hil:i<o.length:=(y06.mp e).1;obtain⟨m,em⟩:=z0A (row rows r).2 o;refine zcv G f (i+1) _ (L.add G hr) (by rw[em,y0f];lia) (by lia) fun j r' hj er g hg=>?_;have hjo:j<o.length:=by lia
   have er':o[j]?=some r':=by rw[em,y0F hjo]at er;exact er
   by_cases hji:j=i
   .subst hji;rw[e]at er';cases er';exact z0k.mpr (.inr hg)
   .exact z0k.mpr (.inl (hc j r' (by lia) er' g hg))
def z0v{n:Nat}{rows:List Row}(G:z0h n rows):z7g rows (z0g rows)/\∀r∈z0g rows,∀g∈(row rows r).2,g∈z0g rows :=
 zcv G (rows.length+1) 0 [0] (zci G) (by simp) (by lia) fun j r hj=>absurd hj (y2Z _)
def z1D(rows:List Row)(o:List Int):List Row:=o.map fun r=>((row rows r).1,(row rows r).2.map fun g=>((o.idxOf g:Nat):Int))
def z0E(rows:List Row):List Row:=z1D rows (z0g rows)
def z3e(ks:List Int)(rows:List Row):List (Int × List Int):=(ks.zip rows).map fun p=>(p.1,p.2.2.map fun g=>ks.getD g.toNat 0)
def cnt(ks:List Int):Int:=ks.foldl max 0+1
def z5k(rows:List Row):Nat->Int->List Int->List Int
 |0,_,ks=>ks
 |f+1,c,ks=>if c<cnt ks then z5k rows f (cnt ks) (z2k (z3e ks rows))else ks
def z2J(rows:List Row):List Int:=z5k rows (rows.length+1) 0 (z2k (rows.map (·.1)))
def z5h(rows:List Row)(ks:List Int):List Row:=(rows.zip ks).foldl (fun l p=>if p.2=(l.length:Int)then l++[(p.1.1,p.1.2.map fun g=>ks.getD g.toNat 0)]else l) []
def zaJ(rows:List Row):List Row:=z5h (z0E rows) (z2J (z0E rows))
def csc(ns:List (Str × NameKind)):Scope:={ kind:=.function,names:=ns,isGenerator:=false,isCoroutine:=false,more:=[] }
def z3E(K:yyF)(H:Hp)(Q:VK)(d:D):Prop:=∀v H',z0c H H'->Dr K H' d v->Q v H'
def same_up{H H1:Hp}{p:Addr}{o:HO}(s:z0c H H1)(h:H1 p=none):z0c H (upd H1 p o):=fun b u e=>by have q:=s b u e;rw[z07 (z0e q h)];exact q
def z09{H H1:Hp}{p:Addr}{o:HO}(s:z0c H H1)(h:H p=none):z0c H (upd H1 p o):=fun b u e=>by rw[z07 (z0e e h)];exact s b u e
def z1a{α β:Type}{l:List α}{i:Nat}{x:α}(f:α->β)(h:l[i]?=some x):(l.take (i+1)).map f=(l.take i).map f++[f x]:=by rw[y0D,h,y0d];rfl
def z1O{n:Nat}(h:n<=4900):n<sizeLine:=y26 h (by decide)
def z0U{n:Nat}(h:n<=5000):n<=sizeLine:=y0Q h (by decide)
def z29{α:Type}{xs:List α}{k:Int}{v:α}(h0:0<=k)(h:xs[k.toNat]?=some v):atI xs k=some v:=by
 have q:=z0z h
 rwa [show((k.toNat:Nat):Int)=k by lia]at q
theorem z80{α β:Type}(f:α->β):∀(l:List α)(i:Nat),(l.map f).eraseIdx i=(l.eraseIdx i).map f
 |[],_=>rfl
 |_::_,0=>rfl
 |a::r,i+1=>by show f a::(r.map f).eraseIdx i=f a::(r.eraseIdx i).map f;rw[z80 f r i]
structure Blt(mg:yyS):Prop where
 len:mg "len"=none
 tup:mg "tuple"=none
 lst:mg "list"=none
 rng:mg "range"=none
 isi:mg "isinstance"=none
 int:mg "int"=none
 bl:mg "bool"=none
 str:mg "str"=none
 all:mg "all"=none
def zc4(ns:List Int):D.dep (D.its ns)=1:=by simp only[D.dep,D.depL_ints]
theorem z6U:∀(ns ms:List Int),D.okL (ns.map D.int) (ms.map D.int)
 |[],ms=>by cases ms<;>simp only[y19,y0m,D.okL]
 |n::r,[]=>by simp only[y19,y0m,D.okL]
 |n::r,m::q=>by simp only[y0m,D.okL,D.ok];exact⟨trivial,z6U r q⟩
def Dr.its_inv{K:yyF}{H:Hp}{ns:List Int}{v:V}(h:Dr K H (D.its ns) v):∃a,v=.ref a/\H a=some (.tup (ns.map V.int)):=by simp only[Dr]at h;obtain⟨a,vs,rfl,s,r⟩:=h;exact⟨a,rfl,DrL.ints_inv r▸s⟩
def z9U(K:yyF):Sp:=fun vs H Q _=>∃(a:Addr)(ns:List Int)(i:Nat),vs=[.ref a,.int i]/\SqL K H a (ns.map V.int)/\ns.length<=63/\i<=1000/\Q (.int (cell ns i)) H
def z5z(K:yyF):Sp:=fun vs H Q _=>∃(a:Addr)(ns:List Int)(i:Nat),vs=[.ref a,.int i]/\SqL K H a (ns.map V.int)/\ns.length<=63/\i<=1000/\Q (.int (zeH ns i)) H
def zbU(K:yyF):Sp:=fun vs H Q _=>∃(pick:Int)(n:Nat),vs=[.int pick,.int n]/\n<=1000/\z3E K H Q (D.its (zdQ pick n))
section
variable{α κ:Type}[DecidableEq α][DecidableEq κ]
def z5M(f:α->κ):Nat->List α->List (κ × V)
 |_,[]=>[]
 |n,a::r=>(f a,V.int (n:Int))::z5M f (n+1) r
abbrev prs(f:α->κ)(u:List α):List (κ × V):=z5M f 0 u
theorem z1R(f:α->κ):∀(n:Nat)(u:List α),(z5M f n u).length=u.length
 |_,[]=>rfl
 |n,a::r=>by simp[z5M,z1R f (n+1) r]
theorem zaa(f:α->κ):∀(n:Nat)(u:List α)(a:α),z5M f n (u++[a])=z5M f n u++[(f a,V.int ((n+u.length:Nat):Int))]
 |n,[],a=>by simp[z5M]
 |n,b::r,a=>by
  have ih:=zaa f (n+1) r a;show(f b,V.int (n:Int))::z5M f (n+1) (r++[a])=(f b,V.int (n:Int))::(z5M f (n+1) r++_);have e:n+1+r.length=n+(b::r).length:=by rw[y0N];lia
  rw[ih,e]
theorem z6R(f:α->κ)(hf:∀x y,f x=f y->x=y):∀(n:Nat)(u:List α)(a:α),z3d (z5M f n u) (f a)=if a∈u then some (V.int ((n+u.idxOf a:Nat):Int))else none
 |n,[],a=>by simp[z5M,z3d]
 |n,b::r,a=>by
  have ih:=z6R f hf (n+1) r a;show z3d ((f b,V.int (n:Int))::z5M f (n+1) r) (f a)=_;by_cases e:b=a
  .subst e;rw[z37 rfl,if_pos (by simp)];simp
  .rw[z2w (p:=(f b,V.int (n:Int))) (fun z=>e (hf _ _ z)),ih];have e1:(b::r).idxOf a=r.idxOf a+1:=by
    rw[y2B];have hb:(b==a)=false:=by simpa using e
    rw[hb];rfl
   by_cases hm:a∈r
   .have e2:n+1+r.idxOf a=n+(r.idxOf a+1):=by lia
    rw[if_pos hm,if_pos (by simp[hm]),e1,e2]
   .rw[if_neg hm,if_neg (by simp[hm,y1v e])]
def z1X(f:α->κ)(hf:∀x y,f x=f y->x=y)(u:List α)(a:α):z3d (prs f u) (f a)=if a∈u then some (V.int ((u.idxOf a:Nat):Int))else none:=by have:=z6R f hf 0 u a;simpa using this
def z4T(f:α->κ)(hf:∀x y,f x=f y->x=y){u:List α}{a:α}(h:a∉u):z2K (prs f u) (f a) (V.int (u.length:Nat))=prs f (u++[a]):=by have e:=zaa f 0 u a;rw[y2Y]at e;rw[za8 _ (by rw[z1X f hf,if_neg h])];exact e.symm
end
def z0B(rows:List Row):List D:=rows.map z8o
def z3r(ns:List Int):D.key (D.its ns):=by
 have:∀l:List Int,D.keyL (l.map D.int):=by
  intro l;induction l with
  |nil=>simp only[y19,D.keyL]
  |cons a r ih=>simp only[y0m,D.keyL,D.key];exact⟨trivial,ih⟩
 simp only[D.key];exact this ns
def zgd(ds:List D):Prop:=∀d∈ds,D.key d/\D.dep d<=8/\∃es,d=.tup es
def z44(K:yyF):Sp:=fun vs H Q _=>∃(a:Addr)(us:List V)(ds:List D),vs=[.ref a]/\H a=some (.lst us)/\DrL K H ds us/\zgd ds/\ds.length<=4900 /\
 ∀(r:Addr)(H':Hp),z0c H H'->H' r=some (.lst ((z2k ds).map V.int))->Q (.ref r) H'
def zd6{K:yyF}{H:Hp}{d:D}{v:V}(h:D.key d/\D.dep d<=8/\∃es,d=.tup es)(q:Dr K H d v):zfL K H d v:=by obtain⟨h1,h2,es,rfl⟩:=h;refine⟨?_,h1,h2,q⟩;simp only[Dr]at q;obtain⟨a,vs,e,_⟩:=q;exact⟨a,e⟩
def z0Z(H H':Hp):Prop:=∀b xs,H b=some (.tup xs)->H' b=some (.tup xs)
def z0Z.of{H H':Hp}(s:z0c H H'):z0Z H H':=fun b xs e=>s _ _ e
def z0Z.refl(H:Hp):z0Z H H:=fun _ _ e=>e
def z0Z.trans{H H1 H2:Hp}(a:z0Z H H1)(b:z0Z H1 H2):z0Z H H2:=fun c xs e=>b c xs (a c xs e)
def z0Z.up{H H1:Hp}{a:Addr}{o u:HO}(t:z0Z H H1)(h:H1 a=some o)(n:∀xs,o≠.tup xs):z0Z H (upd H1 a u):=fun b xs e=>by
 have q:=t b xs e;have:b≠a:=fun z=>by rw[z,h]at q;exact n xs (y08 q)
 rw[z07 this];exact q
def zff(r:Row):D.key (z8o r):=by unfold z8o;simp only[D.key,D.keyL];have h1:=z3r r.1;have h2:=z3r r.2;simp only[D.key]at h1 h2;exact⟨h1,h2,trivial⟩
theorem z2x:∀rs:List Row,D.keyL (z0B rs)
 |[]=>by unfold z0B;simp only[y19,D.keyL]
 |r::rs=>by have:=z2x rs;unfold z0B at this⊢;simp only[y0m,D.keyL];exact⟨zff r,this⟩
def z1c{K:yyF}{H:Hp}{r:Row}{v:V}(h:Dr K H (z8o r) v):∃a b c,v=.ref a/\H a=some (.tup [.ref b,.ref c])/\H b=some (.tup (r.1.map V.int))/\H c=some (.tup (r.2.map V.int)):=by unfold z8o at h;simp only[Dr,DrL]at h;obtain⟨a,vs,rfl,e,x,l,rfl,hx,y,l',rfl,hy,rfl⟩:=h;obtain⟨b,us,rfl,eb,rb⟩:=hx;obtain⟨c,ws,rfl,ec,rc⟩:=hy;have e1:=DrL.ints_inv rb;have e2:=DrL.ints_inv rc;subst e1 e2;exact⟨a,b,c,rfl,e,eb,ec⟩
def z4a{K:yyF}{H:Hp}{r:Row}{a b c:Addr}(h:H a=some (.tup [.ref b,.ref c]))(hb:H b=some (.tup (r.1.map V.int)))(hc:H c=some (.tup (r.2.map V.int))):Dr K H (z8o r) (.ref a):=by unfold z8o;exact Dr.tup h (DrL.cons (Dr.tup hb (DrL.ints _)) (DrL.cons (Dr.tup hc (DrL.ints _)) DrL.nil))
def z2M{K:yyF}{H:Hp}{rows:List Row}{us:List V}(h:DrL K H (z0B rows) us){i:Nat}{r:Row}(e:rows[i]?=some r):∃v,us[i]?=some v/\Dr K H (z8o r) v :=
 h.get (by unfold z0B;rw[y04,e];rfl)
def z9h(K:yyF):Sp:=fun vs H Q _=>∃(a:Addr)(b:V)(ks gs:List Int),vs=[.ref a,b]/\H a=some (.lst (ks.map V.int))/\Dr K H (D.its gs) b/\(∀g∈gs,0<=g/\g<(ks.length:Int))/\gs.length<=1000/\z3E K H Q (D.its (gs.map fun g=>ks.getD g.toNat 0))
def z2o(K:yyF):Sp:=fun vs H Q _=>∃(a:V)(r:Row)(z1B:List D),vs=[a]/\Dr K H (D.tup (z8o r::z1B)) a/\r.1.length<=1000/\∀H',z0c H H'->Q (.int r.1.length) H'
def z3D(K:yyF)(H:Hp)(a:Addr)(rows:List Row):Prop:=∃us,H a=some (.lst us)/\DrL K H (z0B rows) us
theorem z3D.mono{K:yyF}{H H':Hp}{a:Addr}{rows:List Row}(h:z3D K H a rows)(s:z0c H H'):z3D K H' a rows:=by obtain⟨us,e,d⟩:=h;exact⟨us,s _ _ e,d.mono s⟩
section
variable{α β:Type}[DecidableEq α][DecidableEq β]
theorem z69(f:α->β)(hf:∀x y,f x=f y->x=y):∀(gs o:List α),z06 (o.map f) (gs.map f)=(z06 o gs).map f
 |[],o=>rfl
 |g::gs,o=>by
  have h1:z26 (o.map f) (f g)=(z26 o g).map f:=by
   by_cases h:g∈o
   .rw[z0q h,z0q (y0a.mpr ⟨g,h,rfl⟩)]
   .have:f g∉o.map f:=fun z=>by
     obtain⟨x,hx,e⟩:=y0a.mp z;exact h (hf _ _ e▸hx)
    rw[z0r h,z0r this,y0d];rfl
  show z06 (z26 (o.map f) (f g)) (gs.map f)=(z06 (z26 o g) gs).map f;rw[h1];exact z69 f hf gs (z26 o g)
theorem z7O(f:α->β)(hf:∀x y,f x=f y->x=y):∀(l:List α)(a:α),(l.map f).idxOf (f a)=l.idxOf a
 |[],a=>rfl
 |b::r,a=>by
  rw[y0m,y2B,y2B,z7O f hf r a];have:(f b==f a)=(b==a):=by
   by_cases e:b=a
   .subst e;simp
   .have h1:(b==a)=false:=by simpa using e
    have h2:(f b==f a)=false:=by simpa using fun z=>e (hf _ _ z)
    rw[h1,h2]
  rw[this]
def z9g(f:α->β)(hf:∀x y,f x=f y->x=y)(xs:List α):z2k (xs.map f)=z2k xs:=by unfold z2k z0F;have:=z69 f hf xs [];rw[y19]at this;rw[this,y1h];refine y0L fun x _=>?_;show(((((z06 [] xs).map f).idxOf (f x):Nat)):Int)=_;rw[z7O f hf]
def z3t(xs:List α):(z2k xs).length=xs.length:=by unfold z2k;rw[y01]
def z4X(xs:List α):(z0F xs).length<=xs.length:=by have:=z1V xs [];unfold z0F;simpa using this
def z7c{xs:List α}{k:Int}(h:k∈z2k xs):0<=k/\k<((z0F xs).length:Int):=by unfold z2k at h;obtain⟨x,hx,rfl⟩:=y0a.mp h;have:x∈z0F xs:=z0k.mpr (.inr hx);have:=y0U this;lia
end
theorem zc2:∀(ks:List Int)(m:Int),m<=ks.foldl max m/\∀k∈ks,k<=ks.foldl max m
 |[],m=>⟨y1u _,fun k h=>by simp at h⟩
 |a::r,m=>by
  obtain⟨h1,h2⟩:=zc2 r (max m a);refine⟨Int.le_trans (Int.le_max_left m a) h1,fun k hk=>?_⟩;rcases y0j.mp hk with rfl|hk
  .exact Int.le_trans (Int.le_max_right m k) h1
  .exact h2 k hk
theorem zbT:∀(ks:List Int)(m:Int),ks.foldl max m=m\/ks.foldl max m∈ks
 |[],m=>.inl rfl
 |a::r,m=>by
  rcases zbT r (max m a)with h|h
  .rcases Int.le_total m a with z|z
   .right;show r.foldl max (max m a)∈a::r;rw[h,Int.max_eq_right z];simp
   .left;show r.foldl max (max m a)=m;rw[h,Int.max_eq_left z]
  .right;exact y0g _ h
def z8S{ks:List Int}(hne:ks≠[])(h0:∀k∈ks,0<=k):cnt ks-1∈ks/\∀k∈ks,k<=cnt ks-1:=by
 unfold cnt;have e:ks.foldl max 0+1-1=ks.foldl max 0:=by lia
 rw[e];refine⟨?_,(zc2 ks 0).2⟩;rcases zbT ks 0 with h|h
 .rw[h];cases ks with
  |nil=>exact absurd rfl hne
  |cons a r =>
   have h1:=(zc2 (a::r) 0).2 a (by simp);rw[h]at h1;have h2:=h0 a (by simp);have:a=0:=by lia
   simp[this]
 .exact h
def zgF{ks:List Int}{n:Nat}(hne:ks≠[])(h0:∀k∈ks,0<=k/\k<(n:Int)):cnt ks<=n/\1<=cnt ks:=by obtain⟨h1,h2⟩:=z8S hne fun k hk=>(h0 k hk).1;have:=h0 _ h1;lia
structure z4h(n:Nat)(rows:List Row):Prop where
 some:1<=rows.length
 few:rows.length<=4000
 perm:∀r∈rows,IsP n r.1
 len:∀r∈rows,r.2.length=n
 go:∀r∈rows,∀g∈r.2,0<=g/\g<(rows.length:Int)
def z2n{n:Nat}{rows:List Row}(G:z0h n rows):z4h n (z0E rows):=by
 obtain⟨L,cl⟩:=z0v G;have hl:=L.len;have hm:∀r∈z0E rows,∃x∈z0g rows,r=((row rows x).1,(row rows x).2.map fun g=>(((z0g rows).idxOf g:Nat):Int)):=fun r hr=>by unfold z0E z1D at hr;obtain⟨x,hx,e⟩:=y0a.mp hr;exact⟨x,hx,e.symm⟩
 have fl:(z0E rows).length=(z0g rows).length:=by unfold z0E z1D;rw[y01]
 refine⟨?_,by have:=G.few;lia,fun r hr=>?_,fun r hr=>?_,fun r hr g hg=>?_⟩
 .obtain⟨t,e⟩:=L.hd;rw[fl,e];simp
 .obtain⟨x,hx,rfl⟩:=hm r hr;exact G.perm (row rows x) (z0t (L.rg x hx).1 (L.rg x hx).2)
 .obtain⟨x,hx,rfl⟩:=hm r hr;show(List.map _ _).length=n;rw[y01];exact G.len _ (z0t (L.rg x hx).1 (L.rg x hx).2)
 .obtain⟨x,hx,rfl⟩:=hm r hr;obtain⟨y,hy,rfl⟩:=y0a.mp hg;have:=y0U (cl x hx y hy);lia
structure z5J(rows:List Row)(ks:List Int):Prop where
 len:ks.length=rows.length
 rg:∀k∈ks,0<=k/\k<(rows.length:Int)
def zeF{n:Nat}{rows:List Row}(G:z4h n rows):z5J rows (z2k (rows.map (·.1))):=by refine⟨by rw[z3t,y01],fun k hk=>?_⟩;have:=z7c hk;have:=z4X (rows.map (·.1));rw[y01]at this;lia
def z7M{rows:List Row}{ks:List Int}(h:z5J rows ks):(z3e ks rows).length=rows.length:=by unfold z3e;rw[y01,y3t,h.len];lia
def zcU{rows:List Row}{ks:List Int}(h:z5J rows ks):z5J rows (z2k (z3e ks rows)):=by have hl:=z7M h;refine⟨by rw[z3t,hl],fun k hk=>?_⟩;have:=z7c hk;have:=z4X (z3e ks rows);lia
def zgu{n:Nat}{rows:List Row}{ks:List Int}(G:z4h n rows)(h:z5J rows ks):ks≠[]:=fun e=>by have:=h.len;have:=G.some;subst e;simp at *;lia
def z5H(p:Int × List Int):D:=.tup [.int p.1,D.its p.2]
def z8r{a b:List Int}(e:D.its a=D.its b):a=b:=by
 injection e with e;induction a generalizing b with
 |nil=>cases b with
  |nil=>rfl
  |cons _ _=>cases e
 |cons x r ih=>cases b with
  |nil=>cases e
  |cons y q =>
   rw[y0m,y0m]at e;injection e with e1 e2;injection e1 with e1;rw[e1,ih e2]
def zcj(p q:Int × List Int)(e:z5H p=z5H q):p=q:=by unfold z5H at e;injection e with e;injection e with e1 e2;injection e2 with e2 _;injection e1 with e1;have:=z8r e2;exact y4a e1 this
def z93(p:Int × List Int):D.key (z5H p):=by unfold z5H;simp only[D.key,D.keyL];have h:=z3r p.2;simp only[D.key]at h;exact⟨trivial,h,trivial⟩
def zdt(p:Int × List Int):D.dep (z5H p)<=8:=by unfold z5H;simp only[D.dep,D.depL,D.depL_ints];decide
theorem z7x:∀ps:List (Int × List Int),D.keyL (ps.map z5H)
 |[]=>by simp only[y19,D.keyL]
 |p::ps=>by simp only[y0m,D.keyL];exact⟨z93 p,z7x ps⟩
theorem z9R:∀ps:List (List Int),D.keyL (ps.map D.its)
 |[]=>by simp only[y19,D.keyL]
 |p::ps=>by have:=z3r p;simp only[y0m,D.keyL];exact⟨this,z9R ps⟩
theorem z65{rows:List Row}:∀(m:Nat)(c:Int)(ks:List Int),z5J rows ks->z5J rows (z5k rows m c ks)
 |0,_,ks,h=>h
 |m+1,c,ks,h=>by
  unfold z5k;by_cases hc:c<cnt ks
  .rw[if_pos hc];exact z65 m _ _ (zcU h)
  .rw[if_neg hc];exact h
def z41{n:Nat}{rows:List Row}(G:z4h n rows):z5J rows (z2J rows):=z65 _ _ _ (zeF G)
def z6W(ks:List Int)(l:List Row)(p:Row × Int):List Row:=if p.2=(l.length:Int)then l++[(p.1.1,p.1.2.map fun g=>ks.getD g.toNat 0)]else l
def z2l(rows:List Row)(ks:List Int)(i:Nat):List Row:=((rows.zip ks).take i).foldl (z6W ks) []
def z60{rows:List Row}{ks:List Int}(h:ks.length=rows.length):z2l rows ks rows.length=z5h rows ks:=by unfold z2l z5h;rw[y0x (by rw[y3t];lia)];rfl
def z4U{rows:List Row}{ks:List Int}{i:Nat}{r:Row}{k:Int}(e:rows[i]?=some r)(e':ks[i]?=some k):z2l rows ks (i+1)=z6W ks (z2l rows ks i) (r,k):=by unfold z2l;rw[y0D,y1C (z:=(r,k)) |>.mpr ⟨e,e'⟩,y2c];rfl
def zcE(ks:List Int)(l:List Row)(p:Row × Int):(z6W ks l p).length<=l.length+1:=by
 unfold z6W;split
 .rw[y0f];simp
 .lia
def zah(rows:List Row)(ks:List Int)(i:Nat):(z2l rows ks i).length<=i:=by
 unfold z2l;have:∀(l:List (Row × Int))(a:List Row),(l.foldl (z6W ks) a).length<=a.length+l.length:=by
  intro l;induction l with
  |nil=>intro a;simp
  |cons p l ih =>
   intro a;have h1:=ih (z6W ks a p);have h2:=zcE ks a p;rw[y1B,y0N];lia
 have h:=this ((rows.zip ks).take i) [];rw[y0q]at h;simp only[y2d]at h;lia
def zee{n:Nat}{rows:List Row}(G:z0h n rows):(z0E rows).length<=rows.length:=by have:=(z0v G).1.len;unfold z0E z1D;rw[y01];exact this
def zi7(m:Nat)(ns:List Int):Prop:=ns.length=m/\∀x∈ns,0<=x/\x<1009
def z5q(K:yyF):Sp:=fun vs H Q _=>∃(c:Int)(m:Nat),vs=[.int c,.int m]/\m<=900/\∀(r:Addr)(H':Hp)(ns:List Int),z0c H H'->H' r=some (.lst (ns.map V.int))->zi7 m ns->Q (.ref r) H'
def z7U{ns:List Int}{x:Int}(h:∀x∈ns,0<=x/\x<1009)(hx:0<=x/\x<1009):∀y∈ns++[x],0<=y/\y<1009:=by
 intro y hy;rcases y0s.mp hy with hy|hy
 .exact h y hy
 .rw[y07.mp hy];exact hx
def zd4{j:Int}(h:(0:Int)<j:=by decide):0<j:=h
def zcP(x:Int):0<=x%1009/\x%1009<1009:=by lia
def zbW(K:yyF):Sp:=fun vs H Q _=>∃(n:Nat)(c:Int),vs=[.int n,.int c]/\2<=n/\n<=5/\∀(r:Addr)(H':Hp)(rows:List Row),z0c H H'->z3D K H' r rows->z0h n rows->rows.length<=8->Q (.ref r) H'
def GI(m:Nat)(H:Hp)(i:Nat)(ys:List V)(H2:Hp):Prop:=∃gs:List Int,ys=gs.map V.int/\gs.length=i/\(∀g∈gs,0<=g/\g<(m:Int))/\z0c H H2
def GI.nil{m:Nat}{H:Hp}{l:Addr}(h:H l=none):GI m H 0 [] (upd H l (.lst [])):=⟨[],rfl,rfl,fun g hg=>by simp at hg,same_up (z0c.refl H) h⟩
def GI.len{m:Nat}{H H2:Hp}{i:Nat}{ys:List V}(h:GI m H i ys H2):ys.length=i:=by obtain⟨gs,rfl,e,_⟩:=h;rw[y01];exact e
def GI.snoc{m:Nat}{H H2:Hp}{i:Nat}{ys:List V}{l:Addr}{o:HO}(h:GI m H i ys H2)(hl:H l=none){g:Int}(hg:0<=g/\g<(m:Int)):GI m H (i+1) (ys++[.int g]) (upd H2 l o):=by
 obtain⟨gs,rfl,e,r,s⟩:=h;refine⟨gs++[g],by rw[y0d];rfl,by rw[y0f,e];rfl,fun x hx=>?_,z09 s hl⟩;rcases y0s.mp hx with hx|hx
 .exact r x hx
 .rw[y07.mp hx];exact hg
structure RIx(K:yyF)(n m:Nat)(c kd:Int)(j:Nat)(ln lr lp:Addr)(H0:Hp)(σ:St)(H:Hp):Prop where
 ex:∃(b:V)(lg:Addr)(p gs:List Int),σ=[some (.int n),some (.int c),some (.ref ln),some (.int m),some (.int kd),some (.ref lr),some (.int j),some (.ref lp),some b,some (.ref lg)]/\z0c H0 H/\Dr K H (D.its p) b/\IsP n p /\
  H lg=some (.lst (gs.map V.int))/\gs.length=n/\∀g∈gs,0<=g/\g<(m:Int)
structure RF(n m j:Nat)(ps:List Int)(lp:Addr)(H0:Hp):Prop where
 n2:2<=n
 n5:n<=5
 jm:j<m
 m8:m<=8
 lp:H0 lp=some (.lst (ps.map V.int))
 len:ps.length=6
 nn:∀p∈ps,0<=p/\p<1009
def tRI(K:yyF):TS:=fun D σ H=>∃(n m:Nat)(c kd:Int)(j:Nat)(ln lr lp:Addr)(ps:List Int)(H0:Hp),RF n m j ps lp H0/\RIx K n m c kd j ln lr lp H0 σ H/\∀σ' H',RIx K n m c kd j ln lr lp H0 σ' H'->D.nx σ' H'
def zgK(K:yyF)(σ:St)(H:Hp):Prop:=∃(n m:Nat)(c kd:Int)(j:Nat)(ln lr lp:Addr)(ps:List Int)(H0:Hp),RF n m j ps lp H0/\RIx K n m c kd j ln lr lp H0 σ H
def GR(n m:Nat)(rs:List Row):Prop:=∀r∈rs,IsP n r.1/\r.2.length=n/\∀g∈r.2,0<=g/\g<(m:Int)
def GR.snoc{n m:Nat}{rs:List Row}{r:Row}(h:GR n m rs)(hr:IsP n r.1/\r.2.length=n/\∀g∈r.2,0<=g/\g<(m:Int)):GR n m (rs++[r]):=fun x hx=>by
 rcases y0s.mp hx with hx|hx
 .exact h x hx
 .rw[y07.mp hx];exact hr
def GR.good{n m:Nat}{rs:List Row}(h:GR n m rs)(hl:rs.length=m)(h1:1<=m)(h4:m<=4000):z0h n rs:=by subst hl;exact⟨h4,h1,fun r hr=>(h r hr).1,fun r hr=>(h r hr).2.1,fun r hr=>(h r hr).2.2⟩
def ziU{ns:List Int}{i:Nat}(h:zi7 64 ns)(hi:i<8):∃ps:List Int,zek (ns.map V.int) (some (2+6*(i:Int))) (some (8+6*(i:Int)))=ps.map V.int/\ps.length=6/\∀p∈ps,0<=p/\p<1009:=by
 have hl:=h.1;refine⟨(ns.drop (2+6*i)).take 6,?_,by rw[y0q,y3R];lia,fun p hp=>h.2 p (y2a (y1i hp))⟩;have e1:(2+6*(i:Int))=((2+6*i:Nat):Int):=by lia
 have e2:(8+6*(i:Int))=((8+6*i:Nat):Int):=by lia
 unfold zek;rw[e1,e2,HT.sIx_nat,HT.sIx_nat,y01,hl,y3u (by lia),y3u (by lia),show 8+6*i-(2+6*i)=6 by lia,List.map_take,List.map_drop]
def z3I{x:Int}(h:0<=x):∃m:Nat,x=(m:Int):=⟨x.toNat,by lia⟩
def zgQ(n:Nat)(j:Int):(List.replicate n [V.int j]).flatten=(List.replicate n j).map V.int:=by
 induction n with
 |zero=>rfl
 |succ n ih=>rw[y1m,y1x,ih,y1m];rfl
def z9l(n:Nat):IsP n (z0p n):=List.Perm.refl _
def z8M(x y:Int)(e:(Sum.inl x:Key)=Sum.inl y):x=y:=y41 e
def zfh{o:List Int}(h:o.Nodup){i:Nat}{r:Int}(e:o[i]?=some r):r∉o.take i:=fun z=>by
 have h':(o.take i++o.drop i).Nodup:=by rw[y0T];exact h
 have hr:r∈o.drop i:=y0z (i:=0) (by rw[y2T];exact e);exact(y3F.mp h').2.2 r z r hr rfl
def mk(o:List Int)(vs:List V):List (Key × V):=(o.zip vs).map fun p=>(Sum.inl p.1,p.2)
def FK(f:Int->D):Prop:=∀r,D.key (f r)/\D.dep (f r)<=3
theorem FK.keyL{f:Int->D}(h:FK f):∀o:List Int,D.keyL (o.map f)
 |[]=>by simp only[y19,D.keyL]
 |r::o=>by simp only[y0m,D.keyL];exact⟨(h r).1,FK.keyL h o⟩
theorem FK.depL{f:Int->D}(h:FK f):∀o:List Int,D.depL (o.map f)<=3
 |[]=>by simp only[y19,D.depL];lia
 |r::o=>by simp only[y0m,D.depL];have:=(h r).2;have:=FK.depL h o;lia
theorem FK.its(rows:List Row):FK fun r=>D.its (row rows r).1:=fun r=>⟨z3r _,by rw[zc4];decide⟩
theorem FK.int(k:Int->Int):FK fun r=>D.int (k r):=fun r=>⟨by simp only[D.key],by simp only[D.dep];decide⟩
def z1N(rows:List Row)(f:Int->D)(r:Int):D:=.tup [f r,.tup ((row rows r).2.map f)]
theorem FK.key{rows:List Row}{f:Int->D}(h:FK f)(r:Int):D.key (z1N rows f r)/\D.dep (z1N rows f r)<=8/\∃es,z1N rows f r=.tup es:=by
 refine⟨?_,?_,_,rfl⟩
 .unfold z1N;simp only[D.key,D.keyL];exact⟨(h r).1,h.keyL _,trivial⟩
 .unfold z1N;simp only[D.dep,D.depL];have:=(h r).2;have:=h.depL (row rows r).2;lia
def z2j(rows:List Row)(o:List Int)(f:Int->D):List D:=o.map (z1N rows f)
def z32(rows:List Row)(o:List Int)(f:Int->D)(r:Int):Int:=(((z0F (z2j rows o f)).idxOf (z1N rows f r):Nat):Int)
def z3h(rows:List Row)(o:List Int)(f:Int->D):Int->D:=fun r=>.int (z32 rows o f r)
def z2H(rows:List Row)(o:List Int)(f:Int->D):Nat:=(z0F (z2j rows o f)).length
def z8c(rows:List Row)(o:List Int)(f:Int->D):z2H rows o f<=o.length:=by have:=z4X (z2j rows o f);unfold z2H z2j at *;rw[y01]at this;exact this
def z4V(rows:List Row)(o:List Int):Nat->Nat->(Int->D)->(Int->D)
 |0,_,f=>f
 |m+1,many,f=>if many<z2H rows o f then z4V rows o m (z2H rows o f) (z3h rows o f)else z3h rows o f
def z5Y(rows:List Row):Int->D:=z4V rows (z0g rows) (rows.length+2) 0 fun r=>D.its (row rows r).1
def z0N(k:Int->Int)(hs:List Int)(r:Int):List Int:=if k r∈hs.map k then hs else hs++[r]
def z0H(k:Int->Int)(o:List Int):List Int:=o.foldl (z0N k) []
def z2c(rows:List Row)(k:Int->Int)(o:List Int):List Row:=(z0H k o).map fun r=>((row rows r).1,(row rows r).2.map fun g=>((((z0H k o).map k).idxOf (k g):Nat):Int))
def z1C(k:Int->Int)(o:List Int)(r:Int):z0H k (o++[r])=z0N k (z0H k o) r:=by unfold z0H;rw[y2c];rfl
def z1w(k:Int->Int)(o:List Int):(∀r∈o,k r∈(z0H k o).map k)/\(∀r∈z0H k o,r∈o)/\(z0H k o).length<=o.length:=by
 have:∀(o hs:List Int),(∀x∈hs.map k,x∈(o.foldl (z0N k) hs).map k)/\(∀r∈o,k r∈(o.foldl (z0N k) hs).map k)/\(∀r∈o.foldl (z0N k) hs,r∈hs\/r∈o)/\(o.foldl (z0N k) hs).length<=hs.length+o.length:=by
  intro o;induction o with
  |nil=>intro hs;exact⟨fun x h=>h,fun r h=>by simp at h,fun r h=>.inl h,by simp⟩
  |cons a o ih =>
   intro hs;obtain⟨i1,i2,i3,i4⟩:=ih (z0N k hs a);rw[y1B];have hsub:∀x∈hs.map k,x∈(z0N k hs a).map k:=fun x hx=>by
    unfold z0N;split
    .exact hx
    .rw[y0d];exact y0t _ hx
   have ha:k a∈(z0N k hs a).map k:=by
    unfold z0N;split
    .assumption
    .simp
   have hlen:(z0N k hs a).length<=hs.length+1:=by
    unfold z0N;split
    .lia
    .simp
   refine⟨fun x hx=>i1 x (hsub x hx),fun r hr=>?_,fun r hr=>?_,by rw[y0N];lia⟩
   .rcases y0j.mp hr with rfl|hr
    .exact i1 _ ha
    .exact i2 r hr
   .rcases i3 r hr with h|h
    .unfold z0N at h;split at h
     .exact .inl h
     .rcases y0s.mp h with h|h
      .exact .inl h
      .exact .inr (by rw[y07.mp h];simp)
    .exact .inr (y0g _ h)
 obtain⟨_,h2,h3,h4⟩:=this o [];refine⟨h2,fun r hr=>?_,by unfold z0H;simpa using h4⟩;rcases h3 r hr with h|h
 .simp at h
 .exact h
def z9n(k:Int->Int)(a:Int)(o:List Int):∃t,z0H k (a::o)=a::t:=by
 have:∀(o hs:List Int),∃t,o.foldl (z0N k) hs=hs++t:=by
  intro o;induction o with
  |nil=>intro hs;exact⟨[],by simp⟩
  |cons a o ih =>
   intro hs;obtain⟨t,e⟩:=ih (z0N k hs a);rw[y1B,e];unfold z0N;split
   .exact⟨t,rfl⟩
   .exact⟨[a]++t,by rw[y0p]⟩
 unfold z0H;rw[y1B];have e:z0N k [] a=[a]:=by unfold z0N;simp
 rw[e];obtain⟨t,e⟩:=this o [a];exact⟨t,e⟩
def zj1:D->Int
 |.int i=>i
 |_=>0
def kOf(rows:List Row)(r:Int):Int:=zj1 (z5Y rows r)
theorem z7P(rows:List Row)(o:List Int):∀(m many:Nat)(f:Int->D),∃k:Int->Int,z4V rows o (m+1) many f=fun r=>D.int (k r)
 |0,many,f=>by
  unfold z4V;split
  .unfold z4V;exact⟨z32 rows o f,rfl⟩
  .exact⟨z32 rows o f,rfl⟩
 |m+1,many,f=>by
  unfold z4V;split
  .exact z7P rows o m _ _
  .exact⟨z32 rows o f,rfl⟩
def z6a(rows:List Row):z5Y rows=fun r=>D.int (kOf rows r):=by obtain⟨k,e⟩:=z7P rows (z0g rows) (rows.length+1) 0 fun r=>D.its (row rows r).1;have e':z5Y rows=fun r=>D.int (k r):=e;funext r;unfold kOf;rw[e'];rfl
def shr(rows:List Row):List Row:=z2c rows (kOf rows) (z0g rows)
def zga{n:Nat}{rows:List Row}(G:z0h n rows):∃r t,shr rows=r::t/\IsP n r.1:=by obtain⟨L,_⟩:=z0v G;obtain⟨t,e⟩:=L.hd;obtain⟨t',e'⟩:=z9n (kOf rows) 0 t;unfold shr z2c;rw[e,e',y0m];have:=G.some;exact(exB rfl (G.perm (row rows 0) (z0t (y1u 0) (show(0:Int)<(rows.length:Int)by lia))))
theorem DD.keyed{P:Program}{w:World}{K:yyF}{H H':Hp}{a:Addr}{kvs:List (D × V)}(h:DD P w K H a kvs)(k:z0Z H H')(e:H' a=H a):DD P w K H' a kvs:=by obtain⟨xs,e0,r,n,z⟩:=h;exact⟨xs,by rw[e];exact e0,r.mono fun _ _ q d=>d.keyed k q,n,z⟩
def z7J{κ:Type}[DecidableEq κ]:∀(n:Nat)(u:List κ)(a:κ),a∈u->u.Nodup->z2K (z5M id n u) a (V.int ((n+u.idxOf a:Nat):Int))=z5M id n u:=by
 intro n u a ha hn;have hv:z3d (z5M id n u) a=some (V.int ((n+u.idxOf a:Nat):Int)):=by have:=z6R (κ:=κ) id (fun _ _ e=>e) n u a;rw[if_pos ha]at this;exact this
 unfold z2K;rw[z3P,hv];rw[if_pos (show(some (V.int ((n+u.idxOf a:Nat):Int))).isSome=true from rfl)];clear hv;induction u generalizing n with
 |nil=>rfl
 |cons b u ih =>
  show(if b=a then(b,_)else(b,V.int (n:Int)))::List.map _ (z5M id (n+1) u)=(b,V.int (n:Int))::z5M id (n+1) u;have hnb:=(y1e.mp hn).1;have hnu:=(y1e.mp hn).2;by_cases e:b=a
  .subst e;rw[if_pos rfl];have e1:(b::u).idxOf b=0:=by simp
   rw[e1];congr 1;have:∀(m:Nat)(l:List κ),b∉l->List.map (fun kv:κ × V=>if kv.1=b then(kv.1,V.int ((n+0:Nat):Int))else kv) (z5M id m l)=z5M id m l:=by
    intro m l;induction l generalizing m with
    |nil=>intro _;rfl
    |cons c l ih2 =>
     intro hb;show(if c=b then _ else(c,V.int (m:Int)))::List.map _ (z5M id (m+1) l)=(c,V.int (m:Int))::z5M id (m+1) l;rw[if_neg (fun z=>hb (by rw[z];simp)),ih2 (m+1) (fun z=>hb (y0g _ z))]
   exact this _ _ hnb
  .rw[if_neg e];have ha':a∈u:=by rcases y0j.mp ha with z|z;exact absurd z.symm e;exact z
   have e1:(b::u).idxOf a=u.idxOf a+1:=by
    rw[y2B];have hb:(b==a)=false:=by simpa using e
    rw[hb];rfl
   rw[e1,show n+(u.idxOf a+1)=(n+1)+u.idxOf a by lia,ih (n+1) ha' hnu]
def z9Q(K:yyF):Sp:=fun vs H Q _=>∃(a:Addr)(n:Nat)(rows:List Row),vs=[.ref a,.int 0]/\z3D K H a rows/\z0h n rows/\n<=60/\z3E K H Q (D.tup (z0B (shr rows)))
theorem z4q{α:Type}[DecidableEq α](x:α):∀(xs:List α),(∀y∈xs,y=x)->z06 [x] xs=[x]
 |[],_=>rfl
 |y::ys,h=>by have e:y=x:=h y (by simp);subst e;show z06 (z26 [y] y) ys=[y];rw[z0q (by simp)];exact z4q y ys fun z hz=>h z (y0g _ hz)
def z5P{α:Type}[DecidableEq α](x:α)(xs:List α)(h:∀y∈xs,y=x):z2k xs=List.replicate xs.length 0:=by
 cases xs with
 |nil=>rfl
 |cons y ys =>
  have e:y=x:=h y (by simp);subst e;have hu:z0F (y::ys)=[y]:=by show z06 (z26 [] y) ys=[y];rw[z0r (by simp)];exact z4q y ys fun z hz=>h z (y0g _ hz)
  unfold z2k;rw[hu,y3K];refine⟨by rw[y01],fun b hb=>?_⟩;obtain⟨k,hk,rfl⟩:=y0a.mp hb;rw[h k hk];simp
def z7K(m:Nat):cnt (List.replicate m 0)=1:=by
 unfold cnt;have:∀m:Nat,(List.replicate m (0:Int)).foldl max 0=0:=by
  intro m;induction m with
  |zero=>rfl
  |succ m ih=>rw[y1m,y1B];exact ih
 rw[this];rfl
def z6j(m k:Nat):(List.replicate m (0:Int)).getD k 0=0:=by rw[y03,y3o];split<;>rfl
def zaR{n:Nat}{rows:List Row}(G:z4h n rows)(h:∀r∈rows,r.1=z0p n):z2J rows=List.replicate rows.length 0:=by
 have h0:z2k (rows.map (·.1))=List.replicate rows.length 0:=by rw[z5P (z0p n) _ fun y hy=>by obtain⟨r,hr,rfl⟩:=y0a.mp hy;exact h r hr,y01]
 have h1:z2k (z3e (List.replicate rows.length 0) rows)=List.replicate rows.length 0:=by
  rw[z5P ((0:Int),List.replicate n (0:Int)) _ fun y hy=>?_]
  .congr 1;unfold z3e;rw[y01,y3t,y23];lia
  .unfold z3e at hy;obtain⟨p,hp,rfl⟩:=y0a.mp hy;obtain⟨hp1,hp2⟩:=y2X hp;have e1:p.1=0:=(y2U.mp hp1).2;refine y4a e1 ?_;show p.2.2.map _=_;rw[y3K];refine⟨by rw[y01];exact G.len _ hp2,fun b hb=>?_⟩;obtain⟨g,_,rfl⟩:=y0a.mp hb;exact z6j _ _
 unfold z2J;rw[h0];have hs:=G.some;obtain⟨m,hm⟩:∃m,rows.length=m+1:=⟨rows.length-1,by lia⟩;rw[show rows.length+1=(m+1)+1 by lia];show(if(0:Int)<cnt (List.replicate rows.length 0)then z5k rows (m+1) (cnt (List.replicate rows.length 0)) (z2k (z3e (List.replicate rows.length 0) rows))else List.replicate rows.length 0)=_;rw[z7K,if_pos (by decide),h1];show(if(1:Int)<cnt (List.replicate rows.length 0)then _ else List.replicate rows.length 0)=_;rw[z7K,if_neg (by decide)]
def zaf{n:Nat}{rows:List Row}(G:z0h n rows)(h:∀r∈rows,r.1=z0p n):zaJ rows=[(z0p n,List.replicate n 0)]:=by
 have GF:=z2n G;have hf:∀r∈z0E rows,r.1=z0p n:=fun r hr=>by unfold z0E z1D at hr;obtain⟨x,hx,rfl⟩:=y0a.mp hr;obtain⟨x0,x1⟩:=(z0v G).1.rg x hx;exact h (row rows x) (z0t x0 x1)
 unfold zaJ;rw[zaR GF hf];generalize z0E rows=fs at GF hf;have hs:=GF.some;cases fs with
 |nil=>simp at hs
 |cons r t =>
  unfold z5h;rw[y0N,y1m,List.zip_cons_cons,y1B];have e0:(if(r,(0:Int)).2=(([]:List Row).length:Int)then[]++[((r,(0:Int)).1.1,(r,(0:Int)).1.2.map fun g=>((0:Int)::List.replicate t.length 0).getD g.toNat 0)]else([]:List Row))=[(z0p n,List.replicate n 0)]:=by
   rw[if_pos (show(r,(0:Int)).2=(([]:List Row).length:Int)from rfl),y1Q];congr 1;refine y4a (hf r (by simp)) ?_;show r.2.map _=_;rw[y3K];refine⟨by rw[y01];exact GF.len _ (by simp),fun b hb=>?_⟩;obtain⟨g,_,rfl⟩:=y0a.mp hb;have:=z6j (t.length+1) g.toNat
   rwa [y1m]at this
  rw[e0];have:∀(l:List (Row × Int))(acc:List Row),acc.length=1->(∀p∈l,p.2=0)->l.foldl (fun l p=>if p.2=(l.length:Int)then l++[(p.1.1,p.1.2.map fun g=>((0:Int)::List.replicate t.length 0).getD g.toNat 0)]else l) acc=acc:=by
   intro l;induction l with
   |nil=>intro acc _ _;rfl
   |cons p l ih =>
    intro acc h1 hz;rw[y1B,if_neg (by rw[hz p (by simp),h1];decide)];exact ih acc h1 fun p hp=>hz p (y0g _ hp)
  exact this _ _ rfl fun p hp=>(y2U.mp (y2X hp).2).2
def z8F(K:yyF):Sp:=fun vs H Q _=>∃(n:Nat)(c:Int),vs=[.int n,.int c]/\2<=n/\n<=5/\∀(v:V)(H':Hp)(rows:List Row),z0c H H'->z0h n rows->rows.length<=8->Dr K H' (D.tup (z0B (shr rows))) v->Q v H'
section
variable{α β:Type}[DecidableEq α][DecidableEq β]
def z1H(xs:List α)(x:α):z0F (xs++[x])=z26 (z0F xs) x:=z1f [] xs x
def z0R{xs:List α}{x:α}:x∈z0F xs↔x∈xs:=by unfold z0F;rw[z0k];simp
def zd3(xs:List α):(z0F xs).Nodup:=z0O xs [] y2s
def z92(xs ys:List α):z0F (xs++ys)=z06 (z0F xs) ys:=by unfold z0F z06;rw[y2c]
theorem z63:∀{gs o:List α},(∀g∈gs,g∈o)->z06 o gs=o
 |[],o,_=>rfl
 |g::gs,o,h=>by show z06 (z26 o g) gs=o;rw[z0q (h g (by simp))];exact z63 fun x hx=>h x (y0g _ hx)
theorem z4u:∀{gs o:List α},(o++gs).Nodup->z06 o gs=o++gs
 |[],o,_=>by simp[z06]
 |g::gs,o,h=>by show z06 (z26 o g) gs=_;have hg:g∉o:=fun z=>(y3F.mp h).2.2 g z g (by simp) rfl;rw[z0r hg,z4u (by rw[y0p];exact h),y0p];rfl
def zbI{l:List α}(h:l.Nodup):z0F l=l:=by have:=z4u (o:=[]) (gs:=l) (by simpa using h);rw[y1Q]at this;exact this
theorem z88(f:Int->α)(f':Int->β):∀l:List Int,(∀x∈l.reverse,∀y∈l.reverse,f' x=f' y->f x=f y) ->
  (z0F (l.reverse.map f)).length<=(z0F (l.reverse.map f')).length/\((z0F (l.reverse.map f')).length<=(z0F (l.reverse.map f)).length->∀x∈l.reverse,∀y∈l.reverse,f x=f y->f' x=f' y)
 |[],_=>⟨y0b _,fun _ x hx=>by simp at hx⟩
 |z::l,h=>by
  rw[y1w]at h⊢;obtain⟨ih1,ih2⟩:=z88 f f' l fun x hx y hy=>h x (y0t _ hx) y (y0t _ hy);have hz:z∈l.reverse++[z]:=by simp
  have hL:∀x,x∈l.reverse->x∈l.reverse++[z]:=fun x hx=>y0t _ hx;rw[y0d,y0d,show List.map f [z]=[f z]from rfl,show List.map f' [z]=[f' z]from rfl,z1H,z1H];generalize l.reverse=o at *;by_cases h1:f' z∈z0F (o.map f')
  .obtain⟨z',hz',ez⟩:=y0a.mp (z0R.mp h1);have ez2:f z'=f z:=h z' (hL _ hz') z hz ez;have h2:f z∈z0F (o.map f):=z0R.mpr (y0a.mpr ⟨z',hz',ez2⟩);rw[z0q h1,z0q h2];refine⟨ih1,fun hc x hx y hy e=>?_⟩;have red:∀x∈o++[z],∃x'∈o,f x'=f x/\f' x'=f' x:=fun x hx=>by
    rcases y0s.mp hx with hx|hx
    .exact⟨x,hx,rfl,rfl⟩
    .rw[y07.mp hx];exact⟨z',hz',ez2,ez⟩
   obtain⟨x',hx',e1,e2⟩:=red x hx;obtain⟨y',hy',e3,e4⟩:=red y hy;rw[<-e2,<-e4];exact ih2 hc x' hx' y' hy' (by rw[e1,e3,e])
  .rw[z0r h1];by_cases h2:f z∈z0F (o.map f)
   .rw[z0q h2,y0f];refine⟨by simp;lia,fun hc=>?_⟩;simp at hc;lia
   .rw[z0r h2,y0f,y0f];refine⟨by simp;lia,fun hc x hx y hy e=>?_⟩;have hc':(z0F (o.map f')).length<=(z0F (o.map f)).length:=by simp at hc;lia
    have no:∀x∈o,f x≠f z:=fun x hx e=>h2 (z0R.mpr (y0a.mpr ⟨x,hx,e⟩));rcases y0s.mp hx with hx|hx
    .rcases y0s.mp hy with hy|hy
     .exact ih2 hc' x hx y hy e
     .rw[y07.mp hy]at e;exact absurd e (no x hx)
    .rcases y0s.mp hy with hy|hy
     .rw[y07.mp hx]at e;exact absurd e.symm (no y hy)
     .rw[y07.mp hx,y07.mp hy]
def z2D(f:Int->α)(f':Int->β)(o:List Int)(h:∀x∈o,∀y∈o,f' x=f' y->f x=f y) : (z0F (o.map f)).length<=(z0F (o.map f')).length/\((z0F (o.map f')).length<=(z0F (o.map f)).length->∀x∈o,∀y∈o,f x=f y->f' x=f' y):=by
 have:=z88 f f' o.reverse (by rw[y1z];exact h)
 rwa [y1z]at this
def nk(o:List Int)(key:Int->α)(x:Int):Int:=(((z0F (o.map key)).idxOf (key x):Nat):Int)
def zbS{l:List α}{a b:α}(ha:a∈l)(hb:b∈l)(e:l.idxOf a=l.idxOf b):a=b:=by have h1:=y1R (y0U ha);have h2:=y1R (y0U hb);rw[<-h1,<-h2];congr 1
def z6L{o:List Int}{key:Int->α}{x y:Int}(hx:x∈o)(hy:y∈o):nk o key x=nk o key y↔key x=key y:=by
 unfold nk;constructor
 .intro e;exact zbS (z0R.mpr (y0a.mpr ⟨x,hx,rfl⟩)) (z0R.mpr (y0a.mpr ⟨y,hy,rfl⟩)) (by lia)
 .intro e;rw[e]
def zdR(o:List Int)(key:Int->α):(z0F (o.map (nk o key))).length=(z0F (o.map key)).length:=by have h1:=(z2D (nk o key) key o fun x hx y hy e=>(z6L hx hy).mpr e).1;have h2:=(z2D key (nk o key) o fun x hx y hy e=>(z6L hx hy).mp e).1;lia
theorem z4t(f:α->β):∀(gs o:List α),(∀x∈o++gs,∀y∈o++gs,f x=f y->x=y)->z06 (o.map f) (gs.map f)=(z06 o gs).map f
 |[],o,_=>rfl
 |g::gs,o,hf=>by
  have h1:z26 (o.map f) (f g)=(z26 o g).map f:=by
   by_cases h:g∈o
   .rw[z0q h,z0q (y0a.mpr ⟨g,h,rfl⟩)]
   .have:f g∉o.map f:=fun z=>by
     obtain⟨x,hx,e⟩:=y0a.mp z;exact h (hf x (y0t _ hx) g (by simp) e▸hx)
    rw[z0r h,z0r this,y0d];rfl
  show z06 (z26 (o.map f) (f g)) (gs.map f)=(z06 (z26 o g) gs).map f;rw[h1];refine z4t f gs (z26 o g) fun x hx y hy=>hf x ?_ y ?_
  .rcases y0s.mp hx with hx|hx
   .rcases z2R.mp hx with hx|hx
    .exact y0t _ hx
    .rw[hx];simp
   .exact y0H _ (y0g _ hx)
  .rcases y0s.mp hy with hy|hy
   .rcases z2R.mp hy with hy|hy
    .exact y0t _ hy
    .rw[hy];simp
   .exact y0H _ (y0g _ hy)
def z6n{l:List α}(h:l.Nodup):l.map (fun x=>((l.idxOf x:Nat):Int))=z0p l.length:=by refine y3d (by rw[y01,z0y]) fun i h1 h2=>?_;rw[y01]at h1;rw[y2m,h.idxOf_getElem i h1];have:=z1G h1;rw[y00 h2]at this;exact(y08 this).symm
def zfR(o:List Int)(key:Int->α):z0F (o.map (nk o key))=z0p (z0F (o.map key)).length:=by
 have e:o.map (nk o key)=(o.map key).map (fun v=>(((z0F (o.map key)).idxOf v:Nat):Int)):=by rw[y1h];rfl
 rw[e];have:=z4t (fun v=>(((z0F (o.map key)).idxOf v:Nat):Int)) (o.map key) [] fun x hx y hy q=>by rw[y1Q]at hx hy;exact zbS (z0R.mpr hx) (z0R.mpr hy) (Int.ofNat.inj q)
 rw[y19]at this;show z06 [] _=_;rw[this];exact z6n (zd3 (o.map key))
end
def run(M:List Row):Int->List Nat->Int
 |x,[]=>x
 |x,i::w=>run M ((row M x).2.getD i 0) w
def beh(M:List Row)(x:Int)(w:List Nat):List Int:=(row M (run M x w)).1
structure Cl(n:Nat)(M:List Row)(o:List Int):Prop where
 zero:0∈o
 cl:∀r∈o,∀g∈(row M r).2,g∈o
 len:∀r∈o,(row M r).2.length=n
def Cl.go{n:Nat}{M:List Row}{o:List Int}(C:Cl n M o){x:Int}(hx:x∈o)(i:Nat):(row M x).2.getD i 0∈o:=by
 by_cases h:i<(row M x).2.length
 .rw[y03,y00 h];exact C.cl x hx _ (y0h h)
 .rw[y03,y0I (by lia)];exact C.zero
def z38{n:Nat}{rows:List Row}(G:z0h n rows):Cl n rows (z0g rows):=by obtain⟨L,cl⟩:=z0v G;obtain⟨t,e⟩:=L.hd;exact⟨by rw[e];simp,cl,fun r hr=>G.len _ (z0t (L.rg r hr).1 (L.rg r hr).2)⟩
def z89{α:Type}(M:List Row)(o:List Int)(f:Int->α):Prop:=∀x∈o,∀y∈o,f x=f y↔beh M x=beh M y
structure zdY{α:Type}(M:List Row)(o:List Int)(f:Int->α):Prop where
 all:∀x∈o,∀y∈o,beh M x=beh M y->f x=f y
 fst:∀x∈o,∀y∈o,f x=f y->(row M x).1=(row M y).1
def zbA{α β:Type}(M:List Row)(o:List Int)(f:Int->α)(f':Int->β):Prop:=∀x∈o,∀y∈o,f' x=f' y↔(f x=f y/\(row M x).2.map f=(row M y).2.map f)
def zdY.next{α β:Type}{n:Nat}{M:List Row}{o:List Int}{f:Int->α}{f':Int->β}(C:Cl n M o)(F:zdY M o f)(S:zbA M o f f'):zdY M o f':=by
 refine⟨fun x hx y hy e=>(S x hx y hy).mpr ⟨F.all x hx y hy e,?_⟩,fun x hx y hy e=>F.fst x hx y hy ((S x hx y hy).mp e).1⟩;refine y3d (by rw[y01,y01,C.len x hx,C.len y hy]) fun i h1 h2=>?_;rw[y01]at h1 h2;rw[y2m,y2m];have a1:=C.go hx i;have a2:=C.go hy i;have b1:(row M x).2.getD i 0=(row M x).2[i]:=by rw[y03,y00 h1];rfl
 have b2:(row M y).2.getD i 0=(row M y).2[i]:=by rw[y03,y00 h2];rfl
 rw[<-b1,<-b2];exact F.all _ a1 _ a2 (funext fun w=>congrFun e (i::w))
def zdY.right{α β:Type}{n:Nat}{M:List Row}{o:List Int}{f:Int->α}{f':Int->β}(C:Cl n M o)(F:zdY M o f)(S:zbA M o f f')(hk:∀x∈o,∀y∈o,f x=f y->f' x=f' y):z89 M o f':=by
 have key:∀(w:List Nat)(x y:Int),x∈o->y∈o->f x=f y->beh M x w=beh M y w:=by
  intro w;induction w with
  |nil=>intro x y hx hy e;exact F.fst x hx y hy e
  |cons i w ih =>
   intro x y hx hy e;refine ih _ _ (C.go hx i) (C.go hy i) ?_;have h:=((S x hx y hy).mp (hk x hx y hy e)).2;have h':=y1G (fun l=>l[i]?) h;simp only[y04]at h';rw[y03,y03];cases e1:(row M x).2[i]? with
   |none =>
    rw[e1]at h';cases e2:(row M y).2[i]? with
    |none=>rfl
    |some b=>rw[e2]at h';cases h'
   |some a =>
    rw[e1]at h';cases e2:(row M y).2[i]? with
    |none=>rw[e2]at h';cases h'
    |some b=>rw[e2]at h';exact y08 h'
 intro x hx y hy;refine⟨fun e=>funext fun w=>key w x y hx hy ((S x hx y hy).mp e).1,fun e=>(F.next C S).all x hx y hy e⟩
def z2m(rows:List Row)(o:List Int)(f:Int->D)(r:Int):z3h rows o f r=D.int (nk o (z1N rows f) r):=rfl
def z9k{rows:List Row}{f:Int->D}{x y:Int}:z1N rows f x=z1N rows f y↔(f x=f y/\(row rows x).2.map f=(row rows y).2.map f):=by
 unfold z1N;constructor
 .intro e;injection e with e;injection e with e1 e2;injection e2 with e2 _;injection e2 with e2;exact⟨e1,e2⟩
 .rintro⟨e1,e2⟩;rw[e1,e2]
def z7s(rows:List Row)(o:List Int)(f:Int->D):zbA rows o f (z3h rows o f):=fun x hx y hy=>by
 rw[z2m,z2m];constructor
 .intro e;injection e with e;exact z9k.mp ((z6L hx hy).mp e)
 .intro e;rw[(z6L hx hy).mpr (z9k.mpr e)]
def z7o(rows:List Row)(o:List Int)(f:Int->D):z2H rows o f=(z0F (o.map (z3h rows o f))).length:=by
 have h1:z2H rows o f=(z0F (o.map (z1N rows f))).length:=rfl;have h2:=(z2D (z3h rows o f) (z1N rows f) o fun x hx y hy e=>by rw[z2m,z2m,(z6L hx hy).mpr e]).1;have h3:=(z2D (z1N rows f) (z3h rows o f) o fun x hx y hy e=>by rw[z2m,z2m]at e;injection e with e;exact(z6L hx hy).mp e).1
 lia
theorem z5o{n:Nat}{rows:List Row}{o:List Int}(C:Cl n rows o):∀(m many:Nat)(f:Int->D),zdY rows o f->(many=0\/many=(z0F (o.map f)).length)->many<=o.length->o.length+1<=m+many->z89 rows o (z4V rows o m many f)
 |0,many,f,F,hm,hl,hf=>by lia
 |m+1,many,f,F,hm,hl,hf=>by
  unfold z4V;have S:=z7s rows o f;by_cases hc:many<z2H rows o f
  .rw[if_pos hc];refine z5o C m _ _ (F.next C S) (.inr (z7o rows o f)) (z8c rows o f) (by lia)
  .rw[if_neg hc];have h1:1<=z2H rows o f:=by
    have:z1N rows f 0∈z0F (z2j rows o f):=z0R.mpr (y0a.mpr ⟨0,C.zero,rfl⟩);exact y1T this
   have h2:many=(z0F (o.map f)).length:=by rcases hm with h|h;lia;exact h
   have h3:=z7o rows o f;refine F.right C S ((z2D f (z3h rows o f) o fun x hx y hy e=>((S x hx y hy).mp e).1).2 (by lia))
def zhr(rows:List Row)(o:List Int):zdY rows o fun r=>D.its (row rows r).1 :=
 ⟨fun x hx y hy e=>by have:=congrFun e [];show D.its _=D.its _;rw[show(row rows x).1=(row rows y).1 from this],fun x hx y hy e=>z8r e⟩
def z3J{n:Nat}{rows:List Row}(G:z0h n rows):z89 rows (z0g rows) (kOf rows):=by have hl:=(z0v G).1.len;have h:=z5o (z38 G) (rows.length+2) 0 _ (zhr rows (z0g rows)) (.inl rfl) (by lia) (by lia);intro x hx y hy;have:=h x hx y hy;have e:z4V rows (z0g rows) (rows.length+2) 0 (fun r=>D.its (row rows r).1)=fun r=>D.int (kOf rows r):=z6a rows;rw[e]at this;rw[<-this];exact⟨fun q=>by show D.int _=D.int _;rw[q],fun q=>D.int.inj q⟩
def kf(ks:List Int)(x:Int):Int:=ks.getD x.toNat 0
def z2P{α:Type}[DecidableEq α]{L:Nat}{key:Int->α}{x:Int}(hx:x∈z0p L):kf (z2k ((z0p L).map key)) x=nk (z0p L) key x:=by
 have hx':=z0L.mp hx;unfold kf z2k nk;have hl:x.toNat<L:=by lia
 rw[y03,y04,y04,z1G hl];have:((x.toNat:Nat):Int)=x:=by lia
 simp only[Option.map_some,y3V,this]
def z4W(fs:List Row)(g:Row->α):fs.map g=(z0p fs.length).map fun x=>g (row fs x):=by
 refine y1X fun i=>?_;rw[y04,y04];by_cases h:i<fs.length
 .rw[z1G h,y00 h];show some (g fs[i])=some (g (row fs (i:Int)));congr 2;unfold row;have:((i:Nat):Int).toNat=i:=by lia
  rw[this,y03,y00 h];rfl
 .rw[y0I (by lia),y0I (by rw[z0y];lia)];rfl
def zfM(fs:List Row)(ks:List Int)(x:Int):Int × List Int:=(kf ks x,(row fs x).2.map (kf ks))
def z3Z{fs:List Row}{ks:List Int}(h:ks.length=fs.length):z3e ks fs=(z0p fs.length).map (zfM fs ks):=by
 unfold z3e;refine y1X fun i=>?_;rw[y04,y04];by_cases hi:i<fs.length
 .have e1:(ks.zip fs)[i]?=some (ks[i]'(by lia),fs[i]):=y1C.mpr ⟨y00 (by lia),y00 hi⟩;rw[z1G hi,e1];simp only[Option.map_some];congr 1;unfold zfM kf row;have:((i:Nat):Int).toNat=i:=by lia
  rw[this,y03,y00 (by lia:i<ks.length),y03,y00 hi];rfl
 .rw[y0I (by rw[y3t];lia),y0I (by rw[z0y];lia)];rfl
def z4F{α:Type}[DecidableEq α]{xs:List α}(h:xs≠[]):cnt (z2k xs)=((z0F xs).length:Int):=by
 have hne:z2k xs≠[]:=fun z=>h (by have:=z3t xs;rw[z]at this;exact y1d this.symm)
 obtain⟨h1,h2⟩:=z8S hne fun k hk=>(z7c hk).1;have h3:=(z7c h1).2;have hpos:0<(z0F xs).length:=by
  cases xs with
  |nil=>exact absurd rfl h
  |cons a r=>exact y1T (z0R.mpr (show a∈a::r by simp))
 have hm:(z0F xs)[(z0F xs).length-1]'(by lia)∈xs:=z0R.mp (y0h _);have h4:(((z0F xs).length-1:Nat):Int)∈z2k xs:=by unfold z2k;refine y0a.mpr ⟨_,hm,?_⟩;rw[(zd3 xs).idxOf_getElem]
 have:=h2 _ h4;lia
def z73{L:Nat}{α:Type}{g:Int->α}(h:1<=L):(z0p L).map g≠[]:=fun z=>by have:=y1G List.length z;rw[y01,z0y]at this;simp at this;lia
def z6H{α:Type}[DecidableEq α]{L:Nat}{key:Int->α}:(z0F ((z0p L).map (kf (z2k ((z0p L).map key))))).length=(z0F ((z0p L).map key)).length:=by rw[<-zdR (z0p L) key];congr 2;exact y0L fun x hx=>z2P hx
def z6i{fs:List Row}(hgo:∀x∈z0p fs.length,∀g∈(row fs x).2,g∈z0p fs.length){ks:List Int}:zbA fs (z0p fs.length) (kf ks) (kf (z2k ((z0p fs.length).map (zfM fs ks)))):=fun x hx y hy=>by rw[z2P hx,z2P hy,z6L hx hy];unfold zfM;rw[Prod.mk.injEq]
def zgk{n:Nat}{fs:List Row}(G:z4h n fs):Cl n fs (z0p fs.length):=by
 refine⟨z0L.mpr ⟨by lia,by have:=G.some;lia⟩,fun r hr g hg=>?_,fun r hr=>?_⟩
 .have h:=z0L.mp hr;exact z0L.mpr (G.go _ (z0t h.1 h.2) g hg)
 .have h:=z0L.mp hr;exact G.len _ (z0t h.1 h.2)
theorem z4Z{n:Nat}{fs:List Row}(G:z4h n fs):∀(m:Nat)(c:Int)(ks:List Int),(∃(α:Type)(_:DecidableEq α)(key:Int->α),ks=z2k ((z0p fs.length).map key))->zdY fs (z0p fs.length) (kf ks) ->
  (c=0\/∃ks0:List Int,zdY fs (z0p fs.length) (kf ks0)/\zbA fs (z0p fs.length) (kf ks0) (kf ks)/\c=((z0F ((z0p fs.length).map (kf ks0))).length:Int))->0<=c->c<=(fs.length:Int)->(fs.length:Int)+1<=m+c ->
  z89 fs (z0p fs.length) (kf (z5k fs m c ks))/\∃(α:Type)(_:DecidableEq α)(key:Int->α),z5k fs m c ks=z2k ((z0p fs.length).map key)
 |0,c,ks,hk,F,hp,h0,h1,h2=>by lia
 |m+1,c,ks,hk,F,hp,h0,h1,h2=>by
  unfold z5k;have C:=zgk G;obtain⟨α,ia,key,rfl⟩:=hk;have hcn:=z4F (z73 (g:=key) G.some);have hU:(z0F ((z0p fs.length).map key)).length<=fs.length:=by have:=z4X ((z0p fs.length).map key);rw[y01,z0y]at this;exact this
  have hUp:1<=(z0F ((z0p fs.length).map key)).length:=y1T (z0R.mpr (y0a.mpr ⟨0,C.zero,rfl⟩));by_cases hc:c<cnt (z2k ((z0p fs.length).map key))
  .rw[if_pos hc,hcn,z3Z (by rw[z3t,y01,z0y])];refine z4Z G m _ _ ⟨_,_,_,rfl⟩ (F.next C (z6i C.cl)) (.inr ⟨_,F,z6i C.cl,?_⟩) (by lia) (by lia) (by rw[hcn]at hc;lia);rw[z6H]
  .rw[if_neg hc];refine⟨?_,_,_,_,rfl⟩;rcases hp with hp|⟨ks0,F0,S0,hc0⟩
   .rw[hcn]at hc;lia
   .refine F0.right C S0 ((z2D _ _ _ fun x hx y hy e=>((S0 x hx y hy).mp e).1).2 ?_);rw[z6H];rw[hcn]at hc;lia
def z4P{n:Nat}{fs:List Row}(G:z4h n fs):z89 fs (z0p fs.length) (kf (z2J fs))/\∃(α:Type)(_:DecidableEq α)(key:Int->α),z2J fs=z2k ((z0p fs.length).map key):=by
 have C:=zgk G;unfold z2J;refine z4Z G (fs.length+1) 0 _ ⟨List Int,inferInstance,fun x=>(row fs x).1,by rw[z4W fs (·.1)]⟩ ?_ (.inl rfl) (by lia) (by lia) (by lia);rw[z4W fs (·.1)];refine⟨fun x hx y hy e=>?_,fun x hx y hy e=>?_⟩
 .rw[z2P hx,z2P hy,z6L hx hy];exact congrFun e []
 .rw[z2P hx,z2P hy,z6L hx hy]at e;exact e
inductive BF(M:List Row):Nat->List Int->List Int->Prop
 |stop {i:Nat} {o:List Int}:o.length<=i->BF M i o o
 |step {i:Nat} {o res:List Int} {r:Int}:o[i]?=some r->BF M (i+1) (z06 o (row M r).2) res->BF M i o res
def BF.det{M:List Row}{i:Nat}{o a b:List Int}(h:BF M i o a)(h':BF M i o b):a=b:=by
 induction h generalizing b with
 |stop hl =>
  cases h' with
  |stop _=>rfl
  |step e _=>rw[y0I hl]at e;cases e
 |step e _ ih =>
  cases h' with
  |stop hl=>rw[y0I hl]at e;cases e
  |step e' q =>
   rw[e]at e';cases e';exact ih q
def BF.sub{M:List Row}{i:Nat}{o a:List Int}(h:BF M i o a):∃m,a=o++m:=by
 induction h with
 |stop _=>exact⟨[],by simp⟩
 |@step i o res r e _ ih =>
  obtain⟨m,em⟩:=ih;obtain⟨m',em'⟩:=z0A (row M r).2 o;exact⟨m'++m,by rw[em,em',y0p]⟩
theorem zgU{n:Nat}{rows:List Row}(G:z0h n rows):∀(f i:Nat)(o:List Int),z7g rows o->i<=o.length->rows.length+1<=f+i->BF rows i o (bfs rows f i o)
 |0,i,o,L,hi,hf=>by
  have:=L.len;lia
 |f+1,i,o,L,hi,hf=>by
  cases e:o[i]? with
  |none =>
   rw[z3x (y1E.mp e)];exact .stop (y1E.mp e)
  |some r =>
   rw[z3u e];have hr:r∈o:=y0z e;have hil:i<o.length:=(y06.mp e).1;obtain⟨m,em⟩:=z0A (row rows r).2 o;exact .step e (zgU G f (i+1) _ (L.add G hr) (by rw[em,y0f];lia) (by lia))
def z4x{n:Nat}{rows:List Row}(G:z0h n rows):BF rows 0 [0] (z0g rows):=zgU G (rows.length+1) 0 [0] (zci G) (by simp) (by lia)
theorem z59{α β:Type}[DecidableEq α][DecidableEq β](h:α->β):∀(gs o:List α),z0F ((z06 o gs).map h)=z06 (z0F (o.map h)) (gs.map h)
 |[],o=>rfl
 |g::gs,o=>by
  show z0F ((z06 (z26 o g) gs).map h)=z06 (z26 (z0F (o.map h)) (h g)) (gs.map h);rw[z59 h gs (z26 o g)];congr 1;by_cases hg:g∈o
  .rw[z0q hg,z0q (z0R.mpr (y0a.mpr ⟨g,hg,rfl⟩))]
  .rw[z0r hg,y0d];exact z1H _ _
def Mor(M' M:List Row)(o':List Int)(h:Int->Int):Prop:=∀x∈o',row M (h x)=((row M' x).1,(row M' x).2.map h)
theorem BF.map{M' M:List Row}{h:Int->Int}{i:Nat}{o res:List Int}(b:BF M' i o res):Mor M' M res h->(∀j r,j<i->o[j]?=some r->∀g∈(row M' r).2,g∈o)->i<=o.length -> BF M (z0F ((o.take i).map h)).length (z0F (o.map h)) (z0F (res.map h)):=by
 induction b with
 |@stop i o hl =>
  intro _ _ _;rw[y0x hl];exact .stop (y0b _)
 |@step i o res r e b ih =>
  intro mo pc hi;obtain⟨m0,em0⟩:=b.sub;obtain⟨m,em⟩:=z0A (row M' r).2 o;have hil:i<o.length:=(y06.mp e).1;have hro:r∈o:=y0z e;have hr:=mo r (by rw[em0,em];exact y0t _ (y0t _ hro));have ih':=ih mo (fun j r' hj er g hg=>?_) (by rw[em,y0f];lia)
  .have et:(z06 o (row M' r).2).take (i+1)=o.take i++[r]:=by
    rw[em,y2O (by lia),y0D,e];rfl
   rw[et,y0d,show List.map h [r]=[h r]from rfl,z1H,z59]at ih';by_cases hm:h r∈z0F ((o.take i).map h)
   .rw[z0q hm,z63]at ih'
    .exact ih'
    .intro g hg;obtain⟨r',hr',er'⟩:=y0a.mp (z0R.mp hm);obtain⟨j,hj,ej⟩:=y17 hr';rw[y0q]at hj;rw[y1Y]at ej;have hmo:=mo r' (by rw[em0,em];exact y0t _ (y0t _ (y1i hr')));rw[er',hr]at hmo;have e2:(row M' r).2.map h=(row M' r').2.map h:=y1G Prod.snd hmo;rw[e2]at hg;obtain⟨g',hg',eg⟩:=y0a.mp hg;have:=pc j r' (by lia) (by rw[y00 (by lia),ej]) g' hg';exact z0R.mpr (y0a.mpr ⟨g',this,eg⟩)
   .rw[z0r hm,y0f]at ih';refine .step (r:=h r) ?_ ?_
    .have eo:o=(o.take i++[r])++o.drop (i+1):=by
      have:o.take (i+1)=o.take i++[r]:=by rw[y0D,e];rfl
      rw[<-this,y0T]
     have e3:z0F (o.map h)=z06 (z0F ((o.take i).map h)++[h r]) ((o.drop (i+1)).map h):=by
      conv=>lhs;rw[eo]
      rw[y0d,z92,y0d,show List.map h [r]=[h r]from rfl,z1H,z0r hm]
     obtain⟨m2,em2⟩:=z0A ((o.drop (i+1)).map h) (z0F ((o.take i).map h)++[h r]);rw[e3,em2,y0p,y0W (y0b _),y3L];rfl
    .rw[hr];exact ih'
  .have hjo:j<o.length:=by lia
   have er':o[j]?=some r':=by rw[em,y0F hjo]at er;exact er
   by_cases hji:j=i
   .subst hji;rw[e]at er';cases er';exact z0k.mpr (.inr hg)
   .exact z0k.mpr (.inl (pc j r' (by lia) er' g hg))
def z7Q{n n':Nat}{M' M:List Row}{h:Int->Int}(G':z0h n' M')(G:z0h n M)(h0:h 0=0)(mo:Mor M' M (z0g M') h):z0F ((z0g M').map h)=z0g M:=by
 have b:=(z4x G').map mo (fun j r hj=>absurd hj (y2Z _)) (by simp);have e:z0F ([(0:Int)].map h)=[0]:=by rw[show[(0:Int)].map h=[h 0]from rfl,h0];rfl
 rw[e]at b;exact b.det (z4x G)
theorem z6g(k:Int->Int):∀l:List Int,(z0H k l.reverse).map k=z0F (l.reverse.map k)
 |[]=>rfl
 |a::l=>by
  rw[y1w,z1C,y0d,show List.map k [a]=[k a]from rfl,z1H,<-z6g k l];unfold z0N;by_cases h:k a∈(z0H k l.reverse).map k
  .rw[if_pos h,z0q h]
  .rw[if_neg h,z0r h,y0d];rfl
def z2g(k:Int->Int)(o:List Int):(z0H k o).map k=z0F (o.map k):=by
 have:=z6g k o.reverse
 rwa [y1z]at this
theorem z7z{k k':Int->Int}:∀l:List Int,(∀x∈l.reverse,∀y∈l.reverse,k x=k y↔k' x=k' y)->z0H k l.reverse=z0H k' l.reverse
 |[],_=>rfl
 |a::l,h=>by
  rw[y1w]at h⊢;rw[z1C,z1C,z7z l fun x hx y hy=>h x (y0t _ hx) y (y0t _ hy)];unfold z0N;have hin:=(z1w k' l.reverse).2.1;have:k a∈(z0H k' l.reverse).map k↔k' a∈(z0H k' l.reverse).map k':=by
   constructor
   .intro hm;obtain⟨x,hx,e⟩:=y0a.mp hm;exact y0a.mpr ⟨x,hx,(h x (y0t _ (hin x hx)) a (by simp)).mp e⟩
   .intro hm;obtain⟨x,hx,e⟩:=y0a.mp hm;exact y0a.mpr ⟨x,hx,(h x (y0t _ (hin x hx)) a (by simp)).mpr e⟩
  by_cases hm:k a∈(z0H k' l.reverse).map k
  .rw[if_pos hm,if_pos (this.mp hm)]
  .rw[if_neg hm,if_neg (fun z=>hm (this.mpr z))]
def zaF{k k':Int->Int}{o:List Int}(h:∀x∈o,∀y∈o,k x=k y↔k' x=k' y):z0H k o=z0H k' o:=by
 have:=z7z (k:=k) (k':=k') o.reverse (by rw[y1z];exact h)
 rwa [y1z]at this
theorem z6e(k h:Int->Int):∀l:List Int,(z0H (fun x=>k (h x)) l.reverse).map h=z0H k (z0F (l.reverse.map h))
 |[]=>rfl
 |a::l=>by
  rw[y1w,z1C,y0d,show List.map h [a]=[h a]from rfl,z1H];have ih:=z6e k h l;have e:(z0H (fun x=>k (h x)) l.reverse).map (fun x=>k (h x))=(z0H k (z0F (l.reverse.map h))).map k:=by rw[<-ih,y1h];rfl
  unfold z0N;by_cases hm:h a∈z0F (l.reverse.map h)
  .have hk:k (h a)∈(z0H (fun x=>k (h x)) l.reverse).map (fun x=>k (h x)):=by
    rw[e];exact(z1w k _).1 _ hm
   rw[if_pos hk,z0q hm];exact ih
  .rw[z0r hm,z1C];unfold z0N;by_cases hk:k (h a)∈(z0H (fun x=>k (h x)) l.reverse).map (fun x=>k (h x))
   .rw[if_pos hk,if_pos (by rw[<-e];exact hk)];exact ih
   .rw[if_neg hk,if_neg (by rw[<-e];exact hk),y0d,ih];rfl
def z8Q(k h:Int->Int)(o:List Int):(z0H (fun x=>k (h x)) o).map h=z0H k (z0F (o.map h)):=by
 have:=z6e k h o.reverse
 rwa [y1z]at this
theorem zd1{k k':Int->Int}{x:Int}:∀{l:List Int},(∀y∈l,k y=k x↔k' y=k' x)->(l.map k).idxOf (k x)=(l.map k').idxOf (k' x)
 |[],_=>rfl
 |b::l,h=>by
  rw[y0m,y0m,y2B,y2B,zd1 fun y hy=>h y (y0g _ hy)];have:=h b (by simp);have e:(k b==k x)=(k' b==k' x):=by rw[y1P,y3k,y3k];exact this
  rw[e]
theorem zcS{n:Nat}{M' M:List Row}{o':List Int}{h:Int->Int}(C:Cl n M' o')(h0:h 0=0)(mo:Mor M' M o' h):∀(w:List Nat)(x:Int),x∈o'->h (run M' x w)=run M (h x) w/\run M' x w∈o'
 |[],x,hx=>⟨rfl,hx⟩
 |i::w,x,hx=>by
  have e:(row M (h x)).2.getD i 0=h ((row M' x).2.getD i 0):=by
   rw[mo x hx,y03,y03,y04];cases(row M' x).2[i]? with
   |none=>exact h0.symm
   |some a=>rfl
  obtain⟨h1,h2⟩:=zcS C h0 mo w _ (C.go hx i);refine⟨?_,h2⟩;show h (run M' ((row M' x).2.getD i 0) w)=run M ((row M (h x)).2.getD i 0) w;rw[e];exact h1
def z5R{n n':Nat}{M' M:List Row}{h k k':Int->Int}(G':z0h n' M')(G:z0h n M)(h0:h 0=0)(mo:Mor M' M (z0g M') h)(R:z89 M (z0g M) k)(R':z89 M' (z0g M') k') : z2c M' k' (z0g M')=z2c M k (z0g M):=by
 have C':=z38 G';have eo:=z7Q G' G h0 mo;have hin:∀x∈z0g M',h x∈z0g M:=fun x hx=>by rw[<-eo];exact z0R.mpr (y0a.mpr ⟨x,hx,rfl⟩)
 have hb:∀x∈z0g M',beh M' x=beh M (h x):=fun x hx=>funext fun w=>by obtain⟨h1,h2⟩:=zcS C' h0 mo w x hx;show(row M' (run M' x w)).1=(row M (run M (h x) w)).1;rw[<-h1,mo _ h2]
 have ker:∀x∈z0g M',∀y∈z0g M',k' x=k' y↔k (h x)=k (h y):=fun x hx y hy=>by rw[R' x hx y hy,R _ (hin x hx) _ (hin y hy),hb x hx,hb y hy]
 have hh:z0H k' (z0g M')=z0H (fun x=>k (h x)) (z0g M'):=zaF ker;have hm:(z0H (fun x=>k (h x)) (z0g M')).map h=z0H k (z0g M):=by rw[z8Q,eo]
 have hsub:∀r∈z0H (fun x=>k (h x)) (z0g M'),r∈z0g M':=(z1w _ _).2.1;unfold z2c;rw[hh,<-hm,y1h];refine y0L fun r hr=>?_;have hro:=hsub r hr;show _=((row M (h r)).1,(row M (h r)).2.map _);rw[mo r hro];refine y4a rfl ?_;show List.map _ _=List.map _ (List.map h (row M' r).2);rw[y1h];refine y0L fun g hg=>?_;have hgo:=C'.cl r hro g hg;show(((List.map k' (z0H (fun x=>k (h x)) (z0g M'))).idxOf (k' g):Nat):Int)=((((z0H (fun x=>k (h x)) (z0g M')).map h).map k).idxOf (k (h g)):Nat);rw[y1h];have:=zd1 (k:=k') (k':=fun x=>k (h x)) (x:=g) (l:=z0H (fun x=>k (h x)) (z0g M')) fun y hy=>ker y (hsub y hy) g hgo;rw[this];rfl
def zf6{n n':Nat}{M' M:List Row}{h:Int->Int}(G':z0h n' M')(G:z0h n M)(h0:h 0=0)(mo:Mor M' M (z0g M') h):shr M'=shr M :=
 z5R G' G h0 mo (z3J G) (z3J G')
def z4h.m{n:Nat}{fs:List Row}(G:z4h n fs):z0h n fs:=⟨G.few,G.some,G.perm,G.len,G.go⟩
def z7E{n:Nat}{rows:List Row}(G:z0h n rows){x:Int}(hx:x∈z0g rows):row (z0E rows) ((((z0g rows).idxOf x:Nat):Int))=((row rows x).1,(row rows x).2.map fun g=>(((z0g rows).idxOf g:Nat):Int)):=by
 have hl:=y0U hx;unfold row z0E z1D;have:((((z0g rows).idxOf x:Nat):Int)).toNat=(z0g rows).idxOf x:=by lia
 rw[this,y03,y04,y00 hl,y1R hl];rfl
def z7T(rows:List Row):(z0E rows).length=(z0g rows).length:=by unfold z0E z1D;rw[y01]
def z3j{n:Nat}{rows:List Row}(G:z0h n rows):z0g (z0E rows)=z0p (z0E rows).length:=by
 obtain⟨L,cl⟩:=z0v G;obtain⟨t,e⟩:=L.hd;have h0:(((z0g rows).idxOf 0:Nat):Int)=0:=by rw[e];simp
 have h:=z7Q (h:=fun x=>(((z0g rows).idxOf x:Nat):Int)) G (z2n G).m h0 fun x hx=>z7E G hx;rw[<-h,z6n L.nd,z7T];exact zbI (z1h _)
def zcF{n:Nat}{rows:List Row}(G:z0h n rows):Mor (z0E rows) rows (z0g (z0E rows)) fun i=>(z0g rows).getD i.toNat 0:=by
 obtain⟨L,cl⟩:=z0v G;intro i hi;rw[z3j G,z7T]at hi;obtain⟨i0,i1⟩:=z0L.mp hi;have hl:i.toNat<(z0g rows).length:=by lia
 have e1:(z0g rows).getD i.toNat 0=(z0g rows)[i.toNat]:=by rw[y03,y00 hl];rfl
 have hx:(z0g rows)[i.toNat]∈z0g rows:=y0h hl;have e2:(((z0g rows).idxOf (z0g rows)[i.toNat]:Nat):Int)=i:=by rw[L.nd.idxOf_getElem];lia
 have e3:=z7E G hx;rw[e2]at e3;show row rows ((z0g rows).getD i.toNat 0)=_;rw[e1,e3];refine y4a rfl ?_;show(row rows (z0g rows)[i.toNat]).2=List.map _ (List.map _ _);rw[y1h];conv=>lhs;rw[<-List.map_id (row rows (z0g rows)[i.toNat]).2]
 refine y0L fun g hg=>?_;have hg':=cl _ hx g hg;have hl':=y0U hg';show g=(z0g rows).getD ((((z0g rows).idxOf g:Nat):Int)).toNat 0;have:((((z0g rows).idxOf g:Nat):Int)).toNat=(z0g rows).idxOf g:=by lia
 rw[this,y03,y00 hl',y1R hl'];rfl
def z85{L i:Nat}(h:i<=L):(z0p L).take i=z0p i:=by
 refine y1X fun j=>?_;by_cases hj:j<i
 .rw[y25 hj,z1G (by lia),z1G hj]
 .rw[y0I (by rw[y0q,z0y];lia),y0I (by rw[z0y];lia)]
def zdU{c:Nat}{u m:List Int}(e:u++m=z0p c):u=z0p u.length:=by
 have hl:u.length<=c:=by have:=y1G List.length e;rw[y0f,z0y]at this;lia
 have:=y1G (List.take u.length) e;rw[y2O (y0b _),y0O,z85 hl]at this;exact this
def z4M(j:Nat):z0p (j+1)=z0p j++[(j:Int)]:=by unfold z0p;rw[y45,y0d];rfl
def z4o{fs:List Row}{ks:List Int}(hl:ks.length=fs.length)(hn:∃(α:Type)(_:DecidableEq α)(key:Int->α),ks=z2k ((z0p fs.length).map key))(hgo:∀r∈fs,∀g∈r.2,0<=g/\g<(fs.length:Int)) : z5h fs ks=z2c fs (kf ks) (z0p fs.length):=by
 obtain⟨α,ia,key,ek⟩:=hn;have hU:z0F ((z0p fs.length).map (kf ks))=z0p (z0F ((z0p fs.length).map key)).length:=by
  have e:(z0p fs.length).map (kf ks)=(z0p fs.length).map (nk (z0p fs.length) key):=y0L fun x hx=>by rw[ek];exact z2P hx
  rw[e];exact zfR (z0p fs.length) key
 generalize hc:(z0F ((z0p fs.length).map key)).length=c at hU;have hpre:∀i,i<=fs.length->z0F ((z0p i).map (kf ks))=z0p (z0F ((z0p i).map (kf ks))).length:=fun i hi=>by
  have e1:z0p fs.length=z0p i++(z0p fs.length).drop i:=by
   conv=>lhs;rw[<-y0T i (z0p fs.length)]
   rw[z85 hi]
  rw[e1,y0d,z92]at hU;obtain⟨m,em⟩:=z0A (((z0p fs.length).drop i).map (kf ks)) (z0F ((z0p i).map (kf ks)));rw[em]at hU;exact zdU hU
 have main:∀i,i<=fs.length->z2l fs ks i=(z0H (kf ks) (z0p i)).map fun r=>((row fs r).1,(row fs r).2.map (kf ks)):=by
  intro i;induction i with
  |zero=>intro _;rfl
  |succ i ih =>
   intro hi;have ih:=ih (by lia);have hif:i<fs.length:=by lia
   have hik:i<ks.length:=by lia
   rw[z4U (r:=fs[i]) (k:=ks[i]) (y00 hif) (y00 hik),ih,z4M,z1C];have p1:=hpre i (by lia);have p2:=hpre (i+1) hi;rw[z4M,y0d,show List.map (kf ks) [(i:Int)]=[kf ks i]from rfl,z1H]at p2;have hm:=z2g (kf ks) (z0p i);have hlen:(z0H (kf ks) (z0p i)).length=(z0F ((z0p i).map (kf ks))).length:=by rw[<-hm,y01]
   have ek:ks[i]=kf ks (i:Int):=by
    unfold kf;have:((i:Nat):Int).toNat=i:=by lia
    rw[this,y03,y00 hik];rfl
   have er:fs[i]=row fs (i:Int):=by
    unfold row;have:((i:Nat):Int).toNat=i:=by lia
    rw[this,y03,y00 hif];rfl
   unfold z6W z0N;rw[hm,y01,hlen];by_cases hin:kf ks i∈z0F ((z0p i).map (kf ks))
   .rw[if_pos hin,if_neg];show ¬ks[i]=_;rw[ek];rw[p1]at hin;have:=z0L.mp hin;lia
   .rw[if_neg hin,if_pos]
    .rw[y0d,er];rfl
    .show ks[i]=_;rw[ek];rw[z0r hin,y0f]at p2;have e3:z0p ((z0F ((z0p i).map (kf ks))).length+[kf ks (i:Int)].length)=z0p (z0F ((z0p i).map (kf ks))).length++[((z0F ((z0p i).map (kf ks))).length:Int)]:=z4M _;rw[e3,<-p1]at p2;have:=List.append_cancel_left p2;simpa using this
 rw[<-z60 hl,main fs.length (y0b _)];unfold z2c;refine y0L fun r hr=>?_;refine y4a rfl ?_;refine y0L fun g hg=>?_;have hr':=z0L.mp ((z1w (kf ks) (z0p fs.length)).2.1 r hr);have hg':=hgo _ (z0t hr'.1 hr'.2) g hg;have hin:kf ks g∈z0F ((z0p fs.length).map (kf ks)):=z0R.mpr (y0a.mpr ⟨g,z0L.mpr hg',rfl⟩);rw[z2g];have hl':=y0U hin;have e:=y1R hl';rw[hU]at hin hl'⊢;have h1:=z0L.mp hin;have e2:(z0p c)[(z0p c).idxOf (kf ks g)]'hl'=kf ks g:=y1R hl';have e3:=z1G (n:=c) (i:=(z0p c).idxOf (kf ks g)) (by rw[z0y]at hl';exact hl');rw[y00 hl',e2]at e3;exact y08 e3
def z5d{n:Nat}{rows:List Row}(G:z0h n rows):zaJ rows=shr rows:=by
 have GF:=z2n G;obtain⟨R,N⟩:=z4P GF;obtain⟨L,cl⟩:=z0v G;obtain⟨t,e⟩:=L.hd;unfold zaJ;rw[z4o (z41 GF).len N GF.go];have h0:(fun i:Int=>(z0g rows).getD i.toNat 0) 0=0:=by show(z0g rows).getD (0:Int).toNat 0=0;rw[e];rfl
 have R':z89 (z0E rows) (z0g (z0E rows)) (kf (z2J (z0E rows))):=by rw[z3j G];exact R
 have:=z5R (h:=fun i=>(z0g rows).getD i.toNat 0) GF.m G h0 (zcF G) (z3J G) R';rw[z3j G]at this;exact this
end Gu
namespace L2
open PySem PySem.Spec PyProof.Rows
section
variable{X:Cx}{pins:yyP}{σ:St}{H:Hp}{s:Shared}{a:Addr}{kvs:List (Key × V)}{k:Key}{u:Value}{A:Around}{E:yyE}
end
section
variable{X:Cx}{o e f:Expr}{apos cpos:Pos}{td ty tx:TE}
end
end L2
namespace HT
open PySem PySem.Spec PyProof.Rows
section
variable{prog:Program}{w:World}{A:Around}{E:yyE}{s:Shared}
theorem fm_rev{α:Type}(xs:List α):∀k,k<=xs.length->(List.range k).filterMap (fun(m:Nat)=>xs[xs.length-1-m]?)=xs.reverse.take k
 |0,_=>by simp
 |k+1,h=>by
  rw[y45,List.filterMap_append,fm_rev xs k (by lia),y0D];congr 1;have hk:k<xs.length:=by lia
  rw[List.getElem?_reverse hk];have:xs.length-1-k<xs.length:=by lia
  rw[y1I,y00 this];rfl
theorem fm_congr{α β:Type}{f g:α->Option β}:∀{l:List α},(∀a∈l,f a=g a)->l.filterMap f=l.filterMap g
 |[],_=>rfl
 |a::l,h=>by rw[y1I,y1I,h a (by simp),fm_congr fun b hb=>h b (y0g _ hb)]
end
end HT
namespace L2
open PySem PySem.Spec PyProof.Rows
section
variable{X:Cx}{e st:Expr}{te ts:TE}{pos p2:Pos}
end
section
variable{X:Cx}{elts:List Expr}{tk:Nat}{tp:Pos}
end
section
variable{X:Cx}
end
end L2
namespace Gu
open PySem L2
def tw(T S:List Int)(i:Nat):Int:=T.getD (S.getD i 0).toNat 0
def BF.all{M:List Row}{i:Nat}{o res:List Int}{C:Int->Prop}(b:BF M i o res)(hc:∀x,C x->∀g∈(row M x).2,C g):(∀x∈o,C x)->∀x∈res,C x:=by
 induction b with
 |stop _=>exact fun h=>h
 |@step i o res r e b ih =>
  intro h;refine ih fun x hx=>?_;rcases z0k.mp hx with hx|hx
  .exact h x hx
  .exact hc r (h r (y0z e)) x hx
def zfu(k:Nat):(0:Int)::((List.range k).map fun i:Nat=>(1:Int)+(i:Int))=z0p (k+1):=by unfold z0p;rw[List.range_succ_eq_map,y0m,y1h];congr 1;refine y0L fun i _=>?_;show(1:Int)+(i:Int)=((i+1:Nat):Int);lia
def GB(T S gs0:List Int)(H:Hp)(j:Nat)(ys:List V)(H2:Hp):Prop:=∃gs:List Int,ys=gs.map V.int/\gs.length=j/\(∀g∈gs,0<=g/\g<(T.length:Int))/\gs.map (fun g=>tw T S g.toNat)=gs0.take j/\z0c H H2
end Gu
namespace L2
open PySem PySem.Spec PyProof.Rows
def Fly(h0:Heap)(H:Hp)(h:Heap)(ea C:Addr):Prop:=h0.get? ea=none/\H ea=none/\∃a0 oe vs T oT ts,h.get? ea=some oe/\(oe.cls=.ref C/\vs[0]?=some a0)/\oe.data=.fields vs/\vs[1]?=some (.ref T)/\T≠ea/\h0.get? T=none/\H T=none/\h.get? T=some oT/\oT.data=.fields ts/\ts[3]?=some .none
def zgr(h0:Heap)(H:Hp)(h:Heap)(ea C:Addr):Prop:=h0.get? ea=none/\H ea=none/\∃a0 oe vs,h.get? ea=some oe/\(oe.cls=.ref C/\vs[0]?=some a0)/\oe.data=.fields vs/\vs[1]?=some .none
theorem z31{h base:Heap}:∀{l:List Env},h.FunFrames base l->∀b∈frs l,∃o,h.get? b=some o/\∀vs,o.data≠.fields vs
 |[],_,b,hb=>by simp[frs]at hb
 |env::r,hl,b,hb=>by
  obtain⟨hk,⟨L,o,hf,hn,ho,hd⟩,hr⟩:=hl;unfold frs at hb;rw[y1I,hf]at hb;rcases y0j.mp hb with z|z
  .rw[z];exact⟨o,ho,hd⟩
  .exact z31 hr b z
theorem z1n{h base base':Heap}:∀{l:List Env},h.FunFrames base l->(∀b∈frs l,base'.get? b=none)->h.FunFrames base' l
 |[],_,_=>trivial
 |env::r,hl,hb=>by
  obtain⟨hk,⟨L,o,hf,hn,ho,hd⟩,hr⟩:=hl;have e:frs (env::r)=L::frs r:=by unfold frs;rw[y1I,hf]
  exact⟨hk,⟨L,o,hf,hb L (by rw[e];simp),ho,hd⟩,z1n hr fun b hb'=>hb b (by rw[e];exact y0g _ hb')⟩
section
variable{P:Program}{w:World}
def z9S{H:Hp}{h:Heap}{a:Addr}{o:HO}(x:z1Q P w H h a o):∃ob,h.get? a=some ob:=by
 cases o with
 |lst xs=>obtain⟨_,_,_,_,e⟩:=x;exact⟨_,e⟩
 |tup xs=>obtain⟨_,_,_,_,e⟩:=x;exact⟨_,e⟩
 |dK kvs=>obtain⟨_,_,_,_,o,_,_,e,_⟩:=x;exact⟨_,e⟩
 |dT kvs=>obtain⟨_,_,_,_,o,_,_,e,_⟩:=x;exact⟨_,e⟩
 |set S n=>obtain⟨o,_,_,_,e,_⟩:=x;exact⟨_,e⟩
 |ins C dx fs=>obtain⟨_,_,_,e,_⟩:=x;exact⟨_,e⟩
 |own y=>obtain⟨_,e⟩:=x;exact⟨_,e⟩
 |xd fs=>obtain⟨_,⟨_,_,_,e,_⟩,_⟩:=x;exact⟨_,e⟩
 |rng lo hi=>obtain⟨_,_,_,e⟩:=x;exact⟨_,e⟩
 |frz ob u=>obtain⟨e,_⟩:=x;exact⟨_,e⟩
 |tbl ps=>exact⟨_,show h.get? a=some _ from x⟩
 |met f y=>exact⟨_,show h.get? a=some _ from x⟩
 |ext φ=>obtain⟨_,⟨_,e⟩,_⟩:=x;exact⟨_,e⟩
def z71{fr:List Addr}{H1 H':Hp}{h1 h h':Heap}{env:Env}{outer:List Env}{ea C:Addr}{a0:Value}{base:Heap}{hid:List Addr}(FF:h.FunFrames base (env::outer))(u:Un fr [] H1 H' h1 h)(hok:HOk P w H' h)(hfr:∀b∈frs (env::outer),H' b=none/\(b∈fr\/h1.get? b=none))(hfr2:∀b∈fr,b∈frs (env::outer))(he1:h1.get? ea=none)(heH:H' ea=none)(hid1:∀b∈hid,h1.get? b=none/\H' b=none)(lf:(PySem.W.hideAll h (ea::(hid++frs (env::outer)))).LeftW (env::outer) ea (.ref C) a0 h h') : Un fr [] H1 H' h1 h'/\HOk P w H' h'/\Fly h1 H' h' ea C:=by
 obtain⟨st,ff,tr,sl⟩:=lf;have keep:∀b o,h.get? b=some o->b≠ea->b∉hid->b∉frs (env::outer)->h'.get? b=some o:=fun b o e n1 n2 n3 =>
  st b o (PySem.W.hideAll_get _ e fun z=>by
   rcases y0j.mp z with z|z
   .exact n1 z
   .rcases y0s.mp z with z|z
    .exact n2 z
    .exact n3 z)
 have slot:∀b o,h.get? b=some o->b∈frs (env::outer)->∃s,h'.get? b=some { o with slots:=s }:=fun b o e hb=>by obtain⟨o',e',hd⟩:=z31 FF b hb;rw[e]at e';cases e';exact sl b o e hd
 have nh:∀b o,h1.get? b=some o->b≠ea/\b∉hid:=fun b o e=>⟨fun z=>(by rw[z,he1]at e;cases e),fun z=>(by rw[(hid1 b z).1]at e;cases e)⟩;refine⟨⟨fun b o e n hb hx=>?_,fun b o e n hb hx=>?_,u.free,fun b o e hx=>?_,u.tups,u.frzs,u.tbls⟩,fun a o e=>?_,he1,heH,?_⟩
 .have e2:=u.keep b o e n hb hx;refine keep b o e2 (nh b o e).1 (nh b o e).2 fun z=>?_;rcases(hfr b z).2 with z|z
  .exact hb z
  .rw[z]at e;cases e
 .obtain⟨s1,e2⟩:=u.slot b o e n hb hx;obtain⟨s2,e3⟩:=slot b _ e2 (hfr2 b hb);exact⟨s2,e3⟩
 .obtain⟨o',e2⟩:=u.there b o e hx;by_cases hb:b∈frs (env::outer)
  .obtain⟨s2,e3⟩:=slot b _ e2 hb;exact⟨_,e3⟩
  .exact⟨o',keep b o' e2 (nh b o e).1 (nh b o e).2 hb⟩
 .refine(hok a o e).stay (fun b v hb q=>?_) (fun _ q=>q) fun _ _ q=>q;have hbs:∃ob,H' b=some ob:=by
   rcases hb with z|z
   .rw[z];exact⟨_,e⟩
   .exact⟨_,z⟩
  obtain⟨ob,hob⟩:=hbs;refine keep b v q (fun z=>?_) (fun z=>?_) fun z=>?_
  .rw[z,heH]at hob;cases hob
  .rw[(hid1 b z).2]at hob;cases hob
  .rw[(hfr b z).1]at hob;cases hob
 .obtain⟨oe,vs,T,oT,ts,g1,g2,g3,g4,g5,g6,g7,g8,g9⟩:=tr;have hT:h1.get? T=none/\H' T=none:=by
   cases eT:h.get? T with
   |none =>
    refine⟨?_,?_⟩
    .cases q:h1.get? T with
     |none=>rfl
     |some o =>
      obtain⟨o',e2⟩:=u.there T o q (by simp);rw[eT]at e2;cases e2
    .cases q:H' T with
     |none=>rfl
     |some o =>
      obtain⟨ob,hob⟩:=z9S (hok T o q);rw[eT]at hob;cases hob
   |some oT' =>
    have hm:T∈ea::(hid++frs (env::outer)):=y0Y fun nm=>by rw[PySem.W.hideAll_get _ eT nm]at g5;cases g5
    rcases y0j.mp hm with z|z
    .exact absurd z g6
    .rcases y0s.mp z with z|z
     .exact hid1 T z
     .obtain⟨o',e',hd⟩:=z31 ff T z;rw[g7]at e';cases e';exact absurd g8 (hd ts)
  exact⟨a0,oe,vs,T,oT,ts,g1,g2,g3,g4,g6,hT.1,hT.2,g7,g8,g9⟩
def zdA{M:Model}{A:Around}{E:yyE}{Q:Unit->Shared->Prop}{s:Shared}{fr:List Addr}{H1 H':Hp}{h1:Heap}{env:Env}{outer:List Env}{L ea C:Addr}{base:Heap}(hA:A.frames=some (env::outer))(hL:env.frame=some L)(FF:s.heap.FunFrames base (env::outer))(u:Un fr [] H1 H' h1 s.heap)(hok:HOk P w H' s.heap)(hfr:∀b∈frs (env::outer),H' b=none/\(b∈fr\/h1.get? b=none))(hfr2:∀b∈fr,b∈frs (env::outer))(hf:zgr h1 H' s.heap ea C\/Fly h1 H' s.heap ea C)(k:∀h',Un fr [] H1 H' h1 h'->HOk P w H' h'->Fly h1 H' h' ea C->Q () { s with heap:=h' }):wpAny M A (leaving env (.ref ea)) Q E s:=by
 rcases hf with⟨he1,heH,a0,oe,vs,g1,⟨g2,g20⟩,g3,g4⟩|⟨he1,heH,a0,oe,vs,T,oT,ts,g1,g2,g3,g4,g5,g6,g7,g8,g9,g10⟩
 .have FF':s.heap.FunFrames (PySem.W.hideAll s.heap (ea::([]++frs (env::outer)))) (env::outer):=z1n FF fun b hb=>y0X _ (by simp[hb]);refine wpAny_leaving_firstW hA FF' hL g1 (fun b o e=>y2R _ e) (y0X _ (by simp)) g3 g4 g20 fun h' lf=>?_;rw[g2]at lf;obtain⟨a,b,c⟩:=z71 (hid:=[]) FF u hok hfr hfr2 he1 heH (fun b hb=>by simp at hb) lf;exact k h' a b c
 .have FF':s.heap.FunFrames (PySem.W.hideAll s.heap (ea::([T]++frs (env::outer)))) (env::outer):=z1n FF fun b hb=>y0X _ (by simp[hb]);refine wpAny_leaving_nextW hA FF' hL ⟨oe,vs,T,oT,ts,g1,g2,g3,g4,y0X _ (by simp),g5,g8,g9,g10⟩ (fun b o e=>y2R _ e) (y0X _ (by simp)) fun h' lf=>?_;obtain⟨a,b,c⟩:=z71 (hid:=[T]) FF u hok hfr hfr2 he1 heH (fun b hb=>by rw[y07.mp hb];exact⟨g6,g7⟩) lf;exact k h' a b c
def CXx(P:Program)(w:World):CXT:=fun outer H s E e s'=>∃(ea C:Addr)(H':Hp),e=.ref ea/\s'.os=s.os/\AllBare s'.gens/\Un (frs outer) [] H H' s.heap s'.heap/\HOk P w H' s'.heap/\Fly s.heap H' s'.heap ea C/\E (.ref ea) (some C) H'
instance:NoE (CXx P w):=⟨fun⟨_,_,_,_,_,_,_,_,_,h⟩=>h⟩
def zgY{K:yyF}{mg:yyS}{base:Heap}{N:List Str}{qual:Str}{scope:Scope}{f:Addr}{cd:Value}{A:Around}{outer:List Env}{s:Shared}{H:Hp}{E:XK}{pins:yyP}{σ:St}{H':Hp}{s':Shared}{ea C:Addr}(J:Inv (z7h (CXx P w) P w K mg base N qual scope f cd A outer s H E) pins σ H' s')(hf:zgr s.heap H' s'.heap ea C\/Fly s.heap H' s'.heap ea C)(hE:E (.ref ea) (some C) H'):(z7h (CXx P w) P w K mg base N qual scope f cd A outer s H E).xe (.ref ea) s':=by
 have hsub:=J.stkSub;have hfree:=J.stkFree;have hst:=J.stack;have hfrm:=J.ok.frames;show wpAny (model P w) (A.deeper (envOfC qual scope s.heap.objs.size f cd)) (leaving (envOfC qual scope s.heap.objs.size f cd) (.ref ea)) (fun _ s''=>CXx P w outer H s E (.ref ea) s'') (fun e' s''=>CXx P w outer H s E e' s'') s';refine zdA (P:=P) (w:=w) (fr:=frs outer) (H1:=H) (H':=H') (h1:=s.heap) (base:=base) hfrm rfl hst J.base J.hok (fun b hb=>⟨hfree b hb,?_⟩) (fun b hb=>y0g _ hb) hf fun h' a b c=>?_
 .rcases y0j.mp (hsub b hb)with z|z
  .right;rw[z];exact y3W (y0b _)
  .exact .inl z
 .exact⟨ea,C,H',rfl,J.os,J.bare,a,b,c,hE⟩
def z7a{K:yyF}{mg:yyS}{base:Heap}{N:List Str}{qual:Str}{scope:Scope}{f:Addr}{cd:Value}{A:Around}{outer:List Env}{s:Shared}{H:Hp}{E E':XK}(hE:∀e C H',E' e C H'->E e C H') : z7I (CXx P w) (z7h (CXx P w) P w K mg base N qual scope f cd A outer s H E) E':=by
 intro pins σ H1 s1 e s' I hx;obtain⟨ea,C,H',rfl,os,bare,un,hok,fly,q⟩:=hx;have J:=I.call' (ch:=[]) os un hok bare (fun b z=>absurd z (by simp));refine zgY J (.inr ?_) (hE _ _ _ q);have up:∀b,s1.heap.get? b=none->s.heap.get? b=none:=fun b z=>by
  cases q:s.heap.get? b with
  |none=>rfl
  |some o =>
   obtain⟨o',e⟩:=I.base.there b o q (by simp[z7h]);rw[z]at e;cases e
 obtain⟨a1,a2,a0,oe,vs,T,oT,ts,g1,g2,g3,g4,g5,g6,r⟩:=fly;exact⟨up _ a1,a2,a0,oe,vs,T,oT,ts,g1,g2,g3,g4,g5,up _ g6,r⟩
end
def zcN{K:yyF}{h:Heap}{C:Addr}{bmB:List Value}{newId:String}(X:K.In h)(e:PySem.W.excIn K C bmB newId=true):∃bm N nm q bs hdct sn sub ab col dd k0 k1 k2 k3 k5 mN, h.get? C=some (excClassObj nm q C N bs bm hdct sn sub ab col dd k0 k1 k2 k3 k5 newId)/\h.Ns N mN/\mN "__init__"=none/\OwnTail h bmB bm:=by
 unfold PySem.W.excIn at e;split at e
 .rename_i dict cd sl hl;split at e
  .rename_i C' bm a0 a1 a2 a3 n a5 hm hs;simp only[y3b,y3k,Bool.not_eq_true']at e;obtain⟨⟨⟨⟨⟨e1,e2⟩,e3⟩,e4⟩,e5⟩,e6⟩:=e;have hC:=X C _ hl;subst e1 e2;have hsl:sl=#[a0,a1,a2,a3,some (Value.builtin n),a5]:=by rw[<-Array.toArray_toList (xs:=sl),hs]
   obtain⟨nm,bs,mro,ns,q,hd,sn,sub,ab,col,hdel⟩:=cd;simp only at hm e3 e5 e6;subst hm e3 hsl;exact⟨bm,ns,nm,q,bs,hd,sn,sub,ab,col,dict,a0,a1,a2,a3,a5,h.nsMap ns,hC,Heap.Ns.of_isNs (PySem.W.isNs_of_in X e5),PySem.W.nsMap_none_of_in X e5 e6,PySem.W.tail_of_in X e4⟩
  .cases e
 .cases e
def zab{h:Heap}{bmB bm:List Value}{v:Value}(t:OwnTail h bmB bm)(hb:bmB.contains v=true):bm.contains v=true:=by
 induction t with
 |base=>exact hb
 |own _ _ _ _ ih=>rw[List.contains_cons,ih];simp
section
variable{P:Program}{w:World}{K:yyF}{mg:yyS}{base:Heap}{N:List Str}{qual:Str}{scope:Scope}{f:Addr}{cd:Value}{A:Around}{outer:List Env}{s0:Shared}{H0:Hp}{E:XK}
def z36{x:Str}{C:Addr}{B newId initId:String}{bmB:List Value}{arg:Expr}{ta:TE}{np cpos pos:Pos}(hx:mg x=some (.ref C))(hg:Gl (z7h (CXx P w) P w K mg base N qual scope f cd A outer s0 H0 E) x)(he:PySem.W.excIn K C bmB newId=true)(hB:ExcBaseFacts B newId initId bmB)(ha:PE (z7h (CXx P w) P w K mg base N qual scope f cd A outer s0 H0 E) arg ta)(htr:backTo cpos (starEach [arg] (z7h (CXx P w) P w K mg base N qual scope f cd A outer s0 H0 E).env)=[(false,eval arg (z7h (CXx P w) P w K mg base N qual scope f cd A outer s0 H0 E).env)]:=by rfl)(hdb:(x==("__debug__":Str))=false:=by decide) : PS (z7h (CXx P w) P w K mg base N qual scope f cd A outer s0 H0 E) (.Raise (some (.Call (.Name x np) [arg] [] cpos)) none pos) (fun D σ H=>ta σ H fun v H1=>∀ea,E (.ref ea) (some C) H1):=by
 intro pins s σ H D I h;obtain⟨bm,NN,nm,q,bs,hd,sn,sub,ab,col,dict,a0,a1,a2,a3,a5,mN,hC,hN,hi,ht⟩:=zcN I.ok.mod.kin he;refine wpAny_Raise_call_subT (nm:=nm) (q:=q) (N:=NN) (bs:=bs) (hdct:=hd) (sn:=sn) (sub:=sub) (ab:=ab) (col:=col) (dd:=dict) (k0:=a0) (k1:=a1) (k2:=a2) (k3:=a3) (k5:=a5) hB (zab ht hB.hasBase) (I.ok.hd rfl) (by rw[htr];rfl) hi (z4i I hg hx ⟨rfl,?_⟩ hdb);rw[htr];refine y3Y (y3n (z1P (ha pins s σ H _ I h) fun u s2 v H2 I2 r2 q2=>Calls.spliced_nil ?_));have bk:=I2.bk;refine⟨rfl,by show 1<=sizeLine;decide,bk _ _ hC,hN.keeps bk,ht.keeps bk,fun h' e me=>?_⟩;obtain⟨kp,nw,t,g1,g2,g3⟩:=me;have J:=I2.kept (h':=h') (t':=s2.toks) kp;refine zgY J (.inl ⟨?_,?_,_,_,_,g1,⟨rfl,rfl⟩,rfl,rfl⟩) (q2 e)
 .cases z:s0.heap.get? e with
  |none=>rfl
  |some o =>
   obtain⟨o',e'⟩:=I2.base.there e o z (by simp[z7h]);rw[nw]at e';cases e'
 .cases z:H2 e with
  |none=>rfl
  |some o =>
   obtain⟨ob,hob⟩:=z9S (I2.hok e o z);rw[nw]at hob;cases hob
end
section
variable{P:Program}{w:World}
def zdN{M:Model}{A:Around}{E:yyE}{Q:Unit->Shared->Prop}{s:Shared}{fr:List Addr}{H1 H':Hp}{h1:Heap}{env:Env}{outer:List Env}{ea C:Addr}{base:Heap}(FF:s.heap.FunFrames base (env::outer))(u:Un fr [] H1 H' h1 s.heap)(hok:HOk P w H' s.heap)(hfr:∀b∈frs (env::outer),H' b=none/\(b∈fr\/h1.get? b=none))(hfr2:∀b∈fr,b∈frs (env::outer))(hf:Fly h1 H' s.heap ea C)(k:∀h',Un fr [] H1 H' h1 h'->HOk P w H' h'->Fly h1 H' h' ea C->Q () { s with heap:=h' }):wpAny M A (setFlight (.ref ea) none) Q E s:=by obtain⟨he1,heH,a0,oe,vs,T,oT,ts,g1,g2,g3,g4,g5,g6,g7,g8,g9,g10⟩:=hf;have FF':s.heap.FunFrames (PySem.W.hideAll s.heap (ea::([T]++frs (env::outer)))) (env::outer):=z1n FF fun b hb=>y0X _ (by simp[hb]);refine lands_againW (base:=PySem.W.hideAll s.heap (ea::([T]++frs (env::outer)))) (l:=env::outer) (cls:=.ref C) (a0:=a0) ⟨fun b o e=>y2R _ e,y0X _ (by simp),FF',oe,vs,T,oT,ts,g1,g2,g3,g4,y0X _ (by simp),g5,g8,g9,g10⟩ fun h' fl up=>?_;obtain⟨f1,f2,f3,f4⟩:=fl;obtain⟨a,b,c⟩:=z71 (hid:=[T]) FF u hok hfr hfr2 he1 heH (fun b hb=>by rw[y07.mp hb];exact⟨g6,g7⟩) ⟨f1,f3,f4,up⟩;exact k h' a b c
def zf7{M:Model}{A:Around}{E:yyE}{Q:Unit->Shared->Prop}{s:Shared}{fr:List Addr}{H1 H':Hp}{h1:Heap}{env:Env}{outer:List Env}{L ea C:Addr}{base:Heap}(hA:A.frames=some (env::outer))(hL:env.frame=some L)(FF:s.heap.FunFrames base (env::outer))(u:Un fr [] H1 H' h1 s.heap)(hok:HOk P w H' s.heap)(hfr:∀b∈frs (env::outer),H' b=none/\(b∈fr\/h1.get? b=none))(hfr2:∀b∈fr,b∈frs (env::outer))(hf:Fly h1 H' s.heap ea C)(k:∀h',Un fr [] H1 H' h1 h'->HOk P w H' h'->Fly h1 H' h' ea C->Q () { s with heap:=h' }):wpAny M A (noteFrame (.ref ea) env) (fun _ s2=>wpAny M A (setFlight (.ref ea) none) Q E s2) E s:=by
 obtain⟨he1,heH,a0,oe,vs,T,oT,ts,g1,g2,g3,g4,g5,g6,g7,g8,g9,g10⟩:=hf;have FF':s.heap.FunFrames (PySem.W.hideAll s.heap (ea::([T]++frs (env::outer)))) (env::outer):=z1n FF fun b hb=>y0X _ (by simp[hb]);refine wpAny_noteFrame_onW hA FF' hL ⟨oe,vs,T,oT,ts,g1,g2,g3,g4,y0X _ (by simp),g5,g8,g9,g10⟩ (fun b o e=>y2R _ e) (y0X _ (by simp)) fun h2 nt=>?_;obtain⟨n1,n2,n3,n4⟩:=nt;refine wpAny_landsW (L:=L) ⟨n1,y0X _ (by simp),n2,n3⟩ fun h' fl up=>?_;obtain⟨f1,f2,f3,f4⟩:=fl;have lw:(PySem.W.hideAll s.heap (ea::([T]++frs (env::outer)))).LeftW (env::outer) ea (.ref C) a0 s.heap h':=⟨f1,f3,f4,fun b o e hd=>by obtain⟨s1,e1⟩:=n4 b o e hd;obtain⟨s2,e2⟩:=up b _ e1 hd;exact⟨s2,e2⟩⟩
 obtain⟨a,b,c⟩:=z71 (hid:=[T]) FF u hok hfr hfr2 he1 heH (fun b hb=>by rw[y07.mp hb];exact⟨g6,g7⟩) lw;exact k h' a b c
end
abbrev Cx.sup(X:Cx)(e:Addr):Cx:={ X with A:=X.A.mark (some (.ref e)),calm:=false,xe:=fun _ _=>False }
abbrev Cx.tried(X:Cx)(pn:yyP)(E:yyE):Cx:={ X with pn:=pn,xe:=E }
theorem Cx.Ok.sup{X:Cx}(ok:X.Ok)(e:Addr):(X.sup e).Ok :=
 ⟨ok.mod,ok.kind,ok.glob,ok.blt,ok.above,ok.inj,ok.has,ok.cab,fun z=>(by cases z),ok.frames,ok.stk,ok.exf,ok.bs,ok.bsz,ok.noex,ok.exfs,ok.funs,ok.frf⟩
theorem Cx.Ok.tried{X:Cx}(ok:X.Ok)(pn:yyP)(E:yyE):(X.tried pn E).Ok :=
 ⟨ok.mod,ok.kind,ok.glob,ok.blt,ok.above,ok.inj,ok.has,ok.cab,ok.hd,ok.frames,ok.stk,ok.exf,ok.bs,ok.bsz,ok.noex,ok.exfs,ok.funs,ok.frf⟩
open PySem.SeqAt
section
variable{X:Cx}
end
end L2
namespace Gu
open PySem L2
def zbM(rows:List Row)(ks:List Int):Prop:=∃(α:Type)(_:DecidableEq α)(key:Int->α),ks=z2k ((z0p rows.length).map key)
def zgR(rows:List Row):zbM rows (z2k (rows.map (·.1))):=⟨List Int,inferInstance,fun x=>(row rows x).1,by rw[z4W rows (·.1)]⟩
def zeL{rows:List Row}{ks:List Int}(h:ks.length=rows.length):zbM rows (z2k (z3e ks rows)):=⟨Int × List Int,inferInstance,zfM rows ks,by rw[z3Z h]⟩
def zdX{n:Nat}{rows:List Row}(G:z4h n rows){ks:List Int}(h:zbM rows ks):cnt ks<=cnt (z2k (z3e ks rows)):=by
 obtain⟨α,ia,key,rfl⟩:=h;rw[z3Z (by rw[z3t,y01,z0y]),z4F (z73 G.some),z4F (z73 G.some)];have h1:=z6H (L:=rows.length) (key:=key);have h2:=(z2D (kf (z2k ((z0p rows.length).map key))) (zfM rows (z2k ((z0p rows.length).map key))) (z0p rows.length) fun x hx y hy e=>by unfold zfM at e;exact(Prod.mk.inj e).1).1
 lia
theorem z5O{n:Nat}{rows:List Row}(G:z4h n rows):∀(m:Nat)(c:Int)(ks:List Int),zbM rows ks->z5J rows ks->cnt ks<=cnt (z5k rows m c ks)
 |0,c,ks,h,_=>y1u _
 |m+1,c,ks,h,hg=>by
  unfold z5k;by_cases hc:c<cnt ks
  .rw[if_pos hc];exact Int.le_trans (zdX G h) (z5O G m _ _ (zeL hg.len) (zcU hg))
  .rw[if_neg hc];exact y1u _
def zfv{n:Nat}{rows:List Row}(G:z0h n rows):((shr rows).length:Int)=cnt (z2J (z0E rows)):=by
 have GF:=z2n G;obtain⟨R,N⟩:=z4P GF;rw[<-z5d G];unfold zaJ;rw[z4o (z41 GF).len N GF.go];unfold z2c;have hm:=z2g (kf (z2J (z0E rows))) (z0p (z0E rows).length);have:(z0H (kf (z2J (z0E rows))) (z0p (z0E rows).length)).length=(z0F ((z0p (z0E rows).length).map (kf (z2J (z0E rows))))).length:=by rw[<-hm,y01]
 rw[y01,this];obtain⟨α,ia,key,e⟩:=N;rw[e,z6H,z4F (z73 GF.some)]
def z6b{n:Nat}{rows:List Row}(G:z0h n rows):(shr rows).length<=rows.length:=by obtain⟨L,cl⟩:=z0v G;have hl:=L.len;have hh:=(z1w (kOf rows) (z0g rows)).2.2;unfold shr z2c;rw[y01];lia
def z2b{n:Nat}{rows:List Row}(G:z0h n rows):z0h n (shr rows):=by
 obtain⟨L,cl⟩:=z0v G;obtain⟨h1,h2,h3⟩:=z1w (kOf rows) (z0g rows);have hl:=z6b G;have hf:=G.few;obtain⟨r0,t0,e0,_⟩:=zga G;have hm:∀r∈shr rows,∃x∈z0g rows,r=((row rows x).1,(row rows x).2.map fun g=>((((z0H (kOf rows) (z0g rows)).map (kOf rows)).idxOf (kOf rows g):Nat):Int)):=fun r hr=>by unfold shr z2c at hr;obtain⟨x,hx,e⟩:=y0a.mp hr;exact⟨x,h2 x hx,e.symm⟩
 refine⟨by lia,by rw[e0];simp,fun r hr=>?_,fun r hr=>?_,fun r hr g hg=>?_⟩
 .obtain⟨x,hx,rfl⟩:=hm r hr;exact G.perm (row rows x) (z0t (L.rg x hx).1 (L.rg x hx).2)
 .obtain⟨x,hx,rfl⟩:=hm r hr;show(List.map _ _).length=n;rw[y01];exact G.len _ (z0t (L.rg x hx).1 (L.rg x hx).2)
 .obtain⟨x,hx,rfl⟩:=hm r hr;obtain⟨y,hy,rfl⟩:=y0a.mp hg;have:=y0U (h1 y (cl x hx y hy));rw[y01]at this;unfold shr z2c;rw[y01];lia
def TMx(Ct:Addr)(E:XK)(H:Hp):Prop:=∀(ea:Addr)(H':Hp),z0c H H'->E (.ref ea) (some Ct) H'
def z6r(K:yyF)(Ct:Addr):Sp:=fun vs H Q E=>∃(a:Addr)(n:Nat)(rows:List Row),vs=[.ref a]/\z3D K H a rows/\z4h n rows/\n<=60/\(cnt (z2J rows)<=60->∀(r:Addr)(H':Hp),z0c H H'->H' r=some (.lst ((z2J rows).map V.int))->Q (.ref r) H')/\(60<cnt (z2J rows)->TMx Ct E H)
end Gu
namespace L2
open PySem PySem.Spec PyProof.Rows
def Fun.okx{CX:CXT}{P:Program}{w:World}{K:yyF}{mg:yyS}{base:Heap}{x qual:Str}{st:Stmt}{f:Addr}{fd:FuncData}{N ps:List Str}{k:Nat}{sp:Sp}(F:Fun K x qual st f fd)(S:z0n N ps (z04 st))(len:∀vs H Q E,sp vs H Q E->vs.length=ps.length)(hbody:∀(cdv:Value)(A:Around)(outer:List Env)(s:Shared)(H:Hp)(vs:List V)(Q:VK)(E:XK),z3s k (A.deeper (envOfC qual (z04 st) s.heap.objs.size f cdv))->sp vs H Q E -> ∃t,PSs (z7h CX P w K mg base N qual (z04 st) f cdv A outer s H E) (z0Y st) t/\t { nx:=fun _ H'=>Q .non H',rt:=Q } (z5L N vs) H):z0u P w K mg base CX (k+1) f fd ps sp:=by obtain⟨oc,od,kV,doc,pm,an,cdv,ct,osl,rfl,lk,hcd⟩:=F.ex;exact zeT lk hcd S len fun A outer s H vs Q E hr hsp=>hbody cdv A outer s H vs Q E hr hsp
open PySem.SeqAt
section
variable{X:Cx}
def ze7(l:Addr)(its:List Value)(n:Nat)(k:Int)(t:Tok)(h0:-1000<=k)(hk:k<=1000)(hne:its=[]\/k=1) : Meets (Builtin.«tuple.__mul__» ⟨[.ref l,.int k t],[]⟩) (fun _ R s=>s.heap.get? l=some { cls:=.type "tuple",dict:=none,data:=.seq its.toArray n,slots:=#[] }/\R (.ok (.ret (.ref l))) s) :=
 .of_wp fun prog w A R s h=>by
  obtain⟨hp,g,d,tk,os⟩:=s;obtain⟨hl,h⟩:=h;have hyes:(its.toArray.isEmpty||k==1)=true:=by
   rcases hne with e|e
   .subst e;simp
   .subst e;simp
  wp_walk using wpAny_loadPart' hl
  refine y1j (fun hab=>absurd hab (by simp;lia)) (fun _=>?_)
  wp_walk using wpAny_loadPart' hl
  exact⟨_,rfl,h⟩
def zed(l:Addr)(its:List Value)(n:Nat)(k:Int)(t:Tok)(h0:-1000<=k)(hk:k<=0)(hne:its≠[]) : Meets (Builtin.«tuple.__mul__» ⟨[.ref l,.int k t],[]⟩) (fun _ R s=>s.heap.get? l=some { cls:=.type "tuple",dict:=none,data:=.seq its.toArray n,slots:=#[] } /\ R (.ok (.ret (.ref s.heap.objs.size))) { s with heap:=s.heap.push { cls:=.type "tuple",data:=.seq #[] } }) :=
 .of_wp fun prog w A R s h=>by
  obtain⟨hp,g,d,tk,os⟩:=s;obtain⟨hl,h⟩:=h;have hie:its.toArray.isEmpty=false:=by cases its with|nil=>exact absurd rfl hne|cons a r=>simp
  wp_walk using wpAny_loadPart' hl
  refine y1j (fun hab=>absurd hab (by simp;lia)) (fun _=>?_)
  wp_walk using wpAny_loadPart' hl
  have hk1:(k==1)=false:=by simpa using(show k≠1 by lia)
  have hk0:decide (k<=0)=true:=by simpa using hk
  refine y1j (fun hab=>absurd hab (by rw[hie,hk1];decide)) (fun _=>?_);refine y1j (fun _=>?_) (fun hab=>absurd (by rw[hk0];rfl) hab);unfold Builtin.Tuple.tupleExact;refine y02 (y13 ?_ (by show(#[]:Array Value).size<=sizeLine;decide));exact y09 ⟨_,rfl,h⟩
def zfK:OpR X (binaryOp .Mult) (fun x y H Q=>∃(l:Addr)(k:Int)(xs:List V),x=.ref l/\y=.int k/\H l=some (.tup xs)/\-1000<=k/\k<=1000/\xs.length*k.toNat<=sizeLine /\ ∀(p:Addr)(H':Hp),z0c H H'->H' p=some (.tup (List.replicate k.toNat xs).flatten)->Q (.ref p) H'):=by
 intro pins s σ H x y v u Q I rx ry h;obtain⟨l,k,xs,rfl,rfl,hH,h0,hk,hz,q⟩:=h;by_cases hs:xs≠[]/\2<=k
 .exact zfN pins s σ H _ _ v u Q I rx ry ⟨l,k,xs,rfl,rfl,hH,hs.1,hs.2,hk,hz,fun p hp=>q p _ (Gu.same_up (z0c.refl H) hp) z01⟩
 .cases rx;obtain⟨t,rfl⟩:=ry;obtain⟨z,its,n,r,e⟩:=I.hok l _ hH;have hl:=r.length;by_cases h1:its=[]\/k=1
  .refine y2q (T:="tuple") (U:="int") (by decide) ⟨_,e,rfl⟩ (fun s'=>y3i s' k t) z2Q y42 y2e z4d y3S.lookup
    (y33 y2e (y3i s k t) y3T (y3B _ _) (z2N k t l its.toArray n)
     ⟨e,rfl,⟨_,e,rfl⟩,y33 y3c ⟨_,e,rfl⟩ F.entry_tuple_mul (F.args_tuple_mul_2 _ _) (ze7 l its n k t h0 hk h1) ⟨e,?_⟩⟩)
   refine⟨.ref l,H,I,rfl,q l H (z0c.refl H) ?_⟩;have:(List.replicate k.toNat xs).flatten=xs:=by
    rcases h1 with w|w
    .subst w;have:xs=[]:=y2H.mp (by simpa using hl);subst this;simp
    .subst w;simp
   rw[this];exact hH
  .have hne:its≠[]:=fun w=>h1 (.inl w);have hxs:xs≠[]:=fun w=>hne (y2H.mp (by rw[<-hl,w];rfl));have hk0:k<=0:=by
    have a1:k≠1:=fun w=>h1 (.inr w);have a2:¬2<=k:=fun w=>hs ⟨hxs,w⟩;lia
   refine y2q (T:="tuple") (U:="int") (by decide) ⟨_,e,rfl⟩ (fun s'=>y3i s' k t) z2Q y42 y2e z4d y3S.lookup
    (y33 y2e (y3i s k t) y3T (y3B _ _) (z2N k t l its.toArray n)
     ⟨e,rfl,⟨_,e,rfl⟩,y33 y3c ⟨_,e,rfl⟩ F.entry_tuple_mul (F.args_tuple_mul_2 _ _) (zed l its n k t h0 hk0 hne) ⟨e,?_⟩⟩)
   have e0:k.toNat=0:=by lia
   rw[e0]at q;exact⟨.ref _,_,I.laid (o:=.tup []) (t':=s.toks) (fun b u q=>y05 _ q) (y0b _) ⟨y0K _,[],0,.nil,y0e _ rfl⟩,rfl,q _ _ (Gu.same_up (z0c.refl H) I.fresh) z01⟩
def zfT{ns ms:List Int}:(!((List.range (min ns.length ms.length)).all (fun j=>ns.getD j 0==ms.getD j 0)&&ns.length==ms.length))=!decide (ns=ms):=by
 congr 1;rw[y1P];simp only[y3b,y2L,y1N,y3k,decide_eq_true_eq];constructor
 .rintro⟨h,hl⟩;refine y3d hl fun i h1 h2=>?_;have:=h i (by lia);rw[y03,y03,y00 h1,y00 h2]at this;exact this
 .rintro rfl;exact⟨fun _ _=>rfl,rfl⟩
def zge(hu:X.A.units<cLine):OpR X (compareOp .NotEq) (fun x y H Q=>∃(a b:Addr)(ns ms:List Int),x=.ref a/\y=.ref b/\H a=some (.tup (ns.map V.int))/\H b=some (.tup (ms.map V.int))/\Q (.bl (!decide (ns=ms))) H):=by
 intro pins s σ H x y v u Q I rx ry h;obtain⟨a,b,ns,ms,rfl,rfl,ha,hb,q⟩:=h;cases rx;cases ry;obtain⟨its,rv,pl,_⟩:=I.tuple (SqT.of ha);obtain⟨itt,rv',pl',_⟩:=I.tuple (SqT.of hb);have l1:its.length=ns.length:=by have:=rv.length;rw[y01]at this;exact this.symm
 have l2:itt.length=ms.length:=by have:=rv'.length;rw[y01]at this;exact this.symm
 have R:=RcNeAt.tuples (A:=X.A) (e:=fun j=>ns.getD j 0==ms.getD j 0) pl pl' hu (fun j h1 h2=>by
  have h1':j<its.length:=by simpa using h1
  have h2':j<itt.length:=by simpa using h2
  obtain⟨u1,k1,t1,q1⟩:=rv.get (i:=j) (x:=V.int (ns.getD j 0)) (by rw[y04,y00 (by lia),y03,y00 (by lia)];rfl);obtain⟨u2,k2,t2,q2⟩:=rv'.get (i:=j) (x:=V.int (ms.getD j 0)) (by rw[y04,y00 (by lia),y03,y00 (by lia)];rfl);have z1:its.toArray[j]=Value.int (ns.getD j 0) t1:=by rw[y00 h1']at k1;have:=y08 k1;rw[<-q1,<-this];simp
  have z2:itt.toArray[j]=Value.int (ms.getD j 0) t2:=by rw[y00 h2']at k2;have:=y08 k2;rw[<-q2,<-this];simp
  rw[z1,z2];exact fun prog w E Q h=>wpAny_eqBool_int h)
 rw[y0C,y0C,l1,l2,zfT]at R;exact R _ _ _ _ ⟨.bl _,H,I,rfl,q⟩
end
end L2
namespace Gu
def z8m{l:List Int}{i:Nat}(h:i<l.length):l.getD i 0=l[i]:=by rw[y03,y00 h];rfl
open PySem L2
end Gu
namespace L2
open PySem PySem.Spec PyProof.Rows
abbrev frO(o:Obj):HO:=.frz o (.ext fun _=>True)
section
variable{P:Program}{w:World}{H H1:Hp}{h:Heap}{a:Addr}{o:Obj}
def z7Z(e:h.get? a=some o):z1Q P w H h a (frO o):=⟨e,trivial,⟨o,e⟩,fun _ _ _ _=>trivial⟩
def z4m(x:HOk P w H h)(e:H a=some (frO o)):h.get? a=some o:=(x a _ e).1
end
def utk(H:Hp)(cs:List Addr):Hp:=fun b=>if b∈cs then none else H b
def rtk(H H1:Hp)(cs:List Addr):Hp:=fun b=>if b∈cs then H b else H1 b
def z5Z{H:Hp}{cs:List Addr}{b:Addr}(h:b∈cs):utk H cs b=none:=if_pos h
def z1l{H:Hp}{cs:List Addr}{b:Addr}(h:b∉cs):utk H cs b=H b:=if_neg h
def zcL{H H1:Hp}{cs:List Addr}{b:Addr}(h:b∈cs):rtk H H1 cs b=H b:=if_pos h
def z3o{H H1:Hp}{cs:List Addr}{b:Addr}(h:b∉cs):rtk H H1 cs b=H1 b:=if_neg h
theorem z0c.rtk{H H1:Hp}{cs:List Addr}(s:z0c (utk H cs) H1):z0c H (L2.rtk H H1 cs):=fun b o e=>by
 by_cases hb:b∈cs
 .rw[zcL hb];exact e
 .rw[z3o hb];exact s b o (by rw[z1l hb];exact e)
def z0c.rtk'{H H1:Hp}{cs:List Addr}(hn:∀c∈cs,H1 c=none):z0c H1 (L2.rtk H H1 cs):=fun b o e=>by
 have hb:b∉cs:=fun z=>by rw[hn b z]at e;cases e
 rw[z3o hb];exact e
def z8E{H:Hp}{cs:List Addr}(hc:∀c∈cs,∃ob,H c=some (frO ob)){b:Addr}{o:HO}(e:H b=some o)(ne:∀ob,o≠frO ob):utk H cs b=some o:=by
 have hb:b∉cs:=fun z=>by obtain⟨ob,q⟩:=hc b z;rw[e]at q;exact ne ob (y08 q)
 rw[z1l hb];exact e
def z8J(H:Hp)(f:Addr)(params:Arguments)(body:Expr)(scope:Scope)(qual:Str)(N:List Str)(fv:St):Prop :=
 ∃(clos:List (Str × Addr)) (cs:List Addr) (pm:Value) (c':Addr) (ctv:Value) (oc:Obj) (vs:Array Value) (t:Tok),H f=some (frO (PySem.W.kla_obj "<lambda>" qual params body scope clos pm c' ctv))/\H c'=some (frO oc)/\oc.data=.fields vs/\vs[1]?=some (.str qual t) /\
  (∀x y c,clos.lookup x=some c->clos.lookup y=some c->x=y)/\(∀x c,clos.lookup x=some c->c∈cs)/\(∀c∈cs,(∃x,clos.lookup x=some c)/\∃o u,H c=some (frO o)/\o.data=.cell u)/\(∀x,scope.names.lookup x=some .free->∃c,clos.lookup x=some c) /\
  ∀(i:Nat) x v,N[i]?=some x->fv[i]?=some (some v)->∃c o u,clos.lookup x=some c/\H c=some (frO o)/\o.data=.cell (some u)/\z1i v u
def z8J.mono{H H':Hp}{f:Addr}{params:Arguments}{body:Expr}{scope:Scope}{qual:Str}{N:List Str}{fv:St}(h:z8J H f params body scope qual N fv)(s:z0c H H'):z8J H' f params body scope qual N fv:=by
 obtain⟨clos,cs,pm,c',ctv,oc,vs,t,e1,e2,e3,e4,e5,e5',e6,e7,e8⟩:=h;refine⟨clos,cs,pm,c',ctv,oc,vs,t,s _ _ e1,s _ _ e2,e3,e4,e5,e5',fun c hc=>?_,e7,fun i x v h1 h2=>?_⟩
 .obtain⟨hx,o,u,q,d⟩:=e6 c hc;exact⟨hx,o,u,s _ _ q,d⟩
 .obtain⟨c,o,u,q1,q2,q3⟩:=e8 i x v h1 h2;exact⟨c,o,u,q1,s _ _ q2,q3⟩
structure zh9(N ps:List Str)(sc:Scope):Prop where
 kind:sc.kind=.function:=by rfl
 co:sc.isCoroutine=false:=by rfl
 gen:sc.isGenerator=false:=by rfl
 nd:N.Nodup:=by decide +kernel
 pre:N.take ps.length=ps:=by rfl
 par:∀x∈ps,sc.names.lookup x=some .local:=by decide +kernel
 nocell:∀y∈sc.names,y.2≠.cell:=by decide +kernel
 fr:∀x∈N.drop ps.length,sc.names.lookup x=some .free:=by decide +kernel
def z8X(vs:List V)(fv:St):St:=vs.map some++fv.drop vs.length
def zdl(P:Program)(w:World)(K:yyF)(mg:yyS)(base:Heap)(N:List Str)(qual:Str)(scope:Scope)(f:Addr)(cd:Value)(clos:List (Str × Addr))(A:Around)(outer:List Env)(s:Shared)(H:Hp):Cx where
 prog:=P
 w:=w
 K:=K
 mg:=mg
 base:=base
 A:=A.deeper (PySem.W.envX qual scope s.heap.objs.size f cd clos)
 N:=N
 s₀:=s
 H₀:=H
 env:=PySem.W.envX qual scope s.heap.objs.size f cd clos
 outer:=outer
 stack:=PySem.W.envX qual scope s.heap.objs.size f cd clos::outer
 ex:=[]
 calm:=true
 fn:=fun _=>false
 pn:=[]
 xe:=noE
def z7V{ps:List Str}{us:List Value}{i:Nat}{x:Str}{u:Value}(nd:ps.Nodup)(hp:ps[i]?=some x)(hu:us[i]?=some u):(ps.zip us).reverse.lookup x=some u:=by
 have hm:(x,u)∈(ps.zip us).reverse:=List.mem_reverse.mpr (y0z (i:=i) (by rw[y1C];exact⟨hp,hu⟩));have key:∀l:List (Str × Value),(∀v,(x,v)∈l->v=u)->(x,u)∈l->l.lookup x=some u:=by
  intro l;induction l with
  |nil=>intro _ h;cases h
  |cons q r ih =>
   intro h1 h2;obtain⟨y,v⟩:=q;rw[y1c];by_cases e:x=y
   .subst e;rw[show(x==x)=true by simp];exact y1G some (h1 v y0i)
   .rw[show(x==y)=false by simpa using e];refine ih (fun v hv=>h1 v (y0g _ hv)) ?_;rcases y0j.mp h2 with z|z
    .injection z with z1 _;exact absurd z1 e
    .exact z
 refine key _ (fun v hv=>?_) hm;obtain⟨j,hj,ej⟩:=y17 (List.mem_reverse.mp hv);have e1:(ps.zip us)[j]?=some (x,v):=by rw[y00 hj,ej]
 rw[y1C]at e1;have:j=i:=z6Z nd e1.1 hp;subst this;rw[hu]at e1;exact(y08 e1.2).symm
def zfr{CX:CXT}{P:Program}{w:World}{K:yyF}{mg:yyS}{base:Heap}{k:Nat}{H:Hp}{f:Addr}{params:Arguments}{body:Expr}{scope:Scope}{qual:Str}{N ps:List Str}{fv:St}(C:z8J H f params body scope qual N fv)(S:zh9 N ps scope)(hbind:∀(cl:List (Str × Addr)) (pm cdv ct:Value) (us:List Value),us.length=ps.length->bindArgs (PySem.W.kla_fn "<lambda>" qual params body scope cl pm cdv ct) ⟨us,[]⟩=pure (ps.zip us))(hfv:fv.length=N.length){A:Around}{outer:List Env}{s:Shared}{us:List Value}{vs:List V}{Q:VK}{E:XK}(hr:z3s (k+1) A)(e0:zfD P w K mg base A outer s H)(r:z0T vs us)(hl:vs.length=ps.length)(hbody:∀(cd:Value) (clos:List (Str × Addr)) (cs:List Addr),z3s k (A.deeper (PySem.W.envX qual scope s.heap.objs.size f cd clos))->(∀c∈cs,∃o,H c=some (frO o)) -> ∃t,PE (zdl P w K mg base N qual scope f cd clos A outer s (utk H cs)) body t/\t (z8X vs fv) (utk H cs) fun v H1=>(∀c∈cs,H1 c=none)->Q v (rtk H H1 cs)) : codeAny (model P w) A (.call (.ref f) ⟨us,[]⟩) (CR CX outer P w H s Q E) s:=by
 obtain⟨clos,cs,pm,c',ctv,oc,vs',t,e1,e2,e3,e4,e5,hcl,e6',e7,e8⟩:=C;have e6:∀c∈cs,∃o u,H c=some (frO o)/\o.data=.cell u:=fun c hc=>(e6' c hc).2;obtain⟨tb,hPE,hq⟩:=hbody (.ref c') clos cs (hr.deeper _) (fun c hc=>let⟨o,_,q,_⟩:=e6 c hc;⟨o,q⟩);have KX:K.In s.heap:=e0.mod.kin.keeps fun b o e=>(e0.bs b o e).1;have lim:s.heap.NoLimit:=e0.mod.nolimit.keeps fun b o e=>(e0.bs b o e).1;have hul:us.length=ps.length:=by rw[<-r.length];exact hl
 refine PySem.W.kla_callFunE hr.depth (z4m e0.hok e1) rfl S.co S.gen rfl ⟨c',oc,vs',t,rfl,z4m e0.hok e2,e3,e4⟩ ?_;rw[hbind clos pm (.ref c') ctv us hul];refine y09 (wpAny_newFunctionEnv S.nocell (fun y hy=>S.par y.1 (y2X hy).1) (fun h₁ hns hsb=>?_) S.kind);have hk₁:∀b o,s.heap.get? b=some o->h₁.get? b=some o:=fun b o e=>hsb.extBut b o (y0u (y0k e)) (y05 _ e);refine⟨lim.keeps hk₁,?_⟩;show codeAny _ _ (.expr body (PySem.W.envX qual scope s.heap.objs.size f (.ref c') clos)) _ _;have hcu:∀c∈cs,utk H cs c=none:=fun c hc=>z5Z hc;have hclt:∀c∈cs,c<s.heap.objs.size:=fun c hc=>by obtain⟨o,_,q,_⟩:=e6 c hc;exact y0k (z4m e0.hok q)
 have hokU:HOk P w (utk H cs) s.heap:=fun b u e=>by
  have hb:b∉cs:=fun z=>by rw[z5Z z]at e;cases e
  rw[z1l hb]at e;refine(e0.hok b u e).stay (fun _ _ _ q=>q) (fun c q=>?_) fun c xs q=>?_
  .exact z8E (fun c hc=>let⟨o,_,q,_⟩:=e6 c hc;⟨o,q⟩) q (fun ob z=>by cases z)
  .exact z8E (fun c hc=>let⟨o,_,q,_⟩:=e6 c hc;⟨o,q⟩) q (fun ob z=>by cases z)
 have noA:∀b:Addr,b∉(zdl P w K mg base N qual scope f (.ref c') clos A outer s (utk H cs)).ex:=fun b z=>absurd (show b∈([]:List Addr)from z) (by simp);have nonU:∀{b:Addr},H b=none->utk H cs b=none:=fun{b} e=>by
  by_cases hb:b∈cs
  .exact z5Z hb
  .rw[z1l hb];exact e
 have I:Inv (zdl P w K mg base N qual scope f (.ref c') clos A outer s (utk H cs)) [] (z8X vs fv) (utk H cs) { s with heap:=h₁,toks:=s.toks+(ps.zip us).length }:=by
  refine⟨⟨e0.mod,S.kind,rfl,rfl,y0b _,e5,fun y hy=>?_,fun y c hf _=>?_,fun _=>hr.hd,Around.frames_deeper e0.frames,.inr ⟨rfl,rfl⟩,fun b z=>absurd z (noA b),fun b o e=>⟨(e0.bs b o e).1,nonU (e0.bs b o e).2⟩,e0.bsz,fun b _ _=>noA b,fun b z=>absurd z (noA b),e0.funs,fun b hb=>nonU (e0.frf b hb)⟩,
   rfl,e0.bare,Un.kept hk₁,⟨_,hns,fun i y v h1 h2 h3=>?_⟩,fun y c h=>?_,?_,fun y c h=>hcu c (hcl y c h),fun p hp=>absurd (show p∈([]:yyP)from hp) (by simp),hokU.kept hk₁,?_⟩
  .rcases hy with hy|hy
   .exact absurd rfl (S.nocell _ (y1f hy))
   .exact e7 y hy
  .exact absurd (show false=true from hf) y0M
  .by_cases hi:i<vs.length
   .have ha:vs[i]?=some v:=by
     unfold z8X at h2;rw[y0F (by simpa using hi),y04]at h2;cases e:vs[i]? with
     |none=>rw[e]at h2;cases h2
     |some a=>rw[e]at h2;cases h2;rfl
    obtain⟨u,hu,rv⟩:=r.get ha;have hp:ps[i]?=some y:=by rw[<-S.pre,y25 (by lia)];exact h1
    have ndP:ps.Nodup:=by rw[<-S.pre];exact S.nd.sublist (y1K _ _)
    exact⟨u,rv,.inl ⟨S.par y (y0z hp),z7V ndP hp hu⟩⟩
   .have h2':fv[i]?=some (some v):=by
     unfold z8X at h2;rw[y0W (by simpa using hi),y01,y2T]at h2;rw[show vs.length+(i-vs.length)=i by lia]at h2;exact h2
    obtain⟨c,o,u,q1,q2,q3,q4⟩:=e8 i y v h1 h2';have hkk:scope.names.lookup y=some .local\/scope.names.lookup y=some .cell\/scope.names.lookup y=some .free:=h3;refine⟨u,q4,?_⟩;rcases hkk with z|z|z
    .have hm:y∈N.drop ps.length:=y0z (i:=i-ps.length) (by rw[y2T,show ps.length+(i-ps.length)=i by lia];exact h1);rw[S.fr y hm]at z;cases z
    .exact absurd rfl (S.nocell _ (y1f z))
    .exact .inr ⟨.inr z,c,q1,⟨o,hk₁ _ _ (z4m e0.hok q2),q3⟩⟩
  .obtain⟨o,u,q,d⟩:=e6 c (hcl y c h);exact⟨u,o,hk₁ _ _ (z4m e0.hok q),d⟩
  .exact nonU (e0.hok.fresh (y0b _))
  .unfold z8X;show _=N.length;have hpl:ps.length<=N.length:=by have:=y1G List.length S.pre;rw[y0q]at this;lia
   rw[y0f,y01,y3R,hfv];lia
 refine PySem.W.kla_codeExpr (y1J (hPE [] _ (z8X vs fv) (utk H cs) _ I hq) (fun v' s' hs=>?_) fun e' s' hs=>False.elim hs);obtain⟨v,H1,J,rv,q1⟩:=hs;have hn1:∀c∈cs,H1 c=none:=fun c hc=>by obtain⟨⟨x,hx⟩,_⟩:=e6' c hc;exact J.freeC x c hx
 have U:Un (frs outer) [] (utk H cs) H1 s.heap s'.heap:=J.base;have hcs':∀c∈cs,∃ob,H c=some (frO ob):=fun c hc=>let⟨o,_,q,_⟩:=e6 c hc;⟨o,q⟩;have out:∀{b:Addr},H b=none->b∉cs:=fun{b} e z=>by obtain⟨o,q⟩:=hcs' b z;rw[e]at q;cases q
 have got:∀{b:Addr}{o:HO},(∀ob,o≠frO ob)->H b=some o->b∉cs:=fun{b o} ne e z=>by obtain⟨ob,q⟩:=hcs' b z;rw[e]at q;exact ne ob (y08 q)
 refine⟨v,rtk H H1 cs,J.os,J.bare,⟨fun b o e n hb hx=>?_,fun b o e n hb hx=>?_,fun b o e n hx=>?_,fun b o e hx=>U.there b o e hx,fun b xs e=>?_,fun b o u e=>?_,fun b ps e=>?_⟩,fun b u e=>?_,rv,q1 hn1⟩
 .exact U.keep b o e (nonU n) hb hx
 .exact U.slot b o e (nonU n) hb hx
 .rw[z3o (out n)];exact U.free b o e (nonU n) hx
 .have hb:=got (fun ob z=>by cases z) e;rw[z3o hb];exact U.tups b xs (by rw[z1l hb];exact e)
 .by_cases hb:b∈cs
  .rw[zcL hb];exact e
  .rw[z3o hb];exact U.frzs b o u (by rw[z1l hb];exact e)
 .have hb:=got (fun ob z=>by cases z) e;obtain⟨more,q⟩:=U.tbls b ps (by rw[z1l hb];exact e);exact⟨more,by rw[z3o hb];exact q⟩
 .by_cases hb:b∈cs
  .rw[zcL hb]at e;obtain⟨ob,q⟩:=hcs' b hb;rw[q]at e;have:=y08 e;subst this;refine z7Z (U.keep b ob (z4m e0.hok q) (hcu b hb) (fun z=>?_) (by simp));have:=e0.frf b z;rw[q]at this;cases this
  .rw[z3o hb]at e;refine(J.hok b u e).stay (fun _ _ _ q=>q) (fun c q=>?_) fun c xs q=>?_
   .exact z0c.rtk' hn1 c _ q
   .exact z0c.rtk' hn1 c _ q
def z3A(P:Program)(w:World)(K:yyF)(mg:yyS)(base:Heap)(CX:CXT)(k:Nat)(H:Hp)(f:Addr)(sp:List V->Hp->VK->Prop):Prop :=
 (∃(o:Obj)(fd:FuncData),H f=some (frO o)/\o.data=.func fd) /\
 ∀(H':Hp),z0c H H'->∀(A:Around)(outer:List Env)(s:Shared)(us:List Value)(vs:List V)(Q:VK),z3s k A->zfD P w K mg base A outer s H'->z0T vs us->sp vs H' Q ->
  codeAny (model P w) A (.call (.ref f) ⟨us,[]⟩) (CR CX outer P w H' s Q E0) s
def z3A.mono{P:Program}{w:World}{K:yyF}{mg:yyS}{base:Heap}{CX:CXT}{k:Nat}{H H1:Hp}{f:Addr}{sp:List V->Hp->VK->Prop}(h:z3A P w K mg base CX k H f sp)(s:z0c H H1):z3A P w K mg base CX k H1 f sp:=by obtain⟨⟨o,fd,e,d⟩,r⟩:=h;exact⟨⟨o,fd,s _ _ e,d⟩,fun H' s'=>r H' (s.trans s')⟩
def zgi(P:Program)(w:World)(K:yyF)(mg:yyS)(base:Heap)(CX:CXT)(k:Nat)(i:Nat)(t:TA):TE:=fun σ H Q=>∃(f:Addr)(sp:List V->Hp->VK->Prop),σ[i]?=some (some (.ref f))/\(∃(o:Obj)(fd:FuncData),H f=some (frO o)/\o.data=.func fd) /\
 t σ H fun vs H1=>z3A P w K mg base CX k H1 f sp/\sp vs H1 Q
section
variable{X:Cx}{CX:CXT}{k:Nat}{x:Str}{p pos:Pos}{e:Expr}{es:List Expr}{t:TA}
def za7[N:NoE CX](i:Nat)(hr:z3s k X.A)(ha:PA X (e::es) t)(hN:X.N[i]?=some x:=by rfl)(hv:Vis X.env.scope x:=by first|exact Or.inl rfl|exact Or.inr (Or.inl rfl)|exact Or.inr (Or.inr rfl))(hd:(x==("__debug__":Str))=false:=by decide)(hcd:(x==("__classdict__":Str))=false:=by decide)(he:starEach (e::es) X.env=(false,eval e X.env)::starEach es X.env:=by rfl)(hpl:(backTo pos (starEach es X.env)).any (·.1)=false:=by rfl) : PE X (.Call (.Name x p) (e::es) [] pos) (zgi X.prog X.w X.K X.mg X.base CX k i t):=by
 intro pins s σ H Q I h;obtain⟨f,sp,ef,⟨o,fd,eo,od⟩,h⟩:=h;refine y2o (z1P (zeC hN hv hd hcd pins s σ H (fun v H1=>v=.ref f/\H1=H) I ⟨_,ef,rfl,rfl⟩) fun u s1 v H1 I1 r1 hz9=>?_);obtain⟨hv1,hH1⟩:=hz9;subst hv1 hH1;cases r1;have h':=ha pos pins s1 σ H1 _ I1 h;rw[he]at h'⊢;refine PySem.W.callWith_of (P:=fun hp=>hp.get? f=some o\/∃o' fd',hp.get? f=some o'/\o'.data=.func fd') (by show((false||(backTo pos (starEach es X.env)).any (·.1))||false)=false;rw[hpl];rfl)
  (fun hp hX=>?_) (PySem.Calls.evalArgs_plain (thn h' fun us s2 ⟨vs,H2,I2,r,cv,q⟩=>?_))
 .have hX':∃o' fd',hp.get? f=some o'/\o'.data=.func fd':=hX.elim (fun z=>⟨o,fd,z,od⟩) id;obtain⟨o',fd',z,d'⟩:=hX';refine⟨.frame,.inl rfl,?_⟩;obtain⟨cls,dd,data,sl⟩:=o';simp only at d';subst d';exact(PySem.W.Looks.ld (part:=none) z).andThen .now
 .obtain⟨⟨o',fd',z,d'⟩,run⟩:=cv;refine⟨.inr ⟨o',fd',z4m I2.hok z,d'⟩,?_⟩;refine wpAny_call (y2F (run H2 (z0c.refl _) X.A X.stack s2 us vs Q hr I2.env0 r q) fun r s' hq=>?_);cases r with
  |error e=>exact absurd hq N.no
  |ok fl =>
   cases fl with
   |ret u=>exact I2.after hq
   |next=>exact False.elim hq
   |brk=>exact False.elim hq
   |cont=>exact False.elim hq
end
structure Tb where
 at_:Addr
 pos:Pos
 qual:Str
def zdu(T:Tb)(H:Hp):Prop:=H T.at_=some (.tbl #[])\/∃(c':Addr)(oc:Obj)(vs:Array Value)(t:Tok),H T.at_=some (.tbl #[rawInt T.pos.line,rawInt T.pos.col,.ref c'])/\H c'=some (frO oc)/\oc.data=.fields vs/\vs[1]?=some (.str T.qual t)
def z5F(Ts:List Tb)(H:Hp):Prop:=∀T∈Ts,zdu T H
structure z0Q(Ts:List Tb)(H H':Hp):Prop where
 at_:∀b o,(∀ps,o≠.tbl ps)->H b=some o->H' b=some o
 tabs:z5F Ts H->z5F Ts H'
def zdu.mono{T:Tb}{H H':Hp}(h:zdu T H)(s:z0c H H'):zdu T H':=by
 rcases h with e|⟨c',oc,vs,t,e1,e2,e3⟩
 .exact .inl (s _ _ e)
 .exact .inr ⟨c',oc,vs,t,s _ _ e1,s _ _ e2,e3⟩
def z0c.l{Ts:List Tb}{H H':Hp}(s:z0c H H'):z0Q Ts H H':=⟨fun b o _ e=>s b o e,fun h T hT=>(h T hT).mono s⟩
theorem z0Q.refl{Ts:List Tb}(H:Hp):z0Q Ts H H:=(z0c.refl H).l
def z0Q.trans{Ts:List Tb}{H H1 H2:Hp}(a:z0Q Ts H H1)(b:z0Q Ts H1 H2):z0Q Ts H H2:=⟨fun c o n e=>b.at_ c o n (a.at_ c o n e),fun h=>b.tabs (a.tabs h)⟩
class NT (o:HO):Prop where
 no:∀ps,o≠.tbl ps
instance NT.lst{xs:List V}:NT (.lst xs):=⟨fun _ z=>by cases z⟩
instance NT.tup{xs:List V}:NT (.tup xs):=⟨fun _ z=>by cases z⟩
instance NT.dK{xs:List (Key × V)}:NT (.dK xs):=⟨fun _ z=>by cases z⟩
instance NT.ext{f:Heap->Prop}:NT (.ext f):=⟨fun _ z=>by cases z⟩
instance NT.frz{o:Obj}{u:HO}:NT (.frz o u):=⟨fun _ z=>by cases z⟩
def z0Q.g{Ts:List Tb}{H H':Hp}(s:z0Q Ts H H'){b:Addr}{o:HO}[n:NT o](e:H b=some o):H' b=some o:=s.at_ b o n.no e
def z0Q.seq{Ts:List Tb}{K:yyF}{H H':Hp}{a:Addr}{xs:List V}(s:z0Q Ts H H')(h:SqL K H a xs):SqL K H' a xs:=by
 rcases h with(h|⟨o,h⟩)|h
 .exact .inl (.inl (s.g h))
 .exact .inl (.inr ⟨o,s.g h⟩)
 .exact .inr h
mutual
theorem Dr.monoL{Ts:List Tb}{K:yyF}{H H':Hp}(s:z0Q Ts H H'):∀{d:D}{v:V},Dr K H d v->Dr K H' d v
 |.non,_,h=>by simp only[Dr]at h⊢;exact h
 |.bl _,_,h=>by simp only[Dr]at h⊢;exact h
 |.int _,_,h=>by simp only[Dr]at h⊢;exact h
 |.str _,_,h=>by simp only[Dr]at h⊢;exact h
 |.tup ds,_,h=>by
  simp only[Dr]at h⊢;obtain⟨a,vs,e,q,r⟩:=h;exact⟨a,vs,e,s.g q,DrL.monoL s r⟩
 |.lst ds,_,h=>by simp only[Dr]at h⊢;obtain⟨a,vs,e,q,r⟩:=h;exact⟨a,vs,e,s.seq q,DrL.monoL s r⟩
theorem DrL.monoL{Ts:List Tb}{K:yyF}{H H':Hp}(s:z0Q Ts H H'):∀{ds:List D}{vs:List V},DrL K H ds vs->DrL K H' ds vs
 |[],_,h=>by simp only[DrL]at h⊢;exact h
 |d::ds,_,h=>by simp only[DrL]at h⊢;obtain⟨v,r,e,q,q'⟩:=h;exact⟨v,r,e,Dr.monoL s q,DrL.monoL s q'⟩
end
def zdv(H:Hp)(cs:List Addr)(ob:Addr->Obj):Hp:=fun b=>if b∈cs then some (frO (ob b))else H b
def z56{H:Hp}{cs:List Addr}{ob:Addr->Obj}{b:Addr}(h:b∈cs):zdv H cs ob b=some (frO (ob b)):=if_pos h
def z1q{H:Hp}{cs:List Addr}{ob:Addr->Obj}{b:Addr}(h:b∉cs):zdv H cs ob b=H b:=if_neg h
section
variable{X:Cx}{pins:yyP}{σ:St}{H:Hp}{s s':Shared}{cs:List Addr}{ob:Addr->Obj}
def Inv.cellFree(I:Inv X pins σ H s){x:Str}{c:Addr}(hc:X.env.cells.lookup x=some c)(hge:X.s₀.heap.objs.size<=c):c∉frs X.stack/\X.base.get? c=none:=by
 refine⟨fun z=>?_,y3W (y0Q I.ok.bsz hge)⟩;rcases y0j.mp (I.stkSub c z)with q|q
 .exact I.cne x c hc q
 .obtain⟨_,o,ho,_⟩:=I.ok.funs.mem q;exact absurd (y0r (y0k ho) hge) (y2n _)
def Inv.env0T(I:Inv X pins σ H s)(h1:∀c∈cs,s.heap.get? c=some (ob c))(h2:∀c∈cs,H c=none)(h3:∀c∈cs,c∉frs X.stack/\X.base.get? c=none):zfD X.prog X.w X.K X.mg X.base X.A X.stack s (zdv H cs ob):=by
 have E:=I.env0;have out:∀{b:Addr}{o:HO},H b=some o->b∉cs:=fun{b o} e z=>by rw[h2 b z]at e;cases e
 refine⟨E.frames,E.mod,fun b o e=>⟨(E.bs b o e).1,?_⟩,E.bsz,E.funs,fun b hb=>?_,fun b u e=>?_,E.bare⟩
 .have hb:b∉cs:=fun z=>by rw[(h3 b z).2]at e;cases e
  rw[z1q hb];exact(E.bs b o e).2
 .have hb':b∉cs:=fun z=>(h3 b z).1 hb;rw[z1q hb'];exact E.frf b hb
 .by_cases hb:b∈cs
  .rw[z56 hb]at e;have:=y08 e;subst this;exact z7Z (h1 b hb)
  .rw[z1q hb]at e;exact(I.hok b u e).stay (fun _ _ _ q=>q) (fun c q=>by rw[z1q (out q)];exact q) fun c xs q=>by rw[z1q (out q)];exact q
def unT{fr:List Addr}{H':Hp}{h h':Heap}{P:Program}{w:World}(h1:∀c∈cs,h.get? c=some (ob c))(h2:∀c∈cs,H c=none)(h3:∀c∈cs,c∉fr)(U:Un fr [] (zdv H cs ob) H' h h')(hok:HOk P w H' h') : Un fr [] H (utk H' cs) h h'/\HOk P w (utk H' cs) h':=by
 have out:∀{b:Addr}{o:HO},H b=some o->b∉cs:=fun{b o} e z=>by rw[h2 b z]at e;cases e
 have at':∀c∈cs,H' c=some (frO (ob c)):=fun c hc=>U.frzs c _ _ (z56 hc);have got:∀{b:Addr}{o:HO},(∀x,o≠frO x)->H' b=some o->b∉cs:=fun{b o} ne e z=>by rw[at' b z]at e;exact ne _ (y08 e).symm
 refine⟨⟨fun b o e n hb hx=>?_,fun b o e n hb hx=>?_,fun b o e n hx=>?_,fun b o e hx=>U.there b o e hx,fun b xs e=>?_,fun b o u e=>?_,fun b ps e=>?_⟩,fun b u e=>?_⟩
 .by_cases hc:b∈cs
  .have q:=z4m hok (at' b hc);have q':=h1 b hc;rw[e]at q';rw[q,y08 q']
  .exact U.keep b o e (by rw[z1q hc];exact n) hb hx
 .have hc:b∉cs:=fun z=>h3 b z hb;exact U.slot b o e (by rw[z1q hc];exact n) hb hx
 .by_cases hc:b∈cs
  .exact z5Z hc
  .rw[z1l hc];exact U.free b o e (by rw[z1q hc];exact n) hx
 .rw[z1l (out e)];exact U.tups b xs (by rw[z1q (out e)];exact e)
 .rw[z1l (out e)];exact U.frzs b o u (by rw[z1q (out e)];exact e)
 .obtain⟨more,q⟩:=U.tbls b ps (by rw[z1q (out e)];exact e);exact⟨more,by rw[z1l (out e)];exact q⟩
 .have hc:b∉cs:=fun z=>by rw[z5Z z]at e;cases e
  rw[z1l hc]at e;refine(hok b u e).stay (fun _ _ _ q=>q) (fun c q=>?_) fun c xs q=>?_
  .rw[z1l (got (fun x z=>by cases z) q)];exact q
  .rw[z1l (got (fun x z=>by cases z) q)];exact q
def Inv.afterT{Q:VK}{u:Value}(I:Inv X pins σ H s)(h1:∀c∈cs,s.heap.get? c=some (ob c))(h2:∀c∈cs,H c=none)(h3:∀c∈cs,c∉frs X.stack/\X.base.get? c=none)(h:CE X.stack X.prog X.w (zdv H cs ob) s (fun v H'=>Q v (utk H' cs)) u s'):EP X pins σ Q u s':=by obtain⟨v,H',os,bare,un,hok,r,q⟩:=h;obtain⟨un2,hok2⟩:=unT h1 h2 (fun c hc=>(h3 c hc).1) un hok;exact I.after ⟨v,utk H' cs,os,bare,un2,hok2,r,q⟩
def ziM{P:Program}{w:World}{outer:List Env}{E:XK}{e:Value}(h1:∀c∈cs,s.heap.get? c=some (ob c))(h2:∀c∈cs,H c=none)(h3:∀c∈cs,c∉frs outer)(h:CXx P w outer (zdv H cs ob) s (fun e C H'=>E e C (utk H' cs)) e s'):CXx P w outer H s E e s':=by
 obtain⟨ea,C,H',e1,os,bare,un,hok,fly,q⟩:=h;obtain⟨un2,hok2⟩:=unT h1 h2 h3 un hok;have no:∀{b:Addr},H' b=none->utk H' cs b=none:=fun{b} z=>by
  by_cases hc:b∈cs
  .exact z5Z hc
  .rw[z1l hc];exact z
 obtain⟨f1,f2,a0,oe,vs,T,oT,ts,g1,g2,g3,g4,g5,g6,g7,g8⟩:=fly;exact⟨ea,C,utk H' cs,e1,os,bare,un2,hok2,⟨f1,no f2,a0,oe,vs,T,oT,ts,g1,g2,g3,g4,g5,g6,no g7,g8⟩,q⟩
end
end L2
namespace L2
open PySem PySem.Spec PyProof.Rows
def z5I(base:Heap)(mg:yyS):Prop:=∃bm o,mg "__builtins__"=some (.ref bm)/\bm≠builtinsNs/\bm≠mainGlobals/\base.get? bm=some o/\o.cls=.type "module"/\o.dict=some builtinsNs/\o.data=.plain
def zcW(Ts:List Tb)(H H':Hp)(fa:Addr)(clos:List (Str × Addr))(params:Arguments)(body:Expr)(scope:Scope)(qual:Str):Prop :=
 (∀b o,(∀ps,o≠.tbl ps)->H b=some o->H' b=some o)/\z5F Ts H'/\∃(pm:Value) (c':Addr) (ctv:Value) (oc:Obj) (vs:Array Value) (t:Tok),H' fa=some (frO (PySem.W.kla_obj "<lambda>" qual params body scope clos pm c' ctv))/\H' c'=some (frO oc)/\oc.data=.fields vs/\vs[1]?=some (.str qual t)
def zi3(Ts:List Tb)(clos:List (Str × Addr))(params:Arguments)(body:Expr)(scope:Scope)(qual:Str):TE:=fun _ H Q=>z5F Ts H/\∀(fa:Addr)(H':Hp),zcW Ts H H' fa clos params body scope qual->Q (.ref fa) H'
section
variable{X:Cx}{N:List Str}{ix:List (Option Nat)}{params:Arguments}{body:Expr}{lsc:Scope}{lpos:Pos}{c:Addr}{T:Tb}{Ts:List Tb}
def zgJ(S:z1k X.N X.env.scope N ix lsc)(hcode:X.env.code=.ref c)(hC:PySem.W.CodeHd X.base c T.at_)(hB:z5I X.base X.mg)(hT:T∈Ts)(hTn:∀T'∈Ts,T'.at_=T.at_->T'=T)(hTp:T.pos=lpos)(hTq:T.qual=X.env.qual++"<lambda>")(hdef:defaultsOf params X.env=([],[])):PE X (.Lambda params body lsc lpos) (zi3 Ts (z0J X.env.cells lsc.names []) params body lsc T.qual):=by
 intro pins s σ H Q I h;obtain⟨ht,h⟩:=h;subst hTp;refine PySem.W.kla_eval hdef ?_;rw[<-hTq];have hcl:=z2i (scope:=lsc) (env:=X.env) (z0S I S);have hns:s.heap.Ns mainGlobals X.mg:=I.mod.glob.keeps I.bk;have C:PySem.W.CodeHd s.heap c T.at_:=hC.keeps I.bk;obtain⟨bm,ob,b1,b2,b3,b4,b5,b6,b7⟩:=hB;have tP:∀{ps:Array Value},H T.at_=some (.tbl ps)->s.heap.get? T.at_=some (PySem.W.tabObj ps):=fun e=>I.hok _ _ e;have neP:∀{ps:Array Value}{b:Addr},H T.at_=some (.tbl ps)->H b=none->b≠T.at_:=fun e n z=>by rw[z,e]at n;cases n
 rcases ht T hT with e|⟨c',oc,vs,t,e,ec,d1,d2⟩
 .have hbP:bm≠T.at_:=neP e (I.bs _ _ b4).2;have hgP:mainGlobals≠T.at_:=fun z=>by
   obtain⟨o,es,ep,q,qd,_⟩:=hns;rw[z,tP e]at q;cases q;cases qd
  refine PySem.W.kla_makeFunction (mg:=X.mg) hcl I.ok.glob hns hcode C (tP e) trivial rfl hgP ⟨bm,ob,b1,b2,b3,hbP,I.bk _ _ b4,b5,b6,b7⟩ fun c' ctv h' tk hx hge hlt hrec htb=>?_;obtain⟨c2,oc,vs,t,ee,hoc,d1,d2⟩:=hrec;cases ee;have hPlt:T.at_<s.heap.objs.size:=y0k (tP e);have nPc:T.at_≠c':=y0u (y0r hPlt hge);have nPf:T.at_≠h'.objs.size:=y0u (y3I (y0r hPlt hge) hlt);have ncf:c'≠h'.objs.size:=y0u hlt;have Hc:H c'=none:=I.hok.fresh hge;have Hf:H h'.objs.size=none:=I.hok.fresh (y0Q hge (y1p hlt));generalize hfo:PySem.W.kla_obj "<lambda>" T.qual params body lsc (z0J X.env.cells lsc.names []) ((X.mg "__name__").getD .none) c' ctv=fo;have hfg:(h'.push fo).get? h'.objs.size=some fo:=y0e _ (by rw[<-hfo];rfl);let H':Hp:=upd (upd (upd H T.at_ (.tbl #[rawInt T.pos.line,rawInt T.pos.col,.ref c'])) c' (frO oc)) h'.objs.size (frO fo);have gP:H' T.at_=some (.tbl #[rawInt T.pos.line,rawInt T.pos.col,.ref c']):=by show upd _ _ _ _=_;rw[z07 nPf,z07 nPc,z01]
  have gc:H' c'=some (frO oc):=by show upd _ _ _ _=_;rw[z07 ncf,z01]
  have gf:H' h'.objs.size=some (frO fo):=z01;have go:∀{b:Addr},b≠T.at_->b≠c'->b≠h'.objs.size->H' b=H b:=fun{b} n1 n2 n3=>by show upd _ _ _ _=_;rw[z07 n3,z07 n2,z07 n1]
  have gt:∀{b:Addr}{o:HO},b≠T.at_->H b=some o->H' b=some o:=fun{b o} n1 q=>by rw[go n1 (z0e q Hc) (z0e q Hf)];exact q
  have hk:∀b o,b≠T.at_->s.heap.get? b=some o->(h'.push fo).get? b=some o:=fun b o n q=>y05 _ (hx b o n q);have I':Inv X pins σ H' { s with heap:=h'.push fo,toks:=tk }:=by
   refine I.un ⟨fun b o q n _ _=>hk b o (neP e n) q,fun b o q n _ _=>⟨o.slots,hk b o (neP e n) q⟩,fun b o q n _=>?_,fun b o q _=>?_,fun b xs q=>?_,fun b o u q=>?_,fun b ps q=>?_⟩ (fun b u q=>?_)
   .have hb:=y0k q;rw[go (neP e n) (y0u (y0r hb hge)) (y0u (y3I (y0r hb hge) hlt))];exact n
   .by_cases hb:b=T.at_
    .exact⟨_,by rw[hb];exact y05 _ htb⟩
    .exact⟨_,hk b o hb q⟩
   .exact gt (fun z=>by rw[z,e]at q;cases q) q
   .exact gt (fun z=>by rw[z,e]at q;cases q) q
   .by_cases hb:b=T.at_
    .subst hb;rw[e]at q;cases q;exact⟨#[rawInt T.pos.line,rawInt T.pos.col,.ref c'],by rw[gP];simp⟩
    .exact⟨#[],by rw[gt hb q];simp⟩
   .by_cases hf:b=h'.objs.size
    .subst hf;rw[gf]at q;cases q;exact z7Z hfg
    .by_cases hc:b=c'
     .subst hc;rw[gc]at q;cases q;exact z7Z (y05 _ hoc)
     .by_cases hb:b=T.at_
      .subst hb;rw[gP]at q;cases q;show(h'.push fo).get? T.at_=some (PySem.W.tabObj _);have:=y05 fo htb;simpa using this
      .rw[go hb hc hf]at q;refine(I.hok b u q).stay (fun d o hd q'=>hk d o ?_ q') (fun d q'=>gt (fun z=>by rw[z,e]at q';cases q') q') fun d xs q'=>gt (fun z=>by rw[z,e]at q';cases q') q';rcases hd with z|z
       .rw[z];exact hb
       .exact fun z'=>by rw[z',e]at z;cases z
  refine⟨.ref h'.objs.size,H',I',rfl,h _ _ ⟨fun b o no q=>gt (fun z=>by rw[z,e]at q;exact no _ (y08 q).symm) q,fun T' hT'=>?_,_,c',ctv,oc,vs,t,by rw[hfo];exact gf,gc,d1,d2⟩⟩;by_cases hb:T'.at_=T.at_
  .have:=hTn T' hT' hb;subst this;exact .inr ⟨c',oc,vs,t,gP,gc,d1,d2⟩
  .rcases ht T' hT' with q|⟨c3,oc3,vs3,t3,q1,q2,q3⟩
   .exact .inl (gt hb q)
   .exact .inr ⟨c3,oc3,vs3,t3,gt hb q1,gt (fun z=>by rw[z,e]at q2;cases q2) q2,q3⟩
 .have hbP:bm≠T.at_:=neP e (I.bs _ _ b4).2;refine PySem.W.kla_makeFunctionHit (mg:=X.mg) (cv:=.ref c') hcl I.ok.glob hns hcode C (tP e) (by simp[TriplesOk,rawInt]) (by simp[codeAmong,rawInt]) ⟨bm,ob,b1,b2,b3,hbP,I.bk _ _ b4,b5,b6,b7⟩ fun ctv h' tk hk hsz=>?_;have Hf:H h'.objs.size=none:=I.hok.fresh hsz;have gt:∀{b:Addr}{o:HO}{u:HO},H b=some o->upd H h'.objs.size u b=some o:=fun q=>by rw[z07 (z0e q Hf)];exact q
  refine⟨.ref h'.objs.size,_,I.laid (a:=h'.objs.size) (o:=frO (PySem.W.kla_obj "<lambda>" T.qual params body lsc (z0J X.env.cells lsc.names []) ((X.mg "__name__").getD .none) c' ctv)) (t':=tk) (fun b o q=>y05 _ (hk b o q)) hsz (z7Z (y0e _ rfl)),rfl,h _ _ ⟨fun b o _ q=>gt q,fun T' hT'=>?_,_,c',ctv,oc,vs,t,z01,gt ec,d1,d2⟩⟩;rcases ht T' hT' with q|⟨c3,oc3,vs3,t3,q1,q2,q3⟩
  .exact .inl (gt q)
  .exact .inr ⟨c3,oc3,vs3,t3,gt q1,gt q2,q3⟩
def zgt(Ts:List Tb)(params:Arguments)(body:Expr)(lsc:Scope)(qual:Str)(N:List Str)(ix:List (Option Nat))(sp:Sp)(E:XK)(t0:TE):TE:=fun σ H Q=>t0 σ H fun v0 H1=>z5F Ts H1/\∀(fa:Addr)(H2:Hp)(cs:List Addr),(∀b o,(∀ps,o≠.tbl ps)->H1 b=some o->H2 b=some o) ->
 (∀H3,z0c H2 H3->z0Q Ts H1 (utk H3 cs))->(∀c∈cs,∃ob,H2 c=some (frO ob))->z8J H2 fa params body lsc qual N (z1t ix σ)->sp [v0,.ref fa] H2 (fun v H3=>Q v (utk H3 cs)) (fun e C H3=>E e C (utk H3 cs))
variable{k:Nat}{g:Addr}{gd:FuncData}{ps:List Str}{sp:Sp}{E:XK}{x:Str}{p pos:Pos}{e0:Expr}{t0:TE}
def z9d(G:z0u X.prog X.w X.K X.mg X.base (CXx X.prog X.w) k g gd ps sp)(hr:z3s k X.A)(hg:Gl X x)(hm:X.mg x=some (.ref g))(hk:PySem.W.keepIn X.K (.ref g)=true)(hb:z0j X.K gd ps [])(hx:z7I (CXx X.prog X.w) X E)(h0:PE X e0 t0)(m0:∀σ H (Q Q':VK),(∀v H1,Q v H1->Q' v H1)->t0 σ H Q->t0 σ H Q')(S:z1k X.N X.env.scope N ix lsc)(hcode:X.env.code=.ref c)(hC:PySem.W.CodeHd X.base c T.at_)(hB:z5I X.base X.mg)(hfn:∀y,X.fn y=true)(hT:T∈Ts)(hTn:∀T'∈Ts,T'.at_=T.at_->T'=T)(hTp:T.pos=lpos)(hTq:T.qual=X.env.qual++"<lambda>")(hdef:defaultsOf params X.env=([],[]):=by rfl)(hdb:(x==("__debug__":Str))=false:=by decide)(he:starEach [e0,.Lambda params body lsc lpos] X.env=(false,eval e0 X.env)::starEach [.Lambda params body lsc lpos] X.env:=by rfl)(he2:starEach [.Lambda params body lsc lpos] X.env=(false,eval (.Lambda params body lsc lpos) X.env)::starEach [] X.env:=by rfl)(hpl:(backTo pos (starEach [.Lambda params body lsc lpos] X.env)).any (·.1)=false:=by rfl) : PE X (.Call (.Name x p) [e0,.Lambda params body lsc lpos] [] pos) (zgt Ts params body lsc T.qual N ix sp E t0):=by
 intro pins s σ H Q I h;refine y2o (z4i I hg hm ?_ hdb);have hPA:PA X [e0,.Lambda params body lsc lpos] (zfF t0 (zfF (zi3 Ts (z0J X.env.cells lsc.names []) params body lsc T.qual) zi8)):=z00 h0 (z00 (zgJ S hcode hC hB hT hTn hTp hTq hdef) z03 he2) he;refine PySem.W.callWith_K (h₀:=X.base) I.ok.mod.kin hk (thn (hPA pos pins s σ H (fun us H2=>∃(v0:V)(fa:Addr)(H1:Hp),us=[v0,.ref fa]/\(z5F Ts H1/\∀(fa:Addr)(H2:Hp)(cs:List Addr),(∀b o,(∀ps,o≠.tbl ps)->H1 b=some o->H2 b=some o) ->
 (∀H3,z0c H2 H3->z0Q Ts H1 (utk H3 cs))->(∀c∈cs,∃ob,H2 c=some (frO ob))->z8J H2 fa params body lsc T.qual N (z1t ix σ)->sp [v0,.ref fa] H2 (fun v H3=>Q v (utk H3 cs)) (fun e C H3=>E e C (utk H3 cs)))/\zcW Ts H1 H2 fa (z0J X.env.cells lsc.names []) params body lsc T.qual) I ?_) fun us s2 ⟨vs,H2,I2,r,q⟩=>⟨I2.kIn,?_⟩) he hpl
 .exact m0 σ H _ _ (fun v0 H1 ⟨ht,hq⟩=>⟨ht,fun fa H' made=>⟨v0,fa,H1,rfl,⟨ht,hq⟩,made⟩⟩) h
 .obtain⟨v0,fa,H1,rfl,⟨ht,hq⟩,mfr,mtb,pm,c',ctv,oc,vsc,t,m1,m2,m3,m4⟩:=q;let clos:=z0J X.env.cells lsc.names [];let cs:List Addr:=(lsc.names.map (·.1)).filterMap (fun y=>List.lookup y clos);let ob:Addr->Obj:=fun c=>(s2.heap.get? c).getD { cls:=.none,data:=.plain };have lk:∀{y:Str}{c:Addr},clos.lookup y=some c->X.env.cells.lookup y=some c:=fun e=>z1W I2 S e;have mem:∀{c:Addr},c∈cs->∃y,clos.lookup y=some c:=fun{c} hc=>by
   obtain⟨y,_,e⟩:=y3m.mp hc;exact⟨y,e⟩
  have inn:∀y c,clos.lookup y=some c->c∈cs:=fun y c e=>by
   refine y3m.mpr ⟨y,?_,e⟩;by_cases hm':(y,NameKind.free)∈lsc.names
   .exact y0a.mpr ⟨_,hm',rfl⟩
   .have:=z4g (cells:=X.env.cells) lsc.names [] y hm';rw[show(z0J X.env.cells lsc.names []).lookup y=some c from e]at this;cases this
  have h1:∀c∈cs,s2.heap.get? c=some (ob c):=fun c hc=>by obtain⟨y,e⟩:=mem hc;obtain⟨v,o,ho,_⟩:=I2.cell y c (lk e);show _=some ((s2.heap.get? c).getD _);rw[ho];rfl
  have h2:∀c∈cs,H2 c=none:=fun c hc=>by obtain⟨y,e⟩:=mem hc;exact I2.freeC y c (lk e)
  have h3:∀c∈cs,c∉frs X.stack/\X.base.get? c=none:=fun c hc=>by obtain⟨y,e⟩:=mem hc;exact I2.cellFree (lk e) (I2.ok.cab y c (hfn y) (lk e))
  have out:∀{b:Addr}{o:HO},H2 b=some o->b∉cs:=fun{b o} e z=>by rw[h2 b z]at e;cases e
  have tr:∀{b:Addr}{o:HO},H2 b=some o->zdv H2 cs ob b=some o:=fun e=>by rw[z1q (out e)];exact e
  have spq:=hq fa (zdv H2 cs ob) cs (fun b o no e=>tr (mfr b o no e)) (fun H3 s3=>?_) (fun c hc=>⟨ob c,z56 hc⟩) ?_
  .refine wpAny_call (y2F (G.run X.A X.stack s2 (zdv H2 cs ob) ⟨us,[]⟩ us [v0,.ref fa] _ _ hr (I2.env0T h1 h2 h3) (by have:=hb s2 us I2.kIn (by rw[y1t,<-r.length];exact G.len _ _ _ _ spq);rw[y1t]at this;exact this) r spq) fun r s' hq=>?_);cases r with
   |error e=>exact hx pins σ H2 s2 e s' I2 (ziM h1 h2 (fun c hc=>(h3 c hc).1) hq)
   |ok fl =>
    cases fl with
    |ret u=>exact I2.afterT h1 h2 h3 hq
    |next=>exact False.elim hq
    |brk=>exact False.elim hq
    |cont=>exact False.elim hq
  .have out3:∀{b:Addr}{o:HO},H2 b=some o->utk H3 cs b=some o:=fun e=>by rw[z1l (out e)];exact s3 _ _ (tr e)
   refine⟨fun b o no e=>out3 (mfr b o no e),fun _ T' hT'=>?_⟩;rcases mtb T' hT' with q|⟨c3,oc3,vs3,t3,q1,q2,q3⟩
   .exact .inl (out3 q)
   .exact .inr ⟨c3,oc3,vs3,t3,out3 q1,out3 q2,q3⟩
  .refine⟨clos,cs,pm,c',ctv,oc,vsc,t,tr m1,tr m2,m3,m4,fun y z c e1 e2=>I2.ok.inj y z c (lk e1) (lk e2),inn,fun c hc=>⟨mem hc,?_⟩,fun y hy=>?_,fun i y v e1 e2=>?_⟩
   .obtain⟨y,e⟩:=mem hc;obtain⟨v,o,ho,hd⟩:=I2.cell y c (lk e);refine⟨ob c,v,z56 hc,?_⟩;have:=h1 c hc;rw[ho]at this;rw[<-y08 this];exact hd
   .have hm':(y,NameKind.free)∈lsc.names:=y1f hy;obtain⟨c,e⟩:=z0S I2 S y hm';exact⟨c,(z20 lsc.names [] y (z0S I2 S) (.inl hm')).trans e⟩
   .obtain⟨j,f1,f2,f3⟩:=S.at_ e1 e2;have hm':(y,NameKind.free)∈lsc.names:=y1f f2;obtain⟨m,hn,hl⟩:=I2.loc;have hvis:=S.frees _ hm' rfl;obtain⟨u,ru,look⟩:=hl j y v f1 f3 (.inr hvis);rcases look with⟨hk',_⟩|⟨_,c,ec,cell⟩
    .have hk'':X.env.scope.names.lookup y=some .local:=hk';rcases hvis with z|z
     .rw[z]at hk'';cases hk''
     .rw[z]at hk'';cases hk''
    .have hcl:clos.lookup y=some c:=(z20 lsc.names [] y (z0S I2 S) (.inl hm')).trans ec;have hc:=inn y c hcl;obtain⟨o,ho,hd⟩:=cell;refine⟨c,ob c,u,hcl,z56 hc,?_,ru⟩;have:=h1 c hc;rw[ho]at this;rw[<-y08 this];exact hd
end
def NFr(H H':Hp):Prop:=∀b o,(∀ob,o≠frO ob)->H b=some o->H' b=some o
def NFr.seq{K:yyF}{H H':Hp}{a:Addr}{xs:List V}(s:NFr H H')(h:SqL K H a xs):SqL K H' a xs:=by
 rcases h with(h|⟨o,h⟩)|h
 .exact .inl (.inl (s _ _ (fun _ z=>by cases z) h))
 .exact .inl (.inr ⟨o,s _ _ (fun _ z=>by cases z) h⟩)
 .exact .inr h
mutual
theorem Dr.nfr{K:yyF}{H H':Hp}(s:NFr H H'):∀{d:D}{v:V},Dr K H d v->Dr K H' d v
 |.non,_,h=>by simp only[Dr]at h⊢;exact h
 |.bl _,_,h=>by simp only[Dr]at h⊢;exact h
 |.int _,_,h=>by simp only[Dr]at h⊢;exact h
 |.str _,_,h=>by simp only[Dr]at h⊢;exact h
 |.tup ds,_,h=>by
  simp only[Dr]at h⊢;obtain⟨a,vs,e,q,r⟩:=h;exact⟨a,vs,e,s _ _ (fun _ z=>by cases z) q,DrL.nfr s r⟩
 |.lst ds,_,h=>by simp only[Dr]at h⊢;obtain⟨a,vs,e,q,r⟩:=h;exact⟨a,vs,e,s.seq q,DrL.nfr s r⟩
theorem DrL.nfr{K:yyF}{H H':Hp}(s:NFr H H'):∀{ds:List D}{vs:List V},DrL K H ds vs->DrL K H' ds vs
 |[],_,h=>by simp only[DrL]at h⊢;exact h
 |d::ds,_,h=>by simp only[DrL]at h⊢;obtain⟨v,r,e,q,q'⟩:=h;exact⟨v,r,e,Dr.nfr s q,DrL.nfr s q'⟩
end
theorem NFr.utk{H H3:Hp}{cs:List Addr}(hc:∀c∈cs,∃ob,H c=some (frO ob))(s:z0c H H3):NFr H3 (L2.utk H3 cs):=fun b o n e=>z8E (fun c h=>let⟨ob,q⟩:=hc c h;⟨ob,s _ _ q⟩) e n
def Fun.okL{CX:CXT}{P:Program}{w:World}{K:yyF}{mg:yyS}{base:Heap}{x qual:Str}{st:Stmt}{f c:Addr}{fd:FuncData}{N ps:List Str}{k:Nat}{sp:Sp}(F:Fun K x qual st f fd)(hc:fd.code=.ref c)(S:z0n N ps (z04 st))(len:∀vs H Q E,sp vs H Q E->vs.length=ps.length)(hbody:∀(A:Around)(outer:List Env)(s:Shared)(H:Hp)(vs:List V)(Q:VK)(E:XK),z3s k (A.deeper (envOfC qual (z04 st) s.heap.objs.size f (.ref c)))->sp vs H Q E -> ∃t,PSs (z7h CX P w K mg base N qual (z04 st) f (.ref c) A outer s H E) (z0Y st) t/\t { nx:=fun _ H'=>Q .non H',rt:=Q } (z5L N vs) H):z0u P w K mg base CX (k+1) f fd ps sp:=by obtain⟨oc,od,kV,doc,pm,an,cdv,ct,osl,rfl,lk,hcd⟩:=F.ex;have:cdv=.ref c:=hc;subst this;exact zeT lk hcd S len fun A outer s H vs Q E hr hsp=>hbody A outer s H vs Q E hr hsp
def zcd{P:Program}{w:World}{K:yyF}{mg mb:yyS}{CX:CXT}{k:Nat}{fa a:Addr}{fd:FuncData}{x:Str}{sp:Sp}{s₁:Shared}{vs:List Value}{ns:List Int}{Ts:List Tb}(KX:K.In s₁.heap)(hns:s₁.heap.Ns mainGlobals mg)(hb:s₁.heap.Ns builtinsNs mb)(hbb:∀x:Str,x≠"__name__"->mb x=bootBuiltins x)(hlim:s₁.heap.NoLimit)(hg:s₁.gens=#[])(ha:s₁.heap.get? a=some { cls:=.type "list",data:=.seq vs.toArray })(hi:IntsAre vs ns)(hl:ns.length<=sizeLine)(hr:z3s k callerA)(hT:∀T∈Ts,s₁.heap.get? T.at_=some (PySem.W.tabObj #[])/\K.lookup T.at_=none/\∃c,PySem.W.CodeHd s₁.heap c T.at_)(hbm:z5I s₁.heap mg)(F:∀base:Heap,K.In base->base.Ns mainGlobals mg->z5I base mg->z0u P w K mg base CX k fa fd [x] sp)(hbind:∀(s:Shared) (u:Value),BindsTo s fd ⟨[u],[]⟩ [(x,u)])(hsp:∀H:Hp,z5F Ts H->SqL K H a (ns.map V.int)->sp [.ref a] H (fun v _=>v=.bl true) fun _ _ _=>False)(hCX:∀H e s',CX [] H s₁ (fun _ _ _=>False) e s'->False) : codeAny (model P w) callerA (.call (.ref fa) ⟨[.ref a],[]⟩) (fun r s'=>r=.ok (.ret (.bool true))/\OldK s₁.heap s'.heap/\s'.os=s₁.os/\AllBare s'.gens) s₁:=by
 have rv:=z7r hi;have lenV:=hi.length;have isT:∀b,(∃T∈Ts,T.at_=b)->s₁.heap.get? b=some (PySem.W.tabObj #[])/\K.lookup b=none/\∃c,PySem.W.CodeHd s₁.heap c b:=fun b ⟨T,hT1,e⟩=>e▸hT T hT1;have core:∀H:Hp,z5F Ts H->SqL K H a (ns.map V.int)->HOk P w H s₁.heap->(∀b,H b≠none->(b=a/\K.lookup a=none/\∃o xs,H b=some (.frz o (.lst xs)))\/((∃T∈Ts,T.at_=b)/\H b=some (.tbl #[]))) ->
   codeAny (model P w) callerA (.call (.ref fa) ⟨[.ref a],[]⟩) (fun r s'=>r=.ok (.ret (.bool true))/\OldK s₁.heap s'.heap/\s'.os=s₁.os/\AllBare s'.gens) s₁:=by
  intro H hO hS hok hA;have base_of:∀{b:Addr}{o:Obj},s₁.heap.get? b=some o->H b=none->(zd9 s₁.heap H).get? b=some o:=fun e n=>zdD e n;have noA:∀{b:Addr}{o:Obj},s₁.heap.get? b=some o->(∀xs,o.data≠.seq xs)->(∀xs,o.data≠.fields xs)->H b=none:=fun{b o} e d1 d2=>by
   cases q:H b with
   |none=>rfl
   |some u =>
    rcases hA b (by rw[q];simp)with⟨e',_⟩|⟨e',_⟩
    .subst e';rw[ha]at e;cases e;exact absurd rfl (d1 _)
    .rw[(isT b e').1]at e;cases e;exact absurd rfl (d2 _)
  have nsK:∀{b:Addr}{m:yyS},s₁.heap.Ns b m->(zd9 s₁.heap H).Ns b m:=fun{b m} ⟨o,es,ep,e,d,r⟩=>⟨o,es,ep,base_of e (noA e (fun xs z=>by rw[z]at d;cases d) (fun xs z=>by rw[z]at d;cases d)),d,r⟩;have hKb:K.In (zd9 s₁.heap H):=fun b o e=>base_of (KX b o e) (by
   cases q:H b with
   |none=>rfl
   |some u =>
    rcases hA b (by rw[q];simp)with⟨e',hk,_⟩|⟨e',_⟩
    .subst e';rw[hk]at e;cases e
    .rw[(isT b e').2.1]at e;cases e)
  have hM:Mod K mg (zd9 s₁.heap H):=⟨hKb,nsK hns,⟨mb,nsK hb,hbb⟩,let⟨mc,h1,h2⟩:=hlim;⟨mc,nsK h1,h2⟩⟩;have hBM:z5I (zd9 s₁.heap H) mg:=by obtain⟨bm,o,b1,b2,b3,b4,b5,b6,b7⟩:=hbm;exact⟨bm,o,b1,b2,b3,base_of b4 (noA b4 (fun xs z=>by rw[z]at b7;cases b7) (fun xs z=>by rw[z]at b7;cases b7)),b5,b6,b7⟩
  have e0:zfD P w K mg (zd9 s₁.heap H) callerA [] s₁ H:=⟨rfl,hM,fun b o e=>zfy e,Nat.le_of_eq (zb6 _ _),trivial,fun b hb=>absurd (show b∈([]:List Addr)from hb) (by simp),hok,.of_eq hg⟩;refine y2F ((F _ hKb (nsK hns) hBM).run callerA [] s₁ H ⟨[.ref a],[]⟩ [.ref a] [.ref a] _ _ hr e0 (hbind s₁ (.ref a)) (.cons rfl .nil) (hsp H hO hS)) fun r s' h=>?_;cases r with
  |error e=>exact(hCX H e s' h).elim
  |ok fl =>
   cases fl with
   |next=>exact False.elim h
   |brk=>exact False.elim h
   |cont=>exact False.elim h
   |ret u =>
    obtain⟨v,H',os,bare,un,hok',r',q⟩:=h;have q':v=.bl true:=q;subst q';obtain rfl:u=Value.bool true:=r';have key:∀b o,s₁.heap.get? b=some o->s'.heap.get? b=some o\/((∃T∈Ts,T.at_=b)/\∃more,s'.heap.get? b=some (PySem.W.tabObj (#[]++more))):=fun b o e=>by
     cases q:H b with
     |none=>exact .inl (un.keep b o e q (by intro z;exact absurd (show b∈([]:List Addr)from z) (by simp)) (by simp))
     |some u =>
      rcases hA b (by rw[q];simp)with⟨_,_,ob,xs,z⟩|⟨e',z⟩
      .have z2:=un.frzs b ob _ z;obtain⟨e1,_⟩:=hok b _ z;obtain⟨e2,_⟩:=hok' b _ z2;rw[e]at e1;cases e1;exact .inl e2
      .obtain⟨more,z2⟩:=un.tbls b #[] z;exact .inr ⟨e',more,hok' b _ z2⟩
    refine⟨rfl,⟨fun b o e=>?_,fun b o e=>?_⟩,os,bare⟩
    .rcases key b o e with z|⟨e',more,z⟩
     .exact .inl z
     .obtain⟨h1,_,c,hc⟩:=isT b e';rw[e]at h1;cases h1;refine .inr (.inl ⟨?_,rfl,#[],more,rfl,z⟩);obtain⟨o,vs,_,_,_,_,_,_,_,g1,g2,g3,g4,_⟩:=hc;exact⟨c,o,vs,g1,g2,g3,g4⟩
    .rcases key b o e with z|⟨e',more,z⟩
     .exact⟨_,z⟩
     .exact⟨_,z⟩
 have naT:∀T∈Ts,T.at_≠a:=fun T h z=>by have:=(hT T h).1;rw[z,ha]at this;cases this
 open Classical in
 cases hk:K.lookup a with
 |some o =>
  have e:=KX a o hk;rw[ha]at e;cases e;refine core (fun b=>if(∃T∈Ts,T.at_=b)then some (.tbl #[])else none) (fun T h=>.inl (if_pos ⟨T,h,rfl⟩)) (.inr ⟨_,vs.toArray,_,hk,rfl,rfl,rfl,by rw[y0C,lenV];exact hl,by simpa using rv⟩) (fun b u z=>?_) fun b z=>?_
  .by_cases hb:∃T∈Ts,T.at_=b
   .have z':=(if_pos hb).symm.trans z;cases z';exact(isT b hb).1
   .have z':=(if_neg hb).symm.trans z;cases z'
  .by_cases hb:∃T∈Ts,T.at_=b
   .exact .inr ⟨hb,if_pos hb⟩
   .exact absurd (if_neg hb) z
 |none =>
  have cA:∀b,b=a->(if b=a then some (HO.frz { cls:=.type "list",data:=.seq vs.toArray } (.lst (ns.map V.int)))else if(∃T∈Ts,T.at_=b)then some (.tbl #[])else none)=some (HO.frz { cls:=.type "list",data:=.seq vs.toArray } (.lst (ns.map V.int))):=fun b e=>if_pos e;have cT:∀b,b≠a->(∃T∈Ts,T.at_=b)->(if b=a then some (HO.frz { cls:=.type "list",data:=.seq vs.toArray } (.lst (ns.map V.int)))else if(∃T∈Ts,T.at_=b)then some (.tbl #[])else none)=some (.tbl #[]):=fun b e h=>by rw[if_neg e,if_pos h]
  have cN:∀b,b≠a->¬(∃T∈Ts,T.at_=b)->(if b=a then some (HO.frz { cls:=.type "list",data:=.seq vs.toArray } (.lst (ns.map V.int)))else if(∃T∈Ts,T.at_=b)then some (.tbl #[])else none)=none:=fun b e h=>by rw[if_neg e,if_neg h]
  refine core (fun b=>if b=a then some (.frz { cls:=.type "list",data:=.seq vs.toArray } (.lst (ns.map V.int)))else if(∃T∈Ts,T.at_=b)then some (.tbl #[])else none) (fun T h=>.inl (cT _ (naT T h) ⟨T,h,rfl⟩)) (.inl (.inr ⟨{ cls:=.type "list",data:=.seq vs.toArray },if_pos rfl⟩)) (fun b u z=>?_) (fun b z=>?_)
  .by_cases hb:b=a
   .have z':=(cA b hb).symm.trans z;cases z';subst hb;exact⟨ha,by rw[y01];exact hl,vs,_,rv,ha⟩
   .by_cases hb2:∃T∈Ts,T.at_=b
    .have z':=(cT b hb hb2).symm.trans z;cases z';exact(isT b hb2).1
    .have z':=(cN b hb hb2).symm.trans z;cases z'
  .by_cases hb:b=a
   .exact .inl ⟨hb,hk,_,_,cA b hb⟩
   .by_cases hb2:∃T∈Ts,T.at_=b
    .exact .inr ⟨hb2,cT b hb hb2⟩
    .exact absurd (cN b hb hb2) z
def walk_of2{l:PySem.W.OpenLaw}{n k:Nat}{q:Program}{loose:List Str}{XP:(yyS)->Heap->Prop}{YP:World->Heap->Prop}{d:DefRec}{K:Params->yyF}{CX:World->CXT}{sp:World->Sp}{x:Str}{Ts:List Tb}(hn:l.most=some n)(hn2:n<=sizeLine)(hdf:d.params.defaults=[])(hr:z3s k callerA)(hY:∀(w:World)(h:Heap),YP w h->(K w.params).In h/\∀P∈Ts.map (·.at_),h.get? P=some (PySem.W.tabObj #[]))(F:∀(w:World)(mg:yyS)(fa:Addr)(h:Heap),(K w.params).In h->h.Ns mainGlobals mg->mg d.name=some (.ref fa) -> ∃fd:FuncData,(∀(s:Shared)(u:Value),BindsTo s fd ⟨[u],[]⟩ [(x,u)])/\(∀T∈Ts,(K w.params).lookup T.at_=none/\∃c,PySem.W.codeHdIn (K w.params) c T.at_=true) /\ ∀base:Heap,(K w.params).In base->base.Ns mainGlobals mg->z5I base mg->z0u l.prog w (K w.params) mg base (CX w) k fa fd [x] (sp w))(hsp:∀(w:World)(H:Hp)(a:Addr)(ns:List Int),ns.length<=n->z5F Ts H->SqL (K w.params) H a (ns.map V.int)->sp w [.ref a] H (fun v _=>v=.bl true) fun _ _ _=>False)(hCX:∀(w:World)(H:Hp)(s:Shared)(e:Value)(s':Shared),CX w [] H s (fun _ _ _=>False) e s'->False) : PySem.W.WalkO q loose XP YP l.row.toRowW d [] (fun f vs=>PySem.call f vs):=by
 refine Att.attach_call hn hdf fun w s₀ s₁ mg mb fa o pm cd doc a vs ns G Y ho hd hcd hmg hobj hints hlen hg=>?_;obtain⟨KX,hTb⟩:=hY w _ Y;obtain⟨fd,hb,hT,hF⟩:=F w mg fa _ KX G.T.g hmg;refine zcd (Ts:=Ts) KX G.T.g G.T.b G.T.builtins G.T.nolimit hg hobj hints (y0Q hlen hn2) hr (fun T h=>⟨hTb _ (y0a.mpr ⟨T,h,rfl⟩),(hT T h).1,?_⟩) ?_ hF hb (fun H hO hS=>hsp w H a ns hlen hO hS) fun H e s'=>hCX w H s₁ e s'
 .obtain⟨c,e⟩:=(hT T h).2;exact⟨c,PySem.W.codeHd_of_K KX e⟩
 .obtain⟨bm,ob,b1,b2,b3,b4,b5,b6⟩:=G.T.bmain;refine⟨bm,ob,b1,b2,fun z=>?_,b3,b4,b5,b6⟩;obtain⟨o,es,ep,e,d,_⟩:=G.T.g;rw[z]at b3;rw[b3]at e;cases e;rw[b6]at d;cases d
def zcI{Ts:List Tb}{T:Tb}(h:(Ts.map (·.at_)).Nodup)(hT:T∈Ts):∀T'∈Ts,T'.at_=T.at_->T'=T:=by
 induction Ts with
 |nil=>cases hT
 |cons a r ih =>
  rw[y0m,y1e]at h;intro T' hT' e;rcases y0j.mp hT with z|z
  .rcases y0j.mp hT' with y|y
   .rw[y,z]
   .exact absurd (y0a.mpr ⟨T',y,by rw[e,z]⟩) h.1
  .rcases y0j.mp hT' with y|y
   .exact absurd (y0a.mpr ⟨T,z,by rw[<-e,y]⟩) h.1
   .exact ih h.2 z T' y e
end L2
namespace Gu
open PySem L2
abbrev nV(nm:Int->Int)(i:Int):V:=.int (nm i)
abbrev kN(nm:Int->Int)(i:Int):Key:=Sum.inl (nm i)
def zcu{nm:Int->Int}(h:∀x y,nm x=nm y->x=y)(x y:Int)(e:kN nm x=kN nm y):x=y:=h x y (y41 e)
def zdM(nm:Int->Int)(r:Row):Row:=(r.1,r.2.map nm)
def zcb(r:Row):zdM (fun i=>i) r=r:=by unfold zdM;rw[List.map_id']
def zdG(K:yyF)(rows:List Row)(nm:Int->Int):List V->Hp->VK->Prop:=fun vs H Q=>∃i:Int,vs=[.int (nm i)]/\0<=i/\i<(rows.length:Int)/\z3E K H Q (z8o (zdM nm (row rows i)))
section
variable(P:Program)(w:World)(K:yyF)(mg:yyS)(base:Heap)(CX:CXT)(k:Nat)
def z8Z:Sp:=fun vs H Q _=>∃(f:Addr)(n:Nat)(rows:List Row)(nm:Int->Int),vs=[.int (nm 0),.ref f]/\(∀x y,nm x=nm y->x=y)/\z3A P w K mg base CX k H f (zdG K rows nm)/\z0h n rows/\n<=60/\∀(r:Addr)(H':Hp),z0c H H'->z3D K H' r (z0E rows)->Q (.ref r) H'
def z74(Ct:Addr):Sp:=fun vs H Q E=>∃(f:Addr)(n:Nat)(rows:List Row)(nm:Int->Int),vs=[.int (nm 0),.ref f]/\(∀x y,nm x=nm y->x=y)/\z3A P w K mg base CX k H f (zdG K rows nm)/\z0h n rows/\n<=60 /\
 ((shr rows).length<=60->z3E K H Q (D.tup (z0B (shr rows))))/\(60<(shr rows).length->TMx Ct E H)
end
def zeI(Ts:List Tb)(K:yyF)(H:Hp)(Q:VK)(d:D):Prop:=∀v H',z0Q Ts H H'->Dr K H' d v->Q v H'
def zit(Ts:List Tb)(Ct:Addr)(E:XK)(H:Hp):Prop:=∀(ea:Addr)(H':Hp),z0Q Ts H H'->E (.ref ea) (some Ct) H'
def z9v(Ts:List Tb)(K:yyF):Sp:=fun vs H Q _=>∃(a:Addr)(ns:List Int),vs=[.ref a]/\SqL K H a (ns.map V.int)/\ns.length<=63/\z5F Ts H/\∀H',Q (.bl true) H'
def z5F.mono{Ts:List Tb}{H H':Hp}(h:z5F Ts H)(s:z0c H H'):z5F Ts H':=(z0c.l s).tabs h
def z7n:List Stmt->Pos
 |[.Return (some (.Call _ [_,.Lambda _ _ _ p] _ _)) _]=>p
 |_::r=>z7n r
 |[]=>⟨0,0,0,0⟩
end Gu
namespace L2
open PySem PySem.Spec PyProof.Rows
def z3A.lam{CX:CXT}{P:Program}{w:World}{K:yyF}{mg:yyS}{base:Heap}{k:Nat}{H:Hp}{f:Addr}{params:Arguments}{body:Expr}{scope:Scope}{qual:Str}{N ps:List Str}{fv:St}{sp:List V->Hp->VK->Prop}(C:z8J H f params body scope qual N fv)(S:zh9 N ps scope)(hbind:∀(cl:List (Str × Addr)) (pm cdv ct:Value) (us:List Value),us.length=ps.length->bindArgs (PySem.W.kla_fn "<lambda>" qual params body scope cl pm cdv ct) ⟨us,[]⟩=pure (ps.zip us))(hfv:fv.length=N.length)(len:∀vs H Q,sp vs H Q->vs.length=ps.length)(hbody:∀(H':Hp),z0c H H'->∀(A:Around) (outer:List Env) (s:Shared) (cd:Value) (clos:List (Str × Addr)) (cs:List Addr) (vs:List V) (Q:VK),z3s k (A.deeper (PySem.W.envX qual scope s.heap.objs.size f cd clos))->NFr H' (utk H' cs)->sp vs H' Q -> ∃t,PE (zdl P w K mg base N qual scope f cd clos A outer s (utk H' cs)) body t/\t (z8X vs fv) (utk H' cs) fun v H1=>(∀c∈cs,H1 c=none)->Q v (rtk H' H1 cs)):z3A P w K mg base CX (k+1) H f sp:=by obtain⟨clos,cs,pm,c',ctv,oc,vs',t,e1,_⟩:=id C;refine⟨⟨_,_,e1,rfl⟩,fun H' s' A outer s us vs Q hr e0 r hsp=>?_⟩;exact zfr (C.mono s') S hbind hfv hr e0 r (len _ _ _ hsp) fun cd clos cs hr' hcs=>hbody H' s' A outer s cd clos cs vs Q hr' (NFr.utk hcs (z0c.refl _)) hsp
def z5F.over{Ts:List Tb}{H:Hp}{a:Addr}{xs:List V}{o:HO}(h:z5F Ts H)(e:H a=some (.lst xs)):z5F Ts (upd H a o):=fun T hT=>by
 have ne:∀{b:Addr}{u:HO},H b=some u->(∀xs,u≠.lst xs)->upd H a o b=some u:=fun{b u} q n=>by
  have:b≠a:=fun z=>by rw[z,e]at q;exact n xs (y08 q).symm
  rw[z07 this];exact q
 rcases h T hT with q|⟨c',oc,vs,t,q1,q2,q3⟩
 .exact .inl (ne q (fun _ z=>by cases z))
 .exact .inr ⟨c',oc,vs,t,ne q1 (fun _ z=>by cases z),ne q2 (fun _ z=>by cases z),q3⟩
def SqS(K:yyF)(H:Hp)(a:Addr)(xs:List V):Prop:=SqL K H a xs\/SqT K H a xs
def SqS.mono{K:yyF}{H H':Hp}{a:Addr}{xs:List V}(h:SqS K H a xs)(s:z0c H H'):SqS K H' a xs:=by
 rcases h with h|h
 .exact .inl (s.seq h)
 .refine .inr ?_;rcases h with(h|⟨o,h⟩)|h
  .exact .inl (.inl (s _ _ h))
  .exact .inl (.inr ⟨o,s _ _ h⟩)
  .exact .inr h
def ziL(K:yyF):R2:=fun x y H Q=>∃p xs i v,x=.ref p/\y=.int i/\SqS K H p xs/\atI xs i=some v/\Q v H
def ixQ{X:Cx}(K:yyF)(h:X.K=K):IxR X (ziL K):=by
 subst h;intro value slice pins s σ H x y v u Q I rx ry q hs;obtain⟨p,xs,i,z,e1,e2,hq,e3,q⟩:=q;rcases hq with hq|hq
 .exact z1s value slice pins s σ H x y v u Q I rx ry ⟨p,xs,i,z,e1,e2,hq,e3,q⟩ hs
 .exact z27 value slice pins s σ H x y v u Q I rx ry ⟨p,xs,i,z,e1,e2,hq,e3,q⟩ hs
end L2
namespace Gu
open PySem L2
def z8b(K:yyF)(H:Hp)(us:List V)(rows:List Row)(nm:Int->Int):Prop:=∀i:Int,0<=i->i<(rows.length:Int)->0<=nm i/\∃v,us[(nm i).toNat]?=some v/\Dr K H (z8o (zdM nm (row rows i))) v
theorem z8b.mono{K:yyF}{H H':Hp}{us:List V}{rows:List Row}{nm:Int->Int}(h:z8b K H us rows nm)(s:z0c H H'):z8b K H' us rows nm:=fun i h0 h1=>by obtain⟨a,v,e,d⟩:=h i h0 h1;exact⟨a,v,e,d.mono s⟩
def z8b.of{K:yyF}{H:Hp}{us:List V}{rows:List Row}(h:DrL K H (z0B rows) us):z8b K H us rows (fun i=>i):=fun i h0 h1=>by obtain⟨v,ev,dv⟩:=z2M h (z40 h0 h1);exact⟨h0,v,ev,by rw[zcb];exact dv⟩
section
variable{K:yyF}{H H':Hp}{f:Int->D}{r:Int}{nm:Int->Int}
def MkN(nm:Int->Int)(K:yyF)(H:Hp)(o:List Int)(f:Int->D)(kvs:List (Key × V)):Prop:=∃vs,kvs=mk (o.map nm) vs/\DrL K H (o.map f) vs
theorem MkN.nil:MkN nm K H [] f []:=⟨[],rfl,DrL.nil⟩
theorem MkN.get(ni:∀x y,nm x=nm y->x=y):∀{o:List Int}{kvs:List (Key × V)},MkN nm K H o f kvs->r∈o->∃v,z3d kvs (kN nm r)=some v/\Dr K H (f r) v
 |[],_,_,h=>by simp at h
 |b::o,_,⟨vs,rfl,d⟩,h=>by
  rw[y0m]at d;simp only[DrL]at d;obtain⟨v,r',rfl,d1,d2⟩:=d;by_cases e:b=r
  .subst e;exact⟨v,z37 (p:=(kN nm b,v)) rfl,d1⟩
  .obtain⟨v',h1,h2⟩:=MkN.get ni (o:=o) ⟨r',rfl,d2⟩ (by rcases y0j.mp h with z|z;exact absurd z.symm e;exact z);refine⟨v',?_,h2⟩;show z3d ((kN nm b,v)::mk (o.map nm) r') (kN nm r)=_;rw[z2w (p:=(kN nm b,v)) (fun z=>e (ni _ _ (y41 z)))];exact h1
theorem MkN.no(ni:∀x y,nm x=nm y->x=y):∀{o:List Int}{kvs:List (Key × V)},MkN nm K H o f kvs->r∉o->z3d kvs (kN nm r)=none
 |[],_,⟨vs,rfl,d⟩,_=>rfl
 |b::o,_,⟨vs,rfl,d⟩,h=>by rw[y0m]at d;simp only[DrL]at d;obtain⟨v,r',rfl,d1,d2⟩:=d;show z3d ((kN nm b,v)::mk (o.map nm) r') (kN nm r)=_;rw[z2w (p:=(kN nm b,v)) (fun z=>h (by rw[ni _ _ (y41 z)];simp))];exact MkN.no ni (o:=o) ⟨r',rfl,d2⟩ (fun z=>h (y0g _ z))
def MkN.len{o:List Int}{kvs:List (Key × V)}(h:MkN nm K H o f kvs):kvs.length=o.length:=by obtain⟨vs,rfl,d⟩:=h;have:=d.length;rw[y01]at this;unfold mk;rw[y01,y3t,y01];lia
def MkN.put(ni:∀x y,nm x=nm y->x=y){v:V}{o:List Int}{kvs:List (Key × V)}(h:MkN nm K H o f kvs)(hr:r∉o)(h':MkN nm K H' o f kvs)(dv:Dr K H' (f r) v):MkN nm K H' (o++[r]) f (z2K kvs (kN nm r) v):=by rw[za8 _ (h.no ni hr)];obtain⟨vs,rfl,d⟩:=h';have hl:=d.length;rw[y01]at hl;refine⟨vs++[v],?_,by rw[y0d];exact DrL.append d (DrL.one dv)⟩;unfold mk;rw[y0d,List.zip_append (by rw[y01];exact hl),y0d];rfl
theorem MkN.mono{o:List Int}{kvs:List (Key × V)}(h:MkN nm K H o f kvs)(s:z0c H H'):MkN nm K H' o f kvs:=by obtain⟨vs,e,d⟩:=h;exact⟨vs,e,d.mono s⟩
theorem MkN.keyed{o:List Int}{kvs:List (Key × V)}(h:MkN nm K H o f kvs)(k:z0Z H H')(hf:FK f):MkN nm K H' o f kvs:=by obtain⟨vs,e,d⟩:=h;exact⟨vs,e,d.keyed k (hf.keyL o)⟩
end
def z5v(K:yyF):Sp:=fun vs H Q _=>∃(a l m:Addr)(n:Nat)(rows:List Row)(nm:Int->Int)(us:List V)(o:List Int)(k:Int->Int)(kvs:List (Key × V)),vs=[.ref a,.ref l,.ref m]/\SqS K H a us/\z8b K H us rows nm/\(∀x y,nm x=nm y->x=y)/\z0h n rows/\n<=60/\H l=some (.lst (o.map (nV nm)))/\H m=some (.dK kvs) /\
 MkN nm K H o (fun r=>D.int (k r)) kvs/\z7g rows o/\(∀r∈o,∀g∈(row rows r).2,g∈o)/\z3E K H Q (D.tup (z0B (z2c rows k o)))
def z55(K:yyF):Sp:=fun vs H Q _=>∃(a:Addr)(n:Nat)(rows:List Row)(nm:Int->Int)(us:List V),vs=[.ref a,.int (nm 0)]/\SqS K H a us/\z8b K H us rows nm/\(∀x y,nm x=nm y->x=y)/\z0h n rows/\n<=60/\z3E K H Q (D.tup (z0B (shr rows)))
def z9b{n:Nat}{rows:List Row}(G:z0h n rows):∃h:Int->Int,h 0=0/\Mor rows (shr rows) (z0g rows) h:=by
 obtain⟨L,cl⟩:=z0v G;have C:=z38 G;have R:=z3J G;obtain⟨h1,h2,h3⟩:=z1w (kOf rows) (z0g rows);obtain⟨t,et⟩:=L.hd;refine⟨fun x=>((((z0H (kOf rows) (z0g rows)).map (kOf rows)).idxOf (kOf rows x):Nat):Int),?_,fun x hx=>?_⟩
 .obtain⟨t',et'⟩:=z9n (kOf rows) 0 t;show((((z0H (kOf rows) (z0g rows)).map (kOf rows)).idxOf (kOf rows 0):Nat):Int)=0;rw[et,et',y0m,y2B];simp
 .have hy:∃y,(z0H (kOf rows) (z0g rows))[((z0H (kOf rows) (z0g rows)).map (kOf rows)).idxOf (kOf rows x)]?=some y/\kOf rows y=kOf rows x:=by
   have hlt:=y0U (h1 x hx);have hg:=y1R hlt;rw[y01]at hlt;rw[y2m]at hg;exact⟨_,y00 hlt,hg⟩
  show row (shr rows) ((((z0H (kOf rows) (z0g rows)).map (kOf rows)).idxOf (kOf rows x):Nat):Int)=_;generalize((z0H (kOf rows) (z0g rows)).map (kOf rows)).idxOf (kOf rows x)=j at hy⊢;obtain⟨y,ey,hg⟩:=hy;have hhd:y∈z0g rows:=h2 _ (y0z ey);have eb:=(R _ hhd x hx).mp hg;have er:row (shr rows) ((j:Nat):Int)=((row rows y).1,(row rows y).2.map fun g=>((((z0H (kOf rows) (z0g rows)).map (kOf rows)).idxOf (kOf rows g):Nat):Int)):=by
   unfold row shr z2c;have:((j:Nat):Int).toNat=j:=by lia
   rw[this,y03,y04,ey];rfl
  rw[er];refine y4a ?_ ?_
  .exact congrFun eb []
  .show List.map _ _=List.map _ _;refine y3d (by rw[y01,y01,C.len y hhd,C.len x hx]) fun i i1 i2=>?_;rw[y01]at i1 i2;rw[y2m,y2m];have b1:(row rows y).2.getD i 0=(row rows y).2[i]:=by rw[y03,y00 i1];rfl
   have b2:(row rows x).2.getD i 0=(row rows x).2[i]:=by rw[y03,y00 i2];rfl
   have a1:=C.go hhd i;have a2:=C.go hx i;rw[b1]at a1;rw[b2]at a2;have hb:beh rows (row rows y).2[i]=beh rows (row rows x).2[i]:=by rw[<-b1,<-b2];exact funext fun w=>congrFun eb (i::w)
   rw[(R _ a1 _ a2).mpr hb]
def zeV{n:Nat}{M F:List Row}{h:Int->Int}(G:z0h n M)(GF:z0h n F)(hz:h 0=0)(mo:Mor M F (z0g M) h){x:Int}(hx:x∈z0g M):0<=h x/\h x<(F.length:Int):=by
 have hs:=GF.some;have:=(z4x G).all (C:=fun x=>x∈z0g M/\0<=h x/\h x<(F.length:Int)) (fun x hx g hg=>?_) (fun x hx=>?_) x hx
 .exact this.2
 .obtain⟨hm,x0,x1⟩:=hx;refine⟨(z38 G).cl x hm g hg,?_⟩;refine GF.go _ (z0t x0 x1) (h g) ?_;rw[mo x hm];exact y0a.mpr ⟨g,hg,rfl⟩
 .rw[y07.mp hx];exact⟨(z38 G).zero,by rw[hz];lia⟩
def sw(s i:Int):Int:=if i=0 then s else if i=s then 0 else i
def swM(rows:List Row)(s:Int):List Row:=(z0p rows.length).map fun i=>zdM (sw s) (row rows (sw s i))
def z1o{L:Nat}{i:Int}(h0:0<=i)(h1:i<(L:Int)):(z0p L)[i.toNat]?=some i:=by unfold z0p;rw[y04,List.getElem?_range (by lia)];show some ((i.toNat:Nat):Int)=some i;congr 1;lia
def goW(M:List Row):Int->List Int->Int
 |x,[]=>x
 |x,l::w=>goW M ((row M x).2.getD l.toNat 0) w
theorem zcQ(M:List Row):∀(w w':List Int)(x:Int),goW M x (w++w')=goW M (goW M x w) w'
 |[],_,_=>rfl
 |l::w,w',x=>zcQ M w w' _
def LW(n:Nat)(w:List Int):Prop:=∀l∈w,0<=l/\l<(n:Int)
def LW.tail{n:Nat}{l:Int}{w:List Int}(h:LW n (l::w)):LW n w:=fun x hx=>h x (y0g _ hx)
theorem zcr{n:Nat}{M:List Row}{C:Int->Prop}(hl:∀x,C x->(row M x).2.length=n)(hc:∀x,C x->∀g∈(row M x).2,C g):∀(w:List Int)(x:Int),LW n w->C x->C (goW M x w)
 |[],_,_,h=>h
 |l::w,x,hw,h=>by
  obtain⟨l0,l1⟩:=hw l y0i;have hi:l.toNat<(row M x).2.length:=by rw[hl x h];lia
  refine zcr hl hc w _ hw.tail ?_;rw[y03,y00 hi];exact hc x h _ (y0h hi)
def zgm{n:Nat}{M:List Row}(G:z0h n M){w:List Int}{x:Int}(hw:LW n w)(h0:0<=x)(h1:x<(M.length:Int)):0<=goW M x w/\goW M x w<(M.length:Int) :=
 zcr (n:=n) (C:=fun x=>0<=x/\x<(M.length:Int)) (fun x hx=>G.len _ (z0t hx.1 hx.2)) (fun x hx=>G.go _ (z0t hx.1 hx.2)) w x hw ⟨h0,h1⟩
end Gu
namespace L2
open PySem PySem.Spec PyProof.Rows
def z0u.sub{P:Program}{w:World}{K:yyF}{mg:yyS}{base:Heap}{CX:CXT}{k:Nat}{f:Addr}{fd:FuncData}{ps:List Str}{sp sp':Sp}(h:z0u P w K mg base CX k f fd ps sp)(i:∀vs H Q E,sp' vs H Q E->sp vs H Q E):z0u P w K mg base CX k f fd ps sp' :=
 { h with len:=fun vs H Q E q=>h.len vs H Q E (i vs H Q E q),run:=fun A outer s H args us vs Q E hr e0 b r q=>h.run A outer s H args us vs Q E hr e0 b r (i vs H Q E q) }
end L2
namespace Gu
open PySem L2
def zae{K:yyF}(vs:List V)(H:Hp)(Q:VK)(E:XK)(h:z9Q K vs H Q E):z55 K vs H Q E:=by obtain⟨a,n,rows,rfl,⟨us,ea,da⟩,GM,hn,q⟩:=h;exact⟨a,n,rows,fun i=>i,us,rfl,.inl (SqL.of ea),z8b.of da,fun _ _ e=>e,GM,hn,q⟩
instance LW.dec(n:Nat)(w:List Int):Decidable (LW n w):=by unfold LW;infer_instance
def z3F(K:yyF)(Ct:Addr):Sp:=fun vs H Q E=>∃(n:Nat)(u:V)(w:List Int),vs=[.int n,u]/\Dr K H (D.its w) u/\w.length<=5000/\(LW n w->∀H',z0c H H'->Q .non H')/\(¬LW n w->TMx Ct E H)
def hds:Nat->List (List Row)->List Int
 |_,[]=>[]
 |o,g::gs=>(o:Int)::hds (o+g.length) gs
def zif(K:yyF)(H:Hp)(a:Addr)(gs:List (List Row)):Prop:=∃us,H a=some (.lst us)/\DrL K H (gs.map fun g=>D.tup (z0B g)) us
theorem zer:∀gs:List (List Row),D.keyL (gs.map fun g=>D.tup (z0B g))
 |[]=>by simp only[y19,D.keyL]
 |g::gs=>by simp only[y0m,D.keyL,D.key];exact⟨z2x g,zer gs⟩
def z0Q.up{Ts:List Tb}{H H':Hp}{l:Addr}{o:HO}(s:z0Q Ts H H')(h:H' l=none):z0Q Ts H (upd H' l o):=s.trans (z0c.l (same_up (z0c.refl H') h))
end Gu
namespace L2
open PySem PySem.Spec PyProof.Rows
def zgz(P:Program)(w:World)(K:yyF)(tk tv:TE):TE:=fun σ H Q=>∀p,H p=none->∀ob0,DD P w K (upd H p ob0) p []->tk σ (upd H p ob0) fun y H1=>tv σ H1 fun v H2=>∃d,DD P w K H2 p []/\zfL K H2 d y/\∀ob,DD P w K (upd H2 p ob) p (z2K [] d v)->Q (.ref p) (upd H2 p ob)
section
variable{X:Cx}{K:yyF}{k v:Expr}{tk tv:TE}{pos:Pos}
def zdc(hu:X.A.units+9<cLine)(hk:PE X k tk)(hv:PE X v tv):PE X (.Dict [some k] [v] pos) (zgz X.prog X.w K tk tv):=by
 intro pins s σ H Q I h;have hb:(s.heap.objs.size==sysModules)=false:=y3e.mpr (y1v (y0u I.big));have I1:Inv X pins σ (upd H s.heap.objs.size (zbQ X.prog X.w s.heap.objs.size [])) { s with heap:=s.heap.push { cls:=.type "dict",data:=.dict #[] } }:=by refine I.laid (a:=s.heap.objs.size) (o:=zbQ X.prog X.w s.heap.objs.size []) (t':=s.toks) (fun _ _ q=>y05 _ q) (y0b _) ⟨⟨hb,_,#[],0,y0e _ rfl,⟨rfl,rfl,rfl⟩,rfl,rfl⟩,⟨_,y0e _ rfl⟩,fun h1 h2 p k=>?_⟩;obtain⟨p0,o1,es1,ep1,p1,p2,p3,p4⟩:=p;exact⟨p0,o1,es1,ep1,k _ p1,p2,p3,p4⟩
 have hq:=h _ I.fresh _ ⟨[],z01,.nil,y2s,y0K _⟩;refine wpAny_Dict_any rfl rfl (by simp) (by simp) (thn ((z4G hk hv z7d:PPs X pos [some k] [v] [(tk,tv)]) pins _ σ _ (fun ps H2=>match ps with|[(y,v)]=>∃d,DD X.prog X.w K H2 s.heap.objs.size []/\zfL K H2 d y/\∀ob,DD X.prog X.w K (upd H2 s.heap.objs.size ob) s.heap.objs.size (z2K [] d v)->Q (.ref s.heap.objs.size) (upd H2 s.heap.objs.size ob)|_=>False) I1 hq) fun ws s2 hz8=>?_)
 obtain⟨ps,H2,I2,rel,q⟩:=hz8;match ps,rel,q with
 |[],_,q=>exact False.elim q
 |_::_::_,_,q=>exact False.elim q
 |[(y,v)],rel,q =>
  obtain⟨d,g,⟨⟨b,eb⟩,k1,k2,k3⟩,q⟩:=q;subst eb;cases rel with
  |@cons a bb as bs hh t =>
   cases t;obtain⟨u1,u2⟩:=bb;obtain⟨ry,rv⟩:=hh;obtain rfl:u1=Value.ref b:=ry;obtain⟨hsm,xs,e,rr,dd⟩:=g.at I2;have rr':=rr;cases rr;unfold storeAll;rw[y43];refine y02 (y02 (wpAny_dictSet_heap (hsz:=y0K _) (show X.A.units+8<cLine by lia) (z7H I2 k1 k2 k3) dd fun h' dd' hsb=>y09 ?_));show wpAny _ _ (forIn ([]:List (Value × Value)) PUnit.unit _) _ _ _;rw[List.forIn_nil];refine y09 ?_;obtain⟨q',es,ep,hq',h2,h3,h4,_,h5⟩:=dd';have Iw:Inv X pins σ (upd H2 s.heap.objs.size (zbQ X.prog X.w s.heap.objs.size (storedH [] d b u2))) { s2 with heap:=h',toks:=s2.toks+(z2E X.prog X.w).draws d }:=by refine z5u I2 (by rw[e];exact y3j) hsb ⟨q',hq'⟩ ⟨⟨hsm,q',es,ep,hq',h2,h3,h4⟩,⟨q',hq'⟩,fun h1 h2' p k=>?_⟩;obtain⟨p0,o1,es1,ep1,p1,p2,p3,p4⟩:=p;exact⟨p0,o1,es1,ep1,k _ p1,p2,p3,p4⟩
   have kt:∀c ys,H2 c=some (.tup ys)->upd H2 s.heap.objs.size (zbQ X.prog X.w s.heap.objs.size (storedH [] d b u2)) c=some (.tup ys):=fun c ys ec=>by rw[z07 (z9Y g c ys ec)];exact ec
   refine⟨.ref s.heap.objs.size,_,Iw,rfl,q _ ⟨_,z01,(rr'.put d ⟨k1,k2,k3⟩ rv).mono fun d' v' kd q=>q.keyed kt kd,?_,?_⟩⟩
   .have ek:=(rr'.put d ⟨k1,k2,k3⟩ rv).keys;rw[ek];exact h5
   .have:=z23 ([]:List (D × V)) d v;exact y0Q this (by decide)
end
structure ZA(z TI TO i1 i2:Addr)(fp1 fp2:List Addr):Prop where
 TIz:TI≠z
 TOz:TO≠z
 i1z:i1≠z
 i2z:i2≠z
 TITO:TI≠TO
 TIi1:TI≠i1
 TIi2:TI≠i2
 TOi1:TO≠i1
 TOi2:TO≠i2
 i12:i1≠i2
 f1z:z∉fp1
 f1T:TO∉fp1
 f1i:i2∉fp1
 f2z:z∉fp2
 f2T:TO∉fp2
 f2i:i1∉fp2
section
variable{prog:Program}{w:World}{A:Around}{E:yyE}{s:Shared}{z TI TO i1 i2:Addr}{fp1 fp2:List Addr}{n1 n2:Nat}{P1 P2:Nat->Value->Prop}{S1 S2:Nat->Heap->Prop}
def ndr{it:Addr}{fp:List Addr}{n:Nat}{P:Nat->Value->Prop}{St:Nat->Heap->Prop}(D:Draws prog w A it fp n P St){i:Nat}{h h':Heap}{a:Addr}(st:St i h)(hs:Heap.SameBut a h h')(ha:a∉fp):St i h' :=
 D.frame i h h' st fun b hb o e=>hs.extBut b o (fun q=>ha (q▸hb)) e
def zcg{k1 k2:Nat}{a b:Value}{Q:yyE}(D1:Draws prog w A i1 fp1 n1 P1 S1)(D2:Draws prog w A i2 fp2 n2 P2 S2)(Z:ZA z TI TO i1 i2 fp1 fp2)(hz:IsZip s.heap z TI TO .none)(hTI:IsPair s.heap TI (.ref i1) (.ref i2))(hTO:IsPair s.heap TO a b)(t1:S1 k1 s.heap)(t2:S2 k2 s.heap)(l1:k1<n1)(l2:k2<n2)(hQ:∀x y h' tk,P1 k1 x->P2 k2 y->IsZip h' z TI TO (rawInt s.heap.objs.size)->IsPair h' TO x y->S1 (k1+1) h'->S2 (k2+1) h'->IsPair h' s.heap.objs.size x y -> (∀c o,c≠z->c≠TO->c≠i1->c≠i2->s.heap.get? c=some o->h'.get? c=some o)->Q (.ref s.heap.objs.size) { s with heap:=h',toks:=tk }) : wpAny (model prog w) A (Builtin.«zip.__next__» ⟨[.ref z],[]⟩) (fun fin s'=>∃v,fin=.done (.ret v)/\Q v s') E s:=by
 show wpAny _ _ (field (.ref z) 2>>=_) _ _ _;refine y02 (y29 hz rfl (x:=.bool false) rfl ?_);show wpAny _ _ (field (.ref z) 3>>=_) _ _ _;refine y02 (y29 hz rfl (x:=.ref TI) rfl (y02 (y21 hTI rfl ?_)));show wpAny _ _ (Builtin.SmallTypes.ownedTupleIsFree (.ref z)>>=_) _ _ _;refine y02 ?_;unfold Builtin.SmallTypes.ownedTupleIsFree;refine y02 (y29 hz rfl (x:=.none) rfl (y09 ?_));simp only[y2x];refine y02 (y27 (y02 (y29 hz rfl (x:=.ref TO) rfl (y02 (y2V hz (by simp) fun ha za sa=>?_)))));replace za:IsZip ha z TI TO .ellipsis:=za;refine y02 ?_;simp only[List.zipIdx_cons,List.zipIdx_nil,y43,List.forIn_nil];refine y02 (y02 (wpAny_onRaise ?_));show wpAny _ _ (Builtin.SmallTypes.nextOf (.ref i1)>>=_) _ _ _;refine y02 (D1.item k1 _ _ _ l1 (ndr D1 t1 sa Z.f1z) fun x hb tb px t1b sb=>y09 ?_);have Tb:IsPair hb TO a b:=sb.extBut _ _ Z.TOi1 (sa.extBut _ _ Z.TOz hTO);refine y02 (y21 Tb rfl (y02 (wpAny_updateSeq_pair Tb fun hc Tc sc=>?_)));replace Tc:IsPair hc TO x b:=Tc;refine y02 (wpAny_letGo (y09 ?_));refine y02 (y02 (wpAny_onRaise ?_));show wpAny _ _ (Builtin.SmallTypes.nextOf (.ref i2)>>=_) _ _ _;refine y02 (D2.item k2 _ _ _ l2 (ndr D2 (ndr D2 (ndr D2 t2 sa Z.f2z) sb Z.f2i) sc Z.f2T) fun y hd td py t2d sd=>y09 ?_);have Td:IsPair hd TO x b:=sd.extBut _ _ Z.TOi2 Tc;refine y02 (y21 Td rfl (y02 (wpAny_updateSeq_pair Td fun he Te se=>?_)));replace Te:IsPair he TO x y:=Te;refine y02 (wpAny_letGo (y09 (y09 ?_)));refine y02 (y21 Te rfl (y02 (wpAny_newTuple ?_)));have hsz:he.objs.size=s.heap.objs.size:=by rw[se.1,sd.1,sc.1,sb.1,sa.1]
 have ze:IsZip he z TI TO .ellipsis:=se.extBut _ _ Z.TOz.symm (sd.extBut _ _ Z.i2z.symm (sc.extBut _ _ Z.TOz.symm (sb.extBut _ _ Z.i1z.symm za)));have ke:∀c o,c≠z->c≠TO->c≠i1->c≠i2->s.heap.get? c=some o->he.get? c=some o:=fun c o c1 c2 c3 c4 e=>se.extBut _ _ c2 (sd.extBut _ _ c4 (sc.extBut _ _ c2 (sb.extBut _ _ c3 (sa.extBut _ _ c1 e))));have t1e:=ndr D1 (ndr D1 (ndr D1 t1b sc Z.f1T) sd Z.f1i) se Z.f1T;have t2e:=ndr D2 t2d se Z.f2T;have zlt:z<he.objs.size:=y0k ze;show wpAny _ _ (Builtin.SmallTypes.ownedTupleHandOut (.ref z) (.ref he.objs.size)>>=_) _ _ _;refine y02 ?_;unfold Builtin.SmallTypes.ownedTupleHandOut;have zf:IsZip (he.push { cls:=.type "tuple",data:=.seq #[x,y] }) z TI TO .ellipsis:=y05 _ ze;refine y02 (y2V zf (by simp) fun hg zg sg=>?_);replace zg:IsZip hg z TI TO (rawInt he.objs.size):=zg;refine y2V zg (by simp) fun hh zh sh=>?_;replace zh:IsZip hh z TI TO (rawInt he.objs.size):=zh;have up:∀c o,c≠z->he.get? c=some o->hh.get? c=some o:=fun c o c1 e=>sh.extBut _ _ c1 (sg.extBut _ _ c1 (y05 _ e));have pr:IsPair hh he.objs.size x y:=sh.extBut _ _ (y2E zlt) (sg.extBut _ _ (y2E zlt) (y0e _ rfl));rw[hsz]at zh pr;refine y09 ⟨_,rfl,?_⟩;show Q (.ref he.objs.size) _;rw[hsz];exact hQ x y hh _ px py zh (up _ _ Z.TOz Te) (D1.frame _ _ _ t1e fun b hb o e=>up b o (fun q=>Z.f1z (q▸hb)) e) (D2.frame _ _ _ t2e fun b hb o e=>up b o (fun q=>Z.f2z (q▸hb)) e) pr fun c o c1 c2 c3 c4 e=>up c o c1 (ke c o c1 c2 c3 c4 e)
def zdO{a b:Value}{Q:Fin->Shared->Prop}(D1:Draws prog w A i1 fp1 n1 P1 S1)(Z:ZA z TI TO i1 i2 fp1 fp2)(hz:IsZip s.heap z TI TO .none)(hTI:IsPair s.heap TI (.ref i1) (.ref i2))(hTO:IsPair s.heap TO a b)(t1:S1 n1 s.heap)(hE:∀h' e,(∀c o,c≠z->c≠TO->c≠i1->c≠i2->s.heap.get? c=some o->h'.get? c=some o)->(∃o,h'.get? e=some o/\o.cls=.type "StopIteration")->E (.ref e) { s with heap:=h' }) : wpAny (model prog w) A (Builtin.«zip.__next__» ⟨[.ref z],[]⟩) Q E s:=by
 show wpAny _ _ (field (.ref z) 2>>=_) _ _ _;refine y02 (y29 hz rfl (x:=.bool false) rfl ?_);show wpAny _ _ (field (.ref z) 3>>=_) _ _ _;refine y02 (y29 hz rfl (x:=.ref TI) rfl (y02 (y21 hTI rfl ?_)));show wpAny _ _ (Builtin.SmallTypes.ownedTupleIsFree (.ref z)>>=_) _ _ _;refine y02 ?_;unfold Builtin.SmallTypes.ownedTupleIsFree;refine y02 (y29 hz rfl (x:=.none) rfl (y09 ?_));simp only[y2x];refine y02 (y27 (y02 (y29 hz rfl (x:=.ref TO) rfl (y02 (y2V hz (by simp) fun ha za sa=>?_)))));replace za:IsZip ha z TI TO .ellipsis:=za;refine y02 ?_;simp only[List.zipIdx_cons,List.zipIdx_nil,y43,List.forIn_nil];refine y02 (y02 (wpAny_onRaise ?_));show wpAny _ _ (Builtin.SmallTypes.nextOf (.ref i1)>>=_) _ _ _;refine y02 (D1.done _ _ _ (ndr D1 t1 sa Z.f1z) fun hb e sb he=>?_);obtain⟨oe,hoe,hce⟩:=he;have zb:IsZip hb z TI TO .ellipsis:=sb _ _ Z.i1z.symm za;have hez:e≠z:=fun x=>by subst x;rw[zb]at hoe;cases hoe;simp at hce
 exact y2V zb (by simp) fun hc _ sc=>hE hc e (fun c o c1 _ c3 _ x=>sc.extBut _ _ c1 (sb _ _ c3 (sa.extBut _ _ c1 x))) ⟨oe,sc.extBut _ _ hez hoe,hce⟩
end
abbrev zt1(h:Heap)(a:Addr):Heap:=h.push { cls:=.type "tuple_iterator",data:=.fields #[.ref a,.int 0 0] }
abbrev zt2(h:Heap)(a b:Addr):Heap:=(zt1 h a).push { cls:=.type "tuple_iterator",data:=.fields #[.ref b,.int 0 0] }
abbrev zt3(h:Heap)(a b:Addr):Heap:=(zt2 h a b).push { cls:=.type "tuple",data:=.seq #[.ref h.objs.size,.ref (zt1 h a).objs.size] }
abbrev zt4(h:Heap)(a b:Addr):Heap:=(zt3 h a b).push { cls:=.type "tuple",data:=.seq #[.none,.none] }
abbrev zt5(h:Heap)(a b:Addr):Heap:=(zt4 h a b).push { cls:=.type "zip",data:=.fields #[.none,.bool false,.bool false,.ref (zt2 h a b).objs.size,.ref (zt3 h a b).objs.size] }
def z6m(a b:Addr)(xs ys:Array Value) : Meets (Builtin.«zip.__new__» ⟨[.type "zip",.ref a,.ref b],[]⟩) (fun _ R s=>s.heap.IsTuple a xs/\s.heap.IsTuple b ys/\R (.ok (.ret (.ref (zt4 s.heap a b).objs.size))) { s with heap:=zt5 s.heap a b }) :=
 .of_wp fun prog w A R s h=>by
  obtain⟨hp,g,d,tk,os⟩:=s;obtain⟨hl1,hl2,h⟩:=h;have hsub:=sub_zip;have hL1:Heap.IsTuple (Shared.heap ⟨hp,g,d,tk,os⟩) a xs:=hl1;have hL2:Heap.IsTuple (Shared.heap ⟨hp.push { cls:=.type "tuple_iterator",data:=.fields #[.ref a,.int 0 0] },g,d,tk,os⟩) b ys:=by obtain⟨o,e,r⟩:=hl2;exact⟨o,y05 _ e,r⟩
  wp_walk using y2S hL1,y2S hL2
  exact⟨_,rfl,h⟩
section
variable{prog:Program}{w:World}{A:Around}{E:yyE}{s:Shared}
def z7w{a b:Addr}{xs ys:Array Value}{Q:yyE}(hl1:s.heap.IsTuple a xs)(hl2:s.heap.IsTuple b ys)(h:∀h',IsZip h' (s.heap.objs.size+4) (s.heap.objs.size+2) (s.heap.objs.size+3) .none->IsPair h' (s.heap.objs.size+2) (.ref s.heap.objs.size) (.ref (s.heap.objs.size+1)) -> IsPair h' (s.heap.objs.size+3) .none .none->h'.IsTupleIter s.heap.objs.size a 0->h'.IsTupleIter (s.heap.objs.size+1) b 0->h'.objs.size=s.heap.objs.size+5 -> (∀c o,s.heap.get? c=some o->h'.get? c=some o)->Q (.ref (s.heap.objs.size+4)) { s with heap:=h' }) : wpAny (model prog w) A (call (.type "zip") [.ref a,.ref b]) Q E s:=by
 refine callType_new F.called_zip (by decide) (F.typeCall_zip_2 _ _) (F.newCall_zip_2 _ _) (fun obj=>F.args_object_init_3 obj _ _) F.entry_zip_new (z6m a b xs ys) ⟨hl1,hl2,?_⟩;have e1:(zt1 s.heap a).objs.size=s.heap.objs.size+1:=y1g ..;have e2:(zt2 s.heap a b).objs.size=s.heap.objs.size+2:=by rw[y1g,e1]
 have e3:(zt3 s.heap a b).objs.size=s.heap.objs.size+3:=by rw[y1g,e2]
 have e4:(zt4 s.heap a b).objs.size=s.heap.objs.size+4:=by rw[y1g,e3]
 have e5:(zt5 s.heap a b).objs.size=s.heap.objs.size+5:=by rw[y1g,e4]
 have p:∀{h:Heap}{o u:Obj}{c:Addr},h.get? c=some u->(h.push o).get? c=some u:=fun e=>y05 _ e;have g5:(zt5 s.heap a b).get? (zt4 s.heap a b).objs.size=some _:=y0e _ rfl;have g4:(zt5 s.heap a b).get? (zt3 s.heap a b).objs.size=some _:=p (y0e _ rfl);have g3:(zt5 s.heap a b).get? (zt2 s.heap a b).objs.size=some _:=p (p (y0e _ rfl));have g2:(zt5 s.heap a b).get? (zt1 s.heap a).objs.size=some _:=p (p (p (y0e _ rfl)));have g1:(zt5 s.heap a b).get? s.heap.objs.size=some _:=p (p (p (p (y0e _ rfl))));show _/\_;rw[e2,e3,e4]at g5;rw[e1,e2]at g3;rw[e3]at g4;rw[e1]at g2;rw[e4];exact⟨⟨_,g5,rfl⟩,h _ g5 g3 g4 ⟨_,g1,rfl,rfl⟩ ⟨_,g2,rfl,rfl⟩ e5 fun c o x=>p (p (p (p (p x))))⟩
end
def zhQ(K:yyF)(a b:Addr):It :=
 ⟨fun i H=>∃xs ys x y,SqT K H a xs/\SqT K H b ys/\xs[i]?=some x/\ys[i]?=some y,
  fun i H v H'=>∃p x y,v=.ref p/\H p=none/\(∀xs,SqT K H a xs->xs[i]?=some x)/\(∀ys,SqT K H b ys->ys[i]?=some y)/\H'=upd H p (.tup [x,y]),
  fun i H=>∃xs ys,SqT K H a xs/\SqT K H b ys/\xs.length=i/\ys.length=i⟩
section
variable{X:Cx}{elts:List Expr}{tk:Nat}{tp:Pos}
def zbE{P:Program}{w:World}{K:yyF}(a b z TI TO i1 i2:Addr)(D:TI≠z/\TO≠z/\i1≠z/\i2≠z/\TI≠TO/\TI≠i1/\TI≠i2/\TO≠i1/\TO≠i2/\i1≠i2)(aT:a≠TO)(bT:b≠TO) : zey P w K (.Tuple elts tk tp) (zhQ K a b) [z,TI,TO,i1,i2] z (fun i h=>IsZip h z TI TO .none/\IsPair h TI (.ref i1) (.ref i2)/\(∃u v,IsPair h TO u v)/\h.IsTupleIter i1 a i/\h.IsTupleIter i2 b i) where
 mem:=by simp
 obj:=fun i h st c hc=>by
  obtain⟨hz,hTI,⟨u,v,hTO⟩,⟨o1,e1,c1,d1⟩,⟨o2,e2,c2,d2⟩⟩:=st;simp at hc;rcases hc with q|q|q|q|q
  .rw[q];exact⟨_,hz,fun v z=>by cases z⟩
  .rw[q];exact⟨_,hTI,fun v z=>by cases z⟩
  .rw[q];exact⟨_,hTO,fun v z=>by cases z⟩
  .rw[q];exact⟨_,e1,fun v z=>by rw[d1]at z;cases z⟩
  .rw[q];exact⟨_,e2,fun v z=>by rw[d2]at z;cases z⟩
 keep:=fun i h h' st k=>by obtain⟨hz,hTI,⟨u,v,hTO⟩,⟨o1,e1,c1⟩,⟨o2,e2,c2⟩⟩:=st;exact⟨k z (by simp) _ hz,k TI (by simp) _ hTI,⟨u,v,k TO (by simp) _ hTO⟩,⟨o1,k i1 (by simp) _ e1,c1⟩,⟨o2,k i2 (by simp) _ e2,c2⟩⟩
 item:=by
  intro X hP hw hK hc i pins s σ H E I hf st hg;subst hP hw hK;obtain⟨hz,hTI,⟨u,v,hTO⟩,h1,h2⟩:=st;obtain⟨xs,ys,x,y,hxs,hys,hx,hy⟩:=hg;obtain⟨its,rv,p,_⟩:=I.tuple hxs;obtain⟨itt,rw',p',_⟩:=I.tuple hys;obtain⟨ux,hux,rux⟩:=rv.get hx;obtain⟨uy,huy,ruy⟩:=rw'.get hy;obtain⟨d1,d2,d3,d4,d5,d6,d7,d8,d9,d10⟩:=D;have Da:∀{l:Addr}{its:Array Value},s.heap.IsTuple l its->l≠z/\l≠i1/\l≠i2:=fun{l its} hl=>by obtain⟨o,e,c,_⟩:=hl;obtain⟨o1,e1,c1,_⟩:=id h1;obtain⟨o2,e2,c2,_⟩:=id h2;exact⟨z28 e hz c rfl (by decide),z28 e e1 c c1 (by decide),z28 e e2 c c2 (by decide)⟩
  obtain⟨a1,a3,a4⟩:=Da p;obtain⟨b1,b3,b4⟩:=Da p';have D1:=z3H (prog:=X.prog) (w:=X.w) (A:=X.A.in1) (I.ok.hd hc) i1 a a3 its.toArray;have D2:=z3H (prog:=X.prog) (w:=X.w) (A:=X.A.in1) (I.ok.hd hc) i2 b b4 itt.toArray;have Z:ZA z TI TO i1 i2 [i1,a] [i2,b]:=⟨d1,d2,d3,d4,d5,d6,d7,d8,d9,d10,by simp[y1v d3,y1v a1],by simp[d8,y1v aT],by simp[y1v d10,y1v a4],by simp[y1v d4,y1v b1],by simp[d9,y1v bT],by simp[d10,y1v b3]⟩;have l1:i<its.toArray.size:=by have:=(y06.mp hux).1;simpa using this
  have l2:i<itt.toArray.size:=by have:=(y06.mp huy).1;simpa using this
  have hT:s.TypeIs (.ref z) "zip":=⟨_,hz,rfl⟩;unfold pyNext;refine y02 (y2G (y10 (name:=Str.ofString "__next__") hT y46 (y15 y46 hT F.entry_zip_next
   (zcg D1 D2 Z hz hTI hTO ⟨h1,p⟩ ⟨h2,p'⟩ l1 l2 fun x' y' h' tk px py q1 q2 q3 q4 q5 hk=>y09 ?_) (F.args_zip_next_1 _))))
  have ex:x'=ux:=by
   have e1:its.toArray[i]?=some ux:=by simpa using hux
   rw[e1]at px;exact(y08 px).symm
  have ey:y'=uy:=by
   have e1:itt.toArray[i]?=some uy:=by simpa using huy
   rw[e1]at py;exact(y08 py).symm
  subst ex ey;refine⟨_,rfl,wpAny_letOwnedTupleGo_zip q1 fun h2' hz2 hs2=>?_⟩;have zlt:z<s.heap.objs.size:=y0k hz;have kk:∀c o,c∉[z,TO,i1,i2]->s.heap.get? c=some o->h2'.get? c=some o:=fun c o hc q=>by simp at hc;exact(hs2.2 c hc.1).trans (hk c o hc.1 hc.2.1 hc.2.2.1 hc.2.2.2 q)
  have sub:∀c∈[z,TO,i1,i2],c∈[z,TI,TO,i1,i2]:=fun c hc=>by simp at hc⊢;rcases hc with q|q|q|q<;>simp[q]
  have I1:Inv X pins σ (upd H s.heap.objs.size (.tup [x,y])) { s with heap:=h2',toks:=tk }:=by refine I.turnedNew (ch:=[z,TO,i1,i2]) kk (y0b _) ?_ (fun c hc=>hf c (sub c hc));exact⟨by show 2<=sizeLine;decide,[x',y'],0,.cons rux (.cons ruy .nil),(hs2.2 _ (y2E zlt)).trans q5⟩
  have up:∀{c:Addr}{o:Obj},c≠z->h'.get? c=some o->h2'.get? c=some o:=fun{c o} hc q=>(hs2.2 c hc).trans q;obtain⟨⟨o3,e3,c3⟩,_⟩:=q3;obtain⟨⟨o4,e4,c4⟩,_⟩:=q4;refine⟨.ref s.heap.objs.size,_,I1,rfl,⟨s.heap.objs.size,x,y,rfl,I.fresh,fun zs hz'=>by rw[I.tuple_inj hz' hxs];exact hx,fun zs hz'=>by rw[I.tuple_inj hz' hys];exact hy,rfl⟩,⟨hz2,?_,⟨_,_,up d2 q2⟩,⟨o3,up d3 e3,c3⟩,⟨o4,up d4 e4,c4⟩⟩,fun c hc=>?_⟩
  .exact up d1 (hk TI _ d1 d5 d6 d7 hTI)
  .have c0:=(hf c hc).1;have lt:c<s.heap.objs.size:=by
    obtain⟨o1,e1,_⟩:=id h1;obtain⟨o2,e2,_⟩:=id h2;simp at hc;rcases hc with q|q|q|q|q
    .rw[q];exact zlt
    .rw[q];exact y0k hTI
    .rw[q];exact y0k hTO
    .rw[q];exact y0k e1
    .rw[q];exact y0k e2
   rw[z07 (y0u lt)];exact c0
 done:=by
  intro X hP hw hK hc i pins s σ H E I hf st hg;subst hP hw hK;obtain⟨hz,hTI,⟨u,v,hTO⟩,h1,h2⟩:=st;obtain⟨xs,ys,hxs,hys,hx,hy⟩:=hg;obtain⟨its,rv,p,_⟩:=I.tuple hxs;obtain⟨itt,rw',p',_⟩:=I.tuple hys;obtain⟨d1,d2,d3,d4,d5,d6,d7,d8,d9,d10⟩:=D;have Da:∀{l:Addr}{its:Array Value},s.heap.IsTuple l its->l≠z/\l≠i1/\l≠i2:=fun{l its} hl=>by obtain⟨o,e,c,_⟩:=hl;obtain⟨o1,e1,c1,_⟩:=id h1;obtain⟨o2,e2,c2,_⟩:=id h2;exact⟨z28 e hz c rfl (by decide),z28 e e1 c c1 (by decide),z28 e e2 c c2 (by decide)⟩
  obtain⟨a1,a3,a4⟩:=Da p;obtain⟨b1,b3,b4⟩:=Da p';have l1:=rv.length;have D1:=z3H (prog:=X.prog) (w:=X.w) (A:=X.A.in1) (I.ok.hd hc) i1 a a3 its.toArray;have Z:ZA z TI TO i1 i2 [i1,a] [i2,b]:=⟨d1,d2,d3,d4,d5,d6,d7,d8,d9,d10,by simp[y1v d3,y1v a1],by simp[d8,y1v aT],by simp[y1v d10,y1v a4],by simp[y1v d4,y1v b1],by simp[d9,y1v bT],by simp[d10,y1v b3]⟩;have hT:s.TypeIs (.ref z) "zip":=⟨_,hz,rfl⟩;have ei:i=its.toArray.size:=by simp;lia
  unfold pyNext;refine y02 (y2G (y10 (name:=Str.ofString "__next__") hT y46 (y15 y46 hT F.entry_zip_next
   (zdO D1 Z hz hTI hTO ⟨ei▸h1,p⟩ fun h' e hk he=>?_) (F.args_zip_next_1 _))))
  obtain⟨o,ho,hcl⟩:=he;refine y02 (y2N (T:="StopIteration") (b:=true) ⟨o,ho,hcl⟩ isSubtype_stop (y09 ⟨rfl,?_⟩));refine I.turnedL (ch:=[z,TO,i1,i2]) (t':=s.toks) (fun c o hcc q=>?_) (fun c hcc=>hf c ?_)
  .simp at hcc;exact hk c o hcc.1 hcc.2.1 hcc.2.2.1 hcc.2.2.2 q
  .simp at hcc⊢;rcases hcc with q|q|q|q<;>simp[q]
 self:=fun A i s Q E st h=>y3U st.1 h
def zhg(K:yyF)(ta:TA):TI:=fun σ H R=>ta σ H fun vs H1=>∃a b:Addr,vs=[.ref a,.ref b]/\(∃xs,SqT K H1 a xs)/\(∃ys,SqT K H1 b ys)/\R (zhQ K a b) H1
def zf9{a b:Expr}{ta:TA}{p pos:Pos}(hg:Gl X "zip")(hm:X.mg "zip"=none)(ha:PA X [a,b] ta)(hs:starEach [a,b] X.env=[(false,eval a X.env),(false,eval b X.env)]:=by rfl)(hs2:starEach [b] X.env=[(false,eval b X.env)]:=by rfl) : PI X (.Tuple elts tk tp) (.Call (.Name "zip" p) [a,b] [] pos) (zhg X.K ta):=by
 intro pins s σ H R I h;refine Call_ (z64 I hg hm boot_zip (y1O (thn (ha pos pins s σ H _ I h) fun us s1 hz8=>?_) (by rw[hs,hs2]) (by rw[hs2];rfl)));obtain⟨vs,H1,I1,r1,q1⟩:=hz8;obtain⟨a,b,e,⟨xs,hq⟩,⟨ys,hq'⟩,q⟩:=q1;subst e;obtain⟨u,v,rfl,ru,rv'⟩:=zbm r1;cases ru;cases rv';obtain⟨its,rv,pl,hz⟩:=I1.tuple hq;obtain⟨its2,rv2,pl2,hz2⟩:=I1.tuple hq';have lt:∀{l:Addr}{its:Array Value},s1.heap.IsTuple l its->l<s1.heap.objs.size:=fun⟨o,e,_⟩=>y0k e;have la:=lt pl;have lb:=lt pl2;refine z7w pl pl2 fun h' z1 z2 z3 z4 z5 z6 hk=>y3U z1 ?_;have I2:Inv X pins σ H1 { s1 with heap:=h' }:=I1.kept (t':=s1.toks) hk;refine⟨s1.heap.objs.size+4,[s1.heap.objs.size+4,s1.heap.objs.size+2,s1.heap.objs.size+3,s1.heap.objs.size,s1.heap.objs.size+1],_,_,H1,rfl,I2,
  zbE a b (s1.heap.objs.size+4) (s1.heap.objs.size+2) (s1.heap.objs.size+3) s1.heap.objs.size (s1.heap.objs.size+1) (by refine⟨?_,?_,?_,?_,?_,?_,?_,?_,?_,?_⟩<;>(show @Ne Nat _ _;lia)) (y0u (y3I la (by lia))) (y0u (y3I lb (by lia))),⟨z1,z2,⟨_,_,z3⟩,z4,z5⟩,fun c hb=>?_,q⟩
 have hb':s1.heap.objs.size<=c:=by simp only[y0j,y1o,y3r]at hb;rcases hb with q|q|q|q|q<;>(have q:@Eq Nat c _:=q;lia)
 exact I1.fpOk hb' (I1.hok.fresh hb')
end
def zbp{K:yyF}{a b l:Addr}{xs zs:List V}{ix:List (Option Nat)}{g:TG}{te:TE}{σ:St}{H0:Hp}{Qe:Hp->Prop}(hlen:xs.length=zs.length)(Pv:Nat->List V->Hp->Prop)(h0:Pv 0 [] H0)(hl:∀i ys H,i<=xs.length->Pv i ys H->SqT K H a xs/\SqT K H b zs)(hz:xs.length<=sizeLine)(hn:∀i ys H,Pv i ys H->ys.length=i)(hs:∀i x y p ys H,xs[i]?=some x->zs[i]?=some y->Pv i ys H->H l=some (.lst ys)->H p=none->g (.ref p) (z1t ix σ) (upd H p (.tup [x,y])) fun σ2 H2=>te σ2 H2 fun v H3=>H3 l=some (.lst ys)/\Pv (i+1) (ys++[v]) (upd H3 l (.lst (ys++[v]))))(hd:∀ys H,Pv xs.length ys H->H l=some (.lst ys)->Qe H):z6q ix (zhQ K a b) g te σ l H0 Qe:=by refine z5e (n:=xs.length) Pv h0 (fun i ys H hi p hy=>?_) fun ys H p hy=>⟨⟨xs,zs,(hl _ ys H (y0b _) p).1,(hl _ ys H (y0b _) p).2,rfl,hlen.symm⟩,hd ys H p hy⟩;obtain⟨q,q'⟩:=hl i ys H (y1p hi) p;refine⟨⟨xs,zs,xs[i],zs[i]'(by lia),q,q',by simp[hi],by simp[show i<zs.length by lia]⟩,by rw[hn i ys H p];exact y0r hi hz,fun x H' y=>?_⟩;obtain⟨c,z,z',rfl,hb,hz,hz',rfl⟩:=y;exact hs i z z' c ys H (hz xs q) (hz' zs q') p hy hb
end L2
namespace Gu
open PySem L2
def pr(m:Nat)(i:Int):D:=.tup [.int (i/(m:Int)),.int (i%(m:Int))]
def zc7(m:Nat)(x y:Int)(e:pr m x=pr m y):x=y:=by unfold pr at e;injection e with e;injection e with e1 e2;injection e1 with e1;injection e2 with e2 _;injection e2 with e2;have h1:=y3M x (m:Int);have h2:=y3M y (m:Int);rw[<-h1,<-h2,e1,e2]
def z4l(m:Nat)(i:Int):D.key (pr m i)/\D.dep (pr m i)<=8/\∃es,pr m i=.tup es:=by
 unfold pr;refine⟨?_,?_,_,rfl⟩
 .simp only[D.key,D.keyL];exact⟨trivial,trivial,trivial⟩
 .simp only[D.dep,D.depL];decide
theorem z6O(m:Nat):∀o:List Int,D.keyL (o.map (pr m))
 |[]=>by simp only[y19,D.keyL]
 |i::o=>by simp only[y0m,D.keyL];exact⟨(z4l m i).1,z6O m o⟩
def zep{K:yyF}{H:Hp}{m:Nat}{i:Int}{v:V}(h:Dr K H (pr m i) v):∃a,v=.ref a/\H a=some (.tup [.int (i/(m:Int)),.int (i%(m:Int))]):=by unfold pr at h;simp only[Dr,DrL]at h;obtain⟨a,vs,e,s,x,l,rfl,hx,y,l',rfl,hy,rfl⟩:=h;subst hx hy;exact⟨a,e,s⟩
def zhP{K:yyF}{H:Hp}{m:Nat}{i:Int}{a:Addr}(h:H a=some (.tup [.int (i/(m:Int)),.int (i%(m:Int))])):Dr K H (pr m i) (.ref a):=by unfold pr;exact Dr.tup h (DrL.cons (Dr.int _) (DrL.cons (Dr.int _) DrL.nil))
def zgy(m:Nat)(r:Row):D:=.tup [D.its r.1,.tup (r.2.map (pr m))]
def zdj{K:yyF}{H:Hp}{m:Nat}{r:Row}{v:V}(h:Dr K H (zgy m r) v):∃a b c ws,v=.ref a/\H a=some (.tup [.ref b,.ref c])/\H b=some (.tup (r.1.map V.int))/\H c=some (.tup ws)/\DrL K H (r.2.map (pr m)) ws:=by unfold zgy at h;simp only[Dr,DrL]at h;obtain⟨a,vs,rfl,e,x,l,rfl,hx,y,l',rfl,hy,rfl⟩:=h;obtain⟨b,us,rfl,eb,rb⟩:=hx;obtain⟨c,ws,rfl,ec,rc⟩:=hy;have e1:=DrL.ints_inv rb;subst e1;exact⟨a,b,c,ws,rfl,e,eb,ec,rc⟩
def z9X(K:yyF)(rows:List Row)(m:Nat):List V->Hp->VK->Prop:=fun vs H Q=>∃(i:Int)(v:V),vs=[v]/\Dr K H (pr m i) v/\0<=i/\i<(rows.length:Int)/\z3E K H Q (zgy m (row rows i))
section
variable(P:Program)(w:World)(K:yyF)(mg:yyS)(base:Heap)(CX:CXT)(k:Nat)
def z8y:Sp:=fun vs H Q _=>∃(f:Addr)(v0:V)(n:Nat)(rows:List Row)(m:Nat),vs=[v0,.ref f]/\Dr K H (pr m 0) v0/\z3A P w K mg base CX k H f (z9X K rows m)/\z0h n rows/\n<=60/\∀(r:Addr)(H':Hp),z0c H H'->z3D K H' r (z0E rows)->Q (.ref r) H'
def z6t(Ct:Addr):Sp:=fun vs H Q E=>∃(f:Addr)(v0:V)(n:Nat)(rows:List Row)(m:Nat),vs=[v0,.ref f]/\Dr K H (pr m 0) v0/\z3A P w K mg base CX k H f (z9X K rows m)/\z0h n rows/\n<=60 /\
 ((shr rows).length<=60->z3E K H Q (D.tup (z0B (shr rows))))/\(60<(shr rows).length->TMx Ct E H)
end
def zfW(m:Nat)(R S:Row):Row:=(z5B R.1 S.1,(List.range R.1.length).map fun k=>R.2.getD k 0*(m:Int)+S.2.getD (R.1.getD k 0).toNat 0)
def z1S(one other:List Row):List Row:=(z0p (one.length*other.length)).map fun i=>zfW other.length (row one (i/(other.length:Int))) (row other (i%(other.length:Int)))
def z3y(one other:List Row):(z1S one other).length=one.length*other.length:=by unfold z1S;rw[y01,z0y]
def pix{one other:List Row}{i:Int}(h0:0<=i)(h1:i<((one.length*other.length:Nat):Int)):(0<=i/(other.length:Int)/\i/(other.length:Int)<(one.length:Int))/\0<=i%(other.length:Int)/\i%(other.length:Int)<(other.length:Int):=by
 have hm:(0:Int)<(other.length:Int):=by
  rcases Nat.eq_zero_or_pos other.length with z|z
  .rw[z,Nat.mul_zero]at h1;lia
  .lia
 refine⟨⟨y30 h0 (by lia),?_⟩,y2z _ (by lia),y28 _ hm⟩;refine Int.ediv_lt_of_lt_mul hm ?_;rw[y24]at h1;exact h1
def z51{one other:List Row}{i:Int}(h0:0<=i)(h1:i<((one.length*other.length:Nat):Int)):row (z1S one other) i=zfW other.length (row one (i/(other.length:Int))) (row other (i%(other.length:Int))):=by unfold z1S;show(List.map _ _).getD _ _=_;rw[y03,y04,z1o h0 h1];rfl
def zdi{n:Nat}{p q:List Int}(hp:IsP n p)(hq:IsP n q):IsP n (z5B p q):=by
 have h1:(z5B p q).Perm (z5B (z0p n) q):=by unfold z5B;exact List.Perm.map _ hp
 have h2:z5B (z0p n) q=q:=by unfold z5B z0p;rw[y1h];refine y3d (by rw[y01,y1Z,hq.len]) fun i i1 i2=>?_;rw[y2m,List.getElem_range];show q.getD ((i:Int)).toNat 0=q[i];rw[show((i:Int)).toNat=i by lia,y03,y00 i2];rfl
 rw[h2]at h1;exact h1.trans hq
def z8f{n m:Nat}{R S:Row}{N:Nat}(hR:IsP n R.1)(hRl:R.2.length=n)(hRg:∀g∈R.2,0<=g/\g<(N:Int))(hSl:S.2.length=n)(hSg:∀g∈S.2,0<=g/\g<(m:Int)){k:Nat}(hk:k<n) : ∃(l:Nat)(g e:Int),R.1[k]?=some (l:Int)/\l<n/\R.2[k]?=some g/\S.2[l]?=some e/\R.2.getD k 0=g/\S.2.getD (R.1.getD k 0).toNat 0=e/\0<=g/\g<(N:Int)/\0<=e/\e<(m:Int):=by
 have hl:=hR.len;have e1:R.1[k]?=some R.1[k]:=y00 (by lia);obtain⟨l0,l1⟩:=z0L.mp (hR.mem_iff.mp (y0h (show k<R.1.length by lia)));obtain⟨l,hl'⟩:=z3I l0;have e2:R.2[k]?=some R.2[k]:=y00 (by lia);have ll:l<n:=by lia
 have e3:S.2[l]?=some S.2[l]:=y00 (by lia);obtain⟨g0,g1⟩:=hRg _ (y0h (show k<R.2.length by lia));obtain⟨s0,s1⟩:=hSg _ (y0h (show l<S.2.length by lia));refine⟨l,R.2[k],S.2[l],by rw[e1,hl'],ll,e2,e3,?_,?_,g0,g1,s0,s1⟩
 .rw[y03,e2];rfl
 .rw[y03 (l:=R.1),e1];show S.2.getD (R.1[k]).toNat 0=_;rw[hl',show((l:Int)).toNat=l by lia,y03,e3];rfl
def zb0{g e:Int}{N m:Nat}(g0:0<=g)(g1:g<(N:Int))(e0:0<=e)(e1:e<(m:Int)):0<=g*(m:Int)+e/\g*(m:Int)+e<((N*m:Nat):Int):=by have h1:0<=g*(m:Int):=Int.mul_nonneg g0 (by lia);have h2:(g+1)*(m:Int)<=(N:Int)*(m:Int):=Int.mul_le_mul_of_nonneg_right (by lia) (by lia);rw[Int.add_mul,Int.one_mul]at h2;rw[y24];lia
def z3c{n:Nat}{one other:List Row}(G:z0h n one)(G':z0h n other)(h4:one.length*other.length<=4000):z0h n (z1S one other):=by
 have h1:=G.some;have h2:=G'.some;have hm:∀r∈z1S one other,∃R∈one,∃S∈other,r=zfW other.length R S:=fun r hr=>by unfold z1S at hr;obtain⟨i,hi,e⟩:=y0a.mp hr;obtain⟨i0,i1⟩:=z0L.mp hi;obtain⟨⟨a0,a1⟩,b0,b1⟩:=pix (one:=one) (other:=other) i0 i1;exact⟨_,z0t a0 a1,_,z0t b0 b1,e.symm⟩
 refine⟨by rw[z3y];exact h4,by rw[z3y];exact Nat.mul_pos h1 h2,fun r hr=>?_,fun r hr=>?_,fun r hr g hg=>?_⟩
 .obtain⟨R,hR,S,hS,rfl⟩:=hm r hr;exact zdi (G.perm R hR) (G'.perm S hS)
 .obtain⟨R,hR,S,hS,rfl⟩:=hm r hr;show(List.map _ _).length=n;rw[y01,y1Z,(G.perm R hR).len]
 .obtain⟨R,hR,S,hS,rfl⟩:=hm r hr;obtain⟨k,hk,rfl⟩:=y0a.mp (show g∈(List.range R.1.length).map _ from hg);have hk':k<n:=by have:=y1N.mp hk;rw[(G.perm R hR).len]at this;exact this
  obtain⟨l,g',e,_,_,_,_,q1,q2,g0,g1,e0,e1⟩:=z8f (m:=other.length) (N:=one.length) (G.perm R hR) (G.len R hR) (G.go R hR) (G'.len S hS) (G'.go S hS) hk';rw[q1,q2,z3y];exact zb0 g0 g1 e0 e1
def zhi{m:Nat}{g e:Int}(e0:0<=e)(e1:e<(m:Int)):pr m (g*(m:Int)+e)=.tup [.int g,.int e]:=by
 have hm:(0:Int)<(m:Int):=by lia
 unfold pr;have q1:(g*(m:Int)+e)/(m:Int)=g:=by rw[y3N,y3y _ _ (by lia),y3z e0 e1];lia
 have q2:(g*(m:Int)+e)%(m:Int)=e:=by rw[y3N,y31,Int.emod_eq_of_lt e0 e1]
 rw[q1,q2]
def z6p(K:yyF):Sp:=fun vs H Q _=>∃(a b:V)(p q:List Int),vs=[a,b]/\Dr K H (D.its p) a/\Dr K H (D.its q) b/\(∀x∈p,0<=x/\x<(q.length:Int))/\p.length<=1000/\z3E K H Q (D.its (z5B p q))
def zbP(K:yyF):Sp:=fun vs H Q _=>∃(v1 v2 v3:V)(n:Nat)(one other:List Row)(i:Int),vs=[v1,v2,v3]/\Dr K H (D.tup (z0B one)) v1/\Dr K H (D.tup (z0B other)) v2/\Dr K H (pr other.length i) v3/\z0h n one/\z0h n other/\n<=60/\0<=i/\i<((one.length*other.length:Nat):Int)/\z3E K H Q (zgy other.length (row (z1S one other) i))
def z77(Ts:List Tb)(K:yyF)(Ct:Addr):Sp:=fun vs H Q E=>∃(v1 v2:V)(n:Nat)(one other:List Row),vs=[v1,v2]/\z5F Ts H/\Dr K H (D.tup (z0B one)) v1/\Dr K H (D.tup (z0B other)) v2/\z0h n one/\z0h n other/\n<=60/\one.length*other.length<=4000 /\
 ((shr (z1S one other)).length<=60->zeI Ts K H Q (D.tup (z0B (shr (z1S one other)))))/\(60<(shr (z1S one other)).length->zit Ts Ct E H)
def zcR{n:Nat}{p:List Int}(h:IsP n p){k:Nat}(hk:k<n):∃j:Nat,j<n/\(z2G p)[k]?=some (j:Int)/\p[j]?=some (k:Int):=by
 have hm:(k:Int)∈p:=h.mem_iff.mpr (z0L.mpr ⟨by lia,by lia⟩);have hlt:=y0U hm;refine⟨p.idxOf (k:Int),by rw[h.len]at hlt;exact hlt,?_,?_⟩
 .unfold z2G;rw[y04,h.len];have:=z1o (L:=n) (i:=(k:Int)) (by lia) (by lia);rw[y0l]at this;rw[this];rfl
 .rw[y00 hlt,y1R hlt]
def ze0{n:Nat}{p:List Int}(h:IsP n p):IsP n (z2G p):=by have e:=z6n h.nodup;rw[h.len]at e;unfold z2G;rw[h.len];have q:((z0p n).map fun k=>((p.idxOf k:Nat):Int)).Perm (p.map fun k=>((p.idxOf k:Nat):Int)):=List.Perm.map _ (List.Perm.symm h);rw[e]at q;exact q
def zb8(r:Row):Row:=(z2G r.1,(z2G r.1).map fun l=>r.2.getD l.toNat 0)
def z2A(rows:List Row):List Row:=rows.map zb8
def z1F(rows:List Row):(z2A rows).length=rows.length:=y01 _
def z4J{rows:List Row}{i:Int}(h0:0<=i)(h1:i<(rows.length:Int)):row (z2A rows) i=zb8 (row rows i):=by have:=z40 h0 h1;unfold z2A row at *;rw[y03,y04,this];rfl
def zbN{n:Nat}{r:Row}(hp:IsP n r.1)(hl:r.2.length=n){k:Nat}(hk:k<n):∃j:Nat,j<n/\(z2G r.1)[k]?=some (j:Int)/\r.1[j]?=some (k:Int)/\∃g,r.2[j]?=some g/\(zb8 r).2[k]?=some g:=by obtain⟨j,hj,e1,e2⟩:=zcR hp hk;have e3:r.2[j]?=some r.2[j]:=y00 (by lia);refine⟨j,hj,e1,e2,r.2[j],e3,?_⟩;unfold zb8;rw[y04,e1];show some (r.2.getD ((j:Int)).toNat 0)=_;rw[y0l,y03,e3];rfl
def z6I{n:Nat}{r:Row}(hp:IsP n r.1):(zb8 r).2.length=n:=by show(List.map _ _).length=n;rw[y01,z9j,hp.len]
def zel{n:Nat}{r:Row}(hp:IsP n r.1)(hl:r.2.length=n){g:Int}(hg:g∈(zb8 r).2):g∈r.2:=by obtain⟨k,hk,e⟩:=y17 hg;rw[z6I hp]at hk;obtain⟨j,_,_,_,g',e3,e4⟩:=zbN hp hl hk;rw[y00 (by rw[z6I hp];exact hk),e]at e4;rw[y08 e4];exact y0z e3
def z1z{n:Nat}{rows:List Row}(G:z0h n rows):z0h n (z2A rows):=by
 refine⟨by rw[z1F];exact G.few,by rw[z1F];exact G.some,fun r hr=>?_,fun r hr=>?_,fun r hr g hg=>?_⟩
 .obtain⟨q,hq,rfl⟩:=y0a.mp hr;exact ze0 (G.perm q hq)
 .obtain⟨q,hq,rfl⟩:=y0a.mp hr;exact z6I (G.perm q hq)
 .obtain⟨q,hq,rfl⟩:=y0a.mp hr;rw[z1F];exact G.go q hq g (zel (G.perm q hq) (G.len q hq) hg)
def zec{n:Nat}{M:List Row}(G:z0h n M)(h:∀x∈z0g M,(row M x).1=z0p n):shr M=[(z0p n,List.replicate n 0)]:=by
 have GS:z0h n [(z0p n,List.replicate n (0:Int))]:=⟨by simp,by simp,fun r hr=>by rw[y07.mp hr];exact z9l n,fun r hr=>by rw[y07.mp hr];simp,fun r hr g hg=>by rw[y07.mp hr]at hg;have:=(y2U.mp (show g∈List.replicate n (0:Int)from hg)).2;rw[this];simp⟩
 have e:=zf6 (M':=M) (M:=[(z0p n,List.replicate n (0:Int))]) (h:=fun _=>0) G GS rfl fun x hx=>?_
 .rw[e,<-z5d GS];exact zaf GS fun r hr=>by rw[y07.mp hr]
 .obtain⟨x0,x1⟩:=(z0v G).1.rg x hx;show(z0p n,List.replicate n (0:Int))=_;rw[h x hx];refine y4a rfl ?_;show List.replicate n (0:Int)=(row M x).2.map fun _=>0;rw[List.map_const',G.len _ (z0t x0 x1)]
def zcs{n:Nat}{one:List Row}(G:z0h n one)(h4:one.length*(shr (z2A one)).length<=4000):shr (z1S one (shr (z2A one)))=[(z0p n,List.replicate n 0)]:=by
 have GA:=z1z G;have GF:=z2b GA;obtain⟨h,hz,mo⟩:=z9b GA;have GP:=z3c G GF h4;have C:=z38 GA;have L:=(z0v GA).1;have pt:∀x∈z0g (z2A one),∃i0:0<=x*((shr (z2A one)).length:Int)+h x,row (z1S one (shr (z2A one))) (x*((shr (z2A one)).length:Int)+h x)=zfW (shr (z2A one)).length (row one x) (row (shr (z2A one)) (h x)):=fun x hx=>by
  obtain⟨x0,x1⟩:=L.rg x hx;rw[z1F]at x1;obtain⟨f0,f1⟩:=zeV GA GF hz mo hx;obtain⟨i0,i1⟩:=zb0 x0 x1 f0 f1;refine⟨i0,?_⟩;rw[z51 i0 i1];have hm:(0:Int)<((shr (z2A one)).length:Int):=by lia
  have q1:(x*((shr (z2A one)).length:Int)+h x)/((shr (z2A one)).length:Int)=x:=by rw[y3N,y3y _ _ (by lia),y3z f0 f1];lia
  have q2:(x*((shr (z2A one)).length:Int)+h x)%((shr (z2A one)).length:Int)=h x:=by rw[y3N,y31,Int.emod_eq_of_lt f0 f1]
  rw[q1,q2]
 have cl:=(z4x GP).all (C:=fun i=>∃x∈z0g (z2A one),i=x*((shr (z2A one)).length:Int)+h x) (fun i hi g hg=>?_) (fun i hi=>?_)
 .refine zec GP fun i hi=>?_;obtain⟨x,hx,rfl⟩:=cl i hi;obtain⟨_,e⟩:=pt x hx;rw[e];obtain⟨x0,x1⟩:=L.rg x hx;rw[z1F]at x1;show z5B (row one x).1 (row (shr (z2A one)) (h x)).1=z0p n;rw[mo x hx,z4J x0 x1];exact zcm (G.perm _ (z0t x0 x1))
 .obtain⟨x,hx,rfl⟩:=hi;obtain⟨_,e⟩:=pt x hx;rw[e]at hg;obtain⟨x0,x1⟩:=L.rg x hx;rw[z1F]at x1;have hr:=z0t x0 x1;have hp:=G.perm _ hr;have hl:=G.len _ hr;obtain⟨k,hk,rfl⟩:=y0a.mp (show g∈(List.range (row one x).1.length).map _ from hg);have hk':k<n:=by have:=y1N.mp hk;rw[hp.len]at this;exact this
  have hpl:=hp.len;have e1:(row one x).1[k]?=some (row one x).1[k]:=y00 (by rw[hp.len];exact hk');obtain⟨l0,l1⟩:=z0L.mp (hp.mem_iff.mp (y0h (show k<(row one x).1.length by rw[hp.len];exact hk')));obtain⟨l,hl'⟩:=z3I l0;obtain⟨j,_,e2,e3,y,e4,e5⟩:=zbN hp hl (show l<n by lia);have hb:=z9p hp e1;rw[hl',y0l,e2]at hb;have ejk:j=k:=by have:=y08 hb;lia
  subst ejk;refine⟨y,C.cl x hx y ?_,?_⟩
  .rw[z4J x0 x1];exact y0z e5
  .rw[mo x hx,z4J x0 x1];show(row one x).2.getD j 0*_+((zb8 (row one x)).2.map h).getD ((row one x).1.getD j 0).toNat 0=_;rw[y03 (l:=(row one x).2),e4,y03 (l:=(row one x).1),e1];show y*_+((zb8 (row one x)).2.map h).getD ((row one x).1[j]).toNat 0=_;rw[hl',y0l,y03,y04,e5];rfl
 .rw[y07.mp hi];exact⟨0,C.zero,by rw[hz];lia⟩
def z6Q(K:yyF):Sp:=fun vs H Q _=>∃(a:V)(p:List Int)(n:Nat),vs=[a]/\Dr K H (D.its p) a/\IsP n p/\n<=1000/\z3E K H Q (D.its (z2G p))
def z53(K:yyF):Sp:=fun vs H Q _=>∃(v:V)(r:Row)(n:Nat),vs=[v]/\Dr K H (z8o r) v/\IsP n r.1/\r.2.length=n/\n<=60/\z3E K H Q (z8o (zb8 r))
def z9e(Ts:List Tb)(K:yyF)(Ct:Addr):Sp:=fun vs H Q E=>∃(v:V)(n:Nat)(one:List Row),vs=[v]/\z5F Ts H/\Dr K H (D.tup (z0B one)) v/\z0h n one/\n<=60 /\
 ((shr (z2A one)).length<=60->zeI Ts K H Q (D.tup (z0B (shr (z2A one)))))/\(60<(shr (z2A one)).length->zit Ts Ct E H)
def z1v(M:List Row):Int->List Int->List Int
 |_,[]=>[]
 |x,l::w=>(row M x).1.getD l.toNat 0::z1v M ((row M x).2.getD l.toNat 0) w
theorem z3v(M:List Row):∀(w:List Int)(x:Int),(z1v M x w).length=w.length
 |[],_=>rfl
 |_::w,x=>by show(z1v M _ w).length+1=w.length+1;rw[z3v M w]
theorem z6K(M:List Row):∀(w w':List Int)(x:Int),z1v M x (w++w')=z1v M x w++z1v M (goW M x w) w'
 |[],_,_=>rfl
 |l::w,w',x=>by show _::z1v M _ (w++w')=_::(z1v M _ w++z1v M (goW M _ w) w');rw[z6K M w w']
theorem z6l{n:Nat}{M:List Row}(G:z0h n M):∀(w:List Int)(x:Int),LW n w->0<=x->x<(M.length:Int)->LW n (z1v M x w)
 |[],_,_,_,_=>fun _ h=>by simp[z1v]at h
 |l::w,x,hw,h0,h1=>fun y hy=>by
  obtain⟨l0,l1⟩:=hw l y0i;have hm:=z0t h0 h1;have hi:l.toNat<(row M x).2.length:=by rw[G.len _ hm];lia
  have hp:=G.perm _ hm;have hi1:l.toNat<(row M x).1.length:=by rw[hp.len];lia
  rcases y0j.mp hy with rfl|hy
  .rw[y03,y00 hi1];exact z0L.mp (hp.mem_iff.mp (y0h hi1))
  .have hg:0<=(row M x).2.getD l.toNat 0/\(row M x).2.getD l.toNat 0<(M.length:Int):=by
    rw[y03,y00 hi];exact G.go _ hm _ (y0h hi)
   exact z6l G w _ hw.tail hg.1 hg.2 y hy
def z8u(K:yyF):Sp:=fun vs H Q _=>∃(v u:V)(rows:List Row)(n:Nat)(w:List Int)(s:Int),vs=[v,.int s,u]/\Dr K H (D.tup (z0B rows)) v/\Dr K H (D.its w) u/\z0h n rows/\n<=60/\w.length<=4900/\LW n w/\0<=s/\s<(rows.length:Int) /\
 ∀(r t:Addr)(H':Hp),z0c H H'->H' r=some (.tup [.ref t,.int (goW rows s w)])->H' t=some (.tup ((z1v rows s w).map V.int))->Q (.ref r) H'
def z9A(K:yyF)(Ct:Addr):Sp:=fun vs H Q E=>∃(v u:V)(rows:List Row)(n:Nat)(w:List Int),vs=[v,u]/\Dr K H (D.tup (z0B rows)) v/\Dr K H (D.its w) u/\z0h n rows/\n<=60/\w.length<=4900/\(LW n w->∀(t:Addr)(H':Hp),z0c H H'->H' t=some (.tup ((z1v rows 0 w).map V.int))->Q (.ref t) H')/\(¬LW n w->TMx Ct E H)
end Gu
namespace L2
open PySem PySem.Spec PyProof.Rows
section
variable{M:Model}{A:Around}{E:yyE}
variable{nm q:Str}{C N:Addr}{bs bm:List Value}{hdct:Bool}{sn:List Str}{sub:List Value}{ab:Bool}{col:Option Bool}{dd:Option Addr}{k0 k1 k2 k3 k5:Option Value}{newId:String}
variable{nm' q':Str}{C' N':Addr}{bs' bm':List Value}{hdct':Bool}{sn':List Str}{sub':List Value}{ab':Bool}{col':Option Bool}{dd':Option Addr}{k0' k1' k2' k3' k5':Option Value}{newId':String}
end
end L2
namespace Gu
open PySem L2
def dvm{m:Nat}{g e:Int}(e0:0<=e)(e1:e<(m:Int)):(g*(m:Int)+e)/(m:Int)=g/\(g*(m:Int)+e)%(m:Int)=e:=by
 have hm:(0:Int)<(m:Int):=by lia
 constructor
 .rw[y3N,y3y _ _ (by lia),y3z e0 e1];lia
 .rw[y3N,y31,Int.emod_eq_of_lt e0 e1]
def z9J{f:Int->Int}{l:List Int}{k:Nat}(h:k<l.length):(l.map f).getD k 0=f (l.getD k 0):=by rw[y03,y03,y04,y00 h];rfl
def z4B{n:Nat}{p:List Int}(h:IsP n p){k:Nat}(hk:k<n):0<=p.getD k 0/\p.getD k 0<(n:Int):=by have hl:=h.len;rw[y03,y00 (by lia)];exact z0L.mp (h.mem_iff.mp (y0h (show k<p.length by lia)))
def zgC{n:Nat}{M:List Row}(G:z0h n M){x:Int}(x0:0<=x)(x1:x<(M.length:Int)){k:Nat}(hk:k<n):0<=(row M x).2.getD k 0/\(row M x).2.getD k 0<(M.length:Int)/\(row M x).2.getD k 0∈(row M x).2:=by have hm:=z0t x0 x1;have hl:=G.len _ hm;rw[y03,y00 (by lia)];have:=y0h (show k<(row M x).2.length by lia);exact⟨(G.go _ hm _ this).1,(G.go _ hm _ this).2,this⟩
def z9N(n:Nat):List Row:=[(z0p n,List.replicate n 0)]
def zbq{p q:List Int}{k:Nat}(h:k<p.length):(z5B p q).getD k 0=q.getD (p.getD k 0).toNat 0:=by unfold z5B;rw[z9J (f:=fun x=>q.getD x.toNat 0) h]
def zbB{m:Nat}{R S:Row}{k:Nat}(h:k<R.1.length):(zfW m R S).2.getD k 0=R.2.getD k 0*(m:Int)+S.2.getD (R.1.getD k 0).toNat 0:=by show(List.map _ (List.range R.1.length)).getD k 0=_;rw[y03,y04,List.getElem?_range h];rfl
def zgW{L:Nat}{k:Nat}(h:k<L):(z0p L)[k]?=some (k:Int):=by have:=z1o (L:=L) (i:=(k:Int)) (by lia) (by lia);rw[y0l]at this;exact this
def pw(n:Nat)(one:List Row):Nat->List Row
 |0=>z9N n
 |j+1=>shr (z1S (pw n one j) one)
end Gu
namespace L2
open PySem PySem.Spec PyProof.Rows
def zc3(its:List Value):slicePick its.toArray none none (some (-1))=its.reverse.toArray:=by
 have eb:sliceBounds none none (some (-1)) its.toArray.size=((its.length:Int)-1,-1,-1):=by simp only[sliceBounds,y3V,y0C];rfl
 unfold slicePick;rw[eb];congr 1;have h:=HT.fm_rev its its.length (y0b _);rw[y0x (by rw[y3g];exact y0b _)]at h;rw[<-h];have er:sliceRange ((its.length:Int)-1) (-1) (-1)=(List.range its.length).map fun m=>its.length-1-m:=by
  have ec:(if((its.length:Int)-1) > -1 then(((its.length:Int)-1) - -1 - -1-1)/(- -1)else 0)=(its.length:Int):=by
   by_cases hn:(its.length:Int)-1 > -1
   .rw[if_pos hn,show(- -1:Int)=1 by decide,Int.ediv_one];lia
   .rw[if_neg hn];lia
  unfold sliceRange;simp only[show ¬((-1:Int)>0)by decide,y1H];rw[ec,y0l];refine y0L fun m hm=>?_;lia
 show(sliceRange ((its.length:Int)-1) (-1) (-1)).filterMap _=_;rw[er,List.filterMap_map];refine HT.fm_congr fun m hm=>?_;show its.toArray[its.length-1-m]?=_;rw[List.getElem?_toArray]
section
variable{X:Cx}{e st:Expr}{te ts:TE}{pos p2:Pos}
def zhp(K:yyF)(te ts:TE):TE:=fun σ H Q=>te σ H fun x H1=>ts σ H1 fun y H2=>y=.int (-1)/\∃a xs,x=.ref a/\SqL K H2 a xs/\∀p,H2 p=none->Q (.ref p) (upd H2 p (.lst xs.reverse))
def zfo(he:PE X e te)(hst:PE X st ts):PE X (.Subscript e (.Slice none none (some st) p2) pos) (zhp X.K te ts):=by
 intro pins s σ H Q I h;refine Subscript_ (z1P (he pins s σ H _ I h) fun v s1 x H1 I1 r1 q1=>?_);refine wpAny_Slice ?_;rw[evalPart_none];refine y09 (y09 ?_);rw[evalPart_some];refine z1P (hst pins s1 σ H1 _ I1 q1) fun vt s2 y H2 I2 ry hz9=>?_;obtain⟨ey,a,xs,ex,hx,q⟩:=hz9;subst ey ex;obtain⟨t,rfl⟩:=ry;cases r1;have I4:Inv X pins σ H2 { s2 with heap:=s2.heap.push { cls:=.type "slice",data:=.fields #[.none,.none,.int (-1) t] } }:=I2.kept (t':=s2.toks) fun b ob q=>y05 _ q;generalize hs5:({ s2 with heap:=s2.heap.push { cls:=.type "slice",data:=.fields #[.none,.none,.int (-1) t] } }:Shared)=s5 at I4;have hsl:s5.heap.IsSliceOf s2.heap.objs.size .none .none (.int (-1) t):=by rw[<-hs5];exact Heap.IsSliceOf.new ..
 obtain⟨its,r,ht,hz⟩:=I4.list hx;have hlen:its.toArray.size=xs.length:=by rw[y0C];exact r.length.symm
 have hg:wpAny (model X.prog X.w) X.A (getItem (.ref a) (.ref s2.heap.objs.size)) (EP X pins σ Q) X.xe s5:=by refine wpAny_getItem_list_slice ht.isList hsl .none .none (.int _ _) (by simp) ?_ (by rw[hlen];exact hz);rw[zc3];refine⟨.ref s5.heap.objs.size,_,I4.laid (t':=s5.toks) (o:=.lst xs.reverse) (fun b ob q=>y05 _ q) (y0b _) ?_,rfl,q _ (I4.hok.fresh (y0b _))⟩;exact⟨by rw[y3g];exact hz,_,0,r.reverse,y0e _ rfl⟩
 exact tail_any (ops:=[.ref a,.ref s2.heap.objs.size]) ht.isList.typeIs slot_list_getitem.lookup hg (by with_unfolding_all rfl)
end
end L2
namespace Gu
open PySem L2
def z2I(n:Int)(w:List Int):Int:=w.foldl (fun a l=>a*n+l) 0
def z2O(n:Int)(w:List Int)(l:Int):z2I n (w++[l])=z2I n w*n+l:=by unfold z2I;rw[y2c];rfl
def lit(n:Int):Nat->Int->List Int
 |0,_=>[]
 |k+1,x=>x%n::lit n k (x/n)
def dvn(n:Int):Nat->Int->Int
 |0,x=>x
 |k+1,x=>dvn n k (x/n)
theorem z9T(n:Int):∀(k:Nat)(x:Int),dvn n (k+1) x=dvn n k x/n
 |0,_=>rfl
 |k+1,x=>z9T n k (x/n)
theorem za4(n:Int):∀(k:Nat)(x:Int),lit n (k+1) x=lit n k x++[dvn n k x%n]
 |0,_=>rfl
 |k+1,x=>by show x%n::lit n (k+1) (x/n)=x%n::(lit n k (x/n)++[dvn n k (x/n)%n]);rw[za4 n k (x/n)]
theorem z8v(n:Int):∀(k:Nat)(x:Int),(lit n k x).length=k
 |0,_=>rfl
 |k+1,x=>by show(lit n k (x/n)).length+1=k+1;rw[z8v n k]
theorem z95{n:Int}(hn:0<n):∀(k:Nat)(x:Int),dvn n k x=0↔0<=x/\x<n^k
 |0,x=>by
  show x=0↔_;rw[Int.pow_zero];lia
 |k+1,x=>by
  show dvn n k (x/n)=0↔_;rw[z95 hn k (x/n),Int.pow_succ];constructor
  .rintro⟨h0,h1⟩;refine⟨?_,?_⟩
   .rcases Int.lt_or_le x 0 with z|z
    .have:=Int.ediv_neg_of_neg_of_pos z hn;lia
    .exact z
   .exact(y1U hn).mp h1
  .rintro⟨h0,h1⟩;exact⟨y30 h0 (by lia),(y1U hn).mpr h1⟩
def z4y(n:Int)(k:Nat)(x:Int):List Int:=(lit n k x).reverse
def z3b(n:Int)(k:Nat)(x:Int):(z4y n k x).length=k:=by unfold z4y;rw[y3g,z8v]
def z2C{n:Nat}(hn:0<n)(k:Nat)(x:Int):LW n (z4y n k x):=by
 have:∀(k:Nat)(x:Int),LW n (lit n k x):=fun k=>by
  induction k with
  |zero=>exact fun x l h=>by simp[lit]at h
  |succ k ih =>
   intro x l h;rcases y0j.mp h with rfl|h
   .exact⟨y2z _ (by lia),y28 _ (by lia)⟩
   .exact ih _ l h
 exact fun l h=>this k x l (List.mem_reverse.mp h)
theorem z9z{n:Nat}(hn:0<n):∀(r:List Int),LW n r.reverse->z4y n r.length (z2I n r.reverse)=r.reverse/\0<=z2I n r.reverse/\z2I n r.reverse<(n:Int)^r.length
 |[],_=>⟨rfl,by simp[z2I],by simp[z2I]⟩
 |l::r,h=>by
  rw[y1w]at h⊢;obtain⟨e,h0,h1⟩:=z9z hn r fun x hx=>h x (y0t _ hx);obtain⟨l0,l1⟩:=h l (by simp);rw[z2O];have hm:(0:Int)<(n:Int):=by lia
  obtain⟨q1,q2⟩:=dvm (m:=n) (g:=z2I n r.reverse) l0 l1;refine⟨?_,?_,?_⟩
  .show(lit n (r.length+1) _).reverse=_;show((z2I n r.reverse*(n:Int)+l)%(n:Int)::lit n r.length ((z2I n r.reverse*(n:Int)+l)/(n:Int))).reverse=_;rw[q1,q2,y1w];exact y1G (·++[l]) e
  .have:=Int.mul_nonneg h0 (Int.le_of_lt hm);lia
  .rw[y0N,Int.pow_succ];have h2:(z2I n r.reverse+1)*(n:Int)<=(n:Int)^r.length*(n:Int):=Int.mul_le_mul_of_nonneg_right (by lia) (by lia);rw[Int.add_mul,Int.one_mul]at h2;lia
def z1p{n:Nat}(hn:0<n){w:List Int}(h:LW n w):z4y n w.length (z2I n w)=w/\0<=z2I n w/\z2I n w<(n:Int)^w.length:=by have:=z9z hn w.reverse (by rw[y1z];exact h);rw[y1z,y3g]at this;exact this
def z8p(K:yyF)(Ct:Addr):Sp:=fun vs H Q E=>∃(n:Nat)(u:V)(w:List Int),vs=[.int n,u]/\Dr K H (D.its w) u/\n<=60/\w.length<=4900/\(LW n w->∀H',z0c H H'->Q (.int (z2I n w)) H')/\(¬LW n w->TMx Ct E H)
def zai(n:Nat)(many x:Int):Prop:=0<=many/\many<=1000/\0<=x/\x<(n:Int)^many.toNat
def z4I(K:yyF)(Cb:Addr):Sp:=fun vs H Q E=>∃(n:Nat)(many x:Int),vs=[.int n,.int many,.int x]/\0<n/\n<=60/\(zai n many x->∀(t:Addr)(H':Hp),z0c H H'->H' t=some (.tup ((z4y n many.toNat x).map V.int))->Q (.ref t) H')/\(¬zai n many x->TMx Cb E H)
def z8g(K:yyF):Sp:=fun vs H Q _=>∃(n:Nat)(m:Nat),vs=[.int n,.int m]/\0<n/\n<=60/\m<=100000/\Q (.int ((n:Int)^m)) H
def z1d(n:Nat)(one:List Row)(m:Nat):List Int:=(z0p (n^m)).map fun x=>z2I n (z1v one 0 (z4y n m x))
def z3a(n:Nat)(one:List Row)(m:Nat):(z1d n one m).length=n^m:=by unfold z1d;rw[y01,z0y]
def z6C{α:Type}(f:Int->α)(L i:Nat)(h:i<L):((z0p L).map f).take (i+1)=((z0p L).map f).take i++[f (i:Int)]:=by rw[y0D];congr 1;rw[y04,zgW h];rfl
def z7F{n m:Nat}(n2:2<=n)(h:n^m<=1024):m<=10:=by
 rcases y1q 10 m with z|z
 .have h1:2^11<=2^m:=y2u (by decide) z;have h2:2^m<=n^m:=Nat.pow_le_pow_left n2 m;have:(2:Nat)^11=2048:=by decide
  lia
 .exact z
def z5T(n:Nat):Int:=if n=2 then 10 else if n=3 then 6 else if n=4 then 5 else 4
def zfq{n:Nat}(n2:2<=n)(n5:n<=5):atI [V.int 10,V.int 6,V.int 5,V.int 4] ((n:Int)-2)=some (V.int (z5T n)):=by
 have cs:n=2\/n=3\/n=4\/n=5:=by lia
 rcases cs with rfl|rfl|rfl|rfl
 .exact z0z (j:=0) rfl
 .exact z0z (j:=1) rfl
 .exact z0z (j:=2) rfl
 .exact z0z (j:=3) rfl
def zdS{n:Nat}(n2:2<=n)(n5:n<=5)(m:Nat):(m:Int)>z5T n↔1024<n^m:=by
 have up:∀(b k:Nat),1<=b->1024<b^k->k<=m->1024<b^m:=fun b k hb h hk=>y0r h (y2u hb hk);have dn:∀(b k:Nat),1<=b->b^k<=1024->m<=k->¬1024<b^m:=fun b k hb h hk=>by have:=y2u hb hk;lia
 have cs:n=2\/n=3\/n=4\/n=5:=by lia
 rcases cs with rfl|rfl|rfl|rfl
 .show(m:Int)>10↔_;exact⟨fun h=>up 2 11 (by decide) (by decide) (by lia),fun h=>y1F fun z=>dn 2 10 (by decide) (by decide) (by lia) h⟩
 .show(m:Int)>6↔_;exact⟨fun h=>up 3 7 (by decide) (by decide) (by lia),fun h=>y1F fun z=>dn 3 6 (by decide) (by decide) (by lia) h⟩
 .show(m:Int)>5↔_;exact⟨fun h=>up 4 6 (by decide) (by decide) (by lia),fun h=>y1F fun z=>dn 4 5 (by decide) (by decide) (by lia) h⟩
 .show(m:Int)>4↔_;exact⟨fun h=>up 5 5 (by decide) (by decide) (by lia),fun h=>y1F fun z=>dn 5 4 (by decide) (by decide) (by lia) h⟩
def z2W(K:yyF)(Ct Cb:Addr):Sp:=fun vs H Q E=>∃(n:Nat)(many:Int),vs=[.int n,.int many]/\2<=n/\n<=5/\many<2^61/\(many<0->TMx Cb E H)/\(0<=many->1024<n^many.toNat->TMx Ct E H)/\(0<=many->n^many.toNat<=1024->Q (.int ((n^many.toNat:Nat):Int)) H)
def zir(H:Hp)(Q:VK)(xs:List Int):Prop:=∀(r:Addr)(H':Hp),z0c H H'->H r=none->H' r=some (.lst (xs.map V.int))->Q (.ref r) H'
def z8R(K:yyF)(Ct Cb:Addr):Sp:=fun vs H Q E=>∃(v:V)(one:List Row)(n:Nat)(many:Int),vs=[v,.int many]/\Dr K H (D.tup (z0B one)) v/\z0h n one/\2<=n/\n<=5/\many<2^61/\(many<0->TMx Cb E H)/\(0<=many->1024<n^many.toNat->TMx Ct E H)/\(0<=many->n^many.toNat<=1024->zir H Q (z1d n one many.toNat))
def z4Q(K:yyF):Sp:=fun vs H Q _=>∃(n:Nat),vs=[.int n]/\2<=n/\n<=5/\∀H',z0c H H'->Q (.int (z5T n)) H'
def zh2{l:List Int}(h:l.Nodup){i j:Nat}(hi:i<l.length)(hj:j<l.length)(e:l[i]=l[j]):i=j:=by
 rcases Nat.lt_trichotomy i j with z|z|z
 .exact absurd e (y12.mp h i j hi hj z)
 .exact z
 .exact absurd e.symm (y12.mp h j i hj hi z)
theorem z7e{n:Nat}{M:List Row}(G:z0h n M):∀(w w':List Int)(x:Int),LW n w->LW n w'->0<=x->x<(M.length:Int)->w.length=w'.length->z1v M x w=z1v M x w'->w=w'
 |[],[],_,_,_,_,_,_,_=>rfl
 |[],_::_,_,_,_,_,_,h,_=>by simp at h
 |_::_,[],_,_,_,_,_,h,_=>by simp at h
 |l::w,l'::w',x,h,h',x0,x1,hl,e=>by
  have hm:=z0t x0 x1;have hp:=G.perm _ hm;have hpl:=hp.len;obtain⟨a0,a1⟩:=h l y0i;obtain⟨b0,b1⟩:=h' l' y0i;have e':(row M x).1.getD l.toNat 0::z1v M ((row M x).2.getD l.toNat 0) w=(row M x).1.getD l'.toNat 0::z1v M ((row M x).2.getD l'.toNat 0) w':=e;injection e' with e1 e2;have nd:(row M x).1.Nodup:=hp.nodup_iff.mpr (z1h n);have i1:l.toNat<(row M x).1.length:=by lia
  have i2:l'.toNat<(row M x).1.length:=by lia
  rw[y03,y03,y00 i1,y00 i2]at e1;have e3:l.toNat=l'.toNat:=zh2 nd i1 i2 e1;have e4:l=l':=by lia
  subst e4;obtain⟨g0,g1,_⟩:=zgC G x0 x1 (show l.toNat<n by lia);rw[z7e G w w' _ h.tail h'.tail g0 g1 (by simpa using hl) e2]
def itW(M:List Row):Nat->List Int->List Int
 |0,w=>w
 |k+1,w=>z1v M 0 (itW M k w)
theorem z2F(M:List Row):∀(k:Nat)(w:List Int),(itW M k w).length=w.length
 |0,_=>rfl
 |k+1,w=>by show(z1v M 0 _).length=_;rw[z3v,z2F M k w]
theorem z3g{n:Nat}{M:List Row}(G:z0h n M):∀(k:Nat)(w:List Int),LW n w->LW n (itW M k w)
 |0,_,h=>h
 |k+1,w,h=>z6l G _ 0 (z3g G k w h) (y1u 0) (by have:=G.some;lia)
theorem zbt(M:List Row)(j:Nat):∀(k:Nat)(w:List Int),itW M (k+j) w=itW M k (itW M j w)
 |0,w=>by rw[y2Y];rfl
 |k+1,w=>by rw[Nat.succ_add];show z1v M 0 (itW M (k+j) w)=z1v M 0 (itW M k (itW M j w));rw[zbt M j k w]
theorem zd0{n:Nat}{M:List Row}(G:z0h n M):∀(k:Nat)(w w':List Int),LW n w->LW n w'->w.length=w'.length->itW M k w=itW M k w'->w=w'
 |0,_,_,_,_,_,e=>e
 |k+1,w,w',h,h',hl,e=>zd0 G k w w' h h' hl (z7e G _ _ 0 (z3g G k w h) (z3g G k w' h') (y1u 0) (by have:=G.some;lia) (by rw[z2F,z2F,hl]) e)
def z68(M:List Row)(w:List Int)(r:Nat):Prop:=1<=r/\itW M r w=w/\∀k,1<=k->k<r->itW M k w≠w
theorem zeq(p:Nat->Prop):∀(N:Nat),(∃k,1<=k/\k<=N/\p k)->∃r,1<=r/\p r/\∀k,1<=k->k<r->¬p k
 |0,h=>by obtain⟨k,h1,h2,_⟩:=h;lia
 |N+1,h=>by
  by_cases e:∃k,1<=k/\k<=N/\p k
  .exact zeq p N e
  .obtain⟨k,h1,h2,hp⟩:=h;have:k=N+1:=y0Y fun z=>e ⟨k,h1,by lia,hp⟩;subst this;exact⟨N+1,h1,hp,fun j j1 j2 z=>e ⟨j,j1,by lia,z⟩⟩
def z8a{L:Nat}{f:Nat->Int}(h:¬((List.range L).map f).Nodup):∃i j,i<j/\j<L/\f i=f j:=by refine y0Y fun z=>h ?_;rw[y1b,y1W];refine y2A (R:=fun a b=>a<b) (fun{a b} ha hb hab e=>?_) y2Q;exact z ⟨a,b,hab,y1N.mp hb,e⟩
def z9o{n:Nat}{M:List Row}(G:z0h n M)(n0:0<n){w:List Int}(h:LW n w):∃r,z68 M w r/\r<=n^w.length:=by
 have nn:¬((List.range (n^w.length+1)).map fun k=>z2I n (itW M k w)).Nodup:=fun z=>by
  have:=z24 (n:=n^w.length) z fun x hx=>by obtain⟨k,_,rfl⟩:=y0a.mp hx;obtain⟨_,h0,h1⟩:=z1p n0 (z3g G k w h);rw[z2F]at h1;exact⟨h0,by rw[y3v];exact h1⟩
  rw[y01,y1Z]at this;lia
 obtain⟨i,j,hij,hj,e⟩:=z8a nn;have ei:itW M i w=itW M j w:=by have h1:=(z1p n0 (z3g G i w h)).1;have h2:=(z1p n0 (z3g G j w h)).1;rw[z2F]at h1 h2;rw[<-h1,<-h2,e]
 have ej:j=i+(j-i):=by lia
 rw[ej,zbt]at ei;have z2G:=zd0 G i w (itW M (j-i) w) h (z3g G _ w h) (by rw[z2F]) ei;obtain⟨r,r1,rp,rm⟩:=zeq (fun k=>itW M k w=w) (j-i) ⟨j-i,by lia,y0b _,z2G.symm⟩;refine⟨r,⟨r1,rp,rm⟩,?_⟩;have:r<=j-i:=Nat.le_of_not_lt fun z=>rm (j-i) (by lia) z z2G.symm;lia
def itT(tab:List Int):Nat->Int->Int
 |0,x=>x
 |k+1,x=>tab.getD (itT tab k x).toNat 0
def z96{n m:Nat}{M:List Row}{x:Int}(x0:0<=x)(x1:x<((n^m:Nat):Int)):(z1d n M m)[x.toNat]?=some (z2I n (z1v M 0 (z4y n m x))):=by unfold z1d;rw[y04,z1o x0 x1];rfl
def zbo{n:Nat}(n0:0<n){w:List Int}(h:LW n w):0<=z2I n w/\z2I n w<((n^w.length:Nat):Int):=by obtain⟨_,h0,h1⟩:=z1p n0 h;exact⟨h0,by rw[y3v];exact h1⟩
theorem z8w{n:Nat}{M:List Row}(G:z0h n M)(n0:0<n){w:List Int}(h:LW n w):∀k,itT (z1d n M w.length) k (z2I n w)=z2I n (itW M k w)
 |0=>rfl
 |k+1=>by show(z1d n M w.length).getD (itT _ k _).toNat 0=_;rw[z8w G n0 h k];have hk:=z3g G k w h;have hl:=z2F M k w;obtain⟨a0,a1⟩:=zbo n0 hk;rw[hl]at a1;rw[y03,z96 a0 a1];have e:=(z1p n0 hk).1;rw[hl]at e;show z2I n (z1v M 0 (z4y n w.length (z2I n (itW M k w))))=_;rw[e];rfl
def zeG(tab:List Int)(x:Int)(r:Nat):Prop:=1<=r/\itT tab r x=x/\∀k,1<=k->k<r->itT tab k x≠x
def zcp{n:Nat}{M:List Row}(G:z0h n M)(n0:0<n){w:List Int}(h:LW n w){r:Nat}(R:z68 M w r):zeG (z1d n M w.length) (z2I n w) r:=by obtain⟨r1,e,lt⟩:=R;refine⟨r1,by rw[z8w G n0 h,e],fun k k1 k2 z=>lt k k1 k2 ?_⟩;rw[z8w G n0 h]at z;have h1:=(z1p n0 (z3g G k w h)).1;have h2:=(z1p n0 h).1;rw[z2F]at h1;exact h1.symm.trans ((y1G (z4y n w.length) z).trans h2)
def z9D{n:Nat}(n0:0<n)(m:Nat):LW n (List.replicate m 0):=fun x hx=>by rw[(y2U.mp hx).2];lia
theorem z7L(n:Int):∀m:Nat,z2I n (List.replicate m 0)=0
 |0=>rfl
 |m+1=>by rw[List.replicate_succ',z2O,z7L n m];lia
def z4D(K:yyF)(Cw Ct:Addr):Sp:=fun vs H Q E=>∃(v u:V)(one:List Row)(n:Nat)(w:List Int),vs=[v,u]/\Dr K H (D.tup (z0B one)) v/\Dr K H (D.its w) u/\z0h n one/\2<=n/\n<=5/\w.length<=4900/\(LW n w->n^w.length<=1024->∀r,z68 one w r->∀H',z0c H H'->Q (.int (r:Int)) H')/\(LW n w->1024<n^w.length->TMx Ct E H)/\(¬LW n w->TMx Cw E H)
def z6k(K:yyF)(Ct Cb:Addr):Sp:=fun vs H Q E=>∃(v:V)(one:List Row)(n:Nat)(many:Int),vs=[v,.int many]/\Dr K H (D.tup (z0B one)) v/\z0h n one/\2<=n/\n<=5/\many<2^61/\(many<0->TMx Cb E H)/\(0<=many->1024<n^many.toNat->TMx Ct E H)/\(0<=many->n^many.toNat<=1024->∀r,z68 one (List.replicate many.toNat 0) r->∀H',z0c H H'->Q (.bl (decide (r=n^many.toNat))) H')
def fits(n:Nat)(one:List Row)(m:Nat):Prop:=∀i,i<=m->(pw n one i).length<=60
def zgs{α:Type}{us:List α}(h:us.length=1):∃a,us=[a]:=by
 cases us with
 |nil=>cases h
 |cons a r =>
  cases r with
  |nil=>exact⟨a,rfl⟩
  |cons _ _=>simp at h
def zhR{α:Type}{us:List α}(h:us.length=2):∃a b,us=[a,b]:=by
 cases us with
 |nil=>cases h
 |cons a r =>
  obtain⟨b,rfl⟩:=zgs (show r.length=1 by simpa using h);exact⟨a,b,rfl⟩
def zj0{α:Type}{us:List α}(h:us.length=3):∃a b c,us=[a,b,c]:=by
 cases us with
 |nil=>cases h
 |cons a r =>
  obtain⟨b,c,rfl⟩:=zhR (show r.length=2 by simpa using h);exact⟨a,b,c,rfl⟩
section
variable(P:Program)(w:World)(K:yyF)(mg:yyS)(base:Heap)(CX:CXT)(k:Nat)
def z8D(Cm:V->Addr->Hp->List Row->Prop):Sp:=fun vs H Q _=>∃(f:Addr)(v0:V)(n:Nat)(rows:List Row),vs=[v0,.ref f]/\Cm v0 f H rows/\z0h n rows/\n<=60/\∀(r:Addr)(H':Hp),z0c H H'->z3D K H' r (z0E rows)->Q (.ref r) H'
def z6s(Cm:V->Addr->Hp->List Row->Prop)(Ct:Addr):Sp:=fun vs H Q E=>∃(f:Addr)(v0:V)(n:Nat)(rows:List Row),vs=[v0,.ref f]/\Cm v0 f H rows/\z0h n rows/\n<=60 /\
 ((shr rows).length<=60->z3E K H Q (D.tup (z0B (shr rows))))/\(60<(shr rows).length->TMx Ct E H)
def CmF:V->Addr->Hp->List Row->Prop:=fun v0 f H rows=>∃nm:Int->Int,v0=.int (nm 0)/\(∀x y,nm x=nm y->x=y)/\z3A P w K mg base CX k H f (zdG K rows nm)
def CmP:V->Addr->Hp->List Row->Prop:=fun v0 f H rows=>∃m:Nat,Dr K H (pr m 0) v0/\z3A P w K mg base CX k H f (z9X K rows m)
end
section
variable{P:Program}{w:World}{K:yyF}{mg:yyS}{base:Heap}{CX:CXT}{k:Nat}{Ct:Addr}
def zgf(vs:List V)(H:Hp)(Q:VK)(E:XK)(h:z8D K (CmF P w K mg base CX k) vs H Q E):z8Z P w K mg base CX k vs H Q E:=by obtain⟨f,v0,n,rows,rfl,⟨nm,rfl,ni,hV⟩,G,hn,q⟩:=h;exact⟨f,n,rows,nm,rfl,ni,hV,G,hn,q⟩
def zh6(vs:List V)(H:Hp)(Q:VK)(E:XK)(h:z8D K (CmP P w K mg base CX k) vs H Q E):z8y P w K mg base CX k vs H Q E:=by obtain⟨f,v0,n,rows,rfl,⟨m,d,hV⟩,G,hn,q⟩:=h;exact⟨f,v0,n,rows,m,rfl,d,hV,G,hn,q⟩
def zfk(vs:List V)(H:Hp)(Q:VK)(E:XK)(h:z74 P w K mg base CX k Ct vs H Q E):z6s K (CmF P w K mg base CX k) Ct vs H Q E:=by obtain⟨f,n,rows,nm,rfl,ni,hV,G,hn,q⟩:=h;exact⟨f,_,n,rows,rfl,⟨nm,rfl,ni,hV⟩,G,hn,q⟩
def zf8(vs:List V)(H:Hp)(Q:VK)(E:XK)(h:z6t P w K mg base CX k Ct vs H Q E):z6s K (CmP P w K mg base CX k) Ct vs H Q E:=by obtain⟨f,v0,n,rows,m,rfl,d,hV,G,hn,q⟩:=h;exact⟨f,v0,n,rows,rfl,⟨m,d,hV⟩,G,hn,q⟩
end
end Gu
namespace L2
open PySem PySem.Spec PyProof.Rows
section
variable{prog:Program}{w:World}{A:Around}{R:Result->Shared->Prop}{s:Shared}
end
section
variable{X:Cx}{pins:yyP}{σ:St}{H:Hp}{s:Shared}{N:List Str}{ix:List (Option Nat)}{scope:Scope}{elt iter tg cx:Expr}{pos:Pos}{g:TG}{tt:TT}{te:TE}{E:yyE}
end
section
variable{X:Cx}{pins:yyP}{σ:St}{H:Hp}{s:Shared}{N:List Str}{ix:List (Option Nat)}{scope:Scope}{elt iter tg cx:Expr}{pos:Pos}{te:TE}{E:yyE}
end
def z7f(CX:CXT)(X:Cx)(σ0:St)(E:XK):Prop:=∀(pins:yyP)(H:Hp)(s:Shared)(e:Value)(s':Shared),Inv X pins σ0 H s->CX X.stack H s E e s'->X.xe e s'
def tAt(σ0:St)(t:TE):TE:=fun σ H Q=>σ=σ0/\t σ H Q
section
variable{X:Cx}{CX:CXT}{k:Nat}{f C:Addr}{fd:FuncData}{ps:List Str}{sp:Sp}{dvs:List V}{ds:List Value}{E:XK}{x m:Str}{p pos apos:Pos}{e o:Expr}{es:List Expr}{ta:TE}{t:TA}{σ0:St}
def zf3{pins:yyP}{H:Hp}{s:Shared}{Q:VK}{us:List Value}{vs:List V}(F:z0u X.prog X.w X.K X.mg X.base CX k f fd ps sp)(hr:z3s k X.A)(hb:z0j X.K fd ps ds)(hd:z0T dvs ds)(hx:z7f CX X σ0 E)(I:Inv X pins σ0 H s)(r:z0T vs us)(h:sp (vs++dvs) H Q E):wpAny (model X.prog X.w) X.A (call (.ref f) us) (EP X pins σ0 Q) X.xe s:=by
 have r2:z0T (vs++dvs) (us++ds):=r.append hd;have hl:(us++ds).length=ps.length:=by rw[<-r2.length];exact F.len _ _ _ _ h
 refine wpAny_call (y2F (F.run X.A X.stack s H ⟨us,[]⟩ (us++ds) (vs++dvs) Q E hr I.env0 (hb s us I.kIn hl) r2 h) fun r s' hq=>?_);cases r with
 |error e=>exact hx pins H s e s' I hq
 |ok fl =>
  cases fl with
  |ret u=>exact I.after hq
  |next=>exact False.elim hq
  |brk=>exact False.elim hq
  |cont=>exact False.elim hq
end
def XES(C:Addr)(σ0:St)(th:TS)(D:z46):XK:=fun _ C' H'=>C'=some C/\th D σ0 H'
def zfp{X:Cx}{x:Str}{C:Addr}{newId:String}{bmB:List Value}{np hpos pos:Pos}{body suite:List Stmt}{b₀:Stmt}{tb:z46->St->TS}{th:TS}(hfr:X.env.frame=some X.env.locals)(hstk:X.stack=X.env::X.outer)(hx:X.mg x=some (.ref C))(hg:Gl X x)(he:PySem.W.excIn X.K C bmB newId=true)(hB:bmB.contains (.type "BaseException")=true)(hb:∀pn E1 D σ0,z7f (CXx X.prog X.w) (X.tried pn E1) σ0 (XES C σ0 th D)->PSs (X.tried pn E1) body (tb D σ0))(hs:∀e,PSs (X.sup e) (b₀::suite) th)(hdb:(x==("__debug__":Str))=false:=by decide) : PS X (.Try body [.ExceptHandler (some (.Name x np)) none (b₀::suite) hpos] [] [] pos) (fun D σ H=>tb D σ D σ H):=by
 intro pins s σ H D I h;refine wpAny_Try_except ?_;have pass:z7f (CXx X.prog X.w) (X.tried (X.pn++pins) fun e s₁=>wpAny (model X.prog X.w) X.A (noteFrame e X.env) (fun _ s₂=>wpAny (model X.prog X.w) X.A (setFlight e none) (fun _ s₃=>wpAny (model X.prog X.w) X.A (handleBy e X.env [.ExceptHandler (some (.Name x np)) none (b₀::suite) hpos]) (SP X pins D) X.xe s₃) X.xe s₂) X.xe s₁) σ (XES C σ th D):=by
  intro pins' H1 s1 e s' I1 hx';obtain⟨ea,Ce,H',rfl,os,bare,un,hok,fly,hC,hth⟩:=hx';cases hC;have J:=I1.call' (ch:=[]) os un hok bare (fun b z=>absurd z (by simp));have FF:s'.heap.FunFrames X.base (X.env::X.outer):=by have:=J.stack;rw[show(X.tried (X.pn++pins) _).stack=X.stack from rfl,hstk]at this;exact this
  have un':Un (frs (X.env::X.outer)) [] H1 H' s1.heap s'.heap:=by rw[<-hstk];exact un
  have hfree:∀b∈frs (X.env::X.outer),H' b=none/\(b∈frs (X.env::X.outer)\/s1.heap.get? b=none):=fun b hb=>⟨J.stkFree b (by show b∈frs X.stack;rw[hstk];exact hb),.inl hb⟩;refine zf7 (P:=X.prog) (w:=X.w) (fr:=frs (X.env::X.outer)) (H1:=H1) (H':=H') (h1:=s1.heap) (base:=X.base) (outer:=X.outer) (L:=X.env.locals) (by rw[I.ok.frames,hstk]) hfr FF un' hok hfree (fun b hb=>hb) fly fun h2 u2 k2 f2=>?_;have mk:∀h3,Un (frs (X.env::X.outer)) [] H1 H' s1.heap h3->HOk X.prog X.w H' h3->Inv (X.sup ea) pins σ H' { s' with heap:=h3 }:=fun h3 u3 k3=>by have J3:=I1.call' (s':={ s' with heap:=h3 }) (ch:=[]) os (by show Un (frs X.stack) [] H1 H' s1.heap h3;rw[hstk];exact u3) k3 bare (fun b z=>absurd z (by simp));exact⟨I.ok.sup ea,J3.os,J3.bare,J3.base,J3.loc,J3.cell,J3.free,J3.freeC,fun p hp=>J3.pin p (y0t _ hp),J3.hok,J3.len⟩
  have J2:=mk h2 u2 k2;obtain⟨bm,NN,nm,q,bs,hd,sn,sub,ab,col,dict,a0,a1,a2,a3,a5,mN,hC,hN,hi,ht⟩:=zcN J2.kIn he;refine wpAny_handleBy_cons (codeAny_handlers_test (z4i J2 hg hx ?_ hdb)) (by intro z;cases z);obtain⟨_,_,b0,oe,vs,T,oT,ts,g1,⟨g2,_⟩,_⟩:=id f2;refine wpAny_excMatches_sub_self hC g1 g2 (zab ht hB) ?_;refine codeAny_handlers_suite ?_;refine zdN (P:=X.prog) (w:=X.w) (fr:=frs (X.env::X.outer)) (H1:=H1) (H':=H') (h1:=s1.heap) (base:=X.base) (env:=X.env) (outer:=X.outer) (by have:=J2.stack;rw[show(X.sup ea).stack=X.stack from rfl,hstk]at this;exact this) u2 k2 hfree (fun b hb=>hb) f2 fun h3 u3 k3 f3=>?_;have J3:=mk h3 u3 k3;refine y1J (hs ea pins _ σ H' D J3 hth) (fun f s4 sp=>?_) fun _ _ z=>False.elim z;have z2G:∀{σ4 H4},Inv (X.sup ea) pins σ4 H4 s4->Inv X pins σ4 H4 s4:=fun K4=>⟨I.ok,K4.os,K4.bare,K4.base,K4.loc,K4.cell,K4.free,K4.freeC,K4.pin,K4.hok,K4.len⟩;cases f with
  |next=>obtain⟨σ4,H4,K4,q⟩:=sp;exact⟨σ4,H4,z2G K4,q⟩
  |brk=>obtain⟨σ4,H4,K4,q⟩:=sp;exact⟨σ4,H4,z2G K4,q⟩
  |cont=>obtain⟨σ4,H4,K4,q⟩:=sp;exact⟨σ4,H4,z2G K4,q⟩
  |ret u=>obtain⟨v,σ4,H4,K4,r,q⟩:=sp;exact⟨v,σ4,H4,z2G K4,r,q⟩
 have I0:∀E,Inv (X.tried (X.pn++pins) E) [] σ H s:=fun E=>⟨I.ok.tried _ _,I.os,I.bare,I.base,I.loc,I.cell,I.free,I.freeC,fun p hp=>I.pin p (by rw[y1t]at hp;exact hp),I.hok,I.len⟩;refine y1J (hb (X.pn++pins) _ D σ pass [] s σ H D (I0 _) h) (fun f s1 sp=>?_) fun e s1 z=>z;have z2G:∀{E σ4 H4 s4},Inv (X.tried (X.pn++pins) E) [] σ4 H4 s4->Inv X pins σ4 H4 s4:=fun K4=>⟨I.ok,K4.os,K4.bare,K4.base,K4.loc,K4.cell,K4.free,K4.freeC,fun p hp=>K4.pin p (by rw[y1t];exact hp),K4.hok,K4.len⟩;cases f with
 |next=>obtain⟨σ4,H4,K4,q⟩:=sp;exact y3l ⟨σ4,H4,z2G K4,q⟩
 |brk=>obtain⟨σ4,H4,K4,q⟩:=sp;exact⟨σ4,H4,z2G K4,q⟩
 |cont=>obtain⟨σ4,H4,K4,q⟩:=sp;exact⟨σ4,H4,z2G K4,q⟩
 |ret u=>obtain⟨v,σ4,H4,K4,r,q⟩:=sp;exact⟨v,σ4,H4,z2G K4,r,q⟩
open PySem.SeqAt
open PySem.AutoSeq1 (wpAny_loadPart')
section
variable{X:Cx}(K:yyF)
end
end L2
namespace Gu
open PySem L2
def zaN{K:yyF}{a:Addr}{xs:List V}{g:TG}{tb:TS}{D:z46}{σ:St}{H:Hp}(Pv:Nat->St->Hp->Prop)(h0:Pv 0 σ H)(hl:∀i σ H,i<=xs.length->Pv i σ H->SqL K H a xs)(hs:∀i x σ H,xs[i]?=some x->Pv i σ H->∀Ed:z46,(∀σ' H',Pv (i+1) σ' H'->Ed.nx σ' H')->g x σ H fun σ2 H2=>tb Ed σ2 H2)(hd:∀σ H,Pv xs.length σ H->D.nx σ H) : ∃W:Nat->Nat->St->Hp->Prop,(∃m,W 0 m σ H)/\∀i m σ H,W i m σ H -> ((Itl K a).stop i H/\D.nx σ H)\/((Itl K a).go i H/\∃N:St->Hp->Prop,(∀σ' H',N σ' H'->∃m',m'<m/\W (i+1) m' σ' H')/\∀x H',(Itl K a).yld i H x H'->g x σ H' fun σ2 H2=>tb { D with nx:=N,ct:=N,bk:=D.nx } σ2 H2) :=
 z9B Pv h0 hl (fun i x σ H hx p=>hs i x σ H hx p _ fun _ _ z=>z) hd
def zhE{K:yyF}{a:Addr}{xs:List V}{g:TG}{tb:TS}{D:z46}{σ:St}{H:Hp}(Pv:Nat->St->Hp->Prop)(h0:Pv 0 σ H)(hl:∀i σ H,i<=xs.length->Pv i σ H->SqT K H a xs)(hs:∀i x σ H,xs[i]?=some x->Pv i σ H->∀Ed:z46,(∀σ' H',Pv (i+1) σ' H'->Ed.nx σ' H')->g x σ H fun σ2 H2=>tb Ed σ2 H2)(hd:∀σ H,Pv xs.length σ H->D.nx σ H) : ∃W:Nat->Nat->St->Hp->Prop,(∃m,W 0 m σ H)/\∀i m σ H,W i m σ H -> ((Itt K a).stop i H/\D.nx σ H)\/((Itt K a).go i H/\∃N:St->Hp->Prop,(∀σ' H',N σ' H'->∃m',m'<m/\W (i+1) m' σ' H')/\∀x H',(Itt K a).yld i H x H'->g x σ H' fun σ2 H2=>tb { D with nx:=N,ct:=N,bk:=D.nx } σ2 H2) :=
 z8P Pv h0 hl (fun i x σ H hx p=>hs i x σ H hx p _ fun _ _ z=>z) hd
def zeU{W:Nat->St->Hp->Prop}{m:Nat}{T:(St->Hp->Prop)->Prop}(h:∀N:St->Hp->Prop,(∀m' σ' H',m'<m->W m' σ' H'->N σ' H')->T N):∃N:St->Hp->Prop,(∀σ' H',N σ' H'->∃m',m'<m/\W m' σ' H')/\T N :=
 ⟨fun σ' H'=>∃m',m'<m/\W m' σ' H',fun _ _ z=>z,h _ fun m' σ' H' a b=>⟨m',a,b⟩⟩
def zes{lo:Int}{n:Nat}{g:TG}{tb:TS}{D:z46}{σ:St}{H:Hp}(Pv:Nat->St->Hp->Prop)(h0:Pv 0 σ H)(hs:∀i σ H,i<n->Pv i σ H->∀Ed:z46,(∀σ' H',Pv (i+1) σ' H'->Ed.nx σ' H')->g (.int (lo+i)) σ H fun σ2 H2=>tb Ed σ2 H2)(hd:∀σ H,Pv n σ H->D.nx σ H) : ∃W:Nat->Nat->St->Hp->Prop,(∃m,W 0 m σ H)/\∀i m σ H,W i m σ H -> ((Itr lo n).stop i H/\D.nx σ H)\/((Itr lo n).go i H/\∃N:St->Hp->Prop,(∀σ' H',N σ' H'->∃m',m'<m/\W (i+1) m' σ' H')/\∀x H',(Itr lo n).yld i H x H'->g x σ H' fun σ2 H2=>tb { D with nx:=N,ct:=N,bk:=D.nx } σ2 H2) :=
 z2Z Pv h0 (fun i σ H hi p=>hs i σ H hi p _ fun _ _ z=>z) hd
def zhW{c:TT}{tb:TS}{D:z46}{σ:St}{H:Hp}(Post:St->Hp->Prop)(h1:∀Ed:z46,(∀σ' H',Post σ' H'->Ed.nx σ' H')->z87 c tb Ed σ H)(h2:∀σ' H',Post σ' H'->D.nx σ' H'):z87 c tb D σ H:=h1 D h2
def zhF{t1 t2:TS}{D:z46}{σ:St}{H:Hp}(Post:St->Hp->Prop)(h1:∀Ed:z46,(∀σ' H',Post σ' H'->Ed.nx σ' H')->t1 Ed σ H)(h2:∀σ' H',Post σ' H'->t2 D σ' H'):zi4 t1 t2 D σ H:=h1 _ h2
def ziH{K:yyF}{a b:Addr}{xs ys:List V}{g:TG}{tb:TS}{D:z46}{σ:St}{H:Hp}(hlen:xs.length=ys.length)(Pv:Nat->St->Hp->Prop)(h0:Pv 0 σ H)(hl:∀i σ H,i<=xs.length->Pv i σ H->SqL K H a xs/\SqL K H b ys)(hs:∀i x y p σ H,xs[i]?=some x->ys[i]?=some y->Pv i σ H->H p=none->∀Ed:z46,(∀σ' H',Pv (i+1) σ' H'->Ed.nx σ' H')->g (.ref p) σ (upd H p (.tup [x,y])) fun σ2 H2=>tb Ed σ2 H2)(hd:∀σ H,Pv xs.length σ H->D.nx σ H) : ∃W:Nat->Nat->St->Hp->Prop,(∃m,W 0 m σ H)/\∀i m σ H,W i m σ H -> ((Itz K a b).stop i H/\D.nx σ H)\/((Itz K a b).go i H/\∃N:St->Hp->Prop,(∀σ' H',N σ' H'->∃m',m'<m/\W (i+1) m' σ' H')/\∀x H',(Itz K a b).yld i H x H'->g x σ H' fun σ2 H2=>tb { D with nx:=N,ct:=N,bk:=D.nx } σ2 H2) :=
 zfs hlen Pv h0 hl (fun i x y p σ H hx hy h hp=>hs i x y p σ H hx hy h hp _ fun _ _ z=>z) hd
def zhq{K:yyF}{a:Addr}{xs:List V}{g:TG}{tb:TS}{D:z46}{σ:St}{H:Hp}(Pv:Nat->St->Hp->Prop)(h0:Pv 0 σ H)(hl:∀i σ H,i<=xs.length->Pv i σ H->SqT K H a xs)(hs:∀i x p σ H,xs[i]?=some x->Pv i σ H->H p=none->∀Ed:z46,(∀σ' H',Pv (i+1) σ' H'->Ed.nx σ' H')->g (.ref p) σ (upd H p (.tup [.int (i:Nat),x])) fun σ2 H2=>tb Ed σ2 H2)(hd:∀σ H,Pv xs.length σ H->D.nx σ H) : ∃W:Nat->Nat->St->Hp->Prop,(∃m,W 0 m σ H)/\∀i m σ H,W i m σ H -> ((Ite K a).stop i H/\D.nx σ H)\/((Ite K a).go i H/\∃N:St->Hp->Prop,(∀σ' H',N σ' H'->∃m',m'<m/\W (i+1) m' σ' H')/\∀x H',(Ite K a).yld i H x H'->g x σ H' fun σ2 H2=>tb { D with nx:=N,ct:=N,bk:=D.nx } σ2 H2) :=
 zdE Pv h0 hl (fun i x p σ H hx h hp=>hs i x p σ H hx h hp _ fun _ _ z=>z) hd
def zfV{n:Nat}{A B:List Row}(GA:z0h n A)(GB:z0h n B){a b:Int}(a0:0<=a)(a1:a<(A.length:Int))(b0:0<=b)(b1:b<(B.length:Int)):row (z1S A B) (a*(B.length:Int)+b)=zfW B.length (row A a) (row B b):=by obtain⟨v0,v1⟩:=zb0 a0 a1 b0 b1;rw[z51 v0 v1,(dvm b0 b1).1,(dvm b0 b1).2]
end Gu
namespace L2
open PySem PySem.Spec PyProof.Rows PySem.SeqAt
section
variable{X:Cx}(K:yyF)
end
end L2
namespace Gu
open PySem L2
def fuL:List Int->List Int->Nat
 |a::as,b::bs=>if a=b then fuL as bs+1 else 0
 |_,_=>0
def pgo(m:Nat)(R S:Row):List Int:=(List.range R.2.length).map fun k=>R.2.getD k 0*(m:Int)+S.2.getD k 0
def prM(one other:List Row):List Row:=(z0p (one.length*other.length)).map fun c=>((row one (c/(other.length:Int))).1,pgo other.length (row one (c/(other.length:Int))) (row other (c%(other.length:Int))))
def zfU(w:List Int):List Int->List (List Int)->Nat->List Int->List (List Int)
 |_,ws,_,[]=>ws
 |o,ws,k,g::gs=>if g∈o then zfU w o ws (k+1) gs else zfU w (o++[g]) (ws++[w++[(k:Int)]]) (k+1) gs
def pb(one other:List Row):Nat->List Int->List (List Int)->Nat->Option (List Int)
 |0,_,_,_=>none
 |f+1,o,ws,i=>match o[i]?,ws[i]? with
  |some c,some w=>if(row one (c/(other.length:Int))).1=(row other (c%(other.length:Int))).1 then pb one other f (z06 o (row (prM one other) c).2) (zfU w o ws 0 (row (prM one other) c).2) (i+1)
   else some (w++[((fuL (row one (c/(other.length:Int))).1 (row other (c%(other.length:Int))).1:Nat):Int)])
  |_,_=>none
def zhx(one other:List Row):Option (List Int):=pb one other (one.length*other.length+1) [0] [[]] 0
end Gu
namespace L2
open PySem PySem.Spec PyProof.Rows
section
variable{prog:Program}{w:World}{A:Around}{E:yyE}{s:Shared}{z TI TO i1 i2:Addr}{fp1 fp2:List Addr}{n1 n2:Nat}{P1 P2:Nat->Value->Prop}{S1 S2:Nat->Heap->Prop}
end
section
variable{X:Cx}{elts:List Expr}{tk:Nat}{tp:Pos}
end
end L2
namespace Gu
open PySem L2
def z9q(M:List Row)(v:List Int)(l:Int):z1v M 0 (v++[l])=z1v M 0 v++[(row M (goW M 0 v)).1.getD l.toNat 0]:=by rw[z6K];rfl
end Gu
namespace L2
open PySem PySem.Spec PyProof.Rows
variable{X:Cx}
end L2
namespace Gu
open PySem L2
end Gu
namespace L2
open PySem PySem.Spec PyProof.Rows
section
variable{prog:Program}{w:World}{A:Around}{R:Result->Shared->Prop}{s:Shared}
end
section
variable{X:Cx}{pins:yyP}{σ:St}{H:Hp}{s:Shared}{N:List Str}{ix:List (Option Nat)}{scope:Scope}{elt iter tg iter2 tg2:Expr}{pos:Pos}{g g2:TG}{wi2:TI}{te:TE}{E:yyE}
end
end L2
namespace Gu
open PySem L2
def zin(M:List Row)(e:Row):Nat->Int
 |0=>goW M 0 e.1
 |t+1=>goW M (zin M e t) e.2
def z6X{n:Nat}{p:List Int}(hp:IsP n p){a b:Int}(a0:0<=a)(a1:a<(n:Int))(b0:0<=b)(b1:b<(n:Int))(e:p.getD a.toNat 0=p.getD b.toNat 0):a=b:=by have hl:=hp.len;rw[z8m (by lia),z8m (by lia)]at e;have:=(y3Q hp.nodup).mp e;lia
end Gu
namespace L2
open PySem PySem.Spec PyProof.Rows PySem.SeqAt
section
variable{X:Cx}
end
open PySem.AutoSeq1 (wpAny_loadPart')
section
variable{X:Cx}
end
end L2
namespace Gu
open PySem L2
def zhY(M:List Row)(e:Row)(t:Nat):List Int:=(List.range t).map (zin M e)
theorem zbL{n:Nat}{M' M:List Row}{o:List Int}{h:Int->Int}(mo:Mor M' M o h)(cl:∀r∈o,∀g∈(row M' r).2,g∈o)(hl:∀r∈o,(row M' r).2.length=n):∀(w:List Int)(x:Int),x∈o->LW n w->z1v M (h x) w=z1v M' x w
 |[],_,_,_=>rfl
 |l::w,x,hx,hw=>by
  obtain⟨l0,l1⟩:=hw l y0i;have hk:l.toNat<(row M' x).2.length:=by rw[hl x hx];lia
  show(row M (h x)).1.getD l.toNat 0::z1v M ((row M (h x)).2.getD l.toNat 0) w=(row M' x).1.getD l.toNat 0::z1v M' ((row M' x).2.getD l.toNat 0) w;rw[mo x hx];show(row M' x).1.getD l.toNat 0::z1v M (((row M' x).2.map h).getD l.toNat 0) w=_;rw[z9J hk,zbL mo cl hl w _ (cl x hx _ (by rw[z8m hk];exact y0h hk)) hw.tail]
def zf0{n:Nat}{M:List Row}(G:z0h n M){w:List Int}(hw:LW n w):z1v (shr M) 0 w=z1v M 0 w:=by obtain⟨h,h0,mo⟩:=z9b G;obtain⟨L,cl⟩:=z0v G;have:=zbL mo cl (fun r hr=>G.len _ (z0t (L.rg r hr).1 (L.rg r hr).2)) w 0 (by obtain⟨t,ht⟩:=L.hd;rw[ht];exact y0i) hw;rw[h0]at this;exact this
theorem z9y{n:Nat}{A B:List Row}(GA:z0h n A)(GB:z0h n B):∀(w:List Int)(a b:Int),LW n w->0<=a->a<(A.length:Int)->0<=b->b<(B.length:Int)->z1v (z1S A B) (a*(B.length:Int)+b) w=z1v B b (z1v A a w)
 |[],_,_,_,_,_,_,_=>rfl
 |l::w,a,b,hw,a0,a1,b0,b1=>by obtain⟨l0,l1⟩:=hw l y0i;have hR:=z0t a0 a1;have hS:=z0t b0 b1;obtain⟨k,g,e,q1,q2,q3,q4,q5,q6,g0,g1,e0,e1⟩:=z8f (m:=B.length) (N:=A.length) (GA.perm _ hR) (GA.len _ hR) (GA.go _ hR) (GB.len _ hS) (GB.go _ hS) (k:=l.toNat) (by lia);have hl:=(GA.perm _ hR).len;show(row (z1S A B) (a*(B.length:Int)+b)).1.getD l.toNat 0::z1v (z1S A B) ((row (z1S A B) (a*(B.length:Int)+b)).2.getD l.toNat 0) w=(row B b).1.getD ((row A a).1.getD l.toNat 0).toNat 0::z1v B ((row B b).2.getD ((row A a).1.getD l.toNat 0).toNat 0) (z1v A ((row A a).2.getD l.toNat 0) w);rw[zfV GA GB a0 a1 b0 b1,zbB (by lia),q5,q6,z9y GA GB w g e hw.tail g0 g1 e0 e1];congr 1;show(z5B (row A a).1 (row B b).1).getD l.toNat 0=_;rw[zbq (by lia)]
def z99{n:Nat}{A B:List Row}(GA:z0h n A)(GB:z0h n B)(h4:A.length*B.length<=4000){w:List Int}(hw:LW n w):z1v (shr (z1S A B)) 0 w=z1v B 0 (z1v A 0 w):=by rw[zf0 (z3c GA GB h4) hw];have:=z9y GA GB w 0 0 hw (y1u 0) (by have:=GA.some;lia) (y1u 0) (by have:=GB.some;lia);rw[Int.zero_mul,Int.add_zero]at this;exact this
theorem z7X{n:Nat}:∀{w:List Int},LW n w->z1v (z9N n) 0 w=w
 |[],_=>rfl
 |l::w,hw=>by obtain⟨l0,l1⟩:=hw l y0i;show(z0p n).getD l.toNat 0::z1v (z9N n) ((List.replicate n (0:Int)).getD l.toNat 0) w=l::w;rw[y03,zgW (by lia),y03,y3o,if_pos (by lia)];show((l.toNat:Int))::z1v (z9N n) 0 w=l::w;rw[z7X hw.tail,Int.toNat_of_nonneg l0]
def zdq{n:Nat}{A:List Row}(GA:z0h n A)(h8:A.length<=8){w:List Int}(hw:LW n w):z1v (shr (z2A A)) 0 (z1v A 0 w)=w:=by
 have GC:=z2b (z1z GA);have hc:(shr (z2A A)).length<=8:=by have:=z6b (z1z GA);rw[z1F]at this;lia
 have h4:A.length*(shr (z2A A)).length<=4000:=y0Q (Nat.mul_le_mul h8 hc) (by decide);rw[<-z99 GA GC h4 hw,zcs GA h4];exact z7X hw
def StR(n:Nat)(M:List Row)(r:Int):Prop:=row M r=(z0p n,List.replicate n r)
instance(n:Nat)(M:List Row)(r:Int):Decidable (StR n M r):=inferInstanceAs (Decidable (_=_))
def zgS(M:List Row)(rs:List Int):List Int:=z0F (rs.flatMap fun r=>(row M r).2)
def mvF(n:Nat)(M:List Row)(rs:List Int):List Int:=rs.filter fun r=>!decide (StR n M r)
def mvs(n:Nat)(M:List Row):Nat->List Int
 |0=>[0]
 |k+1=>zgS M (mvF n M (mvs n M k))
def dlp(n:Nat)(M:List Row):Nat->Nat->Option Nat
 |0,_=>none
 |f+1,k=>if mvF n M (mvs n M k)=[]then some k else dlp n M f (k+1)
def dep(n:Nat)(M:List Row):Option Nat:=dlp n M M.length 0
def Lp(n:Nat)(M:List Row)(r:Int):Prop:=∃v,v≠[]/\LW n v/\goW M r v=r
noncomputable def lpB(n:Nat)(M:List Row)(j:Nat):Bool:=@decide (Lp n M (j:Int)) (Classical.propDecidable _)
noncomputable def ziI(n:Nat)(M:List Row)(i:Nat):List (List Row):=((List.range i).filter (lpB n M)).map fun(j:Nat)=>shr (swM M (j:Int))
end Gu
namespace L2
open PySem PySem.Spec PyProof.Rows
section
variable{X:Cx}
end
section
variable{prog:Program}{w:World}{A:Around}{R:Result->Shared->Prop}{s:Shared}
end
section
variable{X:Cx}{pins:yyP}{σ:St}{H:Hp}{s:Shared}{N:List Str}{ix:List (Option Nat)}{scope:Scope}{kx vx iter tg:Expr}{pos:Pos}{g:TG}{tk tv:TE}{E:yyE}
end
section
variable{X:Cx}{pins:yyP}{σ:St}{H:Hp}{s:Shared}{N:List Str}{ix:List (Option Nat)}{scope:Scope}{elt iter tg cx:Expr}{pos:Pos}{g:TG}{tt:TT}{te:TE}{E:yyE}
end
open PySem.SeqAt
section
variable{X:Cx}(K:yyF)
def zcx(hK:X.K=K)(hu:X.A.units+64<cLine):OpR X (compareOp .NotEq) (fun x y H Q=>∃(ds es:List D),Dr K H (.lst ds) x/\Dr K H (.lst es) y/\ds.length=es.length/\D.okL ds es/\D.depL ds<=50/\Q (.bl (!D.eq (.lst ds) (.lst es))) H):=by
 subst hK;intro pins s σ H x y v u Q I rx ry h;obtain⟨ds,es,hx,hy,hln,o,hd,q⟩:=h;simp only[Dr]at hx hy;obtain⟨l,vs,rfl,q1,r⟩:=hx;obtain⟨b,us,rfl,q2,r'⟩:=hy;cases rx;cases ry;obtain⟨its,rv,pl,_⟩:=I.list q1;obtain⟨itt,rv',pl',_⟩:=I.list q2;have e1:its.toArray.size=ds.length:=by rw[r.length,rv.length];simp
 have e2:itt.toArray.size=es.length:=by rw[r'.length,rv'.length];simp
 have R:=RcNeAt.lists (A:=X.A) (e:=D.at_ ds es) pl.isList pl'.isList (by rw[e1,e2,hln]) (by lia) (fun j h1 h2=>by
  have l1:=rv.length;have l2:=rv'.length;have l3:=r.length;have l4:=r'.length;have h1':j<its.length:=by simpa using h1
  have h2':j<itt.length:=by simpa using h2
  have e1:ds[j]?=some ds[j]:=y00 (by lia);have e2:es[j]?=some es[j]:=y00 (by lia);obtain⟨x1,g1,d1⟩:=r.get e1;obtain⟨x2,g2,d2⟩:=r'.get e2;obtain⟨u1,k1,z5⟩:=rv.get g1;obtain⟨u2,k2,z6⟩:=rv'.get g2;have z1:u1=its.toArray[j]:=by rw[y00 h1']at k1;have:=y08 k1;simpa using this.symm
  have z2:u2=itt.toArray[j]:=by rw[y00 h2']at k2;have:=y08 k2;simpa using this.symm
  have z3:D.at_ ds es j=D.eq ds[j] es[j]:=by unfold D.at_;rw[e1,e2]
  rw[z3,<-z1,<-z2];exact(zgc I 50 X.A.in1 (y0Q (D.depL_get e1) hd) (by show X.A.units+1+50<cLine;lia) d1 d2 (D.okL_get o e1 e2) z5 z6).1)
 rw[e1,D.all_eqL' hln]at R;have e3:D.eq (.lst ds) (.lst es)=D.eqL ds es:=by simp only[D.eq]
 rw[e3]at q;exact R _ _ _ _ ⟨.bl _,H,I,rfl,q⟩
end
end L2
namespace Gu
open PySem L2
def kvT(o:List Int):List (Key × V):=o.map fun r=>(Sum.inl r,V.bl true)
def zbY(o:List Int):(kvT o).length=o.length:=y01 _
def zcZ(o:List Int)(g:Int):((kvT o).any fun kv=>decide (kv.1=Sum.inl g))=decide (g∈o):=by
 unfold kvT;rw[List.any_map,y1P];simp only[y2M,Function.comp,decide_eq_true_eq];constructor
 .rintro⟨x,hx,e⟩;rw[<-y41 e];exact hx
 .intro h;exact⟨g,h,rfl⟩
def zaV(o:List Int)(g:Int):z2K (kvT o) (Sum.inl g) (V.bl true)=kvT (z26 o g):=by
 unfold z2K;rw[zcZ];by_cases h:g∈o
 .rw[if_pos (y11 h),z0q h];unfold kvT;rw[y1h];refine y0L fun x _=>?_;simp
 .rw[if_neg (by simp[h]),z0r h];unfold kvT;rw[y0d];rfl
def zcq(o:List Int)(g:Int):(z3d (kvT o) (Sum.inl g)).isSome=decide (g∈o):=by unfold z3d;rw[y34,<-zcZ,y1P,List.find?_isSome,y2M]
end Gu
namespace L2
open PySem PySem.Spec PyProof.Rows
section
variable{P:Program}{w:World}
section
variable{M:Model}{A:Around}{E:yyE}{Q:Unit->Shared->Prop}{s:Shared}{fr:List Addr}{H1 H':Hp}{h1:Heap}{env:Env}{outer:List Env}{L ea C:Addr}{base:Heap}{fl:Value}
end
end
section
variable{X:Cx}{N:List Str}{scope:Scope}{cl:List (Str × Addr)}{C:Addr}{ex:List Addr}{s:Shared}{H:Hp}{E:XK}{pins:yyP}{σ:St}{H':Hp}{s':Shared}
end
section
variable{prog:Program}{w:World}{A:Around}{R:Result->Shared->Prop}{s:Shared}
end
section
variable{X:Cx}{pins:yyP}{σ:St}{H:Hp}{s:Shared}{N:List Str}{ix:List (Option Nat)}{scope:Scope}{elt iter tg:Expr}{pos:Pos}{g:TG}{te:TE}{E:yyE}
end
def Ris(xs:Array Nat):Prop:=xs.toList.Pairwise (· < ·)
def Ris.lt{xs:Array Nat}(h:Ris xs){i k v u:Nat}(hik:i<k)(hi:xs[i]?=some v)(hk:xs[k]?=some u):v<u:=by obtain⟨hk',e'⟩:=y38.mp hk;obtain⟨hi',e⟩:=y38.mp hi;have:=y12.mp h i k (by simpa using hi') (by simpa using hk') hik;simpa[e,e']using this
def Cut(xs:Array Nat)(j p:Nat):Prop:=p<=xs.size/\(∀i,i<p->∀v,xs[i]?=some v->v<j)/\∀i,p<=i->∀v,xs[i]?=some v->j<=v
theorem z6S{xs:Array Nat}{j:Nat}(hr:Ris xs):∀(fuel lo hi:Nat),hi-lo<=fuel->lo<=hi->hi<=xs.size ->
  (∀i,i<lo->∀v,xs[i]?=some v->v<j)->(∀i,hi<=i->∀v,xs[i]?=some v->j<=v)->Cut xs j (SetTable.below.go xs j fuel lo hi)
 |0,lo,hi,hf,hl,hh,h1,h2=>by
  have e:lo=hi:=by lia
  subst e;exact⟨hh,h1,h2⟩
 |fuel+1,lo,hi,hf,hl,hh,h1,h2=>by
  unfold SetTable.below.go;by_cases hlt:lo<hi
  .rw[if_pos hlt];have hm:(lo+hi)/2<xs.size:=by lia
   have e:xs[(lo+hi)/2]?=some xs[(lo+hi)/2]:=y0c hm;have e2:xs.getD ((lo+hi)/2) j=xs[(lo+hi)/2]:=by simp[Array.getD,hm]
   simp only[e2];by_cases c:xs[(lo+hi)/2]<j
   .rw[if_pos c];refine z6S hr fuel _ _ (by lia) (by lia) hh (fun i hi' v hv=>?_) h2;rcases y1q i ((lo+hi)/2)with q|q
    .exact y3I (hr.lt q hv e) c
    .have:i=(lo+hi)/2:=by lia
     subst this;rw[e]at hv;cases hv;exact c
   .rw[if_neg c];refine z6S hr fuel _ _ (by lia) (by lia) (by lia) h1 (fun i hi' v hv=>?_);rcases y1q ((lo+hi)/2) i with q|q
    .have:=hr.lt q e hv;lia
    .have:i=(lo+hi)/2:=by lia
     subst this;rw[e]at hv;cases hv;lia
  .rw[if_neg hlt];have e:lo=hi:=by lia
   subst e;exact⟨hh,h1,h2⟩
def z7p{xs:Array Nat}(hr:Ris xs)(j:Nat):Cut xs j (SetTable.below xs j) :=
 z6S hr _ _ _ (by lia) (by lia) (y0b _) (fun i h=>by lia) (fun i h v hv=>by rw[y2j h]at hv;cases hv)
def zfc{xs:Array Nat}{j p q:Nat}(a:Cut xs j p)(b:Cut xs j q):p=q:=by
 rcases Nat.lt_trichotomy p q with h|h|h
 .have e:=y0c (xs:=xs) (i:=p) (by have:=b.1;lia);have h1:=b.2.1 p h _ e;have h2:=a.2.2 p (y0b _) _ e;lia
 .exact h
 .have e:=y0c (xs:=xs) (i:=q) (by have:=a.1;lia);have h1:=a.2.1 q h _ e;have h2:=b.2.2 q (y0b _) _ e;lia
def zac{xs:Array Nat}(hr:Ris xs){j:Nat}(hn:xs[SetTable.below xs j]?≠some j):Ris (SetTable.insertAt xs (SetTable.below xs j) j):=by
 obtain⟨h0,h1,h2⟩:=z7p hr j;generalize SetTable.below xs j=p at *;unfold Ris;rw[SetTable.toList_insertAt];have hr':xs.toList.Pairwise (· < ·):=hr;have gt:∀v∈xs.toList.drop p,j<v:=fun v hv=>by
  obtain⟨i,hi,e⟩:=y1a.mp hv;rw[y3G]at e;have hi':p+i<xs.size:=by simp at hi;lia
  have e1:xs[p+i]?=some v:=by rw[y0c hi',<-e];simp
  have h3:=h2 (p+i) (by lia) v e1;rcases y1q j v with q|q
  .exact q
  .have hv':v=j:=by lia
   subst hv';rcases Nat.eq_zero_or_pos i with z|z
   .subst z;exact absurd e1 hn
   .have e2:=y0c (xs:=xs) (i:=p) (by lia);have:=hr.lt (by lia:p<p+i) e2 e1;have:=h2 p (y0b _) _ e2;lia
 have lt:∀v∈xs.toList.take p,v<j:=fun v hv=>by
  obtain⟨i,hi,e⟩:=y1a.mp hv;rw[y1Y]at e;have hi':i<p/\i<xs.size:=by simp at hi;lia
  exact h1 i hi'.1 v (by rw[y0c hi'.2,<-e];simp)
 refine y0S.mpr ⟨hr'.sublist (y1K _ _),List.pairwise_cons.mpr ⟨gt,hr'.sublist (y36 _ _)⟩,fun a ha b hb=>?_⟩;have:=lt a ha;rcases y0j.mp hb with rfl|hb
 .exact this
 .have:=gt b hb;lia
def z3K(n:Nat):Ris (Array.range n):=by unfold Ris;simp[Array.toList_range];exact y2Q
def z57(t:SetTable)(d:Nat):Prop:=t.place[SetTable.below t.place d]?≠some d
def z4p{t:SetTable}{j:Nat}(h:t.slot j=.empty\/t.slot j=.dummy):z57 t j:=by
 intro e;have:t.slot j=.live (SetTable.below t.place j):=by unfold SetTable.slot;simp[e]
 rw[this]at h;rcases h with h|h<;>cases h
def z3Q(t:SetTable)(p:SetTable.Probe):(t.advance p).dummy=p.dummy:=by unfold SetTable.advance;split<;>rfl
theorem z6v{t:SetTable}{f:Nat->Int}{h:Int}:∀(fuel:Nat)(p:SetTable.Probe),(∀d,p.dummy=some d->z57 t d) ->
  ∀j dm,SetTable.probe.go t f h fuel p=some (.empty j dm)->z57 t j/\∀d,dm=some d->z57 t d
 |0,_,_,_,_,e=>by simp[SetTable.probe.go]at e
 |fuel+1,p,hp,j,dm,e=>by
  unfold SetTable.probe.go at e;split at e
  .rename_i hs;simp only[Option.some.injEq,SetTable.Met.empty.injEq]at e;obtain⟨rfl,rfl⟩:=e;exact⟨z4p (.inl hs),hp⟩
  .rename_i hs;refine z6v fuel _ (fun d hd=>?_) j dm e;rw[z3Q]at hd;cases hd;exact z4p (.inr hs)
  .split at e
   .cases e
   .refine z6v fuel _ (fun d hd=>?_) j dm e;rw[z3Q]at hd;exact hp d hd
def z7G{t:SetTable}{h:Int}{s:Nat}{b:Bool}(e:t.freeSlot h=some (s,b)):z57 t s:=by
 unfold SetTable.freeSlot at e;split at e
 .rename_i j dm hp;simp only[Option.some.injEq,Prod.mk.injEq]at e;obtain⟨rfl,_⟩:=e;have:=z6v _ _ (fun d hd=>by simp[SetTable.probeStart]at hd) j dm hp;cases dm with
  |none=>exact this.1
  |some d=>exact this.2 d rfl
 .cases e
def zaI{t:SetTable}{es:Array (Int × Value)}{h:Int}{x:Value}(hr:Ris t.place):Ris (layNew t es h x).2.1.place/\(layNew t es h x).2.1.led=t.led:=by
 unfold layNew;split
 .rename_i slot wd hs;have h1:=zac hr (z7G hs);dsimp only[SetTable.put];generalize(if SetTable.has t.dummies slot then SetTable.eraseAt t.dummies (SetTable.below t.dummies slot)else t.dummies)=dm;unfold SetTable.orStandIn;split
  .exact⟨h1,rfl⟩
  .exact⟨z3K _,rfl⟩
 .exact⟨z3K _,rfl⟩
def zay{t t':SetTable}{hs:Array Int}{wanted:Nat}{o:Array Nat}(e:t.relaid hs wanted=some (t',o)):Ris t'.place/\t'.led=t.led:=by
 unfold SetTable.relaid SetTable.laid at e;generalize SetTable.sizeAbove wanted-1=m at e;cases hl:SetTable.layClean m hs with
 |none=>rw[hl]at e;cases e
 |some owner =>
  rw[hl]at e;simp only[Option.bind_eq_bind,Option.bind_some,Option.pure_def,Option.some.injEq,Prod.mk.injEq]at e;obtain⟨rfl,_⟩:=e;refine⟨?_,rfl⟩;unfold Ris;dsimp only;rw[y1W];refine List.Pairwise.filterMap (R:=(· < ·)) _ (fun a b hab p hp q hq=>?_) y2Q;cases ha:owner.getD a none with
  |none=>rw[ha]at hp;cases hp
  |some u =>
   cases hb:owner.getD b none with
   |none=>rw[hb]at hq;cases hq
   |some v =>
    rw[ha]at hp;rw[hb]at hq;cases hp;cases hq;exact hab
def z7k{t:SetTable}{es:Array (Int × Value)}{wanted:Nat}(hr:Ris t.place):Ris (relayAll t es wanted).2.1.place/\(relayAll t es wanted).2.1.led=t.led:=by
 unfold relayAll;split
 .rename_i t' z0g he;dsimp only;split
  .exact zay he
  .exact⟨z3K _,rfl⟩
 .exact⟨z3K _,rfl⟩
def z5m{vs vs':List Value}(p:List.Perm vs' vs):∀{ns:List Int},IntsAre vs ns->∃ns',IntsAre vs' ns'/\ns'.Perm ns:=by
 induction p with
 |nil=>intro ns h;exact⟨ns,h,.rfl⟩
 |cons x _ ih =>
  intro ns h;cases h with
  |cons n t hr =>
   obtain⟨ns',h1,h2⟩:=ih hr;exact⟨n::ns',.cons n t h1,h2.cons _⟩
 |swap x y l =>
  intro ns h;cases h with
  |cons n t hr =>
   cases hr with
   |cons n' t' hr'=>exact⟨n'::n::_,.cons n' t' (.cons n t hr'),List.Perm.swap _ _ _⟩
 |trans _ _ ih1 ih2 =>
  intro ns h;obtain⟨n1,a1,b1⟩:=ih2 h;obtain⟨n2,a2,b2⟩:=ih1 a1;exact⟨n2,a2,b2.trans b1⟩
theorem z2B{α:Type}:∀{l:List α}{i:Nat}{x:α},l[i]?=some x->(x::l.eraseIdx i).Perm l
 |[],_,_,h=>by simp at h
 |y::l,0,x,h=>by simp at h;subst h;exact .rfl
 |y::l,i+1,x,h=>by simp only[List.getElem?_cons_succ]at h;simp only[List.eraseIdx_cons_succ];exact(List.Perm.swap y x _).trans ((z2B h).cons y)
theorem zbd{α:Type}(next:Nat->Nat):∀(fuel k:Nat)(left:List α)(out:Array α),left.length=fuel->(pickOrder.go next fuel k left out).toList.Perm (out.toList++left)
 |0,k,left,out,h=>by
  have:left=[]:=y1d h;subst this;simp[pickOrder.go]
 |fuel+1,k,left,out,h=>by have hlt:next k%left.length<left.length:=Nat.mod_lt _ (by lia);have e:left[next k%left.length]?=some left[next k%left.length]:=y00 hlt;unfold pickOrder.go;rw[e];dsimp only;refine(zbd next fuel _ _ _ (by rw[List.length_eraseIdx,if_pos hlt];lia)).trans ?_;rw[y1k,y0p];exact y1L _ (z2B e)
def zbr{α:Type}(next:Nat->Nat)(xs:Array α):(pickOrder next xs).toList.Perm xs.toList:=by have:=zbd next xs.size 0 xs.toList #[] (by simp);simpa[pickOrder]using this
section
variable{M:Model}{A:Around}{E:yyE}
def zd2{s:Shared}{src:Source}{n:Nat}{Q:Nat->Shared->Prop}(hn:n≠0)(h:∀i d,i<n->Q i { s with drawn:=d }):wpAny M A (choose src n) Q E s :=
 fun _ _ _=>⟨hn,h _ _ (Nat.mod_lt _ (Nat.pos_of_ne_zero hn))⟩
theorem z4r{α:Type}:∀(n:Nat)(xs:List α)(s:Shared){Q:List α->Shared->Prop},xs.length=n->(∀ys d,ys.Perm xs->Q ys { s with drawn:=d })->wpAny M A (drawOrder n xs) Q E s
 |0,xs,s,Q,h,q=>by
  have:xs=[]:=y1d h;subst this;unfold drawOrder;exact y09 (q [] s.drawn .rfl)
 |n+1,[],s,Q,h,q=>by cases h
 |n+1,x::xs,s,Q,h,q=>by unfold drawOrder;refine y02 (zd2 (by simp) fun i d hi=>?_);have e:(x::xs)[i]?=some (x::xs)[i]:=y00 hi;rw[e];dsimp only;refine y02 (z4r n _ _ (by rw[List.length_eraseIdx,if_pos hi,h];rfl) fun ys d' hp=>?_);exact y09 (q _ d' ((hp.cons _).trans (z2B e)))
end
def zgV(w:World):Bool:=!w.params.followText "set-order"
structure Sit(prog:Program)(w:World)(es:Array (Int × Value))(t:SetTable)(ks:List Int):Prop where
 elems:ElemsOf (intKind prog w) es.toList
 keysI:IntsAre (es.toList.map (·.2)) ks
 fits:t.fits es.size=true
 led:t.led=zgV w
 ris:Ris t.place
def z6u(prog:Program)(w:World)(h:Heap)(a:Addr)(ks:List Int):Prop :=
 ∃o es ep t,h.get? a=some o/\o.ExactSet/\o.data=.set es ep t/\Sit prog w es t ks
theorem z6u.size{prog:Program}{w:World}{es:Array (Int × Value)}{t:SetTable}{ks:List Int}(h:Sit prog w es t ks):es.size=ks.length:=by have:=IntsAre.length h.keysI;simpa using this
theorem z94:∀{vs:List Value}{ns:List Int}{k:Int},IntsAre vs ns->((∃v∈vs,Value.isInt k v=true)↔k∈ns)
 |_,_,k,.nil=>by simp
 |_,_,k,.cons n t hr=>by
  rw[y0j,<-z94 hr];constructor
  .rintro⟨v,hv,e⟩;rcases y0j.mp hv with rfl|hv
   .obtain⟨t',e'⟩:=Value.isInt_shape e;cases e';exact .inl rfl
   .exact .inr ⟨v,hv,e⟩
  .rintro(rfl|⟨v,hv,e⟩)
   .exact⟨_,y0i ..,by simp[Value.isInt]⟩
   .exact⟨v,y0g _ hv,e⟩
def z5A{ks:List Int}{k:Int}(h:k∈ks):step_dedup ks k=ks:=by unfold step_dedup;rw[if_pos (by simpa using h)]
def z3C{ks:List Int}{k:Int}(h:k∉ks):step_dedup ks k=ks++[k]:=by unfold step_dedup;rw[if_neg (by simpa using h)]
section
variable{prog:Program}{w:World}{A:Around}{E:yyE}{s:Shared}
theorem IntsAre.snoc':∀{vs:List Value}{ns:List Int}{k:Int}{t:Tok},IntsAre vs ns->IntsAre (vs++[.int k t]) (ns++[k])
 |_,_,k,t,.nil=>.cons k t .nil
 |_,_,k,t,.cons n t' hr=>.cons n t' (IntsAre.snoc' hr)
def z9F{g:Bool->Sem Unit}(hg:∀(b:Bool)(s₁:Shared)(Q':Unit->Shared->Prop),Q' () s₁->wpAny (model prog w) A (g b) Q' E s₁)
  {a:Addr} {o:Obj} {es:Array (Int × Value)} {ep:Nat} {t:SetTable} (ho:s.heap.get? a=some o) (hex:o.ExactSet) (hd:o.data=.set es ep t)
  {es1:Array (Int × Value)} {t2:SetTable} {ks:List Int} (hs:Sit prog w es1 t2 ks)
  (hb1:es1.size<scanBound) {wasDummy:Bool} {R:Option Bool->Shared->Prop}
  (h:∀h' ks',Heap.SameBut a s.heap h'->z6u prog w h' a ks'->ks'.Perm ks->R (some true) { s with heap:=h' }) :
  wpAny (model prog w) A (do
    storeSet a es1 t2
    if(!wasDummy&&t2.tooFull)=true then do
      g (relayAll t2 es1 (SetTable.grown es1.size)).2.2
      storeSet a (relayAll t2 es1 (SetTable.grown es1.size)).1 (relayAll t2 es1 (SetTable.grown es1.size)).2.1
      pure (some true)
     else pure (some true)) R E s:=by
 have put:∀(h:Heap)(o:Obj)(es:Array (Int × Value))(ep:Nat)(t:SetTable),h.get? a=some o->o.ExactSet->o.data=.set es ep t->∀es' t' ks',Sit prog w es' t' ks' ->
   (h.update a (Obj.putSet es' t')).get? a=some { o with data:=.set es' (ep+1) t' }/\z6u prog w (h.update a (Obj.putSet es' t')) a ks':=fun h o es ep t ho hex hd es' t' ks' hs'=>by
  have hg':(h.update a (Obj.putSet es' t')).get? a=some { o with data:=.set es' (ep+1) t' }:=by have:=y1l (Obj.putSet es' t') ho (by rw[putSet_of es' t' hd];rfl);rw[putSet_of es' t' hd]at this;exact this
  exact⟨hg',_,es',ep+1,t',hg',hex,rfl,hs'⟩
 refine y02 (wpAny_storeSet_of ho hd ?_ (y3H hb1));obtain⟨ho1,hS1⟩:=put _ o es ep t ho hex hd es1 t2 ks hs;have hsb1:=y1n s.heap a (Obj.putSet es1 t2);split
 .have hp:=relayAll_perm t2 es1 (SetTable.grown es1.size);have hfr:=relayAll_fits t2 es1 (SetTable.grown es1.size);have hrs:=z7k (es:=es1) (wanted:=SetTable.grown es1.size) hs.ris;generalize hRl:relayAll t2 es1 (SetTable.grown es1.size)=Rl at hp hfr hrs⊢;obtain⟨es2,t3,gave2⟩:=Rl;dsimp only at hp hfr hrs⊢;have hsz:es2.size=es1.size:=by rw[<-y0J,hp.length_eq,y0J]
  have hb2:es2.size<scanBound:=by rw[hsz];exact hb1
  obtain⟨ks',hi',hp'⟩:=z5m (hp.map (·.2)) hs.keysI;have hs2:Sit prog w es2 t3 ks':=⟨hs.elems.perm hp,hi',hfr,hrs.2.trans hs.led,hrs.1⟩;refine y02 (hg _ _ _ ?_);refine y02 (wpAny_storeSet_of ho1 rfl ?_ (y3H hb2));obtain⟨_,hS2⟩:=put _ _ es1 (ep+1) t2 ho1 hex rfl es2 t3 ks' hs2;exact y09 (h _ ks' (hsb1.trans (y1n _ a _)) hS2 hp')
 .exact y09 (h _ ks hsb1 hS1 .rfl)
def zdV{a:Addr}{ks:List Int}{k:Int}{tk:Tok}{Q:Bool->Shared->Prop}(hS:z6u prog w s.heap a ks)(hroom:ks.length+1<scanBound)(h:∀b h' ks',Heap.SameBut a s.heap h'->z6u prog w h' a ks'->ks'.Perm (step_dedup ks k)->Q b { s with heap:=h' }) : wpAny (model prog w) A (setAddHashed a (.int k tk) ((intKind prog w).hash k)) Q E s:=by
 obtain⟨o,es,ep,t,ho,hex,hd,hs⟩:=hS;have hn:=z6u.size hs;have hb:es.size<scanBound:=by lia
 have hb1:es.size+1<scanBound:=by lia
 have hsc:(Value.int k tk).scannable=true:=rfl;have hkey:(intKind prog w).is k (.int k tk)=true:=by simp[intKind,Value.isInt]
 unfold setAddHashed setAddHashedIn;refine y20 (y02 (y2C ho hd hs.fits ?_));dsimp only;rw[byScan_of hsc hb hs.elems];simp only[↓reduceIte];unfold setAddByScan;refine y02 ?_;refine y02 (y27 ?_);refine y02 (wpAny_setScan_of hkey ho hd hs.fits hs.elems ?_);have hmem:(∃e∈es.toList,Value.isInt k e.2=true)↔k∈ks:=by
  rw[<-z94 hs.keysI];constructor
  .rintro⟨e,he,q⟩;exact⟨e.2,y0a.mpr ⟨e,he,rfl⟩,q⟩
  .rintro⟨v,hv,q⟩;obtain⟨e,he,rfl⟩:=y0a.mp hv;exact⟨e,he,q⟩
 cases hr:List.findIdx? (fun e=>(intKind prog w).is k e.2) es.toList with
 |some j =>
  dsimp only;obtain⟨hj,hpj,_⟩:=List.findIdx?_eq_some_iff_getElem.mp hr;have hk:k∈ks:=hmem.mp ⟨es.toList[j],y0h hj,hpj⟩;refine y09 (y09 ?_);have e:s={ s with heap:=s.heap }:=by cases s;rfl
  rw[e];exact h _ s.heap ks (Heap.SameBut.refl a s.heap) ⟨o,es,ep,t,ho,hex,hd,hs⟩ (by rw[z5A hk])
 |none =>
  dsimp only;have hk:k∉ks:=fun z=>by obtain⟨e,he,q⟩:=hmem.mpr z;have:=List.findIdx?_eq_none_iff.mp hr e he;have q':(intKind prog w).is k e.2=true:=q;rw[q']at this;cases this
  have hgw:∀(b:Bool) {s₁:Shared} {Q':Unit->Shared->Prop},Q' () s₁->wpAny (model prog w) A (match b with|true=>rule "set.scan.the-table-gave-way" | false=>pure ()) Q' E s₁ :=
   fun b s₁ Q' hq=>by cases b<;>first|exact y09 hq|exact y27 hq
  have hperm:=layNew_perm t es ((intKind prog w).hash k) (.int k tk);have hfits:=layNew_fits t es ((intKind prog w).hash k) (.int k tk);have hris:=zaI (es:=es) (h:=(intKind prog w).hash k) (x:=.int k tk) hs.ris;generalize hL:layNew t es ((intKind prog w).hash k) (.int k tk)=L at hperm hfits hris⊢;obtain⟨es1,t1,wasDummy,gave⟩:=L;dsimp only at hperm hfits hris⊢;rw[y1k]at hperm;have hb1':es1.size<scanBound:=by rw[<-y0J,hperm.length_eq,y0f,y0J];simpa using hb1
  have hi1:IntsAre ((es.toList++[((intKind prog w).hash k,Value.int k tk)]).map (·.2)) (ks++[k]):=by rw[y0d];exact IntsAre.snoc' hs.keysI
  obtain⟨ks',hi',hp'⟩:=z5m (hperm.map (·.2)) hi1;have mk:∀t2:SetTable,t2.fits es1.size=true->t2.led=t1.led->t2.place=t1.place->Sit prog w es1 t2 ks':=fun t2 a1 a2 a3 =>
   ⟨(hs.elems.push hkey hsc).perm hperm,hi',a1,a2.trans (hris.2.trans hs.led),by rw[a3];exact hris.1⟩
  refine y02 (hgw _ ?_);have hend:∀h' ks'',Heap.SameBut a s.heap h'->z6u prog w h' a ks''->ks''.Perm ks'->Q true { s with heap:=h' }:=fun h' ks'' hsb hS' hp'' =>
   h true h' ks'' hsb hS' (by rw[z3C hk];exact hp''.trans hp')
  split
  .refine y02 ?_;rw[hashByValue_scannable 8 hsc];refine y09 ?_;refine z9F (ks:=ks') ?_ ho hex hd (mk _ ?_ ?_ ?_) hb1' ?_
   .intro b s₁ Q' hq;cases b<;>first|exact y09 hq|exact y27 hq
   .split
    .exact hfits
    .exact SetTable.fits_plain_off hfits
   .split<;>rfl
   .split<;>rfl
   .intro h' ks'' hsb hS' hp'';dsimp only;exact y09 (hend h' ks'' hsb hS' hp'')
  .refine y02 (y09 ?_);simp only[↓reduceIte];refine z9F (ks:=ks') ?_ ho hex hd (mk _ hfits rfl rfl) hb1' ?_
   .intro b s₁ Q' hq;cases b<;>first|exact y09 hq|exact y27 hq
   .intro h' ks'' hsb hS' hp'';dsimp only;exact y09 (hend h' ks'' hsb hS' hp'')
end
def z7Y(ns:List Int):List Int:=ns.foldl step_dedup []
def zcD{a b:List Int}(p:a.Perm b)(k:Int):(step_dedup a k).Perm (step_dedup b k):=by
 by_cases h:k∈a
 .rw[z5A h,z5A (p.mem_iff.mp h)];exact p
 .rw[z3C h,z3C (fun z=>h (p.mem_iff.mpr z))];exact p.append_right _
def z54(l:List Int):∀σ:List Int,(l.foldl step_dedup σ).length<=σ.length+l.length:=fun σ=>foldl_step_dedup_length_le σ l
theorem za6:∀(l σ:List Int)(k:Int),k∈l.foldl step_dedup σ↔k∈σ\/k∈l
 |[],σ,k=>by simp
 |x::l,σ,k=>by
  rw[y1B,za6 l];by_cases h:x∈σ
  .rw[z5A h];constructor
   .rintro(a|a)
    .exact .inl a
    .exact .inr (y0g _ a)
   .rintro(a|a)
    .exact .inl a
    .rcases y0j.mp a with rfl|a
     .exact .inl h
     .exact .inr a
  .rw[z3C h];simp only[y0s,y0j,y1o,y3r,or_assoc]
theorem z5V:∀(l σ:List Int),σ.Nodup->(l.foldl step_dedup σ).Nodup
 |[],σ,h=>h
 |x::l,σ,h=>by
  rw[y1B];refine z5V l _ ?_;by_cases hx:x∈σ
  .rw[z5A hx];exact h
  .rw[z3C hx];refine y3F.mpr ⟨h,y1e.mpr ⟨by simp,y2s⟩,fun a ha b hb=>?_⟩;rw[y07]at hb;subst hb;exact fun e=>hx (e▸ha)
def zcz(l:List Int)(k:Int):k∈z7Y l↔k∈l:=by unfold z7Y;rw[za6];simp
def z8i(l:List Int):(z7Y l).Nodup:=z5V l [] y2s
section
variable{prog:Program}{w:World}{A:Around}{R:Result->Shared->Prop}{I:Addr}{fp wr:List Addr}{G:Array GenState->Array GenState->Prop}{n:Nat}{P:Nat->Value->Prop}{St:Nat->Shared->Prop}
def z6u.at{h h':Heap}{a:Addr}{ks:List Int}(x:z6u prog w h a ks)(e:∀o,h.get? a=some o->h'.get? a=some o):z6u prog w h' a ks:=let⟨o,es,ep,t,ho,r⟩:=x;⟨o,es,ep,t,e _ ho,r⟩
def zds(W:WalksS prog w A.in1 I fp wr G n P St)(S:Addr)(hSf:S∉fp)(ns:List Int)(hval:∀i v,P i v->∃k t,ns[i]?=some k/\v=.int k t)(hln:ns.length=n)(hb:n+1<scanBound) : ∀(k i:Nat) (s:Shared) (ks:List Int),n-i=k->i<=n->St i s->z6u prog w s.heap S ks->ks.Perm ((ns.take i).foldl step_dedup []) -> (∀s' ks',Moved (S::wr) G s s'->z6u prog w s'.heap S ks'->ks'.Perm (z7Y ns)->R (.ok (.ret .none)) s') -> codeAny (model prog w) A (.builtin "set.update.loop" ⟨[.ref S,.ref I],[]⟩) R s:=by
 have hSw:S∉wr:=fun h=>hSf (W.sub _ h);have hsub:∀b∈wr,b∈S::wr:=fun b hb=>y0g _ hb;intro k;induction k with
 |zero =>
  intro i s ks hk hi hst hS hp hR;have hin:i=n:=by lia
  subst hin;refine y2g F.entry_set_update_loop ?_;rw[y1S y3w _];show wpAny _ A.in1 (pyNext (.ref I)>>=_) _ _ s;refine y02 (W.done s _ _ hst fun s' hm=>?_);show wpAny _ A.in1 (ret Value.none) _ _ s';refine y09 (hR s' ks (hm.mono hsub) (hS.at fun o e=>hm.heap S _ hSw e) ?_);rw[y0x (by lia)]at hp;exact hp
 |succ k ih =>
  intro i s ks hk hi hst hS hp hR;have hlt:i<n:=by lia
  refine y2g F.entry_set_update_loop ?_;rw[y1S y3w _];show wpAny _ A.in1 (pyNext (.ref I)>>=_) _ _ s;refine y02 (W.item i s _ _ hlt hst fun v s' hP hst' hm=>?_);obtain⟨x,t,hx,rfl⟩:=hval i v hP;have hS':z6u prog w s'.heap S ks:=hS.at fun o e=>hm.heap S _ hSw e;show wpAny _ A.in1 (holding [Value.int x t] (setAdd S (.int x t))>>=_) _ _ s';refine y02 (y20 ?_);unfold setAdd;refine y20 ?_;refine y02 ((intKind prog w).pyHash (k:=x) (by simp[intKind,Value.isInt]) ?_);have hroom:ks.length+1<scanBound:=by have h1:=hp.length_eq;have h2:=z54 (ns.take i) [];rw[y0q]at h2;simp at h2;lia
  refine zdV (s:={ s' with toks:=s'.toks+1 }) hS' hroom fun b h' ks' hsb hS2 hp2=>?_;have e:(ns.take (i+1)).foldl step_dedup []=step_dedup ((ns.take i).foldl step_dedup []) x:=by rw[y0D,hx,y2c];rfl
  refine y09 ⟨y3q y3w _,ih (i+1) _ ks' (by lia) hlt (W.frame _ s' _ _ hst' (Nat.le_succ _) fun b hb o e=>?_) hS2 (by rw[e];exact hp2.trans (zcD hp x)) fun s'' ks'' hm'' hS'' hp''=>?_⟩
  .rw[hsb.2 b (fun h:b=S=>hSf (by rw[<-h];exact hb))];exact e
  .refine hR s'' ks'' (Moved.trans W.gtrans ((hm.mono hsub).then_heap (Nat.le_succ _) fun b o hb e=>?_) hm'') hS'' hp'';rw[hsb.2 b (fun h:b=S=>hb (by rw[h];exact y0i))];exact e
end
section
variable{prog:Program}{w:World}{A:Around}{E:yyE}{s:Shared}
def zaY(a:Value){Q₁:yyE}(h:Q₁ (.ref s.heap.objs.size) { s with heap:=s.heap.push { cls:=.type "set",dict:=none,data:=.set #[] 0 (.fresh 0 0 (zgV w)) } }) : codeAny (model prog w) A (.call (.builtin "set.__new__") ⟨[.type "set",a],[]⟩) (wants Q₁ E) s:=by
 refine codeAny_of_tree ?_;show wpAny _ A.in1 (do checkBuiltinCall "set.__new__" ⟨[.type "set",a],[]⟩;again (.builtin "set.__new__" ⟨[.type "set",a],[]⟩)) _ _ s
 refine y02 (wpAny_of_eq (F.newCall_set_1 a) (y09 ⟨y3q F.plain_set_new _,y2g F.entry_set_new ?_⟩));rw[y1S F.plain_set_new _];unfold Builtin.«set.__new__» Builtin.Frozenset.newClass;have hsub:=sub_set_self;obtain⟨hp,g,d,tk,os⟩:=s;dsimp only
 wp_walk
 refine wpAny_askSetting (y09 ?_);dsimp only;simp only[newObj];refine y02 (wpAny_alloc (y09 ?_));exact y09 h
set_option maxHeartbeats 3200000 in
def zaz{l:Addr}{items:Array Value}{ns:List Int}{Q:yyE}(hh:A.handled=none)(hl:s.heap.IsList l items)(hi:IntsAre items.toList ns)(hb:items.size+1<scanBound)(h:∀(h':Heap) (tk:Nat) (ks:List Int),z6u prog w h' s.heap.objs.size ks->ks.Perm (z7Y ns) -> (∀b o,b<s.heap.objs.size->s.heap.get? b=some o->h'.get? b=some o)->Q (.ref s.heap.objs.size) { s with heap:=h',toks:=tk }) : wpAny (model prog w) A (call (.type "set") [.ref l]) Q E s:=by
 obtain⟨c,tl,hmro⟩:=y32.mro;have hmade:=y32.made;have hsub:=y32.sub;refine wpAny_call (codeAny_of_tree ?_);show wpAny _ _ (callAny (.type "set") _) _ _ _;refine y09 ⟨Code.quiet_builtin _ (by decide +kernel),y2g F.entry_type_call ?_⟩;rw[Around.under_plain (weight_type_call_type "set" [.ref l] []) rfl];have h1:=y32.notType;have h2:=y32.canCreate;have hct:=F.typeCall_set_1 (.ref l);repeat (any_goals (first|assumption|wp_step))
 refine y2F (zaY (.ref l) (E:=E) (Q₁:=fun obj s₁=>obj=.ref s.heap.objs.size/\s₁={ s with heap:=s.heap.push { cls:=.type "set",dict:=none,data:=.set #[] 0 (.fresh 0 0 (zgV w)) } }) ⟨rfl,rfl⟩) fun r s₁ hr=>?_;cases r with
 |error e=>exact hr
 |ok fl =>
  cases fl with
  |ret obj =>
   obtain⟨rfl,rfl⟩:=hr;generalize hled:zgV w=led;have hS:(s.heap.push { cls:=.type "set",dict:=none,data:=.set #[] 0 (.fresh 0 0 led) }).get? s.heap.objs.size=some { cls:=.type "set",dict:=none,data:=.set #[] 0 (.fresh 0 0 led) }:=y0e _ rfl;have hT:Shared.TypeIs { s with heap:=s.heap.push { cls:=.type "set",dict:=none,data:=.set #[] 0 (.fresh 0 0 led) } } (.ref s.heap.objs.size) "set":=⟨_,hS,rfl⟩;have hli:=y32.init.lookup;have hbi:=y32.init.bind (.ref s.heap.objs.size);repeat (any_goals (first|assumption|wp_step))
   refine y2F (codeAny_call_builtin (R:=wants (fun r s₂=>r=.none/\∃h' tk ks,s₂={ s with heap:=h',toks:=tk } /\
     z6u prog w h' s.heap.objs.size ks/\ks.Perm (z7Y ns) /\
     (∀b o,b<s.heap.objs.size->s.heap.get? b=some o->h'.get? b=some o)) E) y32.init.plain F.entry_set_init (check_set_init_1 hT ?_)) fun r₂ s₂ hr₂=>?_
   .obtain⟨ol,hol,hcl,nl,hdl⟩:=hl;obtain⟨ocls,odict,odata,oslots⟩:=ol;simp only at hcl hdl;subst hcl;subst hdl;have hol':(s.heap.push { cls:=.type "set",dict:=none,data:=.set #[] 0 (.fresh 0 0 led) }).get? l=some { cls:=.type "list",dict:=odict,data:=.seq items nl,slots:=oslots }:=y05 _ hol;have hsls:=F.sub_list_set;have hslf:=F.sub_list_frozenset;have hne:(Value.type "list" == Value.type "dict")=false:=by decide
    have hl1:(s.heap.push { cls:=.type "set",dict:=none,data:=.set #[] 0 (.fresh 0 0 led) }).IsList l items:=⟨_,hol',rfl,nl,rfl⟩;unfold Builtin.«set.__init__» noKeywords Builtin.Frozenset.updateFrom;generalize hPI:pyIter=PI
    wp_walk
    subst hPI;refine wpAny_pyIter_list hl1 ?_;refine y02 (wpAny_runValue ?_);have hlS:l<s.heap.objs.size:=y0k hol;have hh3:A.in1.in1.in1.handled=none:=by simp[hh]
    have hneI:l≠(s.heap.push { cls:=.type "set",dict:=none,data:=.set #[] 0 (.fresh 0 0 led) }).objs.size:=by rw[y1g];exact y0u (y2y hlS)
    have hSf:s.heap.objs.size∉[(s.heap.push { cls:=.type "set",dict:=none,data:=.set #[] 0 (.fresh 0 0 led) }).objs.size,l]:=by rw[y1g];simp only[y0j,y07,y1o,y3r,not_or];exact⟨y0u (Nat.lt_succ_self _),y2E hlS⟩
    have hln:ns.length=items.size:=by have:=IntsAre.length hi;simpa using this.symm
    have hval:∀(i:Nat)(v:Value),items[i]?=some v->∃k t,ns[i]?=some k/\v=.int k t:=fun i v hv=>by
     obtain⟨t,e⟩:=PyProof.Rows.IntsAre.int_at hi i v (by rw[y0w];exact hv);have hi':i<ns.length:=by rw[hln];exact(y38.mp hv).1
     exact⟨ns[i],t,y00 hi',by rw[e,y03,y00 hi'];rfl⟩
    refine zds ((Walks.list hh3 _ l hneI items).toS) s.heap.objs.size
     hSf ns hval hln hb (items.size-0) 0 _ [] (by lia) (y0K _)
     ⟨⟨_,y0e _ rfl,rfl,rfl⟩,(hl1.push _)⟩ ?hS0 .rfl ?hR
    case hS0 =>
     have hget:((s.heap.push { cls:=.type "set",dict:=none,data:=.set #[] 0 (.fresh 0 0 led) }).push { cls:=.type "list_iterator",data:=.fields #[.ref l,.int 0 0] }).get? s.heap.objs.size
       = some { cls:=.type "set",dict:=none,data:=.set #[] 0 (.fresh 0 0 led) }:=y05 _ hS
     exact⟨_,#[],0,_,hget,⟨rfl,rfl,rfl⟩,rfl,⟨fun e he=>by simp at he,.nil,rfl,hled.symm,y35⟩⟩
    case hR =>
     intro s' ks' hm hS' hp';obtain⟨h',g',d',tk',os'⟩:=s';have eg:g'=s.gens:=hm.gens;have ed:d'=s.drawn:=hm.drawn;have eo:os'=s.os:=hm.os;subst eg;subst ed;subst eo;show wpAny _ _ _ _ _ _;refine y09 ?_;show wpAny _ _ (ret Value.none) _ _ _;refine y09 ⟨rfl,h',tk',ks',rfl,hS',hp',fun b o hb e=>?_⟩;have hb1:b≠s.heap.objs.size:=y0u hb;have hb2:b≠(s.heap.push { cls:=.type "set",dict:=none,data:=.set #[] 0 (.fresh 0 0 led) }).objs.size:=by rw[y1g];exact y0u (y2y hb)
     exact hm.heap b o (by simp only[y0j,y07,y1o,y3r,not_or];exact⟨hb1,hb2⟩) (y05 _ (y05 _ e))
   .cases r₂ with
    |error e=>exact hr₂
    |ok fl₂ =>
     cases fl₂ with
     |ret r =>
      obtain⟨rfl,h',tk,ks,rfl,hS',hp',hk'⟩:=hr₂;repeat (any_goals (first|assumption|wp_step))
      exact h _ _ ks hS' hp' hk'
     |_=>exact hr₂.elim
  |_=>exact hr.elim
end
namespace SF
def slot_next:Slot "set_iterator" "__next__" "set_iterator.__next__" :=
 .of (owner:="set_iterator") (n:="__next__") (by rw[typeLookup_type,builtinLookup_eq_fast];kernel_rfl) (by decide +kernel) (by decide +kernel) (by decide +kernel)
  (by first|exact .inl (by decide +kernel)|exact .inr (by decide +kernel)) (by rw[isSubtype_type];kernel_rfl)
def slot_iter:Slot "set_iterator" "__iter__" "set_iterator.__iter__" :=
 .of (owner:="set_iterator") (n:="__iter__") (by rw[typeLookup_type,builtinLookup_eq_fast];kernel_rfl) (by decide +kernel) (by decide +kernel) (by decide +kernel)
  (by first|exact .inl (by decide +kernel)|exact .inr (by decide +kernel)) (by rw[isSubtype_type];kernel_rfl)
def entry_next:entryFor table "set_iterator.__next__"=some Builtin.«set_iterator.__next__»:=entryFor_of_tree (by kernel_rfl)
def entry_iter:entryFor table "set_iterator.__iter__"=some Builtin.«dict_keyiterator.__iter__» :=
 entryFor_alias (id':="dict_keyiterator.__iter__") (by kernel_rfl) rfl (by decide +kernel) (by kernel_rfl)
def entry_set_iter:entryFor table "set.__iter__"=some Builtin.«frozenset.__iter__» :=
 entryFor_alias (id':="frozenset.__iter__") (by kernel_rfl) rfl (by decide +kernel) (by kernel_rfl)
def z9w:Manifest.owners.lookup (String.ofList ['r','o','t','a','r','e','t','i','_','t','e','s'].reverse)=some Manifest.sig_set_iterator:=by kernel_rfl
def args_next(a:Value):argsOk "set_iterator.__next__" ⟨[a],[]⟩:=by unfold argsOk;rw[signature?_of (id:="set_iterator.__next__") (n:=['_','_','t','x','e','n','_','_']) (o:=['r','o','t','a','r','e','t','i','_','t','e','s']) (by kernel_rfl) z9w];kernel_rfl
def args_iter(a:Value):argsOk "set_iterator.__iter__" ⟨[a],[]⟩:=by unfold argsOk;rw[signature?_of (id:="set_iterator.__iter__") (n:=['_','_','r','e','t','i','_','_']) (o:=['r','o','t','a','r','e','t','i','_','t','e','s']) (by kernel_rfl) z9w];kernel_rfl
end SF
def z3l(h:Heap)(it a:Addr)(first:Value)(i n ep:Nat):Prop:=∃o,h.get? it=some o/\o.cls=.type "set_iterator"/\o.data=.fields #[first,.int i 0,.ref a,.int n 0,.int ep 0]
def z3l.typeIs{s:Shared}{it a:Addr}{f:Value}{i n ep:Nat}(x:z3l s.heap it a f i n ep):s.TypeIs (.ref it) "set_iterator":=let⟨o,ho,hc,_⟩:=x;⟨o,ho,hc⟩
def z3l.at{h h':Heap}{it a:Addr}{f:Value}{i n ep:Nat}(x:z3l h it a f i n ep)(e:∀o,h.get? it=some o->h'.get? it=some o):z3l h' it a f i n ep:=let⟨o,ho,r⟩:=x;⟨o,e _ ho,r⟩
def z3m(h:Heap)(a:Addr)(es:Array (Int × Value))(ep:Nat)(t:SetTable):Prop:=∃o,h.get? a=some o/\o.ExactSet/\o.data=.set es ep t
def z3m.at{h h':Heap}{a:Addr}{es:Array (Int × Value)}{ep:Nat}{t:SetTable}(x:z3m h a es ep t)(e:∀o,h.get? a=some o->h'.get? a=some o):z3m h' a es ep t:=let⟨o,ho,r⟩:=x;⟨o,e _ ho,r⟩
section
variable{prog:Program}{w:World}{A:Around}{E:yyE}{s:Shared}{it a:Addr}{es:Array (Int × Value)}{ep:Nat}{t:SetTable}{i:Nat}
def z2Y{f:Value}{n:Nat}{Q:yyE}(hit:z3l s.heap it a f i n ep)(h:Q (.ref it) s):wpAny (model prog w) A (pyIter (.ref it)) Q E s:=by refine wpAny_pyIter_slot hit.typeIs SF.slot_iter (y15 SF.slot_iter hit.typeIs SF.entry_iter ?_ (SF.args_iter _));show wpAny _ _ (ret (.ref it)) _ _ s;exact y09 ⟨_,rfl,"set_iterator",_,hit.typeIs,SF.slot_next.lookup,h⟩
def z9x{sl nx:Nat}{x:Value}{Q:Option Value->Shared->Prop}(hit:z3l s.heap it a (.int sl 0) i es.size ep)(hm:z3m s.heap a es ep t)(hf:t.fits es.size=true)(hn:∀{A':Around}{E':yyE}{Q':Option (Value × Nat)->Shared->Prop},Q' (some (x,nx)) s->wpAny (model prog w) A' (setNext a sl i ep) Q' E' s)(hQ:∀h',z3l h' it a (.int nx 0) (i+1) es.size ep->Heap.SameBut it s.heap h'->Q (some x) { s with heap:=h' }):wpAny (model prog w) A (pyNext (.ref it)) Q E s:=by
 obtain⟨o,ho,hc,hd⟩:=id hit;obtain⟨os,hos,hex,hds⟩:=id hm;unfold pyNext;refine y02 (y2G (y10 (name:=Str.ofString "__next__") hit.typeIs SF.slot_next
  (y15 SF.slot_next hit.typeIs SF.entry_next ?_ (SF.args_next _))))
 unfold Builtin.«set_iterator.__next__»;refine y02 (y09 ?_);refine y02 (wpAny_fieldsOf ho hd ?_);dsimp only;refine y02 (y2J hos hds hf ?_);rw[if_neg (by simp)];simp only[y0l];refine y02 (hn ?_);dsimp only;refine y02 (y2r ho hd (by simp) ?_);have h1:(s.heap.update it (Obj.mapFields (·.setIfInBounds 0 (rawInt (nx:Nat))))).get? it=some (Obj.mapFields (·.setIfInBounds 0 (rawInt (nx:Nat))) o):=y1l _ ho (y2p (y1s hd _));have d1:=y1s hd (·.setIfInBounds 0 (rawInt (nx:Nat)));refine y02 (y2r h1 d1 (by simp) ?_);have h2:=y1l (Obj.mapFields (·.setIfInBounds 1 (rawInt ((i:Int)+1)))) h1 (y2p (y1s d1 _));refine y09 ⟨_,rfl,y09 (hQ _ ⟨_,h2,((y3D ..).trans (y3D ..)).trans hc,?_⟩ ((y1n ..).trans (y1n ..)))⟩;rw[y1s d1];simp[rawInt]
def zcw{sl:Nat}{Q:Option Value->Shared->Prop}(hh:A.handled=none)(hit:z3l s.heap it a (.int sl 0) i es.size ep)(hm:z3m s.heap a es ep t)(hf:t.fits es.size=true)(hn:∀{A':Around}{E':yyE}{Q':Option (Value × Nat)->Shared->Prop},Q' none s->wpAny (model prog w) A' (setNext a sl i ep) Q' E' s)(hQ:∀h',Heap.ExtBut it s.heap h'->Q none { s with heap:=h' }):wpAny (model prog w) A (pyNext (.ref it)) Q E s:=by
 obtain⟨o,ho,hc,hd⟩:=id hit;obtain⟨os,hos,hex,hds⟩:=id hm;unfold pyNext;refine y02 (y2G (y10 (name:=Str.ofString "__next__") hit.typeIs SF.slot_next
  (y15 SF.slot_next hit.typeIs SF.entry_next ?_ (SF.args_next _))))
 unfold Builtin.«set_iterator.__next__»;refine y02 (y09 ?_);refine y02 (wpAny_fieldsOf ho hd ?_);dsimp only;refine y02 (y2J hos hds hf ?_);rw[if_neg (by simp)];simp only[y0l];refine y02 (hn ?_);dsimp only;refine y02 (y2r ho hd (by simp) ?_);show wpAny _ _ (newExc (.type "StopIteration") []>>=_) _ _ _;refine y02 ?_;simp only[newExc,newTuple];refine y02 (y13 ?_ (by size_fits));refine y02 (m:=firstArgMember _ _) (wpAny_of_eq (a:=Value.none) (by first|rfl|(simp only[firstArgMember];rfl)) ?_);refine y13 ?_ (by size_fits);simp only[raiseNew];refine y02 (wpAny_handled ?_);rw[show A.in1.handled=none from hh];refine y02 (y09 (wpAny_throw ?_));refine y02 (y2N (T:="StopIteration") (b:=true) ⟨_,y0e _ rfl,rfl⟩ isSubtype_stop ?_);exact y09 (hQ _ (((y1n ..).extBut.push _).push _))
end
end L2
namespace L2
open PySem PySem.Spec PyProof.Rows
section
variable{prog:Program}{w:World}{A:Around}{E:yyE}{s:Shared}{it a:Addr}{es:Array (Int × Value)}{ep:Nat}{t:SetTable}{i:Nat}
def z3N{Q:Bool->Shared->Prop}(h:Q (w.params.followText "set-order") s):wpAny (model prog w) A setsByText Q E s:=by unfold setsByText;exact y02 (wpAny_askSetting (y09 h))
def z4n{sl:Nat}{Q:Option (Value × Nat)->Shared->Prop}(hm:z3m s.heap a es ep t)(hf:t.fits es.size=true)(hb:w.params.followText "set-order"=true)(h:Q (((pickOrder (w.params.setOrder a ep) es)[i]?).map fun e=>(e.2,sl)) s):wpAny (model prog w) A (setNext a sl i ep) Q E s:=by obtain⟨o,ho,hex,hd⟩:=hm;unfold setNext;refine y02 (y2C ho hd hf ?_);dsimp only;refine y02 (z3N ?_);rw[hb,if_pos rfl];rw[if_neg (by simp)];refine y02 ?_;unfold setWalk;refine y02 (y2C ho hd hf ?_);dsimp only;refine y02 (z3N ?_);rw[hb,if_pos rfl];refine y02 (wpAny_askSetting (y09 ?_));exact y09 h
def z3L{sl:Nat}{Q:Option (Value × Nat)->Shared->Prop}(hm:z3m s.heap a es ep t)(hf:t.fits es.size=true)(hb:w.params.followText "set-order"=false)(hl:t.led=true)(hr:Ris t.place)(hd:¬(t.plain=false/\1<es.size))(hc:Cut t.place sl i)(h:Q (match es[i]?,t.place[i]? with|some (_,x),some j=>some (x,j+1)|_,_=>none) s):wpAny (model prog w) A (setNext a sl i ep) Q E s:=by
 obtain⟨o,ho,hex,hdt⟩:=hm;unfold setNext;refine y02 (y2C ho hdt hf ?_);dsimp only;refine y02 (z3N ?_);rw[hb,if_neg (by simp)];refine y1j (fun z=>?_) fun _=>?_
 .have z':(!t.plain&&decide (es.size>1))=true:=z;simp at z';exact absurd z' hd
 refine y02 ?_;show wpAny _ _ (if(!t.led&&!es.isEmpty)=true then unsupported "set:maker-not-led" else pure ()) _ _ _;rw[hl,if_neg (by simp)];refine y09 ?_;rw[show SetTable.below t.place sl=i from zfc (z7p hr sl) hc];exact y09 h
end
section
variable{prog:Program}{w:World}{A:Around}{es:Array (Int × Value)}{ep:Nat}{t:SetTable}
def zbv(hh:A.handled=none)(I a:Addr)(hne:a≠I)(hf:t.fits es.size=true)(hb:w.params.followText "set-order"=true)(hz:(pickOrder (w.params.setOrder a ep) es).size=es.size) : Walks prog w A I [I,a] [I] es.size (fun i v=>((pickOrder (w.params.setOrder a ep) es).toList.map (·.2))[i]?=some v) (fun i h=>z3l h I a (.int (0:Nat) 0) i es.size ep/\z3m h a es ep t) where
 sub:=fun b hb=>by simp at hb;simp[hb]
 frame:=fun _ _ _ st hk=>⟨st.1.at fun o e=>hk I (by simp) o e,st.2.at fun o e=>hk a (by simp) o e⟩
 item:=fun i s Q E hi st hQ=>by have hx:(pickOrder (w.params.setOrder a ep) es)[i]?=some (pickOrder (w.params.setOrder a ep) es)[i]:=y0c (by lia);refine z9x (nx:=0) (x:=(pickOrder (w.params.setOrder a ep) es)[i].2) st.1 st.2 hf (fun h=>z4n st.2 hf hb (by rw[hx];exact h)) fun h' hit' hs'=>?_;exact hQ _ h' s.toks (by rw[y04,y0w,hx];rfl) ⟨hit',st.2.at fun o e=>by rw[hs'.2 a hne];exact e⟩ (fun b o hb e=>by rw[hs'.2 b (fun h=>hb (by simp[h]))];exact e)
 done:=fun s Q E st hQ=>zcw hh st.1 st.2 hf (fun h=>z4n st.2 hf hb (by rw[y2j (by lia)];exact h)) fun h' he'=>hQ h' s.toks fun b o hb e=>he' b o (fun h=>hb (by simp[h])) e
 self:=fun _ _ _ _ st hQ=>z2Y st.1 hQ
def zas(hh:A.handled=none)(I a:Addr)(hne:a≠I)(hf:t.fits es.size=true)(hb:w.params.followText "set-order"=false)(hl:t.led=true)(hr:Ris t.place)(hd:¬(t.plain=false/\1<es.size)) : Walks prog w A I [I,a] [I] es.size (fun i v=>(es.toList.map (·.2))[i]?=some v) (fun i h=>∃sl:Nat,z3l h I a (.int sl 0) i es.size ep/\z3m h a es ep t/\Cut t.place sl i) where
 sub:=fun b hb=>by simp at hb;simp[hb]
 frame:=fun _ _ _ ⟨sl,st⟩ hk=>⟨sl,st.1.at fun o e=>hk I (by simp) o e,st.2.1.at fun o e=>hk a (by simp) o e,st.2.2⟩
 item:=fun i s Q E hi st hQ=>by
  obtain⟨sl,hit,hm,hc⟩:=st;have hx:es[i]?=some es[i]:=y0c (by lia);have hps:t.place.size=es.size:=by simp[SetTable.fits]at hf;exact hf.1
  have hp:t.place[i]?=some t.place[i]:=y0c (by lia);refine z9x (nx:=t.place[i]+1) (x:=es[i].2) hit hm hf (fun h=>z3L hm hf hb hl hr hd hc (by rw[hx,hp];exact h)) fun h' hit' hs'=>?_;refine hQ _ h' s.toks (by rw[y04,y0w,hx];rfl) ⟨_,hit',hm.at fun o e=>by rw[hs'.2 a hne];exact e,?_⟩ (fun b o hb e=>by rw[hs'.2 b (fun h=>hb (by simp[h]))];exact e);refine⟨by lia,fun k hk v hv=>?_,fun k hk v hv=>?_⟩
  .rcases y1q k i with q|q
   .have:=hr.lt q hv hp;lia
   .have:k=i:=by lia
    subst this;rw[hp]at hv;cases hv;lia
  .have:=hr.lt (by lia:i<k) hp hv;lia
 done:=fun s Q E st hQ=>by obtain⟨sl,hit,hm,hc⟩:=st;exact zcw hh hit hm hf (fun h=>z3L hm hf hb hl hr hd hc (by rw[y2j (y0b _)];exact h)) fun h' he'=>hQ h' s.toks fun b o hb e=>he' b o (fun h=>hb (by simp[h])) e
 self:=fun _ _ _ _ ⟨_,st⟩ hQ=>z2Y st.1 hQ
end
section
variable{prog:Program}{w:World}{A:Around}{E:yyE}{s:Shared}{it a:Addr}{es:Array (Int × Value)}{ep:Nat}{t:SetTable}{i:Nat}
def zao{T:Addr}{ps:List Nat}{ot:Obj}{nt pl:Nat}{x:Int × Value}{Q:Option Value->Shared->Prop}(hit:z3l s.heap it a (.ref T) i es.size ep)(hm:z3m s.heap a es ep t)(hf:t.fits es.size=true)(hT:s.heap.get? T=some ot)(hTd:ot.data=.seq (ps.map fun(k:Nat)=>rawInt k).toArray nt)(hp:ps[i]?=some pl)(hx:es[pl]?=some x)(hQ:∀h',z3l h' it a (.ref T) (i+1) es.size ep->Heap.SameBut it s.heap h'->Q (some x.2) { s with heap:=h' }):wpAny (model prog w) A (pyNext (.ref it)) Q E s:=by
 obtain⟨o,ho,hc,hd⟩:=id hit;obtain⟨os,hos,hex,hds⟩:=id hm;unfold pyNext;refine y02 (y2G (y10 (name:=Str.ofString "__next__") hit.typeIs SF.slot_next
  (y15 SF.slot_next hit.typeIs SF.entry_next ?_ (SF.args_next _))))
 unfold Builtin.«set_iterator.__next__»;refine y02 (y09 ?_);refine y02 (wpAny_fieldsOf ho hd ?_);dsimp only;refine y02 (y2J hos hds hf ?_);rw[if_neg (by simp)];refine y02 (y21 hT hTd ?_);have e1:(ps.map fun(k:Nat)=>rawInt k).toArray[(i:Int).toNat]?=some (.int pl 0):=by simp[hp,rawInt]
 dsimp only;rw[e1];dsimp only;refine y02 ?_;unfold setNextDrawn;refine y02 (y2C hos hds hf ?_);dsimp only;rw[if_neg (by simp)];simp only[y0l,hx];refine y09 ?_;refine y02 (y2r ho hd (by simp) ?_);have h1:=y1l (Obj.mapFields (·.setIfInBounds 1 (rawInt ((i:Int)+1)))) ho (y2p (y1s hd _));refine y09 ⟨_,rfl,y09 (hQ _ ⟨_,h1,(y3D ..).trans hc,?_⟩ (y1n ..))⟩;rw[y1s hd];simp[rawInt]
def zcH{T:Addr}{ps:List Nat}{ot:Obj}{nt:Nat}{Q:Option Value->Shared->Prop}(hh:A.handled=none)(hit:z3l s.heap it a (.ref T) i es.size ep)(hm:z3m s.heap a es ep t)(hf:t.fits es.size=true)(hT:s.heap.get? T=some ot)(hTd:ot.data=.seq (ps.map fun(k:Nat)=>rawInt k).toArray nt)(hp:ps.length<=i)(hQ:∀h',Heap.ExtBut it s.heap h'->Q none { s with heap:=h' }):wpAny (model prog w) A (pyNext (.ref it)) Q E s:=by
 obtain⟨o,ho,hc,hd⟩:=id hit;obtain⟨os,hos,hex,hds⟩:=id hm;unfold pyNext;refine y02 (y2G (y10 (name:=Str.ofString "__next__") hit.typeIs SF.slot_next
  (y15 SF.slot_next hit.typeIs SF.entry_next ?_ (SF.args_next _))))
 unfold Builtin.«set_iterator.__next__»;refine y02 (y09 ?_);refine y02 (wpAny_fieldsOf ho hd ?_);dsimp only;refine y02 (y2J hos hds hf ?_);rw[if_neg (by simp)];refine y02 (y21 hT hTd ?_);have e1:(ps.map fun(k:Nat)=>rawInt k).toArray[(i:Int).toNat]?=none:=by simp[hp]
 dsimp only;rw[e1];dsimp only;refine y02 (y2r ho hd (by simp) ?_);have h1:=y1l (Obj.mapFields (·.setIfInBounds 0 (rawInt 0))) ho (y2p (y1s hd _));have d1:=y1s hd (·.setIfInBounds 0 (rawInt 0));refine y02 (y2r h1 d1 (by simp) ?_);show wpAny _ _ (newExc (.type "StopIteration") []>>=_) _ _ _;refine y02 ?_;simp only[newExc,newTuple];refine y02 (y13 ?_ (by size_fits));refine y02 (m:=firstArgMember _ _) (wpAny_of_eq (a:=Value.none) (by first|rfl|(simp only[firstArgMember];rfl)) ?_);refine y13 ?_ (by size_fits);simp only[raiseNew];refine y02 (wpAny_handled ?_);rw[show A.in1.handled=none from hh];refine y02 (y09 (wpAny_throw ?_));refine y02 (y2N (T:="StopIteration") (b:=true) ⟨_,y0e _ rfl,rfl⟩ isSubtype_stop ?_);exact y09 (hQ _ ((((y1n ..).trans (y1n ..)).extBut.push _).push _))
def zaH(hh:A.handled=none)(I a T:Addr)(hne:a≠I)(hTI:T≠I)(hf:t.fits es.size=true)(ps:List Nat)(hps:ps.Perm (List.range es.size)) : Walks prog w A I [I,a,T] [I] es.size (fun i v=>((ps.filterMap fun k=>es[k]?).map (·.2))[i]?=some v) (fun i h=>z3l h I a (.ref T) i es.size ep/\z3m h a es ep t/\∃ot nt,h.get? T=some ot/\ot.data=.seq (ps.map fun(k:Nat)=>rawInt k).toArray nt) where
 sub:=fun b hb=>by simp at hb;simp[hb]
 frame:=fun _ _ _ st hk=>⟨st.1.at fun o e=>hk I (by simp) o e,st.2.1.at fun o e=>hk a (by simp) o e,let⟨ot,nt,h1,h2⟩:=st.2.2;⟨ot,nt,hk T (by simp) _ h1,h2⟩⟩
 item:=fun i s Q E hi st hQ=>by
  obtain⟨hit,hm,ot,nt,hT,hTd⟩:=st;have hl:ps.length=es.size:=by rw[hps.length_eq,y1Z]
  have hp:ps[i]?=some ps[i]:=y00 (by lia);have hlt:ps[i]<es.size:=y1N.mp (hps.mem_iff.mp (y0h _));have hx:es[ps[i]]?=some es[ps[i]]:=y0c hlt;refine zao hit hm hf hT hTd hp hx fun h' hit' hs'=>?_;refine hQ _ h' s.toks ?_ ⟨hit',hm.at fun o e=>by rw[hs'.2 a hne];exact e,ot,nt,by rw[hs'.2 T hTI];exact hT,hTd⟩ (fun b o hb e=>by rw[hs'.2 b (fun h=>hb (by simp[h]))];exact e);have all:∀(l:List Nat),(∀k∈l,k<es.size)->∀j:Nat,(l.filterMap fun k=>es[k]?)[j]?=l[j]?.bind fun k=>es[k]?:=by
   intro l;induction l with
   |nil=>intro _ j;simp
   |cons y l ih =>
    intro hy j;have hy':y<es.size:=hy y (y0i ..);have ey:es[y]?=some es[y]:=y0c hy';rw[List.filterMap_cons_some ey];cases j with
    |zero=>simp[ey]
    |succ j=>simp only[List.getElem?_cons_succ];exact ih (fun k hk=>hy k (y0g _ hk)) j
  rw[y04,all ps (fun k hk=>y1N.mp (hps.mem_iff.mp hk)),hp];simp only[Option.bind_some,hx];rfl
 done:=fun s Q E st hQ=>by
  obtain⟨hit,hm,ot,nt,hT,hTd⟩:=st;have hl:ps.length=es.size:=by rw[hps.length_eq,y1Z]
  exact zcH hh hit hm hf hT hTd (by lia) fun h' he'=>hQ h' s.toks fun b o hb e=>he' b o (fun h=>hb (by simp[h])) e
 self:=fun _ _ _ _ st hQ=>z2Y st.1 hQ
end
section
variable{prog:Program}{w:World}{A:Around}{E:yyE}{s:Shared}{a:Nat}{es:Array (Int × Value)}{ep:Nat}{t:SetTable}
def zaG{ks:List Int}{Q:yyE}(hs:Sit prog w es t ks)(hm:z3m s.heap a es ep t)(hz:es.size<scanBound)(hQ:∀(I:Nat)(h':Heap)(d:Drawn)(fp:List Addr)(vs:List Value)(St:Nat->Heap->Prop), (∀A':Around,A'.handled=none->Walks prog w A' I fp [I] es.size (fun i v=>vs[i]?=some v) St)->St 0 h'->vs.Perm (es.toList.map (·.2))->vs.length=es.size->I∈fp -> (∀b:Nat,b∈fp->b<h'.objs.size/\(b=a\/s.heap.objs.size<=b))->s.heap.objs.size<=I->(∀b o,s.heap.get? b=some o->h'.get? b=some o)->Q (.ref I) { s with heap:=h',drawn:=d }) : wpAny (model prog w) A (pyIter (.ref a)) Q E s:=by
 obtain⟨o,ho,hex,hd⟩:=id hm;have hT:s.TypeIs (.ref a) "set":=⟨o,ho,hex.1⟩;have hlt:@LT.lt Nat _ a s.heap.objs.size:=y0k ho;refine wpAny_pyIter_slot hT F.slot_set_iter (y15 F.slot_set_iter hT SF.entry_set_iter ?_ (F.args_set_iter_1 _));unfold Builtin.«frozenset.__iter__» Builtin.Frozenset.slot0 slotArgs;simp only[List.isEmpty_nil,y2I,y0n,↓reduceIte,bind_assoc,y2d,bne_self_eq_false];unfold Builtin.Frozenset.addrOf Builtin.Frozenset.sizeOf;refine y02 (y09 ?_);try dsimp only
 refine y02 (y09 ?_);simp only[bind_assoc];refine y02 (y2J ho hd hs.fits ?_);refine y02 (y09 ?_);unfold setDrawn;simp only[bind_assoc];refine y02 (y2C ho hd hs.fits ?_);dsimp only;refine y02 (z3N ?_);refine y02 (y09 ?_);have fin:∀(first:Value)(h1:Heap)(d:Drawn)(fp:List Addr)(vs:List Value)(St:Nat->Heap->Prop),z3m h1 a es ep t->(∀b o,s.heap.get? b=some o->h1.get? b=some o)->s.heap.objs.size<=h1.objs.size ->
   (∀A':Around,A'.handled=none->Walks prog w A' h1.objs.size fp [h1.objs.size] es.size (fun i v=>vs[i]?=some v) St) ->
   St 0 (h1.push { cls:=.type "set_iterator",data:=.fields #[first,.int (0:Nat) 0,.ref a,.int es.size 0,.int ep 0] })->vs.Perm (es.toList.map (·.2))->vs.length=es.size->h1.objs.size∈fp->(∀b:Nat,b∈fp->b<=h1.objs.size/\(b=a\/s.heap.objs.size<=b)) ->
   wpAny (model prog w) A.in1 (do
    let __do_lift <-setEpoch a;let __do_lift <-newFields "set_iterator" [first,rawInt 0,.ref a,rawInt es.size,rawInt __do_lift]
    ret __do_lift) (fun fin s'=>∃v,fin=Fin.done (Flow.ret v)/\∃T' r,s'.TypeIs v T'/\typeLookup (.type T') "__next__"=pure (some r)/\Q v s') E { s with heap:=h1,drawn:=d }:=fun first h1 d fp vs St hm1 hk1 hsz W st hp hl hI hfp=>by
  obtain⟨o1,ho1,hex1,hd1⟩:=id hm1;refine y02 (wpAny_setEpoch_of ho1 hd1 hs.fits ?_);refine y02 (y13 ?_);refine y09 ⟨_,rfl,"set_iterator",_,⟨_,y0e _ rfl,rfl⟩,SF.slot_next.lookup,?_⟩;refine hQ h1.objs.size _ d fp vs St W st hp hl hI (fun b hb=>⟨by rw[y1g];exact Nat.lt_succ_of_le (hfp b hb).1,(hfp b hb).2⟩) hsz fun b o e=>y05 _ (hk1 b o e)
 by_cases hb:w.params.followText "set-order"=true
 .rw[hb];simp only[y2I,Bool.false_and,y0n,y1H];refine y02 (y09 ?_);have hpk:=zbr (w.params.setOrder a ep) es;have hpz:(pickOrder (w.params.setOrder a ep) es).size=es.size:=by rw[<-y0J,hpk.length_eq,y0J]
  exact fin _ s.heap s.drawn [s.heap.objs.size,a] _ _ hm (fun _ _ e=>e) (y0b _) (fun A' hh=>zbv hh _ a (y0u hlt) hs.fits hb hpz) ⟨⟨_,y0e _ rfl,rfl,rfl⟩,hm.at fun o e=>y05 _ e⟩ (hpk.map _) (by simp[hpz]) (by simp) (fun b hb=>by
   rcases y0j.mp hb with rfl|hb
   .exact⟨y0b _,.inr (y0b _)⟩
   .rw[y07.mp hb];exact⟨y1p hlt,.inl rfl⟩)
 .have hb':w.params.followText "set-order"=false:=by simpa using hb
  rw[hb'];simp only[Bool.not_false,Bool.true_and];have hled:t.led=true:=by rw[hs.led];unfold zgV;rw[hb'];rfl
  refine y1j (fun z=>?_) fun z=>?_
  .have z':(!t.plain&&decide (es.size>1))=true:=z;refine y02 (z4r es.size (List.range es.size) s y1Z fun ps d hps=>?_);refine y02 ?_;unfold newTuple;have hl:ps.length=es.size:=by rw[hps.length_eq,y1Z]
   refine y13 ?_ (by have:=y3H hz;show(ps.map fun(i:Nat)=>rawInt i).toArray.size<=_;simp[hl];lia);have hTT:(s.heap.push { cls:=.type "tuple",data:=.seq (ps.map fun(i:Nat)=>rawInt i).toArray }).get? s.heap.objs.size=some { cls:=.type "tuple",data:=.seq (ps.map fun(i:Nat)=>rawInt i).toArray }:=y0e _ rfl;have hp2:(ps.filterMap fun k=>es[k]?).Perm es.toList:=(hps.filterMap _).trans (by rw[filterMap_getElem?_range]);have hsz1:(s.heap.push { cls:=.type "tuple",data:=.seq (ps.map fun(i:Nat)=>rawInt i).toArray }).objs.size=s.heap.objs.size+1:=y1g _ _;have lt1:@LT.lt Nat _ a (s.heap.push { cls:=.type "tuple",data:=.seq (ps.map fun(i:Nat)=>rawInt i).toArray }).objs.size:=by rw[hsz1];lia
   have lt2:@LT.lt Nat _ s.heap.objs.size (s.heap.push { cls:=.type "tuple",data:=.seq (ps.map fun(i:Nat)=>rawInt i).toArray }).objs.size:=by rw[hsz1];lia
   have hm1:=hm.at (h':=s.heap.push { cls:=.type "tuple",data:=.seq (ps.map fun(i:Nat)=>rawInt i).toArray }) fun o e=>y05 _ e;refine fin _ _ d [_,a,s.heap.objs.size] _ _ hm1 (fun _ _ e=>y05 _ e) (y1p lt2) (fun A' hh=>zaH hh _ a s.heap.objs.size (y0u lt1) (y0u lt2) hs.fits ps hps)
    ⟨⟨_,y0e _ rfl,rfl,rfl⟩,hm1.at fun o e=>y05 _ e,_,_,y05 _ hTT,rfl⟩ (hp2.map _) (by rw[y01,hp2.length_eq,y0J]) (by simp) (fun b hb=>?_)
   rcases y0j.mp hb with rfl|hb
   .exact⟨y0b _,.inr (y1p lt2)⟩
   rcases y0j.mp hb with rfl|hb
   .exact⟨y1p lt1,.inl rfl⟩
   .rw[y07.mp hb];exact⟨y1p lt2,.inr (y0b _)⟩
  .have z':¬(!t.plain&&decide (es.size>1))=true:=z;refine y02 (y09 ?_);refine fin _ s.heap s.drawn [s.heap.objs.size,a] _ _ hm (fun _ _ e=>e) (y0b _) (fun A' hh=>zas hh _ a (y0u hlt) hs.fits hb' hled hs.ris (fun⟨q1,q2⟩=>z' (by simp[q1,q2])))
    ⟨0,⟨_,y0e _ rfl,rfl,rfl⟩,hm.at fun o e=>y05 _ e,⟨y0K _,fun k hk=>by lia,fun k _ v _=>y0K _⟩⟩ .rfl (by simp) (by simp) (fun b hb=>?_)
   rcases y0j.mp hb with rfl|hb
   .exact⟨y0b _,.inr (y0b _)⟩
   .rw[y07.mp hb];exact⟨y1p hlt,.inl rfl⟩
def ze3{Q:Bool->Shared->Prop}(hT:s.TypeIs (.ref a) "set")(h:Q false s):wpAny (model prog w) A (Builtin.List.listLengthHint (.ref a)) Q E s:=by
 unfold Builtin.List.listLengthHint;refine y02 (y3p hT PySem.F.slot_set_len.lookup ?_);generalize hid:("set.__len__":String)=id0
 wp_delta
 rw[show splitId id0=some ("set","__len__")from by subst hid;decide +kernel];subst hid;refine y02 (y2N (T:="set") (b:=true) hT (by rw[isSubtype_type];kernel_rfl) ?_);refine y1j (fun hab=>absurd hab (by decide)) (fun _=>?_);refine y1j (fun _=>?_) (fun hab=>absurd (by decide +kernel) hab);refine y02 (wpAny_typeOf hT ?_);exact y09 h
def z8k{ks:List Int}{Q:List Value->Shared->Prop}(hh:A.handled=none)(hS:z6u prog w s.heap a ks)(hz:ks.length<scanBound)(hQ:∀h' d tk vs ns,(∀b o,s.heap.get? b=some o->h'.get? b=some o)->s.heap.objs.size<=h'.objs.size->IntsAre vs ns->ns.Perm ks->Q vs { s with heap:=h',drawn:=d,toks:=tk }) : wpAny (model prog w) A (collect (.ref a)) Q E s:=by
 obtain⟨o,es,ep,t,ho,hex,hd,hs⟩:=hS;have hn:=z6u.size hs;have hlt:@LT.lt Nat _ a s.heap.objs.size:=y0k ho;unfold collect;refine y02 (wpAny_runValue (y2g F.entry_proto_collect ?_));rw[y1S F.plain_proto_collect _];show wpAny _ A.in1 (newList []>>=fun l=>again (.builtin "list.__iadd__" ⟨[l,.ref a],[]⟩)) _ _ s;refine y02 (y13 ?_);refine y09 ⟨y3q y3C _,y2g F.entry_list_iadd ?_⟩;rw[y1S y3C _];have hS₁:(s.heap.push { cls:=.type "list",data:=.seq ([]:List Value).toArray }).get? s.heap.objs.size=some { cls:=.type "list",data:=.seq ([]:List Value).toArray }:=y0e _ rfl;have h1:Builtin.List.listSameRef (.ref s.heap.objs.size) (.ref a)=false:=by simp[Builtin.List.listSameRef];exact y2E hlt
 have hsz1:(s.heap.push { cls:=.type "list",data:=.seq ([]:List Value).toArray }).objs.size=s.heap.objs.size+1:=y1g _ _;have hm1:z3m (s.heap.push { cls:=.type "list",data:=.seq ([]:List Value).toArray }) a es ep t:=⟨o,y05 _ ho,hex,hd⟩;have hT1:Shared.TypeIs { s with heap:=s.heap.push { cls:=.type "list",data:=.seq ([]:List Value).toArray } } (.ref a) "set":=⟨o,y05 _ ho,hex.1⟩;show wpAny _ A.in1 (Builtin.List.listExtendWith (.ref s.heap.objs.size) (.ref a) (.ref s.heap.objs.size)) _ _ _;unfold Builtin.List.listExtendWith;refine y02 (wpAny_typeOf hT1 ?_);rw[if_neg (by rw[h1];decide)];refine y02 (zaG hs hm1 (by lia) fun I h' d fp vs St W st hp hl hI hfp hge hk=>?_);have hT2:Shared.TypeIs { s with heap:=h',drawn:=d } (.ref a) "set":=⟨o,hk _ _ (y05 _ ho),hex.1⟩;refine y02 (y20 (ze3 hT2 ?_));have hS₂:=hk _ _ hS₁;have hge0:s.heap.objs.size+1<=I:=by rw[<-hsz1];exact hge
 have hSf:s.heap.objs.size∉fp:=fun hm=>(hfp _ hm).2.elim (fun q=>absurd q (y2E hlt)) (fun q=>absurd (show(s.heap.push { cls:=.type "list",data:=.seq ([]:List Value).toArray }).objs.size<=s.heap.objs.size from q) (by rw[hsz1];lia));have hSI:s.heap.objs.size≠I:=by lia
 have W':=(W A.in1 hh).toS;have loop:∀(h2:Heap) (c2:Nat),St 0 h2->h2.get? s.heap.objs.size=some { cls:=.type "list",data:=.seq ([]:List Value).toArray c2 }->(∀b o,b≠s.heap.objs.size->h'.get? b=some o->h2.get? b=some o) ->
   codeAny (model prog w) A (.builtin "list.extend.loop" ⟨[.ref s.heap.objs.size,.ref I,.ref s.heap.objs.size],[]⟩) (wants (fun v s'=>wpAny (model prog w) A (match v with
    |Value.ref a=>do
     match (<-load a).data with
      |Data.seq xs _=>pure xs.toList
      |_=>unsupported "internal:collect"
    |_=>unsupported "internal:collect") Q E s') E) { s with heap:=h2,drawn:=d }:=fun h2 c2 st2 hS2 hk2=>by
  refine codeAny_extend_loopS W' (by have:=y3H hz;lia) _ hSf _ es.size 0 _ _ c2 rfl (y0K _) st2 hS2 (ItemsOf.nil _) fun s' acc' c' hm hS' hacc=>?_;show wpAny _ A (load s.heap.objs.size>>=_) _ _ s';refine y02 (wpAny_load hS' (y09 ?_));obtain⟨h'',g',d',tk',os'⟩:=s';have eg:g'=s.gens:=hm.gens;have ed:d'=d:=hm.drawn;have eo:os'=s.os:=hm.os;subst eg;subst ed;subst eo;have evs:acc'.toList=vs:=by
   refine y1X fun j=>?_;rcases y1q j acc'.size with q|q
   .have e1:acc'[j]?=some acc'[j]:=y0c q;rw[y0w,e1,hacc.2 j _ e1]
   .rw[y0w,y2j q,y0I (by rw[hl,<-hacc.1];exact q)]
  obtain⟨ns,hi,hpn⟩:=z5m hp hs.keysI;rw[evs];refine hQ h'' d' tk' vs ns (fun b o e=>?_) (y1p (y0k hS')) hi hpn;have hb:@LT.lt Nat _ b s.heap.objs.size:=y0k e;have hge':s.heap.objs.size+1<=I:=by rw[<-hsz1];exact hge
  exact hm.heap b o (by simp only[y0j,y1o,y3r,not_or];exact⟨y0u hb,y0u (y0r hb (Nat.le_of_succ_le hge0))⟩) (hk2 b o (y0u hb) (hk b o (y05 _ e)))
 refine y1j (fun _=>?_) (fun _=>y09 ⟨y3q F.plain_extend_loop _,loop h' _ st hS₂ fun _ _ _ e=>e⟩);refine y02 (y27 ?_);refine y02 ?_;show wpAny _ _ (updateSeq s.heap.objs.size (·.push .none)>>=fun _=>updateSeq s.heap.objs.size (·.pop)) _ _ _;refine y02 (wpAny_updateSeq hS₂ rfl ?_);have hS₃:=y1l (Obj.mapSeq (·.push Value.none)) hS₂ rfl;refine wpAny_updateSeq hS₃ rfl ?_;have hS₄:=y1l (Obj.mapSeq (·.pop)) hS₃ rfl;have oth:∀b o,b≠s.heap.objs.size->h'.get? b=some o->((h'.update s.heap.objs.size (Obj.mapSeq (·.push Value.none))).update s.heap.objs.size (Obj.mapSeq (·.pop))).get? b=some o :=
  fun b o hb e=>(y2P _ _ (y1v hb)).trans ((y2P _ _ (y1v hb)).trans e)
 exact y09 ⟨y3q F.plain_extend_loop _,loop _ _ ((W A.in1 hh).frame 0 _ _ st fun b hb o e=>oth b o (fun h=>hSf (h▸hb)) e) hS₄ oth⟩
end
open PySem.SeqAt
open PySem.AutoSeq1 (wpAny_loadPart')
def zfi(P:Program)(w:World)(a:Addr)(ks:List Int):HO:=.ext fun h=>z6u P w h a ks
def Inv.drew{X:Cx}{pins:yyP}{σ:St}{H:Hp}{s:Shared}(I:Inv X pins σ H s)(d:Drawn):Inv X pins σ H { s with drawn:=d } :=
 ⟨I.ok,I.os,I.bare,I.base,I.loc,I.cell,I.free,I.freeC,I.pin,I.hok,I.len⟩
section
variable{X:Cx}(K:yyF)
def ziA(hK:X.K=K)(hc:X.calm=true):z2s X (.type "set") (fun xs H Q=>∃(p:Addr) (ns:List Int),xs=[.ref p]/\SqL K H p (ns.map V.int)/\ns.length+1<4096 /\ ∀S ks,H S=none->ks.Perm (z7Y ns)->Q (.ref S) (upd H S (zfi X.prog X.w S ks))):=by
 subst hK;intro pins s σ H xs us Q I r h;obtain⟨p,ns,rfl,hp,hlt,q⟩:=h;obtain⟨u,rfl,ru⟩:=z48 r;cases ru;obtain⟨its,rv,⟨o,n,ho,hcl,_,hd⟩,hz⟩:=I.list hp;have hI:=z75 rv;have hlen:its.length=ns.length:=by have:=rv.length;rw[y01]at this;exact this.symm
 refine zaz (I.ok.hd hc) ⟨o,ho,hcl,n,hd⟩ (by simpa using hI) (by show its.toArray.size+1<4096;simp;lia) fun h' tk ks hS hp' hk=>?_;refine⟨.ref _,_,I.laid (o:=zfi X.prog X.w s.heap.objs.size ks) (t':=tk) (fun b u e=>hk b u (y0k e) e) (y0b _) ⟨hS,?_,fun h1 h2 x e=>x.at e⟩,rfl,q _ ks I.fresh hp'⟩;obtain⟨o',_,_,_,e,_⟩:=hS;exact⟨o',e⟩
end
end L2
namespace Gu
open PySem L2
end Gu
namespace L2
open PySem PySem.Spec PyProof.Rows
end L2
namespace Gu
open PySem L2
end Gu
namespace L2
open PySem PySem.Spec PyProof.Rows
def base(m:Nat)(q:Nat × Nat)(d:Option Nat):SetTable.Probe:={ j:=q.1,more:=SetTable.runEnd m q.1-q.1,i:=q.1,perturb:=q.2,dummy:=d }
def Within(t:SetTable)(p:SetTable.Probe):Prop:=p.j+p.more<=t.mask/\p.dummy=none
section
variable{prog:Program}{w:World}{A:Around}{E:yyE}{s:Shared}
end
section
variable{prog:Program}{w:World}{A:Around}{E:yyE}{s:Shared}{a x:Addr}{es:Array (Int × Value)}{ep:Nat}{t:SetTable}{zhY:List D}{d:D}
end
section
variable{prog:Program}{w:World}{A:Around}{E:yyE}{s:Shared}{a x:Addr}{zhY:List D}{d:D}
end
section
variable{prog:Program}{w:World}{A:Around}{R:Result->Shared->Prop}{I:Addr}{fp wr:List Addr}{G:Array GenState->Array GenState->Prop}{n:Nat}{P:Nat->Value->Prop}{St:Nat->Shared->Prop}
end
section
variable{prog:Program}{w:World}{A:Around}{E:yyE}{s:Shared}
end
open PySem.SeqAt
section
variable{X:Cx}(K:yyF)
end
end L2
namespace Gu
open PySem L2
end Gu
namespace L2
open PySem
def z0Q.free2{Ts:List Tb}{H H':Hp}{l:Addr}(s:z0Q Ts H H')(h:H' l=none):H l=none\/∃ps,H l=some (.tbl ps):=by
 cases e:H l with
 |none=>exact .inl rfl
 |some o =>
  by_cases c:∃ps,o=.tbl ps
  .obtain⟨ps,rfl⟩:=c;exact .inr ⟨ps,rfl⟩
  .have:=s.at_ l o (fun ps z=>c ⟨ps,z⟩) e;rw[h]at this;cases this
def z0Q.over2{Ts:List Tb}{H H':Hp}{l:Addr}{xs:List V}{o:HO}(s:z0Q Ts H H')(h:H l=none\/∃ps,H l=some (.tbl ps))(e:H' l=some (.lst xs)):z0Q Ts H (upd H' l o) :=
 ⟨fun b u n q=>by
  have hb:b≠l:=fun z=>by
   subst z;rcases h with h|⟨ps,h⟩
   .rw[h]at q;cases q
   .rw[h]at q;cases q;exact n ps rfl
  rw[z07 hb];exact s.at_ b u n q,fun t=>z5F.over (s.tabs t) e⟩
open PyProof.Rows
structure z66{α:Type}(lt:α->α->Bool):Prop where
 asy:∀a b,lt a b=true->lt b a=false
 tr:∀a b c,lt b a=false->lt c b=false->lt c a=false
 an:∀a b,lt a b=false->lt b a=false->a=b
def z66.refl{α:Type}{lt:α->α->Bool}(h:z66 lt)(a:α):lt a a=false:=by
 cases e:lt a a with
 |false=>rfl
 |true=>rw[h.asy a a e]at e;cases e
def zaq{α:Type}(prog:Program)(w:World)(A:Around)(E:yyE)(s:Shared)(kd:SortKind)(S:List Keyed)(kf:Keyed->α)(lt:α->α->Bool):Prop :=
 ∀(st:SortSt)(x y:Keyed)(Q:Option Bool->SortSt->Prop),kindOf st=kd->x∈S->y∈S->Q (some (lt (kf x) (kf y))) st->wpS (model prog w) A E s (lt' x y) Q st
def zbj:Bool->Keyed->Array Keyed->Nat->Nat->Nat->StateT SortSt Sem (Option Nat):=sortPriv% PySem.Builtin.gallop
section
variable{prog:Program}{w:World}{A:Around}{E:yyE}{s:Shared}{α:Type}{kf:Keyed->α}{lt:α->α->Bool}{kd:SortKind}{S:List Keyed}
def bey(kf:Keyed->α)(lt:α->α->Bool)(left:Bool)(key x:Keyed):Bool:=if left then lt (kf x) (kf key)else !lt (kf key) (kf x)
def zfz(hA:zaq prog w A E s kd S kf lt){st:SortSt}(hk:kindOf st=kd){left:Bool}{key x:Keyed}{arr:Array Keyed}{i:Nat}(hx:arr[i]?=some x)(hxS:x∈S)(hkS:key∈S){Q:Option Bool->SortSt->Prop}(h:Q (some (bey kf lt left key x)) st) : wpS (model prog w) A E s (elem' arr i>>=fun x=>ite (left=true) (lt' x key) (lt' key x>>=fun r=>pure (r.map not))) Q st:=by
 rw[elem'_eq,hx];refine y0o (y0v ?_);cases left with
 |true =>
  simp only[y2x];exact hA st x key Q hk hxS hkS h
 |false =>
  simp only[y0n,y1H];exact y0o (hA st key x _ hk hkS hxS (y0v h))
def zan(hA:zaq prog w A E s kd S kf lt){st:SortSt}(hk:kindOf st=kd){left:Bool}{key:Keyed}{arr:Array Keyed}{base n hint:Nat}(hkS:key∈S)(hx:∀i,i<n->∃x,arr[base+i]?=some x/\x∈S)(P:Nat->Bool)(hP:∀i x,i<n->arr[base+i]?=some x->bey kf lt left key x=P i)(mono:∀i j,i<=j->j<n->P j=true->P i=true)(hh:hint<n){Q:Option Nat->SortSt->Prop}(h:∀k,k<=n->(∀i,i<k->P i=true)->(∀i,k<=i->i<n->P i=false)->Q (some k) st) : wpS (model prog w) A E s (zbj left key arr base n hint) Q st:=by
 have nmono:∀i j,i<=j->j<n->P i=false->P j=false:=fun i j hij hj hi=>by
  cases e:P j with
  |false=>rfl
  |true=>rw[mono i j hij hj e]at hi;cases hi
 have ask:∀i,i<n->∀{st':SortSt},st'=st->∀{Q:Option Bool->SortSt->Prop},Q (some (P i)) st->wpS (model prog w) A E s (elem' arr (base+i)>>=fun x=>ite (left=true) (lt' x key) (lt' key x>>=fun r=>pure (r.map not))) Q st':=fun i hi st' e Q hq=>by subst e;obtain⟨x,e1,e2⟩:=hx i hi;exact zfz hA hk e1 e2 hkS (by rw[hP i x hi e1];exact hq)
 refine y0o (ask hint hh rfl ?_);dsimp only;cases eh:P hint;rotate_left;focus
  simp only[y2x];refine y0o (y2v (y1r (I:=fun x c st'=>st'=st/\∃lo ofs,c=(none,lo,ofs)/\lo<ofs/\hint+lo<n/\P (hint+lo)=true/\x<ofs)
   (Q:=fun c st'=>st'=st/\∃lo ofs,c=(none,lo,ofs)/\lo<ofs/\hint+lo<n/\P (hint+lo)=true/\(ofs ≥ n-hint\/P (hint+ofs)=false)) ?s1 ?f1 ⟨rfl,0,1,rfl,by lia,by lia,eh,by lia⟩) ?p1)
  case f1 =>
   rintro c st' ⟨rfl,lo,ofs,rfl,a1,a2,a3,a4⟩;exact⟨rfl,lo,ofs,rfl,a1,a2,a3,.inl (by lia)⟩
  case s1 =>
   rintro x c st' _ hxn ⟨rfl,lo,ofs,rfl,a1,a2,a3,a4⟩;dsimp only;by_cases c1:ofs ≥ n-hint
   .rw[if_pos c1];exact y0v ⟨rfl,lo,ofs,rfl,a1,a2,a3,.inl c1⟩
   .rw[if_neg c1];refine y0o (ask (hint+ofs) (by lia) rfl ?_);dsimp only;cases e:P (hint+ofs)with
    |true =>
     simp only[y2I,y0n,y1H];exact y0v ⟨rfl,ofs,2*ofs+1,rfl,by lia,by lia,e,by lia⟩
    |false =>
     simp only[Bool.not_false,y2x];exact y0v ⟨rfl,lo,ofs,rfl,a1,a2,a3,.inr e⟩
  rintro c st9 ⟨h9,lo,ofs,rfl,a1,a2,a3,a4⟩;rw[h9];have q1:hint+lo+1<=hint+min ofs (n-hint):=by lia
  have q2:hint+min ofs (n-hint)<=n:=by lia
  have q3:∀i,i<hint+lo+1->P i=true:=fun i hi=>mono i (hint+lo) (by lia) a2 a3;have q4:∀i,hint+min ofs (n-hint)<=i->i<n->P i=false:=fun i h1 h2=>by
   rcases a4 with a4|a4
   .lia
   .exact nmono (hint+ofs) i (by lia) h2 a4
  dsimp only
 rotate_left;focus
  simp only[y0n,y1H];refine y0o (y2v (y1r (I:=fun x c st'=>st'=st/\∃lo ofs,c=(none,lo,ofs)/\lo<ofs/\lo<=hint/\P (hint-lo)=false/\x<ofs)
   (Q:=fun c st'=>st'=st/\∃lo ofs,c=(none,lo,ofs)/\lo<ofs/\lo<=hint/\P (hint-lo)=false/\(ofs ≥ hint+1\/P (hint-ofs)=true)) ?s2 ?f2 ⟨rfl,0,1,rfl,by lia,by lia,eh,by lia⟩) ?p2)
  case f2 =>
   rintro c st' ⟨rfl,lo,ofs,rfl,a1,a2,a3,a4⟩;exact⟨rfl,lo,ofs,rfl,a1,a2,a3,.inl (by lia)⟩
  case s2 =>
   rintro x c st' _ hxn ⟨rfl,lo,ofs,rfl,a1,a2,a3,a4⟩;dsimp only;by_cases c1:ofs ≥ hint+1
   .rw[if_pos c1];exact y0v ⟨rfl,lo,ofs,rfl,a1,a2,a3,.inl c1⟩
   .rw[if_neg c1];refine y0o (ask (hint-ofs) (by lia) rfl ?_);dsimp only;cases e:P (hint-ofs)with
    |true =>
     simp only[y2x];exact y0v ⟨rfl,lo,ofs,rfl,a1,a2,a3,.inr e⟩
    |false =>
     simp only[y0n,y1H];exact y0v ⟨rfl,ofs,2*ofs+1,rfl,by lia,by lia,e,by lia⟩
  rintro c st9 ⟨h9,lo,ofs,rfl,a1,a2,a3,a4⟩;rw[h9];have q1:hint+1-min ofs (hint+1)<=hint-lo:=by lia
  have q2:hint-lo<=n:=by lia
  have q3:∀i,i<hint+1-min ofs (hint+1)->P i=true:=fun i hi=>by
   rcases a4 with a4|a4
   .lia
   .exact mono i (hint-ofs) (by lia) (by lia) a4
  have q4:∀i,hint-lo<=i->i<n->P i=false:=fun i h1 h2=>nmono (hint-lo) i (by lia) h2 a3;dsimp only
 all_goals
  refine y0o (y2v (y1r (I:=fun x c st'=>st'=st/\∃lo hi,c=(none,lo,hi)/\lo<=hi/\hi<=n/\(∀i,i<lo->P i=true)/\(∀i,hi<=i->i<n->P i=false)/\hi-lo<=n-x)
   (Q:=fun c st'=>st'=st/\∃k,c=(none,k,k)/\k<=n/\(∀i,i<k->P i=true)/\(∀i,k<=i->i<n->P i=false)) ?step ?fin' ⟨rfl,_,_,rfl,q1,q2,q3,q4,by lia⟩) ?post)
  case fin' =>
   rintro c st' ⟨rfl,lo,hi,rfl,a1,a2,a3,a4,a5⟩;have:lo=hi:=by lia
   subst this;exact⟨rfl,lo,rfl,a2,a3,a4⟩
  case post =>
   rintro c st' ⟨rfl,k,rfl,a1,a2,a3⟩;exact y0v (h k a1 a2 a3)
  case step =>
   rintro x c st' _ hxn ⟨rfl,lo,hi,rfl,a1,a2,a3,a4,a5⟩;dsimp only;by_cases c1:lo ≥ hi
   .rw[if_pos c1];have:lo=hi:=by lia
    subst this;exact y0v ⟨rfl,lo,rfl,a2,a3,a4⟩
   .rw[if_neg c1];have hm:lo+(hi-lo)/2<hi:=by lia
    have hml:lo<=lo+(hi-lo)/2:=Nat.le_add_right _ _;have hmh:hi-(lo+(hi-lo)/2+1)+1<=hi-lo/\lo+(hi-lo)/2-lo+1<=hi-lo:=by lia
    generalize lo+(hi-lo)/2=m at hm hml hmh⊢;refine y0o (ask m (by lia) rfl ?_);dsimp only;cases e:P m with
    |true =>
     simp only[y2x];exact y0v ⟨rfl,m+1,hi,rfl,by lia,a2,fun i hi'=>mono i m (by lia) (by lia) e,a4,by lia⟩
    |false =>
     simp only[y0n,y1H];exact y0v ⟨rfl,lo,m,rfl,hml,by lia,a3,fun i h1 h2=>nmono m i h1 h2 e,by lia⟩
end
def z6y:Nat->StateT SortSt Sem Unit:=sortPriv% PySem.Builtin.setMinGallop
def zdB:Array Keyed->Array Keyed->StateT SortSt Sem (Array Keyed):=sortPriv% PySem.Builtin.mergeLo
section
variable{α:Type}(kf:Keyed->α)(lt:α->α->Bool)
def Sl(l:List Keyed):Prop:=l.Pairwise fun x y=>lt (kf y) (kf x)=false
structure MI(a b:Array Keyed)(out:Array Keyed)(ia ib:Nat):Prop where
 la:ia<=a.size
 lb:ib<=b.size
 so:Sl kf lt out.toList
 le:∀x∈out.toList,∀y∈a.toList.drop ia++b.toList.drop ib,lt (kf y) (kf x)=false
 pm:(out.toList++(a.toList.drop ia++b.toList.drop ib)).Perm (a.toList++b.toList)
end
section
variable{α:Type}{kf:Keyed->α}{lt:α->α->Bool}
def z5w{a:Array Keyed}{i:Nat}(h:i<a.size):a.toList.drop i=a[i]::a.toList.drop (i+1):=by rw[y1D (by simpa using h)];simp
theorem MI.size{a b out:Array Keyed}{ia ib:Nat}(h:MI kf lt a b out ia ib):out.size=ia+ib:=by have:=h.pm.length_eq;have h1:=h.la;have h2:=h.lb;simp at this;lia
def z8A{l:List Keyed}{i:Nat}{x:Keyed}(h:Sl kf lt l)(hx:l[i]?=some x):∀y∈l.drop (i+1),lt (kf y) (kf x)=false:=fun y hy=>by
 obtain⟨j,hj,e⟩:=y1a.mp hy;rw[y3G]at e;obtain⟨hi,ei⟩:=y06.mp hx;have hj':i+1+j<l.length:=by simp at hj;lia
 have:=y12.mp h i (i+1+j) hi hj' (by lia);rw[ei,e]at this;exact this
def z90{l:List Keyed}(h:Sl kf lt l)(i:Nat):Sl kf lt (l.drop i):=h.sublist (y36 _ _)
def z33(T:z66 lt){l:List Keyed}{i:Nat}{x y:Keyed}(h:Sl kf lt l)(hx:l[i]?=some x)(hy:lt (kf x) (kf y)=false):∀z∈l.drop i,lt (kf z) (kf y)=false:=fun z hz=>by
 obtain⟨hi,ei⟩:=y06.mp hx;rw[y1D hi,ei]at hz;rcases y0j.mp hz with rfl|hz
 .exact hy
 .exact T.tr (kf y) (kf x) (kf z) hy (z8A h hx z hz)
def MI.pushA{a b out:Array Keyed}{ia ib:Nat}(h:MI kf lt a b out ia ib)(sa:Sl kf lt a.toList)(hi:ia<a.size)(hle:∀y∈b.toList.drop ib,lt (kf y) (kf a[ia])=false):MI kf lt a b (out.push a[ia]) (ia+1) ib:=by
 have e:=z5w hi;have hx:a.toList[ia]?=some a[ia]:=by rw[y0w,y0c hi]
 refine⟨hi,h.lb,?_,fun x hx' y hy=>?_,?_⟩
 .rw[y1k];refine y0S.mpr ⟨h.so,y2b _ _,fun x hx' y hy=>?_⟩;rw[y07.mp hy];exact h.le x hx' a[ia] (by rw[e];simp)
 .rw[y1k,y0s,y07]at hx';rcases hx' with hx'|rfl
  .exact h.le x hx' y (by
    rcases y0s.mp hy with z|z
    .rw[e];simp[z]
    .simp[z])
  .rcases y0s.mp hy with z|z
   .exact z8A sa hx y z
   .exact hle y z
 .have:=h.pm;rw[e]at this;rw[y1k,y0p];exact this
def MI.pushB{a b out:Array Keyed}{ia ib:Nat}(h:MI kf lt a b out ia ib)(sb:Sl kf lt b.toList)(hi:ib<b.size)(hle:∀y∈a.toList.drop ia,lt (kf y) (kf b[ib])=false):MI kf lt a b (out.push b[ib]) ia (ib+1):=by
 have e:=z5w hi;have hx:b.toList[ib]?=some b[ib]:=by rw[y0w,y0c hi]
 refine⟨h.la,hi,?_,fun x hx' y hy=>?_,?_⟩
 .rw[y1k];refine y0S.mpr ⟨h.so,y2b _ _,fun x hx' y hy=>?_⟩;rw[y07.mp hy];exact h.le x hx' b[ib] (by rw[e];simp)
 .rw[y1k,y0s,y07]at hx';rcases hx' with hx'|rfl
  .exact h.le x hx' y (by
    rcases y0s.mp hy with z|z
    .simp[z]
    .rw[e];simp[z])
  .rcases y0s.mp hy with z|z
   .exact hle y z
   .exact z8A sb hx y z
 .have:=h.pm;rw[e]at this;rw[y1k,y0p];refine y47 ?_ this;refine y1L _ ?_;rw[List.singleton_append];exact(List.perm_middle).symm
theorem MI.chunkA{a b out:Array Keyed}{ia ib:Nat}(sa:Sl kf lt a.toList)(h:MI kf lt a b out ia ib):∀(k:Nat),ia+k<=a.size->(∀i (hi:i<a.size),ia<=i->i<ia+k->∀y∈b.toList.drop ib,lt (kf y) (kf a[i])=false)->MI kf lt a b (out++a.extract ia (ia+k)) (ia+k) ib
 |0,_,_=>by
  have:a.extract ia (ia+0)=#[]:=by simp;lia
  rw[this,Array.append_empty];exact h
 |k+1,hk,hle=>by
  have ih:=MI.chunkA sa h k (by lia) fun i hi h1 h2=>hle i hi h1 (by lia);have:=ih.pushA sa (by lia:ia+k<a.size) (hle (ia+k) (by lia) (by lia) (by lia));have e:out++a.extract ia (ia+(k+1))=(out++a.extract ia (ia+k)).push a[ia+k]:=by have e1:=Array.push_extract_getElem (as:=a) (i:=ia) (j:=ia+k) (by lia);rw[y3u (by lia)]at e1;rw[<-Array.append_push,show ia+(k+1)=(ia+k)+1 by lia,e1]
  rw[e];exact this
def MI.swap{a b out:Array Keyed}{ia ib:Nat}(h:MI kf lt a b out ia ib):MI kf lt b a out ib ia:=by
 refine⟨h.lb,h.la,h.so,fun x hx y hy=>h.le x hx y ?_,?_⟩
 .rcases y0s.mp hy with z|z
  .exact y0H _ z
  .exact y0t _ z
 .exact((y1L _ y1M).trans h.pm).trans y1M
def MI.chunkB{a b out:Array Keyed}{ia ib:Nat}(sb:Sl kf lt b.toList)(h:MI kf lt a b out ia ib)(k:Nat)(hk:ib+k<=b.size)(hle:∀i (hi:i<b.size),ib<=i->i<ib+k->∀y∈a.toList.drop ia,lt (kf y) (kf b[i])=false):MI kf lt a b (out++b.extract ib (ib+k)) ia (ib+k) :=
 (MI.chunkA sb h.swap k hk hle).swap
def Mgd(kf:Keyed->α)(lt:α->α->Bool)(a b r:Array Keyed):Prop:=Sl kf lt r.toList/\r.toList.Perm (a.toList++b.toList)
def z1U(a:Array Keyed)(i:Nat):(a.extract i a.size).toList=a.toList.drop i:=by rw[y39,y2t];exact y0x (by simp)
def MI.doneB{a b out:Array Keyed}{ia:Nat}(sa:Sl kf lt a.toList)(h:MI kf lt a b out ia b.size):Mgd kf lt a b (out++a.extract ia a.size++b.extract b.size b.size):=by
 have e:b.toList.drop b.size=[]:=y1A (by simp);have e2:(out++a.extract ia a.size++b.extract b.size b.size).toList=out.toList++a.toList.drop ia:=by rw[y18,y18,z1U,z1U,e,y1t]
 unfold Mgd;rw[e2];refine⟨y0S.mpr ⟨h.so,z90 sa ia,fun x hx y hy=>h.le x hx y (by simp[hy])⟩,?_⟩;have:=h.pm;rw[e,y1t]at this;exact this
def MI.doneA{a b out:Array Keyed}{ib:Nat}(sb:Sl kf lt b.toList)(h:MI kf lt a b out a.size ib):Mgd kf lt a b (out++a.extract a.size a.size++b.extract ib b.size):=by
 have e:a.toList.drop a.size=[]:=y1A (by simp);have e2:(out++a.extract a.size a.size++b.extract ib b.size).toList=out.toList++b.toList.drop ib:=by rw[y18,y18,z1U,z1U,e,y1t]
 unfold Mgd;rw[e2];refine⟨y0S.mpr ⟨h.so,z90 sb ib,fun x hx y hy=>h.le x hx y (by simp[hy])⟩,?_⟩;have:=h.pm;rw[e,y1Q]at this;exact this
def MI.lastA{a b out:Array Keyed}{ia ib:Nat}(sb:Sl kf lt b.toList)(h:MI kf lt a b out ia ib)(hia:ia+1=a.size)(hl:∀y∈b.toList,∀z,a[a.size-1]?=some z->lt (kf z) (kf y)=false):Mgd kf lt a b (out++b.extract ib b.size++a.extract ia a.size):=by
 have hi:ia<a.size:=by lia
 have e:a.toList.drop ia=[a[ia]]:=by rw[z5w hi,y1A (by simp;lia)]
 have e2:(out++b.extract ib b.size++a.extract ia a.size).toList=out.toList++(b.toList.drop ib++[a[ia]]):=by rw[y18,y18,z1U,z1U,e,y0p]
 have hz:a[a.size-1]?=some a[ia]:=by rw[show a.size-1=ia by lia,y0c hi]
 unfold Mgd;rw[e2];refine⟨y0S.mpr ⟨h.so,y0S.mpr ⟨z90 sb ib,y2b _ _,fun x hx y hy=>?_⟩,fun x hx y hy=>h.le x hx y ?_⟩,?_⟩
 .rw[y07.mp hy];exact hl x (y2a hx) _ hz
 .rw[e];rcases y0s.mp hy with z|z
  .exact y0H _ z
  .exact y0t _ z
 .have:=h.pm;rw[e]at this;exact(y1L _ y1M).trans this
end
section
variable{prog:Program}{w:World}{A:Around}{E:yyE}{s:Shared}{α:Type}{kf:Keyed->α}{lt:α->α->Bool}{kd:SortKind}{S:List Keyed}
def z0C{st:SortSt}{arr:Array Keyed}{i:Nat}{x:Keyed}{Q:Keyed->SortSt->Prop}(h:arr[i]?=some x)(q:Q x st):wpS (model prog w) A E s (elem' arr i) Q st:=by rw[elem'_eq,h];exact y0v q
def z3W(T:z66 lt)(hA:zaq prog w A E s kd S kf lt){st:SortSt}(hk:kindOf st=kd){left:Bool}{key:Keyed}{arr:Array Keyed}{base n hint:Nat}(hkS:key∈S)(hbn:base+n<=arr.size)(hS:∀i (hi:i<arr.size),base<=i->i<base+n->arr[i]∈S)(seg:∀i j (hi:i<arr.size) (hj:j<arr.size),base<=i->i<=j->j<base+n->lt (kf arr[j]) (kf arr[i])=false)(hh:hint<n){Q:Option Nat->SortSt->Prop}(h:∀k,k<=n->(∀i (hi:i<arr.size),base<=i->i<base+k->bey kf lt left key arr[i]=true)->(∀i (hi:i<arr.size),base+k<=i->i<base+n->bey kf lt left key arr[i]=false)->Q (some k) st) : wpS (model prog w) A E s (zbj left key arr base n hint) Q st:=by
 refine zan hA hk hkS (fun i hi=>⟨arr[base+i],y0c (by lia),hS _ (by lia) (by lia) (by lia)⟩) (fun i=>bey kf lt left key (arr[base+i]?.getD key)) (fun i x hi hx=>by rw[hx];rfl) (fun i j hij hj hp=>?_) hh fun k hk1 h1 h2=>?_
 .have ei:arr[base+i]?=some arr[base+i]:=y0c (by lia);have ej:arr[base+j]?=some arr[base+j]:=y0c (by lia);have sg:=seg (base+i) (base+j) (by lia) (by lia) (by lia) (by lia) (by lia);simp only[ej,y3V]at hp;simp only[ei,y3V];unfold bey at hp⊢;cases left with
  |true =>
   simp only[y2x]at hp⊢;cases e:lt (kf arr[base+i]) (kf key)with
   |true=>rfl
   |false=>rw[T.tr _ _ _ e sg]at hp;cases hp
  |false =>
   simp only[y0n,y1H,Bool.not_eq_true']at hp⊢;exact T.tr _ _ _ sg hp
 .refine h k hk1 (fun i hi a1 a2=>?_) (fun i hi a1 a2=>?_)
  .have:=h1 (i-base) (by lia);rw[show base+(i-base)=i by lia,y0c hi]at this;exact this
  .have:=h2 (i-base) (by lia) (by lia);rw[show base+(i-base)=i by lia,y0c hi]at this;exact this
def z9H{arr:Array Keyed}(T:z66 lt)(h:Sl kf lt arr.toList){base n:Nat}:∀i j (hi:i<arr.size) (hj:j<arr.size),base<=i->i<=j->j<base+n->lt (kf arr[j]) (kf arr[i])=false:=fun i j hi hj _ hij _=>by
 rcases y1q i j with q|q
 .have:=y12.mp h i j (by simpa using hi) (by simpa using hj) q;simpa using this
 .have:i=j:=by lia
  subst this;exact T.refl _
def StG(st st':SortSt):Prop:=∃g,st'=SortSt.mk' (kindOf st) (arrOf st) (pendingOf st) g (failedOf st)
def StG.refl(st:SortSt):StG st st:=⟨gallopOf st,rfl⟩
def StG.set{st st':SortSt}(h:StG st st')(g:Nat):StG st (SortSt.mk' (kindOf st') (arrOf st') (pendingOf st') g (failedOf st')):=by obtain⟨g',rfl⟩:=h;exact⟨g,rfl⟩
def z4C{M:Model}{A:Around}{E:yyE}{s:Shared}{st st2:SortSt}(hG:StG st st2){g:Nat}{Q:PUnit->SortSt->Prop}(h:∀st3,StG st st3->Q ⟨⟩ st3):wpS M A E s (z6y g) Q st2:=y49 (h _ (hG.set g))
def StG.kind{st st':SortSt}(h:StG st st'):kindOf st'=kindOf st:=by obtain⟨g,rfl⟩:=h;rfl
def z9i{M:Model}{A:Around}{E:yyE}{s:Shared}{β σ:Type}{m:StateT σ Sem β}{Q:β->σ->Prop}{st:σ}(h:∀QG:β->σ->Prop,(∀r st',Q r st'->QG r st')->wpS M A E s m QG st):wpS M A E s m Q st:=h Q fun _ _ z=>z
def zct{M:Model}{A:Around}{E:yyE}{s:Shared}{β σ γ:Type}{c:Prop}[Decidable c]{j:γ->StateT σ Sem β}{u v:γ}{Q:β->σ->Prop}{st:σ}(h:∀z,wpS M A E s (j z) Q st):wpS M A E s (if c then j u else j v) Q st:=by
 split
 .exact h u
 .exact h v
set_option maxHeartbeats 8000000 in
def z8L(T:z66 lt)(hA:zaq prog w A E s kd S kf lt){st:SortSt}(hk:kindOf st=kd){a b:Array Keyed}(haS:∀x∈a.toList,x∈S)(hbS:∀x∈b.toList,x∈S)(sa:Sl kf lt a.toList)(sb:Sl kf lt b.toList)(ha:0<a.size)(hb:0<b.size)(hfirst:lt (kf b[0]) (kf a[0])=true)(hl:∀y∈b.toList,∀z,a[a.size-1]?=some z->lt (kf z) (kf y)=false){Q:Array Keyed->SortSt->Prop}(h:∀r st',StG st st'->Mgd kf lt a b r->Q r st') : wpS (model prog w) A E s (zdB a b) Q st:=by
 have M0:MI kf lt a b #[] 0 0:=⟨by lia,by lia,y35,fun x hx=>by simp at hx,by simp⟩;have eb0:b[0]?=some b[0]:=y0c hb;have M1:MI kf lt a b #[b[0]] 0 1:=M0.pushB sb hb (fun y hy=>z33 T sa (i:=0) (x:=a[0]) (by simp[ha]) (T.asy _ _ hfirst) y hy);have hSa:∀i (hi:i<a.size),a[i]∈S:=fun i hi=>haS _ (by simp);have hSb:∀i (hi:i<b.size),b[i]∈S:=fun i hi=>hbS _ (by simp);have ea:∀i (hi:i<a.size),a[i]?=some a[i]:=fun i hi=>y0c hi;have eb:∀i (hi:i<b.size),b[i]?=some b[i]:=fun i hi=>y0c hi;have leA:∀i (hi:i<a.size) (y:Keyed),lt (kf a[i]) (kf y)=false->∀z∈a.toList.drop i,lt (kf z) (kf y)=false:=fun i hi y q=>z33 T sa (by simp[hi]) q;have leB:∀i (hi:i<b.size) (y:Keyed),lt (kf b[i]) (kf y)=false->∀z∈b.toList.drop i,lt (kf z) (kf y)=false:=fun i hi y q=>z33 T sb (by simp[hi]) q;refine y0o (wpS_lift (y27 ⟨rfl,?_⟩));refine y0o (z0C eb0 ?_);dsimp -zeta only;by_cases c1:1=b.size
 .rw[if_pos (by simpa using c1)];refine y0v (h _ _ (StG.refl st) ?_);rw[c1]at M1;have:=M1.doneB sa;rw[<-c1]at this;rw[<-c1];exact this
 rw[if_neg (by simpa using c1)];by_cases c2:0+1=a.size
 .rw[if_pos (by simpa using c2)];exact y0v (h _ _ (StG.refl st) (M1.lastA sb (by lia) hl))
 rw[if_neg (by simpa using c2)];refine y0o (y4b ?_);refine y0o (y2v (y1r (I:=fun x c st'=>StG st st'/\∃out ia ib mg,c=(none,out,ia,ib,mg)/\MI kf lt a b out ia ib/\ia+1<a.size/\ib<b.size/\x<out.size)
  (Q:=fun c st'=>StG st st'/\∃r,c.1=some r/\Mgd kf lt a b r) ?step ?fin ⟨StG.refl st,_,_,_,_,rfl,M1,by lia,by lia,by simp⟩) ?post)
 case fin =>
  rintro c st' ⟨hG,out,ia,ib,mg,rfl,M,q1,q2,q3⟩;have:=M.size;lia
 case post =>
  rintro⟨c1,c2⟩ st' ⟨hG,r,e,hr⟩;dsimp -zeta only at e⊢;subst e;exact y0v (h r st' hG hr)
 case step =>
  rintro x c st1 _ hx ⟨hG,out,ia,ib,mg,rfl,M,q1,q2,q3⟩;dsimp -zeta only;refine y0o (y2v (y1r (I:=fun y c st'=>st'=st1/\∃out ia ib ac bc,c=(none,out,ia,ib,ac,bc)/\MI kf lt a b out ia ib/\ia+1<a.size/\ib<b.size/\x+y<out.size)
   (Q:=fun c st'=>st'=st1/\((∃r,c.1=some r/\Mgd kf lt a b r)\/∃out ia ib ac bc,c=(none,out,ia,ib,ac,bc)/\MI kf lt a b out ia ib/\ia+1<a.size/\ib<b.size/\x+1<out.size)) ?istep ?ifin ⟨rfl,_,_,_,_,_,rfl,M,q1,q2,by lia⟩) ?ipost)
  case ifin =>
   rintro c st' ⟨rfl,out,ia,ib,ac,bc,rfl,M,q1,q2,q3⟩;exact⟨rfl,.inr ⟨out,ia,ib,ac,bc,rfl,M,q1,q2,by lia⟩⟩
  case istep =>
   rintro y c st' _ hy ⟨rfl,out,ia,ib,ac,bc,rfl,M,q1,q2,q3⟩;dsimp -zeta only;refine y0o (z0C (eb ib q2) ?_);refine y0o (z0C (ea ia (by lia)) ?_);refine y0o (hA _ _ _ _ (hG.kind.trans hk) (hSb ib q2) (hSa ia (by lia)) ?_);dsimp -zeta only;cases e:lt (kf b[ib]) (kf a[ia])with
   |true =>
    simp only[y2x];refine y0o (z0C (eb ib q2) ?_);have M':=M.pushB sb q2 (leA ia (by lia) _ (T.asy _ _ e));have hs:(out.push b[ib]).size=out.size+1:=y2h ..;by_cases d1:ib+1=b.size
    .rw[if_pos (by simpa using d1)];refine y0v ⟨rfl,.inl ⟨_,rfl,?_⟩⟩;rw[d1]at M'⊢;exact M'.doneB sa
    rw[if_neg (by simpa using d1)];split
    .exact y0v ⟨rfl,.inr ⟨_,_,_,_,_,rfl,M',q1,by lia,by lia⟩⟩
    .exact y0v ⟨rfl,_,_,_,_,_,rfl,M',q1,by lia,by lia⟩
   |false =>
    simp only[y0n,y1H];refine y0o (z0C (ea ia (by lia)) ?_);have M':=M.pushA sa (by lia:ia<a.size) (leB ib q2 _ e);have hs:(out.push a[ia]).size=out.size+1:=y2h ..;by_cases d1:ia+1+1=a.size
    .rw[if_pos (by simpa using d1)];exact y0v ⟨rfl,.inl ⟨_,rfl,M'.lastA sb d1 hl⟩⟩
    rw[if_neg (by simpa using d1)];split
    .exact y0v ⟨rfl,.inr ⟨_,_,_,_,_,rfl,M',by lia,q2,by lia⟩⟩
    .exact y0v ⟨rfl,_,_,_,_,_,rfl,M',by lia,q2,by lia⟩
  case ipost =>
   rintro c st' ⟨h9,hc⟩;rw[h9];rcases hc with⟨r,e,hr⟩|⟨out,ia,ib,ac,bc,rfl,M,q1,q2,q3⟩
   .obtain⟨c1,c2⟩:=c;dsimp -zeta only at e⊢;subst e;exact y0v ⟨hG,r,rfl,hr⟩
   dsimp -zeta only;refine y0o (wpS_lift (y27 ⟨rfl,?_⟩));refine y0o (y2v (y1r (I:=fun y c st'=>StG st st'/\∃out ia ib mg ac bc,c=(none,out,ia,ib,mg,ac,bc)/\MI kf lt a b out ia ib/\ia+1<a.size/\ib<b.size/\x+1<out.size)
    (Q:=fun c st'=>StG st st'/\((∃r,c.1=some r/\Mgd kf lt a b r)\/∃out ia ib mg ac bc,c=(none,out,ia,ib,mg,ac,bc)/\MI kf lt a b out ia ib/\ia+1<a.size/\ib<b.size/\x+1<out.size)) ?gstep ?gfin ⟨hG,_,_,_,_,_,_,rfl,M,q1,q2,q3⟩) ?gpost)
   case gfin =>
    rintro c st' ⟨hG,out,ia,ib,mg,ac,bc,rfl,M,q1,q2,q3⟩;exact⟨hG,.inr ⟨out,ia,ib,mg,ac,bc,rfl,M,q1,q2,q3⟩⟩
   case gpost =>
    rintro c st' ⟨hG,hc⟩;rcases hc with⟨r,e,hr⟩|⟨out,ia,ib,mg,ac,bc,rfl,M,q1,q2,q3⟩
    .obtain⟨c1,c2⟩:=c;dsimp -zeta only at e⊢;subst e;exact y0v ⟨hG,r,rfl,hr⟩
    dsimp -zeta only;refine y0o (z4C hG fun st3 hG2=>?_);exact y0v ⟨hG2,out,ia,ib,_,rfl,M,q1,q2,q3⟩
   case gstep =>
    rintro y c st2 _ hy ⟨hG,out,ia,ib,mg,ac,bc,rfl,M,q1,q2,q3⟩;dsimp -zeta only;refine z9i fun QG hQ=>?_
    extract_lets s1 o1 s2 i1 s3 b1 s4 m1 s5 a1 c1 bp jp m2
    subst m2 bp c1 a1 s5 m1 s4 b1 s3 i1 s2 o1 s1;refine zct (j:=jp ()) fun m'=>?_;dsimp -zeta only [jp];clear jp;refine y0o (z4C hG fun st3 hG2=>?_);refine y0o (z0C (eb ib q2) ?_);refine y0o (z3W T hA (hG2.kind.trans hk) (hSb ib q2) (by lia) (fun i hi _ _=>hSa i hi) (z9H T sa) (by lia) fun k hk1 f1 f2=>?_);have f1':∀i (hi:i<a.size),ia<=i->i<ia+k->lt (kf b[ib]) (kf a[i])=false:=fun i hi u1 u2=>by have:=f1 i hi u1 u2;unfold bey at this;simpa using this
    have f2':∀i (hi:i<a.size),ia+k<=i->lt (kf b[ib]) (kf a[i])=true:=fun i hi u1=>by have:=f2 i hi u1 (by lia);unfold bey at this;simpa using this
    dsimp -zeta only
    extract_lets k2 jp o2 i2
    subst i2 o2 k2;have hs0:=M.size;have hj:∀(o:Array Keyed)(i:Nat)(hi:i+1<a.size),MI kf lt a b o i ib->lt (kf b[ib]) (kf (a[i]'(by lia)))=true->x+1<o.size+1->wpS (model prog w) A E s (jp () o i) QG st3:=by
     intro o i hi M2 f3 ho;dsimp -zeta only [jp];clear jp;refine y0o (z0C (eb ib q2) ?_);have u3:=Nat.lt_of_succ_lt hi;have M3:=M2.pushB sb q2 (leA _ u3 _ (T.asy _ _ f3))
     extract_lets o3 b3
     subst b3 o3;by_cases d3:ib+1=b.size
     .rw[if_pos (by simpa using d3)];refine y0v (hQ _ _ ⟨hG2,.inl ⟨_,rfl,?_⟩⟩);rw[d3]at M3⊢;exact M3.doneB sa
     rw[if_neg (by simpa using d3)];refine y0o (z0C (ea _ u3) ?_);refine y0o (z3W T hA (hG2.kind.trans hk) (hSa _ u3) (by lia) (fun i hi _ _=>hSb i hi) (z9H T sb) (by lia) fun k1 hk1 g1 g2=>?_);dsimp -zeta only
     extract_lets k3 jp o4 b4
     subst b4 o4 k3;have hj:∀(o':Array Keyed)(b':Nat)(hb':b'<b.size),MI kf lt a b o' i b'->lt (kf (b[b'])) (kf (a[i]'u3))=false->x+1<o'.size+1->wpS (model prog w) A E s (jp () o' b') QG st3:=by
      intro o' b' hb' M4 g3 ho';dsimp -zeta only [jp];clear jp;refine y0o (z0C (ea _ u3) ?_);have M5:=M4.pushA sa u3 (leB _ hb' _ g3);have hs5:(o'.push (a[i]'u3)).size=o'.size+1:=y2h ..;dsimp only;split
      .rename_i d6;exact y0v (hQ _ _ ⟨hG2,.inl ⟨_,rfl,M5.lastA sb (by simpa using d6) hl⟩⟩)
      rename_i d6;rw[y3k]at d6;split
      .exact y0v (hQ _ _ ⟨hG2,.inr ⟨_,_,_,_,_,_,rfl,M5,by lia,hb',by lia⟩⟩)
      .exact y0v (hQ _ _ ⟨hG2,_,_,_,_,_,_,rfl,M5,by lia,hb',by lia⟩)
     clear_value jp
     .have hs3:(o.push b[ib]).size=o.size+1:=y2h ..;by_cases d4:k1>0
      .rw[if_pos d4];have M4:=M3.chunkB sb k1 (by lia) (fun i hi u1 u2=>leA _ u3 _ (T.asy _ _ (g1 i hi u1 u2)));have hs4:=M4.size;have hs2:=M3.size;by_cases d5:ib+1+k1=b.size
       .rw[if_pos (by simpa using d5)];refine y0v (hQ _ _ ⟨hG2,.inl ⟨_,rfl,?_⟩⟩);rw[d5]at M4⊢;exact M4.doneB sa
       rw[if_neg (by simpa using d5)];have u4:ib+1+k1<b.size:=by lia
       exact hj _ _ u4 M4 (g2 (ib+1+k1) u4 (y0b _) (by lia)) (by lia)
      .rw[if_neg d4];have hk0:k1=0:=by lia
       subst hk0;have u4:ib+1<b.size:=by lia
       exact hj _ _ u4 M3 (g2 (ib+1) u4 (by lia) (by lia)) (by lia)
    clear_value jp
    .by_cases d1:k>0
     .rw[if_pos d1];have M2:=M.chunkA sa k (by lia) (fun i hi u1 u2=>leB ib q2 _ (f1' i hi u1 u2));have hs2:=M2.size;by_cases d2:ia+k+1=a.size
      .rw[if_pos (by simpa using d2)];exact y0v (hQ _ _ ⟨hG2,.inl ⟨_,rfl,M2.lastA sb d2 hl⟩⟩)
      rw[if_neg (by simpa using d2)];by_cases d2':ia+k=a.size
      .rw[if_pos (by simpa using d2')];refine y0v (hQ _ _ ⟨hG2,.inl ⟨_,rfl,?_⟩⟩);rw[d2']at M2⊢;exact M2.doneA sb
      rw[if_neg (by simpa using d2')];exact hj _ _ (by lia) M2 (f2' (ia+k) (by lia) (y0b _)) (by lia)
     .rw[if_neg d1];have hk0:k=0:=by lia
      subst hk0;exact hj _ _ q1 M (f2' ia (by lia) (by lia)) (by lia)
end
def zdK:Array Keyed->Array Keyed->StateT SortSt Sem (Array Keyed):=sortPriv% PySem.Builtin.mergeHi
section
variable{α:Type}(kf:Keyed->α)(lt:α->α->Bool)
structure MH(a b:Array Keyed)(out:Array Keyed)(na nb:Nat):Prop where
 la:na<=a.size
 lb:nb<=b.size
 so:Sl kf lt out.toList.reverse
 le:∀y∈out.toList,∀x∈a.toList.take na++b.toList.take nb,lt (kf y) (kf x)=false
 pm:((a.toList.take na++b.toList.take nb)++out.toList.reverse).Perm (a.toList++b.toList)
end
section
variable{α:Type}{kf:Keyed->α}{lt:α->α->Bool}
def z6f{a:Array Keyed}{i:Nat}(h:i<a.size):a.toList.take (i+1)=a.toList.take i++[a[i]]:=by rw[y0D,show a.toList[i]?=some a[i]by rw[y0w,y0c h]];rfl
theorem MH.size{a b out:Array Keyed}{na nb:Nat}(h:MH kf lt a b out na nb):out.size+na+nb=a.size+b.size:=by have:=h.pm.length_eq;have h1:=h.la;have h2:=h.lb;simp at this;lia
def z3X(T:z66 lt){l:List Keyed}{i:Nat}{x y:Keyed}(h:Sl kf lt l)(hx:l[i]?=some x)(hy:lt (kf y) (kf x)=false):∀z∈l.take (i+1),lt (kf y) (kf z)=false:=fun z hz=>by
 obtain⟨j,hj,e⟩:=y1a.mp hz;rw[y1Y]at e;obtain⟨hi,ei⟩:=y06.mp hx;have hji:j<=i:=by simp at hj;lia
 rcases y1q j i with q|q
 .have:=y12.mp h j i (by lia) hi q;rw[e,ei]at this;exact T.tr (kf z) (kf x) (kf y) this hy
 .have:j=i:=by lia
  subst this;rw[<-e,ei];exact hy
def MH.pushA{a b out:Array Keyed}{na nb:Nat}(h:MH kf lt a b out (na+1) nb)(sa:Sl kf lt a.toList)(T:z66 lt)(hi:na<a.size)(hle:∀x∈b.toList.take nb,lt (kf a[na]) (kf x)=false):MH kf lt a b (out.push a[na]) na nb:=by
 have e:=z6f hi;have hx:a.toList[na]?=some a[na]:=by rw[y0w,y0c hi]
 have hin:∀x∈a.toList.take na++b.toList.take nb,x∈a.toList.take (na+1)++b.toList.take nb:=fun x hx=>by
  rcases y0s.mp hx with z|z
  .rw[e];simp[z]
  .simp[z]
 refine⟨by have:=h.la;lia,h.lb,?_,fun y hy x hx'=>?_,?_⟩
 .rw[y1k,List.reverse_append];refine y0S.mpr ⟨y2b _ _,h.so,fun x hx' y hy=>?_⟩;have hx'':x=a[na]:=by simpa using hx'
  subst hx'';exact h.le y (by simpa using hy) a[na] (by rw[e];simp)
 .rw[y1k,y0s,y07]at hy;rcases hy with hy|rfl
  .exact h.le y hy x (hin x hx')
  .rcases y0s.mp hx' with z|z
   .exact z3X T sa hx (T.refl _) x (by rw[e];simp[z])
   .exact hle x z
 .have:=h.pm;rw[e]at this;rw[y1k,List.reverse_append];refine y47 ?_ this;show((a.toList.take na++b.toList.take nb)++([a[na]]++out.toList.reverse)).Perm ((a.toList.take na++[a[na]]++b.toList.take nb)++out.toList.reverse);rw[<-y0p];refine y2k _ ?_;rw[y0p,y0p];exact y1L _ y1M
def MH.swap{a b out:Array Keyed}{na nb:Nat}(h:MH kf lt a b out na nb):MH kf lt b a out nb na:=by
 refine⟨h.lb,h.la,h.so,fun y hy x hx=>h.le y hy x ?_,?_⟩
 .rcases y0s.mp hx with z|z
  .exact y0H _ z
  .exact y0t _ z
 .exact((y2k _ y1M).trans h.pm).trans y1M
def MH.pushB{a b out:Array Keyed}{na nb:Nat}(h:MH kf lt a b out na (nb+1))(sb:Sl kf lt b.toList)(T:z66 lt)(hi:nb<b.size)(hle:∀x∈a.toList.take na,lt (kf b[nb]) (kf x)=false):MH kf lt a b (out.push b[nb]) na nb :=
 (MH.pushA h.swap sb T hi hle).swap
theorem MH.chunkA{a b:Array Keyed}{nb at_:Nat}(sa:Sl kf lt a.toList)(T:z66 lt):∀(na:Nat)(out:Array Keyed),at_<=na->MH kf lt a b out na nb->(∀i (hi:i<a.size),at_<=i->i<na->∀x∈b.toList.take nb,lt (kf a[i]) (kf x)=false)->MH kf lt a b (out++(a.extract at_ na).reverse) at_ nb
 |0,out,h0,h,_=>by
  have:at_=0:=by lia
  subst this;simpa using h
 |na+1,out,h0,h,hle=>by
  by_cases e:at_=na+1
  .subst e;have:(a.extract (na+1) (na+1)).reverse=#[]:=by simp;lia
   rw[this,Array.append_empty];exact h
  .have hi:na<a.size:=by have:=h.la;lia
   have:=MH.chunkA sa T na (out.push a[na]) (by lia) (h.pushA sa T hi (hle na hi (by lia) (by lia))) fun i hi' u1 u2=>hle i hi' u1 (by lia);have e2:out++(a.extract at_ (na+1)).reverse=out.push a[na]++(a.extract at_ na).reverse:=by have e1:=Array.push_extract_getElem (as:=a) (i:=at_) (j:=na) hi;rw[y3u (by lia)]at e1;rw[<-e1,Array.reverse_push];simp
   rw[e2];exact this
def MH.chunkB{a b:Array Keyed}{na at_:Nat}(sb:Sl kf lt b.toList)(T:z66 lt)(nb:Nat)(out:Array Keyed)(h0:at_<=nb)(h:MH kf lt a b out na nb)(hle:∀i (hi:i<b.size),at_<=i->i<nb->∀x∈a.toList.take na,lt (kf b[i]) (kf x)=false):MH kf lt a b (out++(b.extract at_ nb).reverse) na at_ :=
 (MH.chunkA sb T nb out h0 h.swap hle).swap
def z1E(a:Array Keyed)(n:Nat):(a.extract 0 n).toList=a.toList.take n:=by rw[y39,y2t];simp
def MH.doneA{a b out:Array Keyed}{nb:Nat}(sb:Sl kf lt b.toList)(h:MH kf lt a b out 0 nb):Mgd kf lt a b (a.extract 0 0++b.extract 0 nb++out.reverse):=by
 have e2:(a.extract 0 0++b.extract 0 nb++out.reverse).toList=b.toList.take nb++out.toList.reverse:=by rw[y18,y18,z1E,z1E,y3Z];simp
 unfold Mgd;rw[e2];refine⟨y0S.mpr ⟨sb.sublist (y1K _ _),h.so,fun x hx y hy=>h.le y (by simpa using hy) x (by simp[hx])⟩,?_⟩;have:=h.pm;simpa using this
def MH.doneB{a b out:Array Keyed}{na:Nat}(sa:Sl kf lt a.toList)(h:MH kf lt a b out na 0):Mgd kf lt a b (a.extract 0 na++b.extract 0 0++out.reverse):=by
 have e2:(a.extract 0 na++b.extract 0 0++out.reverse).toList=a.toList.take na++out.toList.reverse:=by rw[y18,y18,z1E,z1E,y3Z];simp
 unfold Mgd;rw[e2];refine⟨y0S.mpr ⟨sa.sublist (y1K _ _),h.so,fun x hx y hy=>h.le y (by simpa using hy) x (by simp[hx])⟩,?_⟩;have:=h.pm;simpa using this
def MH.firstB{a b out:Array Keyed}{na:Nat}(sa:Sl kf lt a.toList)(hb:0<b.size)(h:MH kf lt a b out na 1)(hf:∀y∈a.toList,lt (kf y) (kf b[0])=false):Mgd kf lt a b (b.extract 0 1++a.extract 0 na++out.reverse):=by
 have e1:b.toList.take 1=[b[0]]:=by have:=z6f (a:=b) (i:=0) hb;simpa using this
 have e2:(b.extract 0 1++a.extract 0 na++out.reverse).toList=[b[0]]++a.toList.take na++out.toList.reverse:=by rw[y18,y18,z1E,z1E,y3Z,e1]
 unfold Mgd;rw[e2];refine⟨y0S.mpr ⟨y0S.mpr ⟨y2b _ _,sa.sublist (y1K _ _),fun x hx y hy=>?_⟩,h.so,fun x hx y hy=>h.le y (by simpa using hy) x ?_⟩,?_⟩
 .rw[y07.mp hx];exact hf y (y1i hy)
 .rw[e1];rcases y0s.mp hx with z|z
  .exact y0H _ z
  .exact y0t _ z
 .have:=h.pm;rw[e1]at this;exact(y2k _ y1M).trans this
end
section
variable{prog:Program}{w:World}{A:Around}{E:yyE}{s:Shared}{α:Type}{kf:Keyed->α}{lt:α->α->Bool}{kd:SortKind}{S:List Keyed}
set_option maxHeartbeats 8000000 in
def z8H(T:z66 lt)(hA:zaq prog w A E s kd S kf lt){st:SortSt}(hk:kindOf st=kd){a b:Array Keyed}(haS:∀x∈a.toList,x∈S)(hbS:∀x∈b.toList,x∈S)(sa:Sl kf lt a.toList)(sb:Sl kf lt b.toList)(ha:0<a.size)(hb:0<b.size)(hfirst:lt (kf b[0]) (kf a[0])=true)(hl:∀y∈b.toList,∀z,a[a.size-1]?=some z->lt (kf z) (kf y)=false){Q:Array Keyed->SortSt->Prop}(h:∀r st',StG st st'->Mgd kf lt a b r->Q r st') : wpS (model prog w) A E s (zdK a b) Q st:=by
 have hSa:∀i (hi:i<a.size),a[i]∈S:=fun i hi=>haS _ (by simp);have hSb:∀i (hi:i<b.size),b[i]∈S:=fun i hi=>hbS _ (by simp);have ea:∀i (hi:i<a.size),a[i]?=some a[i]:=fun i hi=>y0c hi;have eb:∀i (hi:i<b.size),b[i]?=some b[i]:=fun i hi=>y0c hi;have hf:∀y∈a.toList,lt (kf y) (kf b[0])=false:=fun y hy=>z33 T sa (i:=0) (x:=a[0]) (by simp[ha]) (T.asy _ _ hfirst) y (by simpa using hy);have leA:∀i (hi:i<a.size) (y:Keyed),lt (kf y) (kf a[i])=false->∀z∈a.toList.take (i+1),lt (kf y) (kf z)=false:=fun i hi y q=>z3X T sa (by simp[hi]) q;have leB:∀i (hi:i<b.size) (y:Keyed),lt (kf y) (kf b[i])=false->∀z∈b.toList.take (i+1),lt (kf y) (kf z)=false:=fun i hi y q=>z3X T sb (by simp[hi]) q;obtain⟨m,hm⟩:∃m,a.size=m+1:=⟨a.size-1,by lia⟩;have hm1:a.size-1=m:=by lia
 have M0:MH kf lt a b #[] (m+1) b.size:=⟨by lia,y0b _,y35,fun y hy=>by simp at hy,by rw[<-hm,y0x (by simp),y0x (by simp)];simp⟩;have M1:MH kf lt a b #[a[m]] m b.size:=M0.pushA sa T (by lia) (fun x hx=>hl x (y1i hx) _ (by rw[hm1];exact ea m (by lia)));refine y0o (wpS_lift (y27 ⟨rfl,?_⟩));rw[hm1];refine y0o (z0C (ea m (by lia)) ?_);dsimp -zeta only;by_cases c1:m=0
 .rw[if_pos (by simpa using c1)];refine y0v (h _ _ (StG.refl st) ?_);subst c1;exact M1.doneA sb
 rw[if_neg (by simpa using c1)];by_cases c2:b.size=1
 .rw[if_pos (by simpa using c2)];refine y0v (h _ _ (StG.refl st) ?_);rw[c2]at M1;have:=M1.firstB sa hb hf;rw[<-c2]at this;exact this
 rw[if_neg (by simpa using c2)];refine y0o (y4b ?_);refine y0o (y2v (y1r (I:=fun x c st'=>StG st st'/\∃na nb out mg,c=(none,na,nb,out,mg)/\MH kf lt a b out na nb/\1<=na/\2<=nb/\x<out.size)
  (Q:=fun c st'=>StG st st'/\∃r,c.1=some r/\Mgd kf lt a b r) ?step ?fin ⟨StG.refl st,_,_,_,_,rfl,M1,by lia,by lia,by simp⟩) ?post)
 case fin =>
  rintro c st' ⟨hG,na,nb,out,mg,rfl,M,q1,q2,q3⟩;have:=M.size;lia
 case post =>
  rintro⟨c1,c2⟩ st' ⟨hG,r,e,hr⟩;dsimp -zeta only at e⊢;subst e;exact y0v (h r st' hG hr)
 case step =>
  rintro x c st1 _ hx ⟨hG,na,nb,out,mg,rfl,M,q1,q2,q3⟩;dsimp -zeta only;refine y0o (y2v (y1r (I:=fun y c st'=>st'=st1/\∃na nb out ac bc,c=(none,na,nb,out,ac,bc)/\MH kf lt a b out na nb/\1<=na/\2<=nb/\x+y<out.size)
   (Q:=fun c st'=>st'=st1/\((∃r,c.1=some r/\Mgd kf lt a b r)\/∃na nb out ac bc,c=(none,na,nb,out,ac,bc)/\MH kf lt a b out na nb/\1<=na/\2<=nb/\x+1<out.size)) ?istep ?ifin ⟨rfl,_,_,_,_,_,rfl,M,q1,q2,by lia⟩) ?ipost)
  case ifin =>
   rintro c st' ⟨rfl,na,nb,out,ac,bc,rfl,M,q1,q2,q3⟩;exact⟨rfl,.inr ⟨na,nb,out,ac,bc,rfl,M,q1,q2,by lia⟩⟩
  case istep =>
   rintro y c st' _ hy ⟨rfl,na,nb,out,ac,bc,rfl,M,q1,q2,q3⟩;obtain⟨p,rfl⟩:∃p,na=p+1:=⟨na-1,by lia⟩;obtain⟨r,rfl⟩:∃r,nb=r+2:=⟨nb-2,by lia⟩;have hp:p<a.size:=by have:=M.la;lia
   have hr:r+1<b.size:=by have:=M.lb;lia
   have z1:p+1-1=p:=rfl;have z2:r+2-1=r+1:=rfl;dsimp -zeta only;simp only[z1,z2];refine y0o (z0C (eb (r+1) hr) ?_);refine y0o (z0C (ea p hp) ?_);refine y0o (hA _ _ _ _ (hG.kind.trans hk) (hSb (r+1) hr) (hSa p hp) ?_);dsimp -zeta only;cases e:lt (kf b[r+1]) (kf a[p])with
   |true =>
    simp only[y2x];refine y0o (z0C (ea p hp) ?_);have M':=M.pushA sa T hp (leB (r+1) hr _ (T.asy _ _ e));have hs:(out.push a[p]).size=out.size+1:=y2h ..;by_cases d1:p=0
    .rw[if_pos (by simpa using d1)];refine y0v ⟨rfl,.inl ⟨_,rfl,?_⟩⟩;subst d1;exact M'.doneA sb
    rw[if_neg (by simpa using d1)];split
    .exact y0v ⟨rfl,.inr ⟨_,_,_,_,_,rfl,M',by lia,by lia,by lia⟩⟩
    .exact y0v ⟨rfl,_,_,_,_,_,rfl,M',by lia,by lia,by lia⟩
   |false =>
    simp only[y0n,y1H];refine y0o (z0C (eb (r+1) hr) ?_);have M':=M.pushB sb T hr (leA p hp _ e);have hs:(out.push b[r+1]).size=out.size+1:=y2h ..;by_cases d1:r+1=1
    .rw[if_pos (by simpa using d1)];refine y0v ⟨rfl,.inl ⟨_,rfl,?_⟩⟩;have d1':r=0:=by lia
     subst d1';exact M'.firstB sa hb hf
    rw[if_neg (by simpa using d1)];split
    .exact y0v ⟨rfl,.inr ⟨_,_,_,_,_,rfl,M',by lia,by lia,by lia⟩⟩
    .exact y0v ⟨rfl,_,_,_,_,_,rfl,M',by lia,by lia,by lia⟩
  case ipost =>
   rintro c st' ⟨h9,hc⟩;rw[h9];rcases hc with⟨r,e,hr⟩|⟨na,nb,out,ac,bc,rfl,M,q1,q2,q3⟩
   .obtain⟨c1,c2⟩:=c;dsimp -zeta only at e⊢;subst e;exact y0v ⟨hG,r,rfl,hr⟩
   dsimp -zeta only;refine y0o (wpS_lift (y27 ⟨rfl,?_⟩));refine y0o (y2v (y1r (I:=fun y c st'=>StG st st'/\∃na nb out mg ac bc,c=(none,na,nb,out,mg,ac,bc)/\MH kf lt a b out na nb/\1<=na/\2<=nb/\x+1<out.size)
    (Q:=fun c st'=>StG st st'/\((∃r,c.1=some r/\Mgd kf lt a b r)\/∃na nb out mg ac bc,c=(none,na,nb,out,mg,ac,bc)/\MH kf lt a b out na nb/\1<=na/\2<=nb/\x+1<out.size)) ?gstep ?gfin ⟨hG,_,_,_,_,_,_,rfl,M,q1,q2,q3⟩) ?gpost)
   case gfin =>
    rintro c st' ⟨hG,na,nb,out,mg,ac,bc,rfl,M,q1,q2,q3⟩;exact⟨hG,.inr ⟨na,nb,out,mg,ac,bc,rfl,M,q1,q2,q3⟩⟩
   case gpost =>
    rintro c st' ⟨hG,hc⟩;rcases hc with⟨r,e,hr⟩|⟨na,nb,out,mg,ac,bc,rfl,M,q1,q2,q3⟩
    .obtain⟨c1,c2⟩:=c;dsimp -zeta only at e⊢;subst e;exact y0v ⟨hG,r,rfl,hr⟩
    dsimp -zeta only;refine y0o (z4C hG fun st3 hG2=>?_);exact y0v ⟨hG2,na,nb,out,_,rfl,M,q1,q2,q3⟩
   case gstep =>
    rintro y c st2 _ hy ⟨hG,na,nb,out,mg,ac,bc,rfl,M,q1,q2,q3⟩;obtain⟨p,rfl⟩:∃p,na=p+1:=⟨na-1,by lia⟩;obtain⟨r,rfl⟩:∃r,nb=r+2:=⟨nb-2,by lia⟩;have hp:p<a.size:=by have:=M.la;lia
    have hr:r+1<b.size:=by have:=M.lb;lia
    have hs0:=M.size;refine z9i fun QG hQ=>?_;dsimp -zeta only
    extract_lets -underBinder s1 i1 s2 b1 s3 o1 s4 m1 s5 a1 c1 jp
    subst c1 a1 s5 m1 s4 o1 s3 b1 s2 i1 s1;refine zct (j:=jp ()) fun m'=>?_;dsimp -zeta only [jp];clear jp;refine y0o (z4C hG fun st3 hG2=>?_);refine y0o (z0C (eb (r+1) hr) ?_);refine y0o (z3W T hA (hG2.kind.trans hk) (hSb (r+1) hr) (by lia) (fun i hi _ _=>hSa i hi) (z9H T sa) (by lia) fun a1 ha1 f1 f2=>?_);have f1':∀i (hi:i<a.size),i<a1->lt (kf b[r+1]) (kf a[i])=false:=fun i hi u=>by have:=f1 i hi (y0K _) (by lia);unfold bey at this;simpa using this
    have f2':∀i (hi:i<a.size),a1<=i->i<p+1->lt (kf b[r+1]) (kf a[i])=true:=fun i hi u1 u2=>by have:=f2 i hi (by lia) (by lia);unfold bey at this;simpa using this
    dsimp -zeta only
    extract_lets -underBinder k1 k2 jp o9 i9
    subst i9 o9 k2 k1;have hj:∀(p1:Nat)(o:Array Keyed),p1+1<=p+1->MH kf lt a b o (p1+1) (r+2)->(∀i (hi:i<a.size),i<p1+1->lt (kf b[r+1]) (kf a[i])=false)->x+1<o.size+1->wpS (model prog w) A E s (jp () (p1+1) o) QG st3:=by
     intro p1 o hp1 M2 f1 ho;dsimp -zeta only [jp];clear jp
     extract_lets -underBinder b2
     subst b2;refine y0o (z0C (eb (r+1) hr) ?_);have HA:∀x∈a.toList.take (p1+1),lt (kf b[r+1]) (kf x)=false:=fun x hx=>by
      obtain⟨j,hj,e⟩:=y1a.mp hx;rw[y1Y]at e;have hj':j<p1+1/\j<a.size:=by simp at hj;lia
      have:=f1 j hj'.2 hj'.1;rw[<-e];simpa using this
     have M3:=M2.pushB sb T hr HA
     extract_lets -underBinder o2
     subst o2;by_cases d3:r+1=1
     .rw[if_pos (by simpa using d3)];refine y0v (hQ _ _ ⟨hG2,.inl ⟨_,rfl,?_⟩⟩);have d3':r=0:=by lia
      subst d3';exact M3.firstB sa hb hf
     rw[if_neg (by simpa using d3)];refine y0o (z0C (ea p1 (by lia)) ?_);refine y0o (z3W T hA (hG2.kind.trans hk) (hSa p1 (by lia)) (by lia) (fun i hi _ _=>hSb i hi) (z9H T sb) (by lia) fun a2 ha2 g1 g2=>?_);have g1':∀i (hi:i<b.size),i<a2->lt (kf b[i]) (kf a[p1])=true:=fun i hi u=>by have:=g1 i hi (y0K _) (by lia);unfold bey at this;simpa using this
     have g2':∀i (hi:i<b.size),a2<=i->i<r+1->lt (kf b[i]) (kf a[p1])=false:=fun i hi u1 u2=>by have:=g2 i hi (by lia) (by lia);unfold bey at this;simpa using this
     dsimp -zeta only
     extract_lets -underBinder k1 k2 jp o9 i9
     subst i9 o9 k2 k1;have hj:∀(b':Nat)(o':Array Keyed),2<=b'+1->MH kf lt a b o' (p1+1) b'->b'=a2->2<=b'->x+1<o'.size+1->wpS (model prog w) A E s (jp () b' o') QG st3:=by
      intro b' o' _ MB eb2 h2 ho';subst eb2;have HB:∀x∈b.toList.take b',lt (kf a[p1]) (kf x)=false:=fun x hx=>by
       obtain⟨j,hj,e⟩:=y1a.mp hx;rw[y1Y]at e;have hj':j<b'/\j<b.size:=by simp at hj;lia
       have:=T.asy _ _ (g1' j hj'.2 hj'.1);rw[<-e];simpa using this
      dsimp only[jp];clear jp;refine y0o (z0C (ea p1 (by lia)) ?_);have M5:=MB.pushA sa T (by lia:p1<a.size) HB;have hs5:(o'.push (a[p1]'(by lia))).size=o'.size+1:=y2h ..;by_cases d6:p1=0
      .rw[if_pos (by simpa using d6)];refine y0v (hQ _ _ ⟨hG2,.inl ⟨_,rfl,?_⟩⟩);subst d6;exact M5.doneA sb
      rw[if_neg (by simpa using d6)];split
      .exact y0v (hQ _ _ ⟨hG2,.inr ⟨_,_,_,_,_,_,rfl,M5,by lia,by lia,by lia⟩⟩)
      .exact y0v (hQ _ _ ⟨hG2,_,_,_,_,_,_,rfl,M5,by lia,by lia,by lia⟩)
     clear_value jp
     have hs3:(o.push b[r+1]).size=o.size+1:=y2h ..;by_cases d4:r+2-1-a2>0
     .rw[if_pos d4];have MB:=MH.chunkB sb T (r+1) _ (by lia:a2<=r+1) M3 (fun i hi u1 u2=>leA p1 (by lia) _ (g2' i hi u1 u2));have hs4:=MB.size;have hs2:=M3.size;by_cases d5:a2=1
      .rw[if_pos (by simpa using d5)];refine y0v (hQ _ _ ⟨hG2,.inl ⟨_,rfl,?_⟩⟩);subst d5;exact MB.firstB sa hb hf
      rw[if_neg (by simpa using d5)];by_cases d5':a2=0
      .rw[if_pos (by simpa using d5')];refine y0v (hQ _ _ ⟨hG2,.inl ⟨_,rfl,?_⟩⟩);subst d5';exact MB.doneB sa
      rw[if_neg (by simpa using d5')];have h9:x+1<(o.push b[r+1]++(b.extract a2 (r+1)).reverse).size+1:=by lia
      exact hj _ _ (by lia) MB rfl (by lia) h9
     .rw[if_neg d4];have hk0:a2=r+1:=by lia
      exact hj _ _ (by lia) M3 hk0.symm (by lia) (by lia)
    clear_value jp
    by_cases d1:p+1-a1>0
    .rw[if_pos d1];have M2:=MH.chunkA sa T (p+1) _ (by lia:a1<=p+1) M (fun i hi u1 u2=>leB (r+1) hr _ (T.asy _ _ (f2' i hi u1 u2)));have hs2:=M2.size;by_cases d2:a1=0
     .rw[if_pos (by simpa using d2)];refine y0v (hQ _ _ ⟨hG2,.inl ⟨_,rfl,?_⟩⟩);subst d2;exact M2.doneA sb
     rw[if_neg (by simpa using d2)];obtain⟨p1,rfl⟩:∃p1,a1=p1+1:=⟨a1-1,by lia⟩;exact hj p1 _ (by lia) M2 f1' (by lia)
    .rw[if_neg d1];have hk0:a1=p+1:=by lia
     subst hk0;exact hj p _ (by lia) M f1' (by lia)
end
section
variable{α:Type}(kf:Keyed->α)(lt:α->α->Bool)
def KA(xs:Array Keyed)(i:Nat):α:=kf (xs[i]?.getD (.none,.none))
def zcM(xs:Array Keyed)(lo n:Nat):Prop:=∀i j,i<=j->j<n->lt (KA kf xs (lo+j)) (KA kf xs (lo+i))=false
def zg2(xs:Array Keyed)(lo n:Nat):Prop:=∀i j,i<=j->j<n->lt (KA kf xs (lo+i)) (KA kf xs (lo+j))=false
end
structure SB(kd:SortKind)(p0:Array (Nat × Nat × Nat))(a₀:Array Keyed)(lo hi:Nat)(st:SortSt):Prop where
 perm:(arrOf st).Perm a₀
 kind:kindOf st=kd
 failed:failedOf st=none
 pend:pendingOf st=p0
 out:∀k:Nat,k<lo\/hi<=k->(arrOf st)[k]?=a₀[k]?
section
variable{α:Type}{kf:Keyed->α}{lt:α->α->Bool}{kd:SortKind}{p0:Array (Nat × Nat × Nat)}{a₀:Array Keyed}{lo hi:Nat}{st:SortSt}
theorem SB.size(h:SB kd p0 a₀ lo hi st):(arrOf st).size=a₀.size:=h.perm.size_eq
def SB.arr(h:SB kd p0 a₀ lo hi st){xs:Array Keyed}(hp:xs.Perm (arrOf st))(ho:∀k:Nat,k<lo\/hi<=k->xs[k]?=(arrOf st)[k]?):SB kd p0 a₀ lo hi (setArr st xs) :=
 ⟨hp.trans h.perm,h.kind,h.failed,h.pend,fun k hk=>(ho k hk).trans (h.out k hk)⟩
def z3z{xs ys:Array Keyed}{i j:Nat}(h:xs[i]?=ys[j]?):KA kf xs i=KA kf ys j:=by unfold KA;rw[h]
def z5g{xs:Array Keyed}{i j:Nat}(hj:j<=xs.size)(k:Nat):KA kf (mirror xs i j ((j-i)/2)) k=if i<=k/\k<j then KA kf xs (i+j-1-k)else KA kf xs k:=by
 have e:=getElem?_mirror_all (i:=i) hj k;by_cases h1:i<=k/\k<j
 .rw[if_pos h1]at e⊢;exact z3z e
 .rw[if_neg h1]at e⊢;exact z3z e
def z1e{xs:Array Keyed}{i j:Nat}(hj:j<=xs.size)(heq:∀k,i<=k->k<j->KA kf xs k=KA kf xs (j-1))(k:Nat):KA kf (mirror xs i j ((j-i)/2)) k=KA kf xs k:=by
 rw[z5g hj];split
 .rw[heq _ (by lia) (by lia),heq k (by lia) (by lia)]
 .rfl
def z8d{xs:Array Keyed}{src d:Nat}(hs:src<xs.size)(hd:d<=src)(k:Nat):KA kf (bubble xs src d) k=if k=src-d then KA kf xs src else if src-d<k/\k<=src then KA kf xs (k-1)else KA kf xs k:=by
 have e:=getElem?_bubble hs d hd k;by_cases h1:k=src-d
 .rw[if_pos h1]at e⊢;exact z3z e
 .rw[if_neg h1]at e⊢;by_cases h2:src-d<k/\k<=src
  .rw[if_pos h2]at e⊢;exact z3z e
  .rw[if_neg h2]at e⊢;exact z3z e
def z35{xs:Array Keyed}{i j:Nat}(hj:j<=xs.size){k:Nat}(hk:k<i\/j<=k):(mirror xs i j ((j-i)/2))[k]?=xs[k]?:=by rw[getElem?_mirror_all hj,if_neg (by lia)]
def zam{xs:Array Keyed}{src d:Nat}(hs:src<xs.size)(hd:d<=src){k:Nat}(hk:k<src-d\/src<k):(bubble xs src d)[k]?=xs[k]?:=by rw[getElem?_bubble hs d hd,if_neg (by lia),if_neg (by lia)]
end
section
variable{prog:Program}{w:World}{A:Around}{E:yyE}{s:Shared}{α:Type}{kf:Keyed->α}{lt:α->α->Bool}{kd:SortKind}{S:List Keyed}{p0:Array (Nat × Nat × Nat)}{a₀:Array Keyed}{lo hi:Nat}
def z43(hA:zaq prog w A E s kd S kf lt)(h0:∀x∈a₀.toList,x∈S){st:SortSt}(hB:SB kd p0 a₀ lo hi st){i j:Nat}(hi':i<a₀.size)(hj:j<a₀.size){Q:Option Bool->SortSt->Prop}(h:Q (some (lt (KA kf (arrOf st) i) (KA kf (arrOf st) j))) st):wpS (model prog w) A E s (ltAt' i j) Q st:=by
 have e:∀k,k<a₀.size->∃x,(arrOf st)[k]?=some x/\x∈S/\KA kf (arrOf st) k=kf x:=fun k hk=>by
  have hk':k<(arrOf st).size:=by rw[hB.size];exact hk
  refine⟨(arrOf st)[k],y0c hk',h0 _ ((Array.perm_iff_toList_perm.mp hB.perm).mem_iff.mp (by simp)),?_⟩;unfold KA;rw[y0c hk'];rfl
 obtain⟨x,e1,x1,x2⟩:=e i hi';obtain⟨y,e2,y1,y2⟩:=e j hj;rw[ltAt'_eq];refine y0o (y4b ?_);show wpS _ _ _ _ (do let x <-elem' (arrOf st) i;let y <-elem' (arrOf st) j;lt' x y) Q st
 refine y0o (z0C e1 ?_);refine y0o (z0C e2 ?_);exact hA st x y Q hB.kind x1 y1 (by rw[<-x2,<-y2];exact h)
def z4N(T:z66 lt)(hA:zaq prog w A E s kd S kf lt)(h0:∀x∈a₀.toList,x∈S){st:SortSt}{n ok:Nat}{Q:Bool->SortSt->Prop}(hn:lo+n<=a₀.size)(hhi:lo+n<=hi)(hok:ok<=n)(hB:SB kd p0 a₀ lo hi st)(hs:zcM kf lt (arrOf st) lo ok)(h:∀st',SB kd p0 a₀ lo hi st'->zcM kf lt (arrOf st') lo n->Q true st'):wpS (model prog w) A E s (binarySort' lo n ok) Q st:=by
 rw[binarySort'_eq];refine y0o (y2v (y1r (I:=fun k c st'=>c=(none,())/\SB kd p0 a₀ lo hi st'/\zcM kf lt (arrOf st') lo (min k n))
  (Q:=fun c st'=>c=(none,())/\SB kd p0 a₀ lo hi st'/\zcM kf lt (arrOf st') lo n) ?step ?fin ?init) ?post)
 case post =>
  rintro c st' ⟨rfl,hB',hs'⟩;exact y0v (h st' hB' hs')
 case init =>
  refine⟨rfl,hB,fun i j hij hj=>?_⟩;by_cases h1:ok=0
  .have:i=j:=by lia
   subst this;exact T.refl _
  .exact hs i j hij (by lia)
 case fin =>
  rintro c st' ⟨hc,hB',hs'⟩;refine⟨hc,hB',?_⟩
  rwa [show min (max (max ok 1) n) n=n by lia]at hs'
 case step =>
  rintro k c st' hak hkn ⟨rfl,hB',hs'⟩;rw[show min k n=k by lia]at hs';have hk:lo+k<a₀.size:=by lia
  refine y0o (y2v (y1r (I:=fun x c st''=>st''=st'/\∃l r,c=(none,l,r)/\l<=r/\r<=k/\r-l<=k-x /\
    (∀i,i<l->lt (KA kf (arrOf st') (lo+k)) (KA kf (arrOf st') (lo+i))=false)/\(∀i,r<=i->i<k->lt (KA kf (arrOf st') (lo+k)) (KA kf (arrOf st') (lo+i))=true))
   (Q:=fun c st''=>st''=st'/\∃l r,c=(none,l,r)/\l<=k /\
    (∀i,i<l->lt (KA kf (arrOf st') (lo+k)) (KA kf (arrOf st') (lo+i))=false)/\(∀i,l<=i->i<k->lt (KA kf (arrOf st') (lo+k)) (KA kf (arrOf st') (lo+i))=true)) ?istep ?ifin ?iinit) ?ipost)
  case iinit=>exact⟨rfl,0,k,rfl,by lia,by lia,by lia,fun i hi=>by lia,fun i h1 h2=>by lia⟩
  case ifin =>
   rintro c st'' ⟨rfl,l,r,rfl,hlr,hrk,hm,hlo,hhi⟩;have:l=r:=by lia
   subst this;exact⟨rfl,l,l,rfl,hrk,hlo,hhi⟩
  case istep =>
   rintro x c st'' _ hxk ⟨rfl,l,r,rfl,hlr,hrk,hm,hlo,hhi⟩;dsimp only;by_cases hge:l ≥ r
   .rw[if_pos hge];have:l=r:=by lia
    subst this;exact y0v ⟨rfl,l,l,rfl,hrk,hlo,hhi⟩
   .rw[if_neg hge];refine y0o (z43 hA h0 hB' hk (by lia) ?_);cases hless:lt (KA kf (arrOf st'') (lo+k)) (KA kf (arrOf st'') (lo+(l+r)/2));case true =>
     simp only[y2x];refine y0v ⟨rfl,l,(l+r)/2,rfl,by lia,by lia,by lia,hlo,fun i h1 h2=>?_⟩;cases e:lt (KA kf (arrOf st'') (lo+k)) (KA kf (arrOf st'') (lo+i))with
     |true=>rfl
     |false=>rw[T.tr _ _ _ (hs' _ _ h1 h2) e]at hless;cases hless
    case false =>
     simp only[y0n,y1H];refine y0v ⟨rfl,(l+r)/2+1,r,rfl,by lia,by lia,by lia,fun i h1=>?_,hhi⟩;exact T.tr _ _ _ (hs' i ((l+r)/2) (by lia) (by lia)) hless
  case ipost =>
   rintro c st'' ⟨rfl,l,r,rfl,hlk,hlo,hhi'⟩;show wpS _ _ _ _ (do moveDown' (lo+k) (lo+l);pure (ForInStep.yield (none,()))) _ _
   rw[moveDown'_eq];have hks:lo+k<(arrOf st'').size:=by rw[hB'.size];exact hk
   have hd:lo+k-(lo+l)<=lo+k:=by lia
   refine y0o (y49 (y0v ⟨rfl,hB'.arr (bubble_perm _ _ _) (fun k' hk'=>zam hks hd (by lia)),?_⟩));rw[show min (k+1) n=k+1 by lia];intro i j hij hj;show lt (KA kf (bubble (arrOf st'') (lo+k) (lo+k-(lo+l))) (lo+j)) (KA kf (bubble (arrOf st'') (lo+k) (lo+k-(lo+l))) (lo+i))=false;rw[z8d hks hd,z8d hks hd,show lo+k-(lo+k-(lo+l))=lo+l by lia];have z2G:∀i,i<k+1->0<i->lo+i-1=lo+(i-1):=fun i _ _=>by lia
   repeat' split
   all_goals first
    | (exfalso;lia)
    |exact T.refl _
    |exact hlo _ (by lia)
    | (rw[show lo+j-1=lo+(j-1)by lia];exact T.asy _ _ (hhi' _ (by lia) (by lia)))
    | (rw[show lo+j-1=lo+(j-1)by lia,show lo+i-1=lo+(i-1)by lia];exact hs' _ _ (by lia) (by lia))
    | (rw[show lo+j-1=lo+(j-1)by lia];exact hs' _ _ (by lia) (by lia))
    |exact hs' _ _ (by lia) (by lia)
end
section
variable{prog:Program}{w:World}{A:Around}{E:yyE}{s:Shared}{α:Type}{kf:Keyed->α}{lt:α->α->Bool}{kd:SortKind}{S:List Keyed}{p0:Array (Nat × Nat × Nat)}{a₀:Array Keyed}{lo hi:Nat}
def z6B(T:z66 lt)(hA:zaq prog w A E s kd S kf lt)(h0:∀x∈a₀.toList,x∈S){st:SortSt}{nrem:Nat}{Q:Option Nat->SortSt->Prop}(hn:lo+nrem<=a₀.size)(hhi:lo+nrem<=hi)(h1:1<=nrem)(hB:SB kd p0 a₀ lo hi st)(h:∀m st',SB kd p0 a₀ lo hi st'->1<=m->m<=nrem->zcM kf lt (arrOf st') lo m->Q (some m) st'):wpS (model prog w) A E s (countRun' lo nrem) Q st:=by
 rw[countRun'_eq];refine y0o (y2v (y1r (I:=fun x c st'=>st'=st/\c=(none,x)/\zcM kf lt (arrOf st) lo x)
  (Q:=fun c st'=>st'=st/\∃n,c=(none,n)/\1<=n/\n<=nrem/\zcM kf lt (arrOf st) lo n/\(n=nrem\/lt (KA kf (arrOf st) (lo+n)) (KA kf (arrOf st) (lo+n-1))=true)) ?stepA7 ?finA7 ⟨rfl,rfl,(fun i j hij hj=>by have:i=j:=(by lia);subst this;exact T.refl _)⟩) ?postA7)
 case finA7 =>
  rintro c st' ⟨e9,rfl,hs'⟩;rw[show max (1) nrem=nrem by lia]at hs'⊢;exact⟨e9,nrem,rfl,by lia,y0b _,hs',.inl rfl⟩
 case stepA7 =>
  rintro x c st' hax hxn ⟨e9,rfl,hs'⟩;rw[e9];dsimp only;refine y0o (z43 hA h0 hB (by lia) (by lia) ?_);cases hless:lt (KA kf (arrOf st) (lo+x)) (KA kf (arrOf st) (lo+x-1));case true =>
   simp only[y2x];exact y0v ⟨rfl,x,rfl,hax,by lia,hs',.inr hless⟩
  case false =>
   simp only[y0n,y1H];refine y0v ⟨rfl,rfl,fun i j hij hj=>?_⟩;by_cases hjx:j<x
   .exact hs' i j hij hjx
   .have hj':j=x:=by lia
    subst hj';by_cases hi':i=j
    .subst hi';exact T.refl _
    .have:=hs' i (j-1) (by lia) (by lia);rw[show lo+(j-1)=lo+j-1 by lia]at this;exact T.tr _ _ _ this hless
 case postA7 =>
  rintro c st' ⟨e9,n,rfl,hn1,hn2,hsn,hor⟩;rw[e9];dsimp only;by_cases hnn:n=nrem
  .rw[if_pos (by simpa using hnn)];exact y0v (h n st hB hn1 hn2 hsn)
  rw[if_neg (by simpa using hnn)];have hlt:=hor.resolve_left hnn;by_cases hgt:n>1;focus
   rw[if_pos hgt];refine y0o (z43 hA h0 hB (by lia) (by lia) ?_);cases hrose:lt (KA kf (arrOf st) lo) (KA kf (arrOf st) (lo+n-1));case true =>
    simp only[y2x];exact y0v (h n st hB hn1 hn2 hsn)
   simp only[y0n,y1H];have hsz0:lo+n<=(arrOf st).size:=by rw[hB.size];lia
   have hall:∀k,lo<=k->k<lo+n->KA kf (arrOf st) k=KA kf (arrOf st) (lo+n-1):=by intro k u1 u2;have a1:=hsn 0 (k-lo) (by lia) (by lia);have a2:=hsn (k-lo) (n-1) (by lia) (by lia);rw[show lo+(k-lo)=k by lia,y3J]at a1;rw[show lo+(k-lo)=k by lia,show lo+(n-1)=lo+n-1 by lia]at a2;exact T.an _ _ (T.tr _ _ _ hrose a1) a2
   refine y0o (wpS_reverse ?_);have hB5:SB kd p0 a₀ lo hi (setArr st (mirror (arrOf st) lo (lo+n) ((lo+n-lo)/2))):=hB.arr (mirror_perm _ _ _ _) (fun k hk=>z35 hsz0 (by lia));have hs5:zg2 kf lt (arrOf (setArr st (mirror (arrOf st) lo (lo+n) ((lo+n-lo)/2)))) lo (n+1):=by
    intro i j hij hj;show lt (KA kf (mirror (arrOf st) _ _ _) (lo+i)) (KA kf (mirror (arrOf st) _ _ _) (lo+j))=false;rw[z1e hsz0 hall,z1e hsz0 hall];by_cases hjn:j<n
    .rw[hall (lo+i) (by lia) (by lia),hall (lo+j) (by lia) (by lia)];exact T.refl _
    .have hj':j=n:=by lia
     subst hj';by_cases hi':i=j
     .subst hi';exact T.refl _
     .rw[hall (lo+i) (by lia) (by lia)];exact T.asy _ _ hlt
   generalize setArr st (mirror (arrOf st) lo (lo+n) ((lo+n-lo)/2))=st5 at hB5 hs5⊢
  rotate_left;focus
   rw[if_neg hgt];have hn1':n=1:=by lia
   have hs5:zg2 kf lt (arrOf st) lo (n+1):=by
    subst hn1';intro i j hij hj;by_cases hi':i=j
    .subst hi';exact T.refl _
    .have hi0:i=0:=by lia
     have hj1:j=1:=by lia
     subst hi0;subst hj1;exact T.asy _ _ hlt
   have hB5:=hB;generalize st=st5 at hB5 hs5⊢
  all_goals
   refine y0o (wpS_lift (y27 ⟨rfl,?_⟩));refine y0o (y2v (y1r (I:=fun x c st'=>∃neq,c=(none,x,neq)/\SB kd p0 a₀ lo hi st'/\zg2 kf lt (arrOf st') lo x/\neq+1<=x/\(∀i,x-(neq+1)<=i->i<x->KA kf (arrOf st') (lo+i)=KA kf (arrOf st') (lo+x-1)))
    (Q:=fun c st'=>∃m neq,c=(none,m,neq)/\n+1<=m/\m<=nrem/\SB kd p0 a₀ lo hi st'/\zg2 kf lt (arrOf st') lo m/\neq+1<=m/\(∀i,m-(neq+1)<=i->i<m->KA kf (arrOf st') (lo+i)=KA kf (arrOf st') (lo+m-1))) ?stepD1 ?finD1 ⟨0,rfl,hB5,hs5,by lia,fun i u1 u2=>by congr 1;lia⟩) ?postD1)
   case finD1 =>
    rintro c st' ⟨neq,rfl,hB',hs',hq,he⟩;rw[show max (n+1) nrem=nrem by lia]at hs' hq he⊢;exact⟨nrem,neq,rfl,by lia,y0b _,hB',hs',hq,he⟩
   case stepD1 =>
    rintro x c st' hax hxn ⟨neq,rfl,hB',hs',hq,he⟩;dsimp only;have hsz:lo+x<=(arrOf st').size:=by rw[hB'.size];lia
    refine y0o (z43 hA h0 hB' (by lia) (by lia) ?_);cases hless:lt (KA kf (arrOf st') (lo+x)) (KA kf (arrOf st') (lo+x-1));case true =>
     simp only[y2x];have step1:∀xs:Array Keyed,(∀k,KA kf xs k=KA kf (arrOf st') k)->zg2 kf lt xs lo (x+1):=by
      intro xs hk i j hij hj;rw[hk,hk];by_cases hjx:j<x
      .exact hs' i j hij hjx
      .have hj':j=x:=by lia
       subst hj';by_cases hi':i=j
       .subst hi';exact T.refl _
       .have:=hs' i (j-1) (by lia) (by lia);rw[show lo+(j-1)=lo+j-1 by lia]at this;exact T.tr _ _ _ (T.asy _ _ hless) this
     have heq:∀k,lo+x-(neq+1)<=k->k<lo+x->KA kf (arrOf st') k=KA kf (arrOf st') (lo+x-1):=fun k u1 u2=>by have:=he (k-lo) (by lia) (by lia);rw[show lo+(k-lo)=k by lia]at this;exact this
     by_cases hneq:neq>0
     .rw[if_pos hneq];refine y0o (wpS_reverse (y0v ⟨0,rfl,hB'.arr (mirror_perm _ _ _ _) (fun k hk=>z35 hsz (by lia)),step1 _ (z1e hsz heq),by lia,fun i u1 u2=>by congr 1;lia⟩))
     .rw[if_neg hneq];exact y0v ⟨0,rfl,hB',step1 _ (fun _=>rfl),by lia,fun i u1 u2=>by congr 1;lia⟩
    case false =>
     simp only[y0n,y1H];refine y0o (z43 hA h0 hB' (by lia) (by lia) ?_);cases hlarger:lt (KA kf (arrOf st') (lo+x-1)) (KA kf (arrOf st') (lo+x));case true =>
      simp only[y2x];exact y0v ⟨x,neq,rfl,hax,by lia,hB',hs',hq,he⟩
     case false =>
      simp only[y0n,y1H];have heqx:KA kf (arrOf st') (lo+x)=KA kf (arrOf st') (lo+x-1):=T.an _ _ hless hlarger;refine y0v ⟨neq+1,rfl,hB',fun i j hij hj=>?_,by lia,fun i u1 u2=>?_⟩
      .by_cases hjx:j<x
       .exact hs' i j hij hjx
       .have hj':j=x:=by lia
        subst hj';by_cases hi':i=j
        .subst hi';exact T.refl _
        .have:=hs' i (j-1) (by lia) (by lia);rw[show lo+(j-1)=lo+j-1 by lia]at this;rw[heqx];exact this
      .rw[show lo+(x+1)-1=lo+x by lia];by_cases hix:i=x
       .subst hix;rfl
       .rw[heqx];exact he i (by lia) (by lia)
   case postD1 =>
    rintro c st7 ⟨m,neq,rfl,hm1,hm2,hB7,hs7,hq,he⟩;dsimp only;have hsz:lo+m<=(arrOf st7).size:=by rw[hB7.size];lia
    have heq:∀k,lo+m-(neq+1)<=k->k<lo+m->KA kf (arrOf st7) k=KA kf (arrOf st7) (lo+m-1):=fun k u1 u2=>by have:=he (k-lo) (by lia) (by lia);rw[show lo+(k-lo)=k by lia]at this;exact this
    by_cases hneq:neq>0;focus
     rw[if_pos hneq];refine y0o (wpS_reverse ?_);have hB7':SB kd p0 a₀ lo hi (setArr st7 (mirror (arrOf st7) (lo+m-(neq+1)) (lo+m) ((lo+m-(lo+m-(neq+1)))/2))):=hB7.arr (mirror_perm _ _ _ _) (fun k hk=>z35 hsz (by lia));have hs7':zg2 kf lt (arrOf (setArr st7 (mirror (arrOf st7) (lo+m-(neq+1)) (lo+m) ((lo+m-(lo+m-(neq+1)))/2)))) lo m:=by intro i j hij hj;show lt (KA kf (mirror (arrOf st7) _ _ _) (lo+i)) (KA kf (mirror (arrOf st7) _ _ _) (lo+j))=false;rw[z1e hsz heq,z1e hsz heq];exact hs7 i j hij hj
     generalize setArr st7 (mirror (arrOf st7) (lo+m-(neq+1)) (lo+m) ((lo+m-(lo+m-(neq+1)))/2))=st6 at hB7' hs7'⊢
    rotate_left;focus
     rw[if_neg hneq];have hB7':=hB7;have hs7':=hs7;generalize st7=st6 at hB7' hs7'⊢
    all_goals
     have hsz3:lo+m<=(arrOf st6).size:=by rw[(hB7').size];lia
     refine y0o (wpS_reverse ?_);have hB3:SB kd p0 a₀ lo hi (setArr st6 (mirror (arrOf st6) lo (lo+m) ((lo+m-lo)/2))):=(hB7').arr (mirror_perm _ _ _ _) (fun k hk=>z35 hsz3 (by lia));have hs3:zcM kf lt (arrOf (setArr st6 (mirror (arrOf st6) lo (lo+m) ((lo+m-lo)/2)))) lo m:=by intro i j hij hj;show lt (KA kf (mirror (arrOf st6) lo (lo+m) ((lo+m-lo)/2)) (lo+j)) (KA kf (mirror (arrOf st6) lo (lo+m) ((lo+m-lo)/2)) (lo+i))=false;rw[z5g hsz3,z5g hsz3,if_pos (by lia),if_pos (by lia),show lo+(lo+m)-1-(lo+j)=lo+(m-1-j)by lia,show lo+(lo+m)-1-(lo+i)=lo+(m-1-i)by lia];exact hs7' _ _ (by lia) (by lia)
     generalize setArr st6 (mirror (arrOf st6) lo (lo+m) ((lo+m-lo)/2))=st8 at hB3 hs3⊢;refine y0o (y2v (y1r (I:=fun x c st'=>st'=st8/\c=(none,x)/\zcM kf lt (arrOf st8) lo x)
      (Q:=fun c st'=>st'=st8/\∃n,c=(none,n)/\m<=n/\n<=nrem/\zcM kf lt (arrOf st8) lo n/\(n=nrem\/lt (KA kf (arrOf st8) (lo+n)) (KA kf (arrOf st8) (lo+n-1))=true)) ?stepA2 ?finA2 ⟨rfl,rfl,hs3⟩) ?postA2)
     case finA2 =>
      rintro c st' ⟨e9,rfl,hs'⟩;rw[show max (m) nrem=nrem by lia]at hs'⊢;exact⟨e9,nrem,rfl,by lia,y0b _,hs',.inl rfl⟩
     case stepA2 =>
      rintro x c st' hax hxn ⟨e9,rfl,hs'⟩;rw[e9];dsimp only;refine y0o (z43 hA h0 hB3 (by lia) (by lia) ?_);cases hless:lt (KA kf (arrOf st8) (lo+x)) (KA kf (arrOf st8) (lo+x-1));case true =>
       simp only[y2x];exact y0v ⟨rfl,x,rfl,hax,by lia,hs',.inr hless⟩
      case false =>
       simp only[y0n,y1H];refine y0v ⟨rfl,rfl,fun i j hij hj=>?_⟩;by_cases hjx:j<x
       .exact hs' i j hij hjx
       .have hj':j=x:=by lia
        subst hj';by_cases hi':i=j
        .subst hi';exact T.refl _
        .have:=hs' i (j-1) (by lia) (by lia);rw[show lo+(j-1)=lo+j-1 by lia]at this;exact T.tr _ _ _ this hless
     case postA2 =>
      rintro c st' ⟨e9,n,rfl,hn1,hn2,hsn,hor⟩;rw[e9];dsimp only;exact y0v (h n st8 hB3 (by lia) hn2 hsn)
end
def zfE{M:Model}{A:Around}{E:yyE}{s:Shared}{σ:Type}{x st:σ}{Q:PUnit->σ->Prop}(h:Q ⟨⟩ x):wpS M A E s (set x:StateT σ Sem PUnit) Q st:=by unfold wpS;rw[StateT.run_set];exact y09 ⟨rfl,h⟩
theorem z67:∀(l:List Keyed)(j:Nat)(pre mid post:List Keyed)(arr:Array Keyed),mid.length=l.length->arr.toList=pre++mid++post->∀base,base+j=pre.length ->
  ((l.zipIdx j).foldl (fun a (q:Keyed × Nat)=>a.setIfInBounds (base+q.2) q.1) arr).toList=pre++l++post
 |[],j,pre,mid,post,arr,hm,e,base,hb=>by
  have:mid=[]:=y1d hm;subst this;simpa using e
 |x::l,j,pre,mid,post,arr,hm,e,base,hb=>by
  cases mid with
  |nil=>cases hm
  |cons y mid =>
   rw[List.zipIdx_cons,y1B];have e2:(arr.setIfInBounds (base+j) x).toList=(pre++[x])++mid++post:=by rw[Array.toList_setIfInBounds,e,hb];simp[List.set_append]
   have:=z67 l (j+1) (pre++[x]) mid post _ (Nat.succ.inj hm) e2 base (by simp;lia);rw[this];simp
section
variable{prog:Program}{w:World}{A:Around}{E:yyE}{s:Shared}{α:Type}{kf:Keyed->α}{lt:α->α->Bool}{kd:SortKind}{S:List Keyed}
def z97{x y:List Keyed}(hx:Sl kf lt x)(hy:Sl kf lt y)(h:∀a∈x,∀b∈y,lt (kf b) (kf a)=false):Sl kf lt (x++y):=y0S.mpr ⟨hx,hy,h⟩
def ze9(T:z66 lt){l:List Keyed}(h:Sl kf lt l){i j:Nat}(hi:i<l.length)(hj:j<l.length)(hij:i<=j):lt (kf l[j]) (kf l[i])=false:=by
 rcases y1q i j with q|q
 .exact y12.mp h i j hi hj q
 .have:i=j:=by lia
  subst this;exact T.refl _
def z8K(T:z66 lt)(hA:zaq prog w A E s kd S kf lt){st:SortSt}(hk:kindOf st=kd)(hfl:failedOf st=none){pre u v post:List Keyed}(hS:∀x∈(arrOf st).toList,x∈S)(harr:(arrOf st).toList=pre++u++v++post){i pw pw2:Nat}(hp1:(pendingOf st)[i]?=some (pre.length,u.length,pw))(hp2:(pendingOf st)[i+1]?=some (pre.length+u.length,v.length,pw2))(hu0:0<u.length)(hv0:0<v.length)(hu:Sl kf lt u)(hv:Sl kf lt v){Q:Bool->SortSt->Prop}(h:∀r st',Sl kf lt r->r.Perm (u++v)->kindOf st'=kd->failedOf st'=none->pendingOf st'=((pendingOf st).setIfInBounds i (pre.length,u.length+v.length,pw)).eraseIdxIfInBounds (i+1)->(arrOf st').toList=pre++r++post->Q true st') : wpS (model prog w) A E s (mergeAt' i) Q st:=by
 have hsz:(arrOf st).size=pre.length+u.length+v.length+post.length:=by rw[<-y0J,harr];simp;lia
 have hU:∀j (hj:j<u.length),(arrOf st)[pre.length+j]?=some u[j]:=fun j hj=>by rw[<-y0w,harr,y0p,y0p,y0W (by lia),y2K,y0F hj,y00 hj]
 have hV:∀j (hj:j<v.length),(arrOf st)[pre.length+u.length+j]?=some v[j]:=fun j hj=>by rw[<-y0w,harr,y0p,y0W (by simp)];rw[show pre.length+u.length+j-(pre++u).length=j by simp,y0F hj,y00 hj]
 have gU:∀j (hj:j<(arrOf st).size) (h1:pre.length<=j) (h2:j<pre.length+u.length),(arrOf st)[j]=u[j-pre.length]'(by lia):=fun j hj h1 h2=>by have:=hU (j-pre.length) (by lia);rw[show pre.length+(j-pre.length)=j by lia,y0c hj]at this;exact y08 this
 have gV:∀j (hj:j<(arrOf st).size) (h1:pre.length+u.length<=j) (h2:j<pre.length+u.length+v.length),(arrOf st)[j]=v[j-(pre.length+u.length)]'(by lia):=fun j hj h1 h2=>by have:=hV (j-(pre.length+u.length)) (by lia);rw[show pre.length+u.length+(j-(pre.length+u.length))=j by lia,y0c hj]at this;exact y08 this
 have hSi:∀j (hj:j<(arrOf st).size),(arrOf st)[j]∈S:=fun j hj=>hS _ (by simp);have hSu:∀x∈u,x∈S:=fun x hx=>hS x (by rw[harr];simp[hx]);have hSv:∀x∈v,x∈S:=fun x hx=>hS x (by rw[harr];simp[hx]);refine y0o (y4b ?_);rw[hp1,hp2];dsimp only;refine y0o (zfE ?_);generalize hP:((pendingOf st).setIfInBounds i (pre.length,u.length+v.length,pw)).eraseIdxIfInBounds (i+1)=P at h⊢;have hk1:kindOf (setPending st P)=kd:=hk;have hv00:=hV 0 hv0;rw[y3J]at hv00;refine y0o (z0C hv00 ?_);refine y0o (z3W T hA hk1 (hSv _ (y0h _)) (by lia) (fun j hj _ _=>hSi j hj) (fun a b ha hb u1 u2 u3=>by rw[gU a ha u1 (by lia),gU b hb (by lia) u3];exact ze9 T hu _ _ (by lia)) hu0 fun k hk2 f1 f2=>?_);have f1':∀j (hj:j<u.length),j<k->lt (kf v[0]) (kf u[j])=false:=fun j hj hjk=>by have:=f1 (pre.length+j) (by lia) (by lia) (by lia);rw[gU (pre.length+j) (by lia) (by lia) (by lia)]at this;unfold bey at this;simpa using this
 have f2':∀j (hj:j<u.length),k<=j->lt (kf v[0]) (kf u[j])=true:=fun j hj hjk=>by have:=f2 (pre.length+j) (by lia) (by lia) (by lia);rw[gU (pre.length+j) (by lia) (by lia) (by lia)]at this;unfold bey at this;simpa using this
 have uv0:∀x∈u.take k,lt (kf v[0]) (kf x)=false:=fun x hx=>by
  obtain⟨j,hj,e⟩:=y1a.mp hx;rw[y1Y]at e;have hj':j<k/\j<u.length:=by simp at hj;lia
  rw[<-e];exact f1' j hj'.2 hj'.1
 have v0v:∀y∈v,lt (kf y) (kf v[0])=false:=fun y hy=>by obtain⟨j,hj,e⟩:=y1a.mp hy;rw[<-e];exact ze9 T hv hv0 hj (by lia)
 have utv:∀x∈u.take k,∀y∈v,lt (kf y) (kf x)=false:=fun x hx y hy=>T.tr _ _ _ (uv0 x hx) (v0v y hy);have stay:(arrOf (setPending st P)).toList=pre++(u++v)++post:=by show(arrOf st).toList=_;rw[harr];simp
 dsimp only;by_cases c1:u.length-k=0
 .rw[if_pos (by simpa using c1)];have hku:u.take k=u:=y0x (by lia);rw[hku]at utv;exact y0v (h (u++v) _ (z97 hu hv utv) .rfl hk hfl rfl stay)
 rw[if_neg (by simpa using c1)];have hlast:pre.length+k+(u.length-k)-1=pre.length+(u.length-1):=by lia
 rw[hlast];refine y0o (z0C (hU (u.length-1) (by lia)) ?_);refine y0o (z3W T hA hk1 (hSu _ (y0h _)) (by lia) (fun j hj _ _=>hSi j hj) (fun a b ha hb u1 u2 u3=>by rw[gV a ha u1 (by lia),gV b hb (by lia) u3];exact ze9 T hv _ _ (by lia)) (by lia) fun m hm2 g1 g2=>?_);have g1':∀j (hj:j<v.length),j<m->lt (kf v[j]) (kf (u[u.length-1]'(by lia)))=true:=fun j hj hjk=>by have:=g1 (pre.length+u.length+j) (by lia) (by lia) (by lia);rw[gV (pre.length+u.length+j) (by lia) (by lia) (by lia)]at this;unfold bey at this;simpa using this
 have g2':∀j (hj:j<v.length),m<=j->lt (kf v[j]) (kf (u[u.length-1]'(by lia)))=false:=fun j hj hjk=>by have:=g2 (pre.length+u.length+j) (by lia) (by lia) (by lia);rw[gV (pre.length+u.length+j) (by lia) (by lia) (by lia)]at this;unfold bey at this;simpa using this
 have ul:∀x∈u,lt (kf (u[u.length-1]'(by lia))) (kf x)=false:=fun x hx=>by obtain⟨j,hj,e⟩:=y1a.mp hx;rw[<-e];exact ze9 T hu hj (by lia) (by lia)
 have lv:∀y∈v.drop m,lt (kf y) (kf (u[u.length-1]'(by lia)))=false:=fun y hy=>by
  obtain⟨j,hj,e⟩:=y1a.mp hy;rw[y3G]at e;have hj':m+j<v.length:=by simp at hj;lia
  rw[<-e];exact g2' (m+j) hj' (by lia)
 have uvd:∀x∈u,∀y∈v.drop m,lt (kf y) (kf x)=false:=fun x hx y hy=>T.tr _ _ _ (ul x hx) (lv y hy);dsimp only;by_cases c2:m=0
 .rw[if_pos (by simpa using c2)];subst c2;rw[List.drop_zero]at uvd;exact y0v (h (u++v) _ (z97 hu hv uvd) .rfl hk hfl rfl stay)
 rw[if_neg (by simpa using c2)];have ex:((arrOf st).extract (pre.length+k) (pre.length+u.length)).toList=u.drop k:=by rw[y39,y2t,harr,y0p,y0p,List.drop_append,y1A (by lia),y1Q,y2K,List.drop_append_of_le_length (by lia)];rw[show pre.length+u.length-(pre.length+k)=(u.drop k).length by simp;lia];exact List.take_left
 have ey:((arrOf st).extract (pre.length+u.length) (pre.length+u.length+m)).toList=v.take m:=by rw[y39,y2t,harr,y0p,List.drop_append,show(pre++u).length=pre.length+u.length by simp,y1A (by simp),y1Q,y3L,List.drop_zero,y2K,y2O hm2]
 generalize hx:(arrOf st).extract (pre.length+k) (pre.length+u.length)=X at ex⊢;generalize hy:(arrOf st).extract (pre.length+u.length) (pre.length+u.length+m)=Y at ey⊢;have hXs:X.size=u.length-k:=by rw[<-y0J,ex];simp
 have hYs:Y.size=m:=by rw[<-y0J,ey];simp;lia
 have x0:X[0]'(by lia)=u[k]'(by lia):=by
  have:X.toList[0]?=some (u[k]'(by lia)):=by rw[ex,y2T,y3J,y00 (by lia)]
  rw[y0w,y0c (by lia)]at this;exact y08 this
 have y0:Y[0]'(by lia)=v[0]:=by
  have:Y.toList[0]?=some v[0]:=by rw[ey,y25 (by lia),y00 hv0]
  rw[y0w,y0c (by lia)]at this;exact y08 this
 have hfirst:lt (kf (Y[0]'(by lia))) (kf (X[0]'(by lia)))=true:=by rw[x0,y0];exact f2' k (by lia) (y0b _)
 have hl:∀y∈Y.toList,∀z,X[X.size-1]?=some z->lt (kf z) (kf y)=false:=fun y hy z hz=>by
  have ez:z=u[u.length-1]'(by lia):=by rw[<-y0w,ex,y2T,show k+(X.size-1)=u.length-1 by lia,y00 (by lia)]at hz;exact(y08 hz).symm
  rw[ey]at hy;obtain⟨j,hj,e⟩:=y1a.mp hy;rw[y1Y]at e;have hj':j<m/\j<v.length:=by simp at hj;lia
  rw[ez,<-e];exact T.asy _ _ (g1' j hj'.2 hj'.1)
 have fin:∀r st',StG (setPending st P) st'->Mgd kf lt X Y r->wpS (model prog w) A E s (do
   modify fun s=>setArr s (r.toList.zipIdx.foldl (fun a (q:Keyed × Nat)=>a.setIfInBounds (pre.length+k+q.2) q.1) (arrOf s))
   let __do_lift <-get
   pure (failedOf __do_lift).isNone) Q st':=fun r st' hG hr=>by
  obtain⟨g,rfl⟩:=hG;obtain⟨hr1,hr2⟩:=hr;rw[ex,ey]at hr2;refine y0o (y49 ?_);refine y0o (y4b (y0v ?_));have hfn:failedOf (setArr (SortSt.mk' (kindOf (setPending st P)) (arrOf (setPending st P)) (pendingOf (setPending st P)) g (failedOf (setPending st P))) (r.toList.zipIdx.foldl (fun a (q:Keyed × Nat)=>a.setIfInBounds (pre.length+k+q.2) q.1) (arrOf st)))=none:=hfl;have hw:=z67 r.toList 0 (pre++u.take k) (u.drop k++v.take m) (v.drop m++post) (arrOf st) (by rw[<-hr2.length_eq]) (by rw[harr];simp only[y0p];rw[<-y0p (u.take k) (u.drop k),y0T,<-y0p (v.take m) (v.drop m),y0T]) (pre.length+k) (by simp;lia)
  have memr:∀y∈r.toList,y∈u.drop k\/y∈v.take m:=fun y hy=>y0s.mp (hr2.mem_iff.mp hy);rw[show(failedOf (setArr (SortSt.mk' (kindOf (setPending st P)) (arrOf (setPending st P)) (pendingOf (setPending st P)) g (failedOf (setPending st P))) (r.toList.zipIdx.foldl (fun a (q:Keyed × Nat)=>a.setIfInBounds (pre.length+k+q.2) q.1) (arrOf st)))).isNone=true by rw[hfn];rfl];refine h (u.take k++(r.toList++v.drop m)) _ (z97 (hu.sublist (y1K _ _)) (z97 hr1 (hv.sublist (y36 _ _)) fun x hx y hy=>?_) fun x hx y hy=>?_) ?_ hk hfl rfl ?_
  .rcases memr x hx with z|z
   .exact uvd x (y2a z) y hy
   .have hvv:Sl kf lt (v.take m++v.drop m):=by rw[y0T];exact hv
    exact(y0S.mp hvv).2.2 x z y hy
  .rcases y0s.mp hy with z|z
   .rcases memr y z with z|z
    .have huu:Sl kf lt (u.take k++u.drop k):=by rw[y0T];exact hu
     exact(y0S.mp huu).2.2 x hx y z
    .exact utv x hx y (y1i z)
   .exact utv x hx y (y2a z)
  .have e1:(u++v).Perm (u.take k++((u.drop k++v.take m)++v.drop m)):=by
    simp only[y0p];rw[y0T,<-y0p (u.take k) (u.drop k),y0T]
   exact(y1L _ (y2k _ hr2)).trans e1.symm
  .show(r.toList.zipIdx.foldl (fun a (q:Keyed × Nat)=>a.setIfInBounds (pre.length+k+q.2) q.1) (arrOf st)).toList=_;rw[hw];simp
 split
 .exact y0o (z8L T hA hk1 (fun x hx=>hSu x (y2a (by rw[ex]at hx;exact hx))) (fun x hx=>hSv x (y1i (by rw[ey]at hx;exact hx))) (by rw[ex];exact hu.sublist (y36 _ _)) (by rw[ey];exact hv.sublist (y1K _ _)) (by lia) (by lia) hfirst hl fin)
 .exact y0o (z8H T hA hk1 (fun x hx=>hSu x (y2a (by rw[ex]at hx;exact hx))) (fun x hx=>hSv x (y1i (by rw[ey]at hx;exact hx))) (by rw[ex];exact hu.sublist (y36 _ _)) (by rw[ey];exact hv.sublist (y1K _ _)) (by lia) (by lia) hfirst hl fin)
end
def z4v:Nat->List (List Keyed)->List (Nat × Nat)
 |_,[]=>[]
 |off,r::rs=>(off,r.length)::z4v (off+r.length) rs
theorem z3w:∀(R1 R2:List (List Keyed))(off:Nat),z4v off (R1++R2)=z4v off R1++z4v (off+R1.flatten.length) R2
 |[],R2,off=>by simp[z4v]
 |r::R1,R2,off=>by simp only[List.cons_append,z4v,y1x,y0f];rw[z3w R1 R2,y3s]
theorem z2L:∀(R:List (List Keyed))(off:Nat),(z4v off R).length=R.length
 |[],_=>rfl
 |r::R,off=>by simp only[z4v,y0N,z2L R]
theorem zeM{β:Type}:∀(P1 P2:List β)(a a' b:β),((P1++a::b::P2).set P1.length a').eraseIdx (P1.length+1)=P1++a'::P2
 |[],P2,a,a',b=>rfl
 |x::P1,P2,a,a',b=>by show x::((P1++a::b::P2).set P1.length a').eraseIdx (P1.length+1)=x::(P1++a'::P2);rw[zeM P1 P2]
def mk2(t:Nat × Nat × Nat):Nat × Nat:=(t.1,t.2.1)
section
variable{α:Type}{kf:Keyed->α}{lt:α->α->Bool}{kd:SortKind}
structure RI(kf:Keyed->α)(lt:α->α->Bool)(kd:SortKind)(a0:List Keyed)(runs:List (List Keyed))(z1B:List Keyed)(st:SortSt):Prop where
 arr:(arrOf st).toList=runs.flatten++z1B
 perm:(arrOf st).toList.Perm a0
 kind:kindOf st=kd
 failed:failedOf st=none
 pend:(pendingOf st).toList.map mk2=z4v 0 runs
 srt:∀r∈runs,0<r.length/\Sl kf lt r
theorem RI.size{a0:List Keyed}{runs:List (List Keyed)}{z1B:List Keyed}{st:SortSt}(h:RI kf lt kd a0 runs z1B st):(arrOf st).size=a0.length:=by rw[<-y0J];exact h.perm.length_eq
def RI.len{a0:List Keyed}{runs:List (List Keyed)}{z1B:List Keyed}{st:SortSt}(h:RI kf lt kd a0 runs z1B st):runs.flatten.length+z1B.length=a0.length:=by rw[<-h.perm.length_eq,h.arr,y0f]
def RI.psize{a0:List Keyed}{runs:List (List Keyed)}{z1B:List Keyed}{st:SortSt}(h:RI kf lt kd a0 runs z1B st):(pendingOf st).size=runs.length:=by have:=y1G List.length h.pend;rw[y01,z2L,y0J]at this;exact this
theorem z9E:∀(R:List (List Keyed)),(∀r∈R,0<r.length)->R.length<=R.flatten.length
 |[],_=>y0K _
 |r::R,h=>by have h1:=h r y0i;have h2:=z9E R fun q hq=>h q (y0g _ hq);simp only[y0N,y1x,y0f];lia
theorem RI.push{a0:List Keyed}{runs:List (List Keyed)}{z1B r:List Keyed}{st:SortSt}(h:RI kf lt kd a0 runs (r++z1B) st)(hr:0<r.length)(hs:Sl kf lt r){pw:Nat}{lo n:Nat}(hlo:lo=runs.flatten.length)(hn:n=r.length) : RI kf lt kd a0 (runs++[r]) z1B (setPending st ((pendingOf st).push (lo,n,pw))):=by
 subst hlo hn;refine⟨?_,h.perm,h.kind,h.failed,?_,fun q hq=>?_⟩
 .show(arrOf st).toList=_;rw[h.arr];simp
 .show((pendingOf st).push _).toList.map mk2=_;rw[y1k,y0d,h.pend,z3w];simp[z4v,mk2]
 .rcases y0s.mp hq with z|z
  .exact h.srt q z
  .rw[y07]at z;rw[z];exact⟨hr,hs⟩
def RI.power{a0:List Keyed}{runs:List (List Keyed)}{z1B:List Keyed}{st:SortSt}(h:RI kf lt kd a0 runs z1B st)(i pw:Nat) : RI kf lt kd a0 runs z1B (setPending st ((pendingOf st).modify i fun(st,len,_)=>(st,len,pw))):=by
 refine⟨h.arr,h.perm,h.kind,h.failed,?_,h.srt⟩;show((pendingOf st).modify i _).toList.map mk2=_;rw[<-h.pend];apply y1X;intro j;rw[y04,y04,y0w,y0w,Array.getElem?_modify];split
 .cases(pendingOf st)[j]? with
  |none=>rfl
  |some t=>rfl
 .rfl
end
section
variable{prog:Program}{w:World}{A:Around}{E:yyE}{s:Shared}{α:Type}{kf:Keyed->α}{lt:α->α->Bool}{kd:SortKind}{S:List Keyed}
def z5n(T:z66 lt)(hA:zaq prog w A E s kd S kf lt){a0:List Keyed}(hS:∀x∈a0,x∈S){runs:List (List Keyed)}{z1B:List Keyed}{st:SortSt}(h:RI kf lt kd a0 runs z1B st){i:Nat}(hi:i+1<(pendingOf st).size){Q:Bool->SortSt->Prop}(hQ:∀runs' st',RI kf lt kd a0 runs' z1B st'->(pendingOf st').size+1=(pendingOf st).size->Q true st'):wpS (model prog w) A E s (mergeAt' i) Q st:=by
 have hrl:i+1<runs.length:=by rw[<-h.psize];exact hi
 obtain⟨R1,u,v,R2,e,hR1⟩:∃R1 u v R2,runs=R1++u::v::R2/\R1.length=i:=by refine⟨runs.take i,runs[i],runs[i+1],runs.drop (i+2),?_,by rw[y0q];lia⟩;rw[<-y1D hrl,<-y1D (by lia),y0T]
 have hp:=h.pend;rw[e,z3w]at hp;simp only[z4v,y2Y]at hp;obtain⟨P1,P2',ep,e1,e2⟩:=List.map_eq_append_iff.mp hp;obtain⟨a,P3,ep2,e3,e4⟩:=List.map_eq_cons_iff.mp e2;obtain⟨b,P2,ep3,e5,e6⟩:=List.map_eq_cons_iff.mp e4;subst ep3 ep2;obtain⟨a1,a2,pa⟩:=a;obtain⟨b1,b2,pb⟩:=b;simp only[mk2,Prod.mk.injEq]at e3 e5;obtain⟨rfl,rfl⟩:=e3;obtain⟨rfl,rfl⟩:=e5;have hP1:P1.length=i:=by have:=y1G List.length e1;rw[y01,z2L]at this;rw[this,hR1]
 have g1:(pendingOf st)[i]?=some (R1.flatten.length,u.length,pa):=by rw[<-y0w,ep,y0W (by lia),hP1,y3L];rfl
 have g2:(pendingOf st)[i+1]?=some (R1.flatten.length+u.length,v.length,pb):=by rw[<-y0w,ep,y0W (by lia),hP1,y2K];rfl
 have hu:=h.srt u (by rw[e];simp);have hv:=h.srt v (by rw[e];simp);have harr:=h.arr;rw[e]at harr;refine z8K T hA h.kind h.failed (pre:=R1.flatten) (u:=u) (v:=v) (post:=R2.flatten++z1B) (fun x hx=>hS x (h.perm.mem_iff.mp hx)) (by rw[harr];simp) g1 g2 hu.1 hv.1 hu.2 hv.2 fun r st' hr1 hr2 k1 k2 k3 k4=>?_;have hel:(pendingOf st').toList=P1++(R1.flatten.length,u.length+v.length,pa)::P2:=by rw[k3,Array.toList_eraseIdxIfInBounds,Array.toList_setIfInBounds,ep,<-hP1];exact zeM P1 P2 _ _ _
 refine hQ (R1++r::R2) st' ⟨?_,?_,k1,k2,?_,fun q hq=>?_⟩ ?_
 .rw[k4];simp
 .refine y47 ?_ h.perm;rw[k4,harr];simp only[List.flatten_append,y1x,y0p];refine y1L _ ?_;rw[<-y0p u v];exact y2k _ hr2
 .rw[hel,y0d,y0m,e1,e6,z3w];simp only[z4v,mk2,y2Y];rw[hr2.length_eq,y0f,y3s]
 .rcases y0s.mp hq with z|z
  .exact h.srt q (by rw[e];exact y0t _ z)
  .rcases y0j.mp z with z|z
   .rw[z,hr2.length_eq,y0f];exact⟨by lia,hr1⟩
   .exact h.srt q (by rw[e];simp[z])
 .rw[<-y0J,<-y0J,hel,ep];simp only[y0f,y0N];lia
def RI.cut{a0:List Keyed}{runs:List (List Keyed)}{z1B:List Keyed}{st st':SortSt}(h:RI kf lt kd a0 runs z1B st){n:Nat}(hn:n<=z1B.length)(hB:SB kd (pendingOf st) (arrOf st) runs.flatten.length a0.length st')(hs:zcM kf lt (arrOf st') runs.flatten.length n) : ∃r rest',r.length=n/\Sl kf lt r/\r.length+rest'.length=z1B.length/\RI kf lt kd a0 runs (r++rest') st':=by
 have hsz:(arrOf st').size=a0.length:=by rw[hB.size];exact h.size
 have hl:=h.len;have ht:(arrOf st').toList.take runs.flatten.length=runs.flatten:=by
  apply y1X;intro j;rcases y1q j runs.flatten.length with q|q
  .rw[y25 q,y0w,hB.out j (.inl q),<-y0w,h.arr,y0F q]
  .rw[List.getElem?_take_eq_none q,y0I q]
 have hdl:((arrOf st').toList.drop runs.flatten.length).length=z1B.length:=by rw[y3R,y0J,hsz];lia
 refine⟨((arrOf st').toList.drop runs.flatten.length).take n,((arrOf st').toList.drop runs.flatten.length).drop n,by rw[y0q,hdl];lia,?_,by rw[<-y0f,y0T,hdl],?_,?_,hB.kind,hB.failed,by rw[hB.pend];exact h.pend,h.srt⟩
 .refine y12.mpr fun i j hi hj hij=>?_;have hj':j<n:=by rw[y0q]at hj;lia
  have g:∀k (hk:k<(((arrOf st').toList.drop runs.flatten.length).take n).length),KA kf (arrOf st') (runs.flatten.length+k)=kf ((((arrOf st').toList.drop runs.flatten.length).take n)[k]):=fun k hk=>by
   have hk':k<n:=by rw[y0q]at hk;lia
   have hkl:runs.flatten.length+k<(arrOf st').toList.length:=by have:=y0J (xs:=arrOf st');lia
   unfold KA;rw[y1Y,y3G,<-y0w,y00 hkl];rfl
  rw[<-g i hi,<-g j hj];exact hs i j (by lia) hj'
 .rw[y0T];conv=>lhs;rw[<-y0T runs.flatten.length (arrOf st').toList,ht]
 .exact(Array.perm_iff_toList_perm.mp hB.perm).trans h.perm
def z6w(T:z66 lt)(hA:zaq prog w A E s kd S kf lt){st:SortSt}{Q:Unit->SortSt->Prop}(hS:∀x∈(arrOf st).toList,x∈S)(hk:kindOf st=kd)(hf:failedOf st=none)(hp:pendingOf st=#[])(h:∀st',(arrOf st').toList.Perm (arrOf st).toList->failedOf st'=none->Sl kf lt (arrOf st').toList->Q () st'):wpS (model prog w) A E s sortRuns' Q st:=by
 generalize ha0:(arrOf st).toList=a0 at h hS;have hsz0:(arrOf st).size=a0.length:=by rw[<-ha0,y0J]
 have hR:RI kf lt kd a0 [] a0 st:=⟨ha0,by rw[ha0],hk,hf,by rw[hp];rfl,fun r hr=>nomatch hr⟩;rw[sortRuns'_eq];refine y0o (y4b ?_);dsimp only;simp only[hsz0];generalize hmr:minRun' a0.length a0.length 0=mr;refine y0o (y2v (y1r
  (I:=fun x c st'=>∃runs z1B lo,c=(none,lo)/\RI kf lt kd a0 runs z1B st'/\lo=runs.flatten.length/\(x<=lo\/lo=a0.length))
  (Q:=fun c st'=>∃runs lo,c=(none,lo)/\RI kf lt kd a0 runs [] st') ?step ?fin ⟨[],a0,0,rfl,hR,rfl,.inl (y0b _)⟩) ?post)
 case fin =>
  rintro c st' ⟨runs,z1B,lo,rfl,hR,hlo,hx⟩;have:=hR.len;have:z1B=[]:=y1d (by lia);subst this;exact⟨runs,lo,rfl,hR⟩
 case step =>
  rintro x c st' _ hx ⟨runs,z1B,lo,rfl,hR,hlo,hx⟩;have hlen:=hR.len;dsimp only;by_cases hge:lo ≥ a0.length
  .rw[if_pos hge];have:z1B=[]:=y1d (by lia);subst this;exact y0v ⟨runs,lo,rfl,hR⟩
  rw[if_neg hge];subst hlo;have hSx:∀x∈(arrOf st').toList,x∈S:=fun x hx=>hS x (hR.perm.mem_iff.mp hx);have hsz:=hR.size;refine y0o (z6B T hA hSx (lo:=runs.flatten.length) (hi:=a0.length) (p0:=pendingOf st') (a₀:=arrOf st') (by lia) (by lia) (by lia) ⟨.rfl,hR.kind,hR.failed,rfl,fun _ _=>rfl⟩ fun m st2 hB2 hm1 hm2 hs2=>?_);dsimp only;by_cases hlt:m<mr;focus
   rw[if_pos hlt];refine y0o (wpS_lift (y27 ⟨rfl,?_⟩));refine y0o (z4N T hA hSx (by lia) (by lia) (by lia) hB2 hs2 fun st3 hB3 hs3=>?_);simp only[y2I,y0n,y1H];obtain⟨r,rest',r1,r2,r3,hR3⟩:=hR.cut (by lia) hB3 hs3
  rotate_left;focus
   rw[if_neg hlt];obtain⟨st3,rfl⟩:∃s,s=st2:=⟨_,rfl⟩;obtain⟨r,rest',r1,r2,r3,hR3⟩:=hR.cut (by lia) hB2 hs2
  all_goals
   refine y0o (y4b ?_);cases hbk:(pendingOf st3).back? with
   |none =>
    dsimp only;refine y0o (y49 (y0v ⟨runs++[r],rest',_,rfl,hR3.push (by lia) r2 rfl (by lia),by rw[List.flatten_append,y0f];simp only[y1x,List.flatten_nil,y1t];lia,?_⟩));lia
   |some t =>
    obtain⟨s1,n1,p1⟩:=t;dsimp only;generalize power' _ _ _ _=pw;refine y0o (y2v (y1r (I:=fun x c st''=>c=(none,())/\∃runs',RI kf lt kd a0 runs' (r++rest') st'') (Q:=fun c st''=>c=(none,())/\∃runs',RI kf lt kd a0 runs' (r++rest') st'') ?stA (fun _ _ hh=>hh) ⟨rfl,runs,hR3⟩) ?poA);case stA =>
     rintro x c st4 _ hx ⟨rfl,runs',hR4⟩;refine y0o (y4b ?_);by_cases h1:(pendingOf st4).size>1
     .rw[if_pos h1];rw[y0c (by lia)];generalize(pendingOf st4)[(pendingOf st4).size-2]'(by lia)=t;obtain⟨t1,t2,older⟩:=t;dsimp only;by_cases h2:older<=pw
      .rw[if_pos h2];exact y0v ⟨rfl,runs',hR4⟩
      rw[if_neg h2];refine y0o (z5n T hA hS hR4 (by lia) fun runs5 st5 hR5 hsz=>?_);simp only[y2I,y0n,y1H];exact y0v ⟨rfl,runs5,hR5⟩
     .rw[if_neg h1];exact y0v ⟨rfl,runs',hR4⟩
    case poA =>
     rintro c st4 ⟨rfl,runs',hR4⟩;dsimp only;have hl4:=hR4.len;rw[y0f]at hl4;refine y0o (y49 ?_);refine y0o (y49 (y0v ⟨runs'++[r],rest',_,rfl,(hR4.power _ pw).push (by lia) r2 (by lia) (by lia),by rw[List.flatten_append,y0f];simp only[y1x,List.flatten_nil,y1t];lia,?_⟩));lia
 case post =>
  rintro c st' ⟨runs,lo,rfl,hR⟩;dsimp only;refine y0o (y2v (y1r (I:=fun x c st''=>c=(none,())/\(∃runs,RI kf lt kd a0 runs [] st'')/\(pendingOf st'').size<=max 1 (a0.length-x)) (Q:=fun c st''=>c=(none,())/\(∃runs,RI kf lt kd a0 runs [] st'')/\(pendingOf st'').size<=1) ?_ ?_ ⟨rfl,⟨runs,hR⟩,?_⟩) ?_)
  .rintro x c st'' _ hx ⟨rfl,⟨runs,hR⟩,hm⟩;refine y0o (y4b ?_);by_cases h1:(pendingOf st'').size<=1
   .rw[if_pos h1];exact y0v ⟨rfl,⟨runs,hR⟩,h1⟩
   rw[if_neg h1];refine y0o (z5n T hA hS hR (by(repeat' split)<;>lia) fun runs' st3 hR' hsz=>?_);simp only[y2I,y0n,y1H];exact y0v ⟨rfl,⟨runs',hR'⟩,by lia⟩
  .rintro c st'' ⟨rfl,hh,hm⟩;exact⟨rfl,hh,by lia⟩
  .have h1:=z9E runs fun r hr=>(hR.srt r hr).1;have h2:=hR.len;rw[hR.psize];simp only[y2d]at h2;lia
  .rintro c st'' ⟨rfl,⟨runs,hR⟩,hm⟩;dsimp only;refine y0v (h _ hR.perm hR.failed ?_);rw[hR.psize]at hm;rw[hR.arr,y1t];match runs,hm,hR.srt with
   |[],_,_=>exact y35
   |[r],_,hs =>
    rw[show[r].flatten=r by simp];exact(hs r (y07.mpr rfl)).2
end
open PySem.Spec PySem.SeqAt
open PySem.AutoSeq1 (wpAny_loadPart')
def z2p(h:Heap)(a:Addr)(vs:List Value):Heap :=
 ((h.update a (Obj.mapSeq fun _=>#[])).push (seqObj "tuple" vs.toArray 0)).push (seqObj "list" #[] 0)
section
variable{prog:Program}{w:World}{A:Around}{E:yyE}{s:Shared}{α:Type}{kf:Keyed->α}{lt:α->α->Bool}{kd:SortKind}
def z8l{a:Addr}{vs:List Value}{n:Nat}{P:Fin->Shared->Prop}(T:z66 lt)(ho:s.heap.get? a=some (seqObj "list" vs.toArray n))(hz:vs.length<=sizeLine)(hkk:2<=vs.length->wpAny (model prog w) A (keyKind' vs.toArray) (fun k s'=>s'={ s with heap:=z2p s.heap a vs }/\k=kd) E { s with heap:=z2p s.heap a vs })(hA:zaq prog w A E { s with heap:=z2p s.heap a vs } kd (vs.zip vs) kf lt)(h:∀xs:List Keyed,xs.Perm (vs.zip vs)->Sl kf lt xs->P (.done (.ret .none)) { s with heap:=sortedHeap s.heap a vs (xs.map (·.2)).toArray }) : wpAny (model prog w) A (Builtin.«list.sort» ⟨[.ref a],[]⟩) P E s:=by
 rw[list_sort_plain];have ha:a<s.heap.objs.size:=y0k ho;refine y02 (listItems_at ho rfl ?_);refine y02 (listUpdate_at ho rfl ?_ (by simpa using hz) (by simp));obtain⟨e1,ho1⟩:∃e1,(s.heap.update a (Obj.mapSeq fun _=>#[])).get? a=some (seqObj "list" #[] e1):=⟨_,get?_update_seq ho (fun _=>#[])⟩;refine y02 (seqEpoch_at ho1 rfl ?_);refine y02 (wpAny_newTuple ?_ (by simpa using hz));refine y02 (wpAny_newList ?_);refine y20 ?_;have ho6:(z2p s.heap a vs).get? a=some (seqObj "list" #[] e1):=by unfold z2p;rw[Heap.get?_push_ne _ _ _ (by rw[size_push',Heap.size_update];exact y0u (y2y ha)),Heap.get?_push_ne _ _ _ (by rw[Heap.size_update];exact y0u ha)];exact ho1
 show wpAny (model prog w) A _ P E { s with heap:=z2p s.heap a vs };dsimp only;have hsz:vs.toArray.size=vs.length:=by simp
 by_cases h2:vs.toArray.size<2
 .rw[if_pos h2,if_pos h2];refine y02 (y09 ?_);rw[StateT.run_pure];refine y02 (y09 ?_);dsimp only;refine y02 (seqEpoch_at ho6 rfl ?_);refine y02 (listUpdate_at ho6 rfl ?_ (hsz2:=by rw[Array.size_map];show(pairsOf vs).size<=_;rw[pairsOf_size];lia));simp only[bne_self_eq_false,y0n,y1H];have hs:Sl kf lt (vs.zip vs):=by
   refine y12.mpr fun i j hi hj hij=>?_;have:(vs.zip vs).length=vs.length:=by simp
   lia
  have e:(Array.map (·.2) (vs.toArray.zip vs.toArray))=((vs.zip vs).map (·.2)).toArray:=by simp
  have:=h (vs.zip vs) .rfl hs;rw[<-e]at this;exact y09 this
 .rw[if_neg h2,if_neg h2];refine y02 (y1J (hkk (by lia)) ?_ fun _ _ e=>e);rintro k s' ⟨rfl,rfl⟩;refine y02 (y1J (z6w T hA (st:=SortSt.mk' k (vs.toArray.zip vs.toArray) #[] 7 none)
   (Q:=fun _ st'=>(arrOf st').toList.Perm (vs.zip vs)/\failedOf st'=none/\Sl kf lt (arrOf st').toList)
   (fun x hx=>by have:x∈(pairsOf vs).toList:=hx;rw[pairsOf_toList]at this;exact this) rfl rfl rfl fun st' a1 a2 a3=>⟨by have e:(arrOf st').toList.Perm (pairsOf vs).toList:=a1;rw[pairsOf_toList]at e;exact e,a2,a3⟩) ?_ fun _ _ e=>e)
  rintro⟨⟨⟩,st'⟩ s' ⟨rfl,hp,hf,hs⟩;dsimp only;refine y02 (seqEpoch_at ho6 rfl ?_);have hl:(arrOf st').size=vs.length:=by rw[<-y0J,hp.length_eq];simp
  refine y02 (listUpdate_at ho6 rfl ?_ (hsz2:=by rw[Array.size_map];lia));rw[hf];simp only[bne_self_eq_false,y0n,y1H];have e:(Array.map (·.2) (arrOf st'))=(((arrOf st').toList).map (·.2)).toArray:=by rw[<-Array.toList_map]
  have:=h _ hp hs;rw[<-e]at this;exact y09 this
def zgL:z66 (fun a b:Int=>decide (a<b)):=⟨fun a b h=>by simp at *;lia,fun a b c h1 h2=>by simp at *;lia,fun a b h1 h2=>by simp at *;lia⟩
def zdr{S:List Keyed}(hS:∀p∈S,∃n t,p.1=.int n t):zaq prog w A E s oneType' S (fun p=>numOf p.1) (fun a b=>decide (a<b)):=by intro st x y Q hk hx hy h;obtain⟨x1,x2⟩:=x;obtain⟨y1,y2⟩:=y;obtain⟨n,t,rfl⟩:∃n t,x1=.int n t:=hS _ hx;obtain⟨m,u,rfl⟩:∃n t,y1=.int n t:=hS _ hy;rw[lt'_eq];refine y0o (y4b ?_);rw[hk,keyLt'_oneType];refine y0o (wpS_lift (y2G (oneLt_int ⟨rfl,?_⟩)));exact y0v h
def z3f{a:Addr}{vs:List Value}{ns:List Int}{n:Nat}{P:Fin->Shared->Prop}(ho:s.heap.get? a=some (seqObj "list" vs.toArray n))(hI:IntsAre vs ns)(hz:vs.length<=sizeLine)(h:∀(out:Array Value) (ns':List Int),IntsAre out.toList ns'->ns'.Perm ns->ns'.Pairwise (·<=·)->P (.done (.ret .none)) { s with heap:=sortedHeap s.heap a vs out }) : wpAny (model prog w) A (Builtin.«list.sort» ⟨[.ref a],[]⟩) P E s:=by
 refine z8l zgL ho hz (kd:=oneType') (fun h2=>?_) (zdr fun p hp=>hI.all _ (mem_zip_self hp).2) fun xs hp hs=>?_
 .match vs,h2,hI with
  |v₁::v₂::z1B,_,hI =>
   rw[keyKind_ints hI];exact y09 ⟨rfl,rfl⟩
 .have hmem:∀p,p∈xs->p.1=p.2/\p.1∈vs:=fun p hp'=>mem_zip_self (hp.mem_iff.mp hp');refine h _ (xs.map fun p=>numOf p.1) ?_ ?_ ?_
  .have e:((xs.map (·.2)).toArray).toList=xs.map (·.1):=y0L fun p hp'=>(hmem p hp').1.symm;rw[e];have h1:=intsAre_map (xs.map (·.1)) (by
    intro v hv;obtain⟨p,hp',rfl⟩:=y0a.mp hv;exact hI.all _ (hmem p hp').2)
   rwa [y1h]at h1
  .have h1:=hp.map (fun p=>numOf p.1);have e2:(vs.zip vs).map (fun p=>numOf p.1)=ns:=by
    have:(vs.zip vs).map (fun p=>numOf p.1)=((vs.zip vs).map Prod.fst).map numOf:=by rw[y1h];rfl
    rw[this,List.map_fst_zip (y0b _),hI.nums]
   rwa [e2]at h1
  .refine y1W.mpr (hs.imp fun{x y} q=>?_);simpa using q
end
section
variable{X:Cx}(K:yyF)
def zgj(hK:X.K=K):z2s X (.builtin "sorted") (fun xs H Q=>∃(p:Addr) (ns:List Int),xs=[.ref p]/\SqL K H p (ns.map V.int)/\∀ns':List Int,ns'.Perm ns->ns'.Pairwise (·<=·)->∀l,H l=none->Q (.ref l) (upd H l (.lst (ns'.map V.int)))):=by
 subst hK;intro pins s σ H xs us Q I r h;obtain⟨p,ns,rfl,hp,q⟩:=h;obtain⟨u,rfl,ru⟩:=z48 r;cases ru;obtain⟨its,rv,⟨o,n,ho,hc,_,hd⟩,hz⟩:=I.list hp;have hI:=z75 rv;have hlen:its.length=ns.length:=by have:=rv.length;rw[y01]at this;exact this.symm
 have hzi:its.length<=sizeLine:=by rw[<-rv.length];exact hz
 refine y3a kind_sorted plain_sorted entry_sorted (args_sorted1 _) ?_;unfold Builtin.«sorted»;refine y02 (m:=checkCount "sorted" 1 1 _) (y09 ?_);refine y02 (wpAny_collect_seq (T:="list") p (.inl rfl) ho hc hd (fun h1 hk1=>?_) (by simpa using hzi));have e0:its.toArray.toList=its:=by simp
 rw[e0];refine y02 (wpAny_newList ?_ hzi);have I1:Inv X pins σ H { s with heap:=h1 }:=I.kept (t':=s.toks) hk1;have hoL:(h1.push (seqObj "list" its.toArray 0)).get? h1.objs.size=some (seqObj "list" its.toArray 0):=y0e _ rfl;show wpAny _ _ _ _ _ { s with heap:=h1.push (seqObj "list" its.toArray 0) };refine y02 (y20 (y15 slot_list_sort ⟨_,hoL,rfl⟩ entry_list_sort
  (z3f hoL hI hzi fun out ns' a1 a2 a3=>⟨_,rfl,?_⟩) (args_list_sort _)))
 obtain⟨e,he⟩:=sortedHeap_at (out:=out) hoL;refine y09 ⟨_,rfl,.ref h1.objs.size,_,I1.laid (a:=h1.objs.size) (o:=.lst (ns'.map V.int)) (t':=s.toks) (fun b u q=>?_) (y0b _) ⟨?_,out.toList,e,z8U a1,by simpa[seqObj]using he⟩,rfl,q ns' a2 a3 _ I1.fresh⟩
 .have hlt:b<h1.objs.size:=y0k q;rw[sortedHeap_old (y0u hlt) (by rw[y1g];exact y2y hlt)];exact y05 _ q
 .rw[y01,List.Perm.length_eq a2,<-hlen];exact hzi
end
section
variable{X:Cx}{e st:Expr}{te ts:TE}{pos p2:Pos}
end
end L2
namespace Gu
open PySem L2
theorem z5s{n:Nat}(n0:0<n):∀(m:Nat){x:Int},0<=x->x<((n^m:Nat):Int)->z2I n (z4y n m x)=x
 |0,x,h0,h1=>by
  have:x=0:=by simp at h1;lia
  rw[this];rfl
 |m+1,x,h0,h1=>by
  have hn:(0:Int)<(n:Int):=by lia
  show z2I n ((x%(n:Int)::lit n m (x/(n:Int))).reverse)=x;rw[y1w,z2O];have h2:x/(n:Int)<((n^m:Nat):Int):=by refine(y1U hn).mpr ?_;rw[y48,y24]at h1;exact h1
  have:=z5s n0 m (x:=x/(n:Int)) (y30 h0 (by lia)) h2;unfold z4y at this;rw[this,Int.mul_comm];exact y3M x n
def zg6(A B:List Int):List Int:=A.map fun x=>B.getD x.toNat 0
def z4Y{n m:Nat}{M:List Row}(G:z0h n M)(n0:0<n){x:Int}:LW n (z1v M 0 (z4y n m x))/\(z1v M 0 (z4y n m x)).length=m:=by refine⟨z6l G _ 0 (z2C n0 m x) (y1u 0) (by have:=G.some;lia),?_⟩;rw[z3v,z3b]
def zgP{n m:Nat}{M:List Row}(G:z0h n M)(n0:0<n):∀y∈z1d n M m,0<=y/\y<((n^m:Nat):Int):=fun y hy=>by unfold z1d at hy;obtain⟨x,_,rfl⟩:=y0a.mp hy;obtain⟨h1,h2⟩:=z4Y (m:=m) (x:=x) G n0;have:=zbo n0 h1;rw[h2]at this;exact this
def z9P{n m:Nat}{A B:List Row}(GA:z0h n A)(n0:0<n):zg6 (z1d n A m) (z1d n B m)=(z0p (n^m)).map fun x=>z2I n (z1v B 0 (z1v A 0 (z4y n m x))):=by
 unfold zg6;conv=>lhs;rw[show z1d n A m=(z0p (n^m)).map fun x=>z2I n (z1v A 0 (z4y n m x))from rfl]
 rw[y1h];refine y0L fun x hx=>?_;obtain⟨h1,h2⟩:=z4Y (m:=m) (x:=x) GA n0;have hr:=zbo n0 h1;rw[h2]at hr;show(z1d n B m).getD (z2I n (z1v A 0 (z4y n m x))).toNat 0=_;rw[y03,z96 hr.1 hr.2];have:=(z1p n0 h1).1;rw[h2]at this;rw[this];rfl
def z1K{L:Nat}{x:Int}(h:x∈z0p L):0<=x/\x<(L:Int):=by
 unfold z0p at h;obtain⟨k,hk,rfl⟩:=y0a.mp h;have:=y1N.mp hk;constructor
 .exact Int.natCast_nonneg k
 .exact Int.ofNat_lt.mpr this
def zcY{n m:Nat}{A:List Row}(GA:z0h n A)(h8:A.length<=8)(n0:0<n):zg6 (z1d n A m) (z1d n (shr (z2A A)) m)=z0p (n^m):=by
 rw[z9P GA n0];conv=>rhs;rw[<-List.map_id (z0p (n^m))]
 refine y0L fun x hx=>?_;obtain⟨x0,x1⟩:=z1K hx;rw[zdq GA h8 (z2C n0 m x)];exact z5s n0 m x0 x1
def zb7{n m:Nat}{A B:List Row}(GA:z0h n A)(GB:z0h n B)(h4:A.length*B.length<=4000)(n0:0<n):zg6 (z1d n A m) (z1d n B m)=z1d n (shr (z1S A B)) m:=by rw[z9P GA n0];exact y0L fun x hx=>by rw[z99 GA GB h4 (z2C n0 m x)]
theorem z2z{α:Type}[BEq α][LawfulBEq α]:∀(l l':List α),l.Nodup->l'.Nodup->(∀a,a∈l↔a∈l')->l.Perm l'
 |[],l',_,_,h=>by
  cases l' with
  |nil=>exact .nil
  |cons a l'=>exact absurd ((h a).mpr y0i) (by simp)
 |a::l,l',h1,h2,h=>by
  have ha:=(h a).mp y0i;obtain⟨hn,h1'⟩:=y1e.mp h1;refine y47 (List.Perm.cons a (z2z l (l'.erase a) h1' (h2.erase a) fun b=>?_)) (List.perm_cons_erase ha).symm;rw[h2.mem_erase_iff];constructor
  .exact fun hb=>⟨fun e=>hn (e▸hb),(h b).mp (y0g _ hb)⟩
  .rintro⟨n1,n2⟩;rcases y0j.mp ((h b).mpr n2)with z|z
   .exact absurd z n1
   .exact z
def zcT{l:List Int}{L:Nat}(hn:l.Nodup)(hb:∀x∈l,0<=x/\x<(L:Int))(hl:l.length=L):IsP L l:=by
 refine z2z l (z0p L) hn (z1h L) fun a=>⟨fun h=>?_,fun h=>?_⟩
 .obtain⟨h0,h1⟩:=hb a h;exact y0z (z1o h0 h1)
 .refine y0Y fun z=>?_;have:=z24 (n:=L) (y1e.mpr ⟨z,hn⟩) fun x hx=>by
   rcases y0j.mp hx with rfl|hx
   .exact z1K h
   .exact hb x hx
  rw[y0N]at this;lia
def zaZ{K:yyF}{a l:Addr}{ns:List Int}{ix:List (Option Nat)}{g:TG}{te:TE}{σ:St}{H1:Hp}{Qe:Hp->Prop}(f:Int->Int)(hl:H1 l=none)(ha:SqL K H1 a (ns.map V.int))(hz:ns.length<=sizeLine)(hs:∀x∈ns,∀(H:Hp)(Q':V->Hp->Prop),z0c H1 H->Q' (.int (f x)) H->g (.int x) (z1t ix σ) H fun σ2 H2=>te σ2 H2 Q')(hd:∀H,z0c H1 H->H l=some (.lst ((ns.map f).map V.int))->Qe H):z6q ix (Itl K a) g te σ l (upd H1 l (.lst [])) Qe:=by
 refine z1Y (xs:=ns.map V.int) (fun i ys H=>ys=((ns.take i).map f).map V.int/\i<=ns.length/\z0c H1 H) ⟨rfl,y0K _,same_up (z0c.refl H1) hl⟩ (fun i ys H _ h=>h.2.2.seq ha) (by rw[y01];exact hz) (fun i ys H h=>by rw[h.1,y01,y01,y0q];have:=h.2.1;lia) (fun i x ys H ex h hy=>?_) (fun ys H h hy=>?_)
 .obtain⟨rfl,hi,s⟩:=h;rw[y04]at ex;have hi':i<ns.length:=by
   rcases y1q i ns.length with z|z
   .exact z
   .rw[y0I z]at ex;cases ex
  rw[y00 hi']at ex;cases ex;refine hs _ (y0h hi') H _ s ⟨hy,?_,hi',z09 s hl⟩;rw[y0D,y00 hi',y0d,y0d];rfl
 .obtain⟨rfl,_,s⟩:=h;rw[y01,y0O]at hy;exact hd H s hy
end Gu
namespace L2
open PySem PySem.Spec PyProof.Rows PySem.SeqAt
open PySem.AutoSeq1 (wpAny_loadPart')
section
variable{X:Cx}(K:yyF)
def zfG(hK:X.K=K)(hc:X.calm=true):z2s X (.builtin "sorted") (fun xs H Q=>∃(p:Addr) (ks:List Int),xs=[.ref p]/\H p=some (zfi X.prog X.w p ks)/\ks.length<4096 /\ ∀ns':List Int,ns'.Perm ks->ns'.Pairwise (·<=·)->∀l,H l=none->Q (.ref l) (upd H l (.lst (ns'.map V.int)))):=by
 subst hK;intro pins s σ H xs us Q I r h;obtain⟨p,ks,rfl,hp,h64,q⟩:=h;obtain⟨u,rfl,ru⟩:=z48 r;cases ru;have hS:z6u X.prog X.w s.heap p ks:=(I.hok p _ hp).1;refine y3a kind_sorted plain_sorted entry_sorted (args_sorted1 _) ?_;unfold Builtin.«sorted»;refine y02 (m:=checkCount "sorted" 1 1 _) (y09 ?_);refine y02 (z8k (I.ok.hd hc) hS h64 fun h1 d tk vs ns hk hsz hI hp'=>?_);have hln:ns.length<4096:=by rw[hp'.length_eq];exact h64
 have hvl:vs.length=ns.length:=IntsAre.length hI;have hzi:vs.length<=sizeLine:=y0Q (by lia:vs.length<=4096) (by decide);refine y02 (wpAny_newList ?_ hzi);have I1:Inv X pins σ H { s with heap:=h1,drawn:=d,toks:=tk }:=(I.kept (t':=tk) hk).drew d;have hoL:(h1.push (seqObj "list" vs.toArray 0)).get? h1.objs.size=some (seqObj "list" vs.toArray 0):=y0e _ rfl;show wpAny _ _ _ _ _ { s with heap:=h1.push (seqObj "list" vs.toArray 0),drawn:=d,toks:=tk };refine y02 (y20 (y15 slot_list_sort ⟨_,hoL,rfl⟩ entry_list_sort
  (z3f hoL hI hzi fun out ns' a1 a2 a3=>⟨_,rfl,?_⟩) (args_list_sort _)))
 obtain⟨e,he⟩:=sortedHeap_at (out:=out) hoL;refine y09 ⟨_,rfl,.ref h1.objs.size,_,I1.laid (a:=h1.objs.size) (o:=.lst (ns'.map V.int)) (t':=tk) (fun b u q=>?_) (y0b _) ⟨?_,out.toList,e,z8U a1,by simpa[seqObj]using he⟩,rfl,q ns' (a2.trans hp') a3 _ I1.fresh⟩
 .have hlt:b<h1.objs.size:=y0k q;rw[sortedHeap_old (y0u hlt) (by rw[y1g];exact y2y hlt)];exact y05 _ q
 .rw[y01,List.Perm.length_eq a2,<-hvl];exact hzi
end
end L2
namespace Gu
open PySem L2
def z3O{n m:Nat}{A:List Row}(GA:z0h n A)(n0:0<n):IsP (n^m) (z1d n A m):=by refine zcT ?_ (zgP GA n0) (z3a n A m);unfold z1d;rw[y1b,y1W];refine y2A (fun{a b} ha hb hab e=>hab ?_) (y1b.mp (z1h (n^m)));obtain⟨a1,a2⟩:=z4Y (m:=m) (x:=a) GA n0;obtain⟨b1,b2⟩:=z4Y (m:=m) (x:=b) GA n0;have h1:=(z1p n0 a1).1;have h2:=(z1p n0 b1).1;rw[a2]at h1;rw[b2]at h2;have e2:=h1.symm.trans ((y1G (z4y n m) e).trans h2);have e3:=z7e GA _ _ 0 (z2C n0 m a) (z2C n0 m b) (y1u 0) (by have:=GA.some;lia) (by rw[z3b,z3b]) e2;obtain⟨a3,a4⟩:=z1K ha;obtain⟨b3,b4⟩:=z1K hb;rw[<-z5s n0 m a3 a4,<-z5s n0 m b3 b4,e3]
def lbf(g:Int->List Int):Nat->Nat->List Int->List Int
 |0,_,o=>o
 |f+1,i,o=>match o[i]? with
  |none=>o
  |some r=>lbf g f (i+1) (z06 o (g r))
def z6D{g:Int->List Int}{f i:Nat}{o:List Int}{r:Int}(e:o[i]?=some r):lbf g (f+1) i o=lbf g f (i+1) (z06 o (g r)):=by
 show(match o[i]? with|none=>o|some r=>lbf g f (i+1) (z06 o (g r)))=_
 rw[e]
def z6N{g:Int->List Int}{f i:Nat}{o:List Int}(e:o.length<=i):lbf g f i o=o:=by
 cases f with
 |zero=>rfl
 |succ f =>
  show(match o[i]? with|none=>o|some r=>lbf g f (i+1) (z06 o (g r)))=_
  rw[y0I e]
theorem z8O{g:Int->List Int}{P:Int->Prop}(hP:∀c,P c->∀y∈g c,P y):∀(f i:Nat)(o:List Int),(∀c∈o,P c)->∀c∈lbf g f i o,P c
 |0,_,_,h=>h
 |f+1,i,o,h=>by
  cases eo:o[i]? with
  |none=>rw[z6N (by rw[y1E]at eo;exact eo)];exact h
  |some r =>
   rw[z6D eo];refine z8O hP f (i+1) _ fun c hc=>?_;rcases z0k.mp hc with z|z
   .exact h c z
   .exact hP r (h r (y0z eo)) c z
theorem zbg{L:Nat}{g:Int->List Int}(G:∀x,0<=x->x<(L:Int)->∀y∈g x,0<=y/\y<(L:Int)):∀(f i:Nat)(o:List Int),o.Nodup->(∀x∈o,0<=x/\x<(L:Int))->i<=o.length->L+1<=f+i->(∀j r,j<i->o[j]?=some r->∀y∈g r,y∈o) ->
  (lbf g f i o).Nodup/\(∀x∈lbf g f i o,0<=x/\x<(L:Int))/\(∀x∈o,x∈lbf g f i o)/\∀r∈lbf g f i o,∀y∈g r,y∈lbf g f i o
 |0,i,o,nd,rg,hi,hf,hc=>by
  have:=z24 nd rg;lia
 |f+1,i,o,nd,rg,hi,hf,hc=>by
  cases eo:o[i]? with
  |none =>
   have hl:o.length<=i:=by rw[y1E]at eo;exact eo
   rw[z6N hl];refine⟨nd,rg,fun x hx=>hx,fun r hr y hy=>?_⟩;obtain⟨j,hj,e⟩:=y17 hr;exact hc j r (by lia) (by rw[y00 hj,e]) y hy
  |some r =>
   have hr:r∈o:=y0z eo;have hil:i<o.length:=(y06.mp eo).1;rw[z6D eo];obtain⟨m1,em⟩:=z0A (g r) o;obtain⟨a1,a2,a3,a4⟩:=zbg G f (i+1) (z06 o (g r)) (z0O _ _ nd) (fun x hx=>by
    rcases z0k.mp hx with z|z
    .exact rg x z
    .exact G r (rg r hr).1 (rg r hr).2 x z) (by rw[em,y0f];lia) (by lia) (fun j q hj ej y hy=>by
    rcases y1q j i with z|z
    .rw[em,y0F (by lia)]at ej;exact z0k.mpr (.inl (hc j q z ej y hy))
    .have:j=i:=by lia
     subst this;rw[em,y0F hil,eo]at ej;cases ej;exact z0k.mpr (.inr hy))
   exact⟨a1,a2,fun x hx=>a3 x (z0k.mpr (.inl hx)),a4⟩
theorem z7D:∀(l l':List Int),l.Nodup->(∀x∈l,x∈l')->l.length<=l'.length
 |[],_,_,_=>y0K _
 |a::l,l',h,hs=>by obtain⟨hn,h'⟩:=y1e.mp h;have ha:=hs a y0i;have:=z7D l (l'.erase a) h' fun x hx=>(List.mem_erase_of_ne (show x≠a from fun e=>hn (e▸hx))).mpr (hs x (y0g _ hx));rw[List.length_erase_of_mem ha]at this;have:=y1T ha;rw[y0N];lia
def zfm{S:List Int}{f:Int->Int}(nd:S.Nodup)(hf:∀x∈S,f x∈S)(inj:∀x∈S,∀y∈S,f x=f y->x=y):∀z∈S,∃s∈S,f s=z:=fun z hz=>by
 refine y0Y fun no=>?_;have h1:(z::S.map f).Nodup:=y1e.mpr ⟨fun h=>by
  obtain⟨s,hs,e⟩:=y0a.mp h;exact no ⟨s,hs,e⟩,by
  rw[y1b,y1W];exact y2A (fun{a b} ha hb hab e=>hab (inj a ha b hb e)) (y1b.mp nd)⟩
 have:=z7D _ S h1 fun x hx=>by
  rcases y0j.mp hx with rfl|hx
  .exact hz
  .obtain⟨s,hs,rfl⟩:=y0a.mp hx;exact hf s hs
 rw[y0N,y01]at this;lia
def gof(W:List (List Int))(x:Int):List Int:=W.map fun w=>w.getD x.toNat 0
def cmp(L:Nat)(W:List (List Int))(x:Int):List Int:=lbf (gof W) (L+1) 0 [x]
section
variable{L:Nat}{W:List (List Int)}(hW:∀w∈W,IsP L w)
include hW
theorem za0(x:Int)(x0:0<=x)(x1:x<(L:Int)):∀y∈gof W x,0<=y/\y<(L:Int):=fun y hy=>by obtain⟨w,hw,rfl⟩:=y0a.mp hy;exact z4B (hW w hw) (by lia)
theorem z0m{x:Int}(x0:0<=x)(x1:x<(L:Int)):(cmp L W x).Nodup/\(∀y∈cmp L W x,0<=y/\y<(L:Int))/\x∈cmp L W x/\∀r∈cmp L W x,∀y∈gof W r,y∈cmp L W x:=by obtain⟨a1,a2,a3,a4⟩:=zbg (za0 hW) (L+1) 0 [x] (by simp) (fun y hy=>by rw[y07.mp hy];exact⟨x0,x1⟩) (by simp) (by lia) fun j r hj=>absurd hj (y2Z _);exact⟨a1,a2,a3 x (y07.mpr rfl),a4⟩
theorem z5a{x y:Int}(x0:0<=x)(x1:x<(L:Int))(h:y∈cmp L W x):∀z∈cmp L W y,z∈cmp L W x :=
 z8O (fun c hc z hz=>(z0m hW x0 x1).2.2.2 c hc z hz) _ _ _ fun c hc=>by rw[y07.mp hc];exact h
theorem z4b{x:Int}(x0:0<=x)(x1:x<(L:Int)):∀z∈cmp L W x,x∈cmp L W z:=fun z hz=>by
 refine(z8O (g:=gof W) (P:=fun z=>(0<=z/\z<(L:Int))/\x∈cmp L W z) (fun c hc y hy=>?_) (L+1) 0 [x] (fun c hc=>?_) z hz).2
 .obtain⟨⟨c0,c1⟩,hx⟩:=hc;obtain⟨w,hw,rfl⟩:=y0a.mp hy;obtain⟨y0,y1⟩:=z4B (hW w hw) (k:=c.toNat) (by lia);refine⟨⟨y0,y1⟩,?_⟩;obtain⟨nd,rg,self,cl⟩:=z0m hW y0 y1;obtain⟨s,hs,e⟩:=zfm (f:=fun s=>w.getD s.toNat 0) nd (fun s hs=>cl s hs _ (y0a.mpr ⟨w,hw,rfl⟩)) (fun a ha b hb e=>z6X (hW w hw) (rg a ha).1 (rg a ha).2 (rg b hb).1 (rg b hb).2 e) _ self;have:s=c:=z6X (hW w hw) (rg s hs).1 (rg s hs).2 c0 c1 e;subst this;exact z5a hW y0 y1 hs x hx
 .rw[y07.mp hc];exact⟨⟨x0,x1⟩,(z0m hW x0 x1).2.2.1⟩
end
def led(L:Nat)(W:List (List Int))(x:Int):List Int:=(z0p L).filter fun y=>decide (y∈cmp L W x)
def zfg(n:Nat):(z0p n).Pairwise (·<=·):=by unfold z0p;rw[y1W];exact List.Pairwise.imp (fun h=>by lia) y2Q
def z22{L:Nat}{W:List (List Int)}(hW:∀w∈W,IsP L w){x:Int}(x0:0<=x)(x1:x<(L:Int))(y:Int):y∈led L W x↔y∈cmp L W x:=by
 unfold led;rw[y2W];constructor
 .exact fun h=>y0V h.2
 .intro h;obtain⟨h0,h1⟩:=(z0m hW x0 x1).2.1 y h;exact⟨y0z (z1o h0 h1),y11 h⟩
def z5Q{L:Nat}{W:List (List Int)}(hW:∀w∈W,IsP L w){x:Int}(x0:0<=x)(x1:x<(L:Int)){q:List Int}(hp:q.Perm (cmp L W x))(hs:q.Pairwise (·<=·)):q=led L W x:=by have h1:(led L W x).Perm (cmp L W x):=z2z _ _ ((z1h L).sublist y3h) (z0m hW x0 x1).1 fun a=>z22 hW x0 x1 a;exact(hp.trans h1.symm).eq_of_pairwise (fun a b _ _ h1 h2=>Int.le_antisymm h1 h2) hs ((zfg L).sublist y3h)
def z1y(L:Nat)(W:List (List Int))(x:Int):Bool:=(cmp L W x).all fun y=>decide (x<=y)
def z0s(L:Nat)(W:List (List Int))(k:Nat):List (List Int):=((z0p k).filter (z1y L W)).map (led L W)
def zea{L:Nat}{W:List (List Int)}(hW:∀w∈W,IsP L w){x:Int}(x0:0<=x)(x1:x<(L:Int)):(∃z,0<=z/\z<x/\x∈cmp L W z)↔z1y L W x=false:=by
 unfold z1y;rw[List.all_eq_false];constructor
 .rintro⟨z,z0,z1,hz⟩;exact⟨z,z4b hW z0 (by lia) x hz,by simp;lia⟩
 .rintro⟨z,hz,hn⟩;have hzx:z<x:=by simp at hn;lia
  exact⟨z,((z0m hW x0 x1).2.1 z hz).1,hzx,z4b hW x0 x1 z hz⟩
def z6d(k:Nat):z0p (k+1)=z0p k++[(k:Int)]:=by unfold z0p;rw[y45,y0d];rfl
def z3Y{L:Nat}{W:List (List Int)}{k:Nat}(h:z1y L W (k:Int)=true):z0s L W (k+1)=z0s L W k++[led L W (k:Int)]:=by unfold z0s;rw[z6d,List.filter_append,y0d,List.filter_cons_of_pos h];rfl
def z4R{L:Nat}{W:List (List Int)}{k:Nat}(h:z1y L W (k:Int)=false):z0s L W (k+1)=z0s L W k:=by unfold z0s;rw[z6d,List.filter_append,y0d,List.filter_cons_of_neg (by rw[h];decide)];simp
def z9Z(L:Nat)(W:List (List Int))(k:Nat)(o:List Int):Prop:=o.Nodup/\(∀y∈o,0<=y/\y<(L:Int))/\∀y,y∈o↔∃z:Int,0<=z/\z<(k:Int)/\y∈cmp L W z
def z9Z.zero(L:Nat)(W:List (List Int)):z9Z L W 0 []:=⟨y2s,fun y hy=>absurd hy (by simp),fun y=>⟨fun h=>absurd h (by simp),fun⟨z,h0,h1,_⟩=>by lia⟩⟩
def z9Z.head{L:Nat}{W:List (List Int)}(hW:∀w∈W,IsP L w){k:Nat}(hk:k<L){o:List Int}(h:z9Z L W k o):(k:Int)∈o↔z1y L W (k:Int)=false:=by rw[h.2.2,zea hW (by lia) (by lia)]
def z9Z.no{L:Nat}{W:List (List Int)}(hW:∀w∈W,IsP L w){k:Nat}(hk:k<L){o:List Int}(h:z9Z L W k o)(hm:(k:Int)∈o):z9Z L W (k+1) o:=by
 refine⟨h.1,h.2.1,fun y=>⟨fun hy=>?_,fun⟨z,z0,z1,hz⟩=>?_⟩⟩
 .obtain⟨z,z0,z1,hz⟩:=(h.2.2 y).mp hy;exact⟨z,z0,by lia,hz⟩
 .by_cases e:z=(k:Int)
  .subst e;obtain⟨z,z0,z1,hk'⟩:=(h.2.2 _).mp hm;exact(h.2.2 y).mpr ⟨z,z0,z1,z5a hW z0 (by lia) hk' y hz⟩
  .exact(h.2.2 y).mpr ⟨z,z0,by lia,hz⟩
def z9Z.yes{L:Nat}{W:List (List Int)}(hW:∀w∈W,IsP L w){k:Nat}(hk:k<L){o:List Int}(h:z9Z L W k o):z9Z L W (k+1) (z06 o (led L W (k:Int))):=by
 have k0:(0:Int)<=(k:Int):=by lia
 have k1:(k:Int)<(L:Int):=by lia
 refine⟨z0O _ _ h.1,fun y hy=>?_,fun y=>⟨fun hy=>?_,fun⟨z,z0,z1,hz⟩=>?_⟩⟩
 .rcases z0k.mp hy with z|z
  .exact h.2.1 y z
  .exact(z0m hW k0 k1).2.1 y ((z22 hW k0 k1 y).mp z)
 .rcases z0k.mp hy with q|q
  .obtain⟨z,z0,z1,hz⟩:=(h.2.2 y).mp q;exact⟨z,z0,by lia,hz⟩
  .exact⟨(k:Int),k0,by lia,(z22 hW k0 k1 y).mp q⟩
 .by_cases e:z=(k:Int)
  .subst e;exact z0k.mpr (.inr ((z22 hW k0 k1 y).mpr hz))
  .exact z0k.mpr (.inl ((h.2.2 y).mpr ⟨z,z0,by lia,hz⟩))
def zeJ(H:Hp)(a:Addr)(W:List (List Int)):Prop:=∃bs:List Addr,H a=some (.lst (bs.map V.ref))/\bs.length=W.length/\∀(j:Nat)(w:List Int),W[j]?=some w->∃b,bs[j]?=some b/\H b=some (.lst (w.map V.int))
def z8x(K:yyF):Sp:=fun vs H Q _=>∃(a:Addr)(x:Int)(L:Nat)(W:List (List Int)),vs=[.ref a,.int x]/\zeJ H a W/\(∀w∈W,IsP L w)/\L<=1024/\0<=x/\x<(L:Int)/\zir H Q (led L W x)
def zhI(H:Hp)(Q:VK)(xss:List (List Int)):Prop:=∀(r:Addr)(bs:List Addr)(H':Hp),z0c H H'->H r=none->H' r=some (.lst (bs.map V.ref))->bs.length=xss.length->bs.Nodup->(∀b∈bs,H b=none) ->
 (∀(j:Nat)(xs:List Int),xss[j]?=some xs->∃b,bs[j]?=some b/\H' b=some (.lst (xs.map V.int)))->Q (.ref r) H'
end Gu
namespace L2
open PySem PySem.Spec PyProof.Rows PySem.SeqAt
section
variable{prog:Program}{w:World}{A:Around}{E:yyE}{s:Shared}{T:String}{r d:Addr}{n:Nat}{P:Nat->Value->Prop}{OK:Heap->Prop}
end
section
variable{X:Cx}(K:yyF)
end
end L2
namespace Gu
open PySem L2
section
variable{L:Nat}{W:List (List Int)}{p:List Int}(hW:∀w∈W,IsP L w)
include hW
end
section
variable{L:Nat}{W:List (List Int)}{p:List Int}(hW:∀w∈W,IsP L w)
include hW
end
abbrev dLL(xss:List (List Int)):D:=D.lst (xss.map fun xs=>D.lst (xs.map D.int))
theorem zcA{K:yyF}{H:Hp}:∀(xss:List (List Int))(bs:List Addr),bs.length=xss.length->(∀(j:Nat)(xs:List Int),xss[j]?=some xs->∃b,bs[j]?=some b/\H b=some (.lst (xs.map V.int)))->DrL K H (xss.map fun xs=>D.lst (xs.map D.int)) (bs.map V.ref)
 |[],[],_,_=>DrL.nil
 |[],_::_,h,_=>by cases h
 |_::_,[],h,_=>by cases h
 |xs::xss,b::bs,hl,h=>by refine DrL.cons ?_ (zcA xss bs (Nat.succ.inj hl) fun j ys e=>h (j+1) ys e);obtain⟨b',e1,e2⟩:=h 0 xs rfl;cases e1;exact Dr.lst e2 (DrL.ints _)
def zgI{K:yyF}{H:Hp}{xss:List (List Int)}{r:Addr}{bs:List Addr}(e:H r=some (.lst (bs.map V.ref)))(hl:bs.length=xss.length)(h:∀(j:Nat)(xs:List Int),xss[j]?=some xs->∃b,bs[j]?=some b/\H b=some (.lst (xs.map V.int))):Dr K H (dLL xss) (.ref r):=Dr.lst e (zcA xss bs hl h)
theorem zbi:∀xss:List (List Int),D.dep (dLL xss)<=2
 |[]=>by simp[D.dep,D.depL]
 |xs::xss=>by have ih:=zbi xss;simp only[D.dep,y0m,D.depL,D.depL_ints]at ih⊢;lia
end Gu
namespace L2
open PySem PySem.Spec PyProof.Rows PySem.SeqAt
section
variable{X:Cx}(K:yyF)
def ziS(hK:X.K=K)(hc:X.calm=true):z2s X (.builtin "sum") (fun xs H Q=>∃(p:Addr) (ns:List Int),xs=[.ref p]/\SqL K H p (ns.map V.int)/\Q (.int ns.sum) H):=by
 subst hK;intro pins s σ H xs us Q I r h;obtain⟨p,ns,rfl,hp,q⟩:=h;obtain⟨u,rfl,ru⟩:=z48 r;cases ru;obtain⟨its,rv,pl,hz⟩:=I.list hp;obtain⟨ys,rfl,ey⟩:=z5y rv;have e1:(ys.map fun p=>Value.int p.1 p.2).toArray=intItems ys.toArray:=by unfold intItems;simp
 have pl':=pl.isList;rw[e1]at pl';refine sum_intListG (xs:=ys.toArray) (I.ok.hd hc) pl' fun h' tk t' hk=>?_;have e2:preSum (numAt ys.toArray) ys.toArray.size=ns.sum:=by rw[preSum_eq,y0x (by simp)];exact y1G List.sum (by simpa using ey)
 rw[e2];exact⟨.int _,H,I.kept (t':=tk) hk,⟨_,rfl⟩,q⟩
def zfI{A:Around}{pins:yyP}{s:Shared}{σ:St}{H:Hp}(I:Inv X pins σ H s){d:D}{x:V}{v:Value}(hu:A.units+50<cLine)(dx:Dr X.K H d x)(rx:z1i x v) : ∀{ds:List D}{vs:List V}{us:List Value},DrL X.K H ds vs->z0T vs us->(∀e∈ds,D.ok e d/\D.dep e<=50)->∃f:Value->Bool,(∀u∈us,EqAt A s u v (f u))/\((∃e∈ds,D.eq e d=true)->us.any f=true):=by
 intro ds vs us hd hv hok;have one:∀(i:Nat)(u:Value),us[i]?=some u->∃e∈ds,ds[i]?=some e/\EqAt A s u v (D.eq e d):=fun i u hi=>by have hl:=hd.length;have hl2:=hv.length;have hil:i<us.length:=(y06.mp hi).1;have e1:ds[i]?=some (ds[i]'(by lia)):=y00 (by lia);obtain⟨x1,g1,d1⟩:=hd.get e1;obtain⟨u1,k1,z1⟩:=hv.get g1;rw[hi]at k1;cases k1;obtain⟨o,hde⟩:=hok _ (y0h (show i<ds.length by lia));exact⟨_,y0h (show i<ds.length by lia),e1,(zgc I 50 A hde hu d1 dx o z1 rx).1⟩
 refine⟨fun u=>@decide (EqAt A s u v true) (Classical.propDecidable _),fun u hu'=>?_,fun⟨e,he,ee⟩=>?_⟩
 .obtain⟨i,hi,ei⟩:=y17 hu';obtain⟨e,_,_,he⟩:=one i u (by rw[y00 hi,ei]);by_cases c:EqAt A s u v true
  .have z:(@decide (EqAt A s u v true) (Classical.propDecidable _))=true:=@decide_eq_true _ (Classical.propDecidable _) c;show EqAt A s u v (@decide (EqAt A s u v true) (Classical.propDecidable _));rw[z];exact c
  .have z:(@decide (EqAt A s u v true) (Classical.propDecidable _))=false:=@decide_eq_false _ (Classical.propDecidable _) c;show EqAt A s u v (@decide (EqAt A s u v true) (Classical.propDecidable _));rw[z];cases q:D.eq e d with
   |true=>rw[q]at he;exact absurd he c
   |false=>rw[q]at he;exact he
 .obtain⟨i,hi,ei⟩:=y17 he;have hl:=hd.length;have hl2:=hv.length;have hil:i<us.length:=by lia
  obtain⟨e',_,e1,he'⟩:=one i us[i] (y00 hil);rw[y00 hi,ei]at e1;cases e1;rw[ee]at he';exact y2M.mpr ⟨us[i],y0h hil,@decide_eq_true _ (Classical.propDecidable _) he'⟩
def zbl(hK:X.K=K)(hu:X.A.units+64<cLine):OpR X (compareOp .NotIn) (fun x y H Q=>∃(d:D)(ds:List D),Dr K H d x/\Dr K H (.lst ds) y/\(∀e∈ds,D.ok e d/\D.dep e<=50)/\(∃e∈ds,D.eq e d=true)/\Q (.bl false) H):=by
 subst hK;intro pins s σ H x y v u Q I rx ry h;obtain⟨d,ds,hx,hy,hok,hin,q⟩:=h;simp only[Dr]at hy;obtain⟨l,vs,rfl,q1,r⟩:=hy;cases ry;obtain⟨its,rv,pl,_⟩:=I.list q1;have hu2:X.A.in1.units+50<cLine:=by show X.A.units+1+50<cLine;lia
 obtain⟨f,h1,h2⟩:=zfI (A:=X.A.in1) I hu2 hx rx r rv hok;refine SeqAt.notIn_listAt f pl.isList (fun w hw=>h1 w (by simpa using hw)) ⟨.bl false,H,I,?_,q⟩;rw[show its.toArray.any f=its.any f by simp,h2 hin];rfl
end
section
variable{X:Cx}{CX:CXT}{E:XK}{σ0:St}{k:Nat}{f:Addr}{fd:FuncData}{ps:List Str}{sp:Sp}{x:Str}{ds:List Value}{dvs:List V}{e:Expr}{es:List Expr}{t:TA}{p pos:Pos}
def zdf(F:z0u X.prog X.w X.K X.mg X.base CX k f fd ps sp)(hr:z3s k X.A)(hg:Gl X x)(hm:X.mg x=some (.ref f))(hk:PySem.W.keepIn X.K (.ref f)=true)(hb:z0j X.K fd ps ds)(hd:z0T dvs ds)(hx:z7f CX X σ0 E)(ha:PA X (e::es) t)(hdb:(x==("__debug__":Str))=false:=by decide)(he:starEach (e::es) X.env=(false,eval e X.env)::starEach es X.env:=by rfl)(hpl:(backTo pos (starEach es X.env)).any (·.1)=false:=by rfl) : PE X (.Call (.Name x p) (e::es) [] pos) (tAt σ0 (zgD sp dvs E t)):=by rintro pins s σ H Q I ⟨rfl,h⟩;refine y2o (z4i I hg hm ?_ hdb);refine PySem.W.callWith_K (h₀:=X.base) I.ok.mod.kin hk (thn (ha pos pins s σ H _ I h) fun us s1 ⟨vs,H1,I1,r,q⟩=>⟨I1.kIn,?_⟩) he hpl;exact zf3 F hr hb hd hx I1 r q
end
end L2
namespace Gu
open PySem L2
section
variable{L:Nat}{W W':List (List Int)}(hW:∀w∈W,IsP L w)(hW':∀w∈W',IsP L w)
include hW hW'
theorem zca(h:∀c:Int,0<=c->c<(L:Int)->∀y∈gof W c,y∈cmp L W' c){x:Int}(x0:0<=x)(x1:x<(L:Int)):∀y∈cmp L W x,y∈cmp L W' x:=fun y hy=>by obtain⟨_,rg,self,_⟩:=z0m hW' x0 x1;refine z8O (g:=gof W) (P:=fun c=>c∈cmp L W' x) (fun c hc z hz=>?_) (L+1) 0 [x] (fun c hc=>by rw[y07.mp hc];exact self) y hy;obtain⟨c0,c1⟩:=rg c hc;exact z5a hW' x0 x1 hc z (h c c0 c1 z hz)
end
def zat{L:Nat}{W W':List (List Int)}(h:∀x:Int,0<=x->x<(L:Int)->∀y,y∈cmp L W x↔y∈cmp L W' x):z0s L W L=z0s L W' L:=by
 unfold z0s;have e:(z0p L).filter (z1y L W)=(z0p L).filter (z1y L W'):=List.filter_congr fun x hx=>by obtain⟨x0,x1⟩:=z1K hx;unfold z1y;rw[y1P,y2L,y2L];exact⟨fun q y hy=>q y ((h x x0 x1 y).mpr hy),fun q y hy=>q y ((h x x0 x1 y).mp hy)⟩
 rw[e];refine y0L fun x hx=>?_;obtain⟨x0,x1⟩:=z1K (y2W.mp hx).1;unfold led;exact List.filter_congr fun y _=>decide_eq_decide.mpr (h x x0 x1 y)
def z7v{L:Nat}{W W':List (List Int)}(hW:∀w∈W,IsP L w)(hW':∀w∈W',IsP L w)(h1:∀c:Int,0<=c->c<(L:Int)->∀y∈gof W c,y∈cmp L W' c)(h2:∀c:Int,0<=c->c<(L:Int)->∀y∈gof W' c,y∈cmp L W c):z0s L W L=z0s L W' L :=
 zat fun x x0 x1 y=>⟨zca hW hW' h1 x0 x1 y,zca hW' hW h2 x0 x1 y⟩
def z4s{L:Nat}{W:List (List Int)}(hW:∀w∈W,IsP L w){w:List Int}(hw:w∈W){c:Int}(c0:0<=c)(c1:c<(L:Int)):w.getD c.toNat 0∈cmp L W c:=by obtain⟨_,_,self,cl⟩:=z0m hW c0 c1;exact cl c self _ (y0a.mpr ⟨w,hw,rfl⟩)
def zaX{L:Nat}{w:List Int}(hw:IsP L w){c:Int}(c0:0<=c)(c1:c<(L:Int)):∃y:Int,0<=y/\y<(L:Int)/\w.getD y.toNat 0=c:=by have hm:c∈w:=hw.mem_iff.mpr (y0z (z1o c0 c1));obtain⟨i,hi,e⟩:=y17 hm;have hl:=hw.len;refine⟨(i:Int),by lia,by lia,?_⟩;rw[y0l,y03,y00 hi,e];rfl
def z9m{L:Nat}{W:List (List Int)}(hW:∀w∈W,IsP L w){A B:List Int}(hA:A∈W)(hb:∀y:Int,0<=y->y<(L:Int)->B.getD (A.getD y.toNat 0).toNat 0=y){c:Int}(c0:0<=c)(c1:c<(L:Int)):B.getD c.toNat 0∈cmp L W c:=by obtain⟨y,y0,y1,rfl⟩:=zaX (hW A hA) c0 c1;rw[hb y y0 y1];exact z4b hW y0 y1 _ (z4s hW hA y0 y1)
def z9a{L:Nat}{A B:List Int}(hA:A.length=L){y:Int}(y0:0<=y)(y1:y<(L:Int)):(zg6 A B).getD y.toNat 0=B.getD (A.getD y.toNat 0).toNat 0:=by unfold zg6;rw[y03,y04,y03 (l:=A),y00 (by lia)];rfl
theorem z7C:∀(l:List Int),l≠[]->∃h∈l,∀y∈l,h<=y
 |[],h=>absurd rfl h
 |[a],_=>⟨a,y0i,fun y hy=>by rw[y07.mp hy];exact y1u _⟩
 |a::b::l,_=>by
  obtain⟨h,hm,hl⟩:=z7C (b::l) (List.cons_ne_nil _ _);rcases Int.le_total a h with z|z
  .refine⟨a,y0i,fun y hy=>?_⟩;rcases y0j.mp hy with rfl|hy
   .exact y1u _
   .exact Int.le_trans z (hl y hy)
  .refine⟨h,y0g _ hm,fun y hy=>?_⟩;rcases y0j.mp hy with rfl|hy
   .exact z
   .exact hl y hy
section
variable{L:Nat}{W:List (List Int)}(hW:∀w∈W,IsP L w)
include hW
theorem zbw{x y:Int}(x0:0<=x)(x1:x<(L:Int))(h:y∈cmp L W x):∀z,z∈cmp L W y↔z∈cmp L W x:=fun z=>by obtain⟨y0,y1⟩:=(z0m hW x0 x1).2.1 y h;exact⟨z5a hW x0 x1 h z,z5a hW y0 y1 (z4b hW x0 x1 y h) z⟩
theorem z9f{x y:Int}(x0:0<=x)(x1:x<(L:Int))(h:y∈cmp L W x):led L W y=led L W x:=by unfold led;exact List.filter_congr fun z _=>decide_eq_decide.mpr (zbw hW x0 x1 h z)
theorem zgx{x:Int}(x0:0<=x)(x1:x<(L:Int)):led L W x∈z0s L W L:=by obtain⟨_,rg,self,_⟩:=z0m hW x0 x1;obtain⟨h,hm,hl⟩:=z7C (cmp L W x) (List.ne_nil_of_mem self);obtain⟨h0,h1⟩:=rg h hm;rw[<-z9f hW x0 x1 hm];refine y0a.mpr ⟨h,y2W.mpr ⟨y0z (z1o h0 h1),?_⟩,rfl⟩;unfold z1y;rw[y2L];exact fun y hy=>y11 (hl y ((zbw hW x0 x1 hm y).mp hy))
theorem z6T{xs:List Int}(h:xs∈z0s L W L):∃x:Int,0<=x/\x<(L:Int)/\xs=led L W x/\x∈xs:=by obtain⟨x,hx,rfl⟩:=y0a.mp h;obtain⟨x0,x1⟩:=z1K (y2W.mp hx).1;exact⟨x,x0,x1,rfl,(z22 hW x0 x1 x).mpr (z0m hW x0 x1).2.2.1⟩
theorem zfY{x:Int}(x0:0<=x)(x1:x<(L:Int)):(led L W x).length=(cmp L W x).length:=by have h1:(led L W x).Perm (cmp L W x):=z2z _ _ ((z1h L).sublist y3h) (z0m hW x0 x1).1 fun a=>z22 hW x0 x1 a;exact h1.length_eq
theorem z7u:∀(o l:List Int),l.Nodup->(∀y∈l,y∉o)->(z06 o l).length=o.length+l.length:=fun o l=>by
 clear hW;induction l generalizing o with
 |nil=>intro _ _;rfl
 |cons a l ih =>
  intro hn hd;obtain⟨h1,h2⟩:=y1e.mp hn;have ha:a∉o:=hd a y0i;show(z06 (z26 o a) l).length=_;rw[z0r ha,ih (o++[a]) h2 fun y hy z=>by
   rcases y0s.mp z with z|z
   .exact hd y (y0g _ hy) z
   .rw[y07.mp z]at hy;exact h1 hy]
  simp only[y0f,y0N,y2d];lia
theorem z9c:∀k:Nat,k<=L->∃o,z9Z L W k o/\o.length=((z0s L W k).map List.length).sum
 |0,_=>⟨[],z9Z.zero L W,by simp[z0s,z0p]⟩
 |k+1,hk=>by
  obtain⟨o,sn,e⟩:=z9c k (by lia);have k0:(0:Int)<=(k:Int):=by lia
  have k1:(k:Int)<(L:Int):=by lia
  have hh:=sn.head hW (by lia:k<L);by_cases hm:(k:Int)∈o
  .exact⟨o,sn.no hW (by lia) hm,by rw[z4R (hh.mp hm)];exact e⟩
  .have hyes:z1y L W (k:Int)=true:=by
    cases q:z1y L W (k:Int)with
    |true=>rfl
    |false=>exact absurd (hh.mpr q) hm
   refine⟨_,sn.yes hW (by lia),?_⟩;rw[z7u hW o (led L W (k:Int)) ((z1h L).sublist y3h) (fun y hy z=>?_),z3Y hyes,y0d,List.sum_append,e]
   .simp
   .obtain⟨u,u0,u1,hu⟩:=(sn.2.2 y).mp z;have hyk:=(z22 hW k0 k1 y).mp hy;have:=z4b hW k0 k1 y hyk;refine hm ((sn.2.2 _).mpr ⟨u,u0,u1,z5a hW u0 (by lia) hu _ this⟩)
theorem z7t:((z0s L W L).map List.length).sum=L:=by
 obtain⟨o,⟨nd,rg,mm⟩,e⟩:=z9c hW L (y0b _);rw[<-e];have hp:o.Perm (z0p L):=z2z o (z0p L) nd (z1h L) fun a=>⟨fun h=>y0z (z1o (rg a h).1 (rg a h).2),fun h=>by obtain⟨a0,a1⟩:=z1K h;exact(mm a).mpr ⟨a,a0,a1,(z0m hW a0 a1).2.2.1⟩⟩
 rw[hp.length_eq,z0y]
theorem zcf(h:0<L):(z0s L W L).length=1↔(led L W 0).length=L:=by
 have hs:=z7t hW;have h0:z1y L W 0=true:=by unfold z1y;rw[y2L];exact fun y hy=>y11 ((z0m hW (y1u _) (by lia)).2.1 y hy).1
 obtain⟨k,hk⟩:∃k,L=k+1:=⟨L-1,by lia⟩;obtain⟨z1B,er,hr⟩:∃z1B,z0s L W L=led L W 0::z1B/\∀xs∈z1B,xs∈z0s L W L:=by
  have e:z0p L=0::((List.range k).map fun i:Nat=>(1:Int)+(i:Int)):=by rw[hk];exact(zfu k).symm
  have e2:z0s L W L=led L W 0::(((List.range k).map fun i:Nat=>(1:Int)+(i:Int)).filter (z1y L W)).map (led L W):=by
   unfold z0s;conv=>lhs;rw[e,List.filter_cons_of_pos h0]
   rfl
  exact⟨_,e2,fun xs hx=>by rw[e2];exact y0g _ hx⟩
 rw[er]at hs⊢;simp only[y0m,List.sum_cons,y0N]at hs⊢;constructor
 .intro z;have:z1B=[]:=y1d (by lia);rw[this]at hs;simpa using hs
 .intro z;cases z1B with
  |nil=>rfl
  |cons xs z1B =>
   obtain⟨x,x0,x1,_,hx⟩:=z6T hW (hr xs y0i);have:=y1T hx;simp only[y0m,List.sum_cons]at hs;lia
end
theorem z70{L:Nat}{A:List Int}(hA:IsP L A){y:Int}(y0:0<=y)(y1:y<(L:Int)):∀k,itT A k y∈cmp L [A] y
 |0=>(z0m (W:=[A]) (fun w hw=>by rw[y07.mp hw];exact hA) y0 y1).2.2.1
 |k+1=>(z0m (W:=[A]) (fun w hw=>by rw[y07.mp hw];exact hA) y0 y1).2.2.2 _ (z70 hA y0 y1 k) _ (y0a.mpr ⟨A,y0i,rfl⟩)
theorem za3{L:Nat}{A:List Int}(hA:IsP L A){y:Int}(y0:0<=y)(y1:y<(L:Int)):∀(i d:Nat),itT A (i+d) y=itT A i y->itT A d y=y
 |0,d,e=>by rw[y2Y]at e;exact e
 |i+1,d,e=>by
  have hW:∀w∈[A],IsP L w:=fun w hw=>by rw[y07.mp hw];exact hA
  have r1:=(z0m hW y0 y1).2.1 _ (z70 hA y0 y1 (i+d));have r2:=(z0m hW y0 y1).2.1 _ (z70 hA y0 y1 i);rw[Nat.succ_add]at e;exact za3 hA y0 y1 i d (z6X hA r1.1 r1.2 r2.1 r2.2 e)
def z7W{L:Nat}{A:List Int}(hA:IsP L A){y:Int}(y0:0<=y)(y1:y<(L:Int)){r:Nat}(h:zeG A y r):(led L [A] y).length=r:=by
 have hW:∀w∈[A],IsP L w:=fun w hw=>by rw[y07.mp hw];exact hA
 obtain⟨r1,re,rl⟩:=h;have nd:((List.range r).map fun k=>itT A k y).Nodup:=y0Y fun z=>by
  obtain⟨i,j,hij,hj,e⟩:=z8a z;have:j=i+(j-i):=by lia
  rw[this]at e;exact rl (j-i) (by lia) (by lia) (za3 hA y0 y1 i (j-i) e.symm)
 have hp:(cmp L [A] y).Perm ((List.range r).map fun k=>itT A k y):=z2z _ _ (z0m hW y0 y1).1 nd fun c=>⟨fun hc=>?_,fun hc=>?_⟩
 .rw[zfY hW y0 y1,hp.length_eq,y01,y1Z]
 .have:=z8O (g:=gof [A]) (P:=fun c=>∃k,k<r/\itT A k y=c) (fun c ⟨k,hk,e⟩ z hz=>?_) (L+1) 0 [y] (fun c hc=>⟨0,by lia,(y07.mp hc).symm⟩) c hc
  .obtain⟨k,hk,e⟩:=this;exact y0a.mpr ⟨k,y1N.mpr hk,e⟩
  .have ez:z=itT A (k+1) y:=by
    unfold gof at hz;have:=y07.mp hz;rw[this,<-e];rfl
   by_cases c:k+1=r
   .exact⟨0,by lia,by rw[ez,c,re];rfl⟩
   .exact⟨k+1,by lia,ez.symm⟩
 .obtain⟨k,_,rfl⟩:=y0a.mp hc;exact z70 hA y0 y1 k
def zbO{n:Nat}(n0:0<n)(k:Nat)(y:Int):z4y n (k+1) y=z4y n k (y/(n:Int))++[y%(n:Int)]:=by show(y%(n:Int)::lit n k (y/(n:Int))).reverse=_;rw[y1w];rfl
def zc0{n k:Nat}{A:List Row}(GA:z0h n A)(n0:0<n){y:Int}(y0:0<=y)(y1:y<((n^(k+1):Nat):Int)):(z1d n A (k+1)).getD y.toNat 0/(n:Int)=(z1d n A k).getD (y/(n:Int)).toNat 0:=by
 have hn:(0:Int)<(n:Int):=by lia
 have d0:0<=y/(n:Int):=y30 y0 (by lia);have d1:y/(n:Int)<((n^k:Nat):Int):=by refine(y1U hn).mpr ?_;rw[y48,y24]at y1;exact y1
 rw[y03,z96 y0 y1,y03,z96 d0 d1];show z2I n (z1v A 0 (z4y n (k+1) y))/(n:Int)=z2I n (z1v A 0 (z4y n k (y/(n:Int))));have hl:=(z4Y (m:=k+1) (x:=y) GA n0).1;rw[zbO n0,z9q]at hl;rw[zbO n0,z9q,z2O];obtain⟨l0,l1⟩:=hl _ (y0H _ (y07.mpr rfl));exact(dvm (m:=n) l0 l1).1
def zf4{n k:Nat}(n0:0<n){gs:List (List Row)}(hg:∀g∈gs,z0h n g){x:Int}(x0:0<=x)(x1:x<((n^(k+1):Nat):Int)) : ∀z,z∈cmp (n^k) (gs.map fun g=>z1d n g k) (x/(n:Int))↔∃y∈cmp (n^(k+1)) (gs.map fun g=>z1d n g (k+1)) x,y/(n:Int)=z:=fun z=>by
 have hn:(0:Int)<(n:Int):=by lia
 have dr:∀y:Int,0<=y->y<((n^(k+1):Nat):Int)->0<=y/(n:Int)/\y/(n:Int)<((n^k:Nat):Int):=fun y y0 y1=>⟨y30 y0 (by lia),by refine(y1U hn).mpr ?_;rw[y48,y24]at y1;exact y1⟩
 have hW:∀m,∀w∈gs.map (fun g=>z1d n g m),IsP (n^m) w:=fun m w hw=>by obtain⟨g,h,rfl⟩:=y0a.mp hw;exact z3O (hg g h) n0
 obtain⟨d0,d1⟩:=dr x x0 x1;constructor
 .intro hz;refine z8O (g:=gof (gs.map fun g=>z1d n g k)) (P:=fun z=>∃y∈cmp (n^(k+1)) (gs.map fun g=>z1d n g (k+1)) x,y/(n:Int)=z) (fun c ⟨y,hy,ec⟩ z hz=>?_) (n^k+1) 0 [x/(n:Int)] (fun c hc=>⟨x,(z0m (hW _) x0 x1).2.2.1,(y07.mp hc).symm⟩) z hz;obtain⟨w,hw,rfl⟩:=y0a.mp hz;obtain⟨g,h,rfl⟩:=y0a.mp hw;obtain⟨y0,y1⟩:=(z0m (hW _) x0 x1).2.1 y hy;exact⟨_,(z0m (hW _) x0 x1).2.2.2 y hy _ (y0a.mpr ⟨_,y0a.mpr ⟨g,h,rfl⟩,rfl⟩),by rw[zc0 (hg g h) n0 y0 y1,ec]⟩
 .rintro⟨y,hy,rfl⟩;have:=z8O (g:=gof (gs.map fun g=>z1d n g (k+1))) (P:=fun y=>(0<=y/\y<((n^(k+1):Nat):Int))/\y/(n:Int)∈cmp (n^k) (gs.map fun g=>z1d n g k) (x/(n:Int))) (fun c ⟨⟨c0,c1⟩,hc⟩ z hz=>?_) (n^(k+1)+1) 0 [x] (fun c hc=>by
   rw[y07.mp hc];exact⟨⟨x0,x1⟩,(z0m (hW _) d0 d1).2.2.1⟩) y hy
  .exact this.2
  .have hr:=za0 (hW _) c c0 c1 z hz;obtain⟨w,hw,rfl⟩:=y0a.mp hz;obtain⟨g,h,rfl⟩:=y0a.mp hw;refine⟨hr,?_⟩;rw[zc0 (hg g h) n0 c0 c1];exact(z0m (hW _) d0 d1).2.2.2 _ hc _ (y0a.mpr ⟨_,y0a.mpr ⟨g,h,rfl⟩,rfl⟩)
def zb1{n k:Nat}(n0:0<n){gs:List (List Row)}(hg:∀g∈gs,z0h n g){x:Int}(x0:0<=x)(x1:x<((n^(k+1):Nat):Int)){q:List Int}(nd:q.Nodup)(hs:q.Pairwise (·<=·))(hm:∀z,z∈q↔z∈(led (n^(k+1)) (gs.map fun g=>z1d n g (k+1)) x).map fun y=>y/(n:Int)):q∈z0s (n^k) (gs.map fun g=>z1d n g k) (n^k):=by
 have hn:(0:Int)<(n:Int):=by lia
 have hW:∀m,∀w∈gs.map (fun g=>z1d n g m),IsP (n^m) w:=fun m w hw=>by obtain⟨g,h,rfl⟩:=y0a.mp hw;exact z3O (hg g h) n0
 have d0:0<=x/(n:Int):=y30 x0 (by lia);have d1:x/(n:Int)<((n^k:Nat):Int):=by refine(y1U hn).mpr ?_;rw[y48,y24]at x1;exact x1
 have e:q=led (n^k) (gs.map fun g=>z1d n g k) (x/(n:Int)):=by
  refine z5Q (hW _) d0 d1 ?_ hs;refine z2z _ _ nd (z0m (hW _) d0 d1).1 fun z=>?_;rw[hm z,zf4 n0 hg x0 x1 z,y0a];constructor
  .rintro⟨y,hy,rfl⟩;exact⟨y,(z22 (hW _) x0 x1 y).mp hy,rfl⟩
  .rintro⟨y,hy,rfl⟩;exact⟨y,(z22 (hW _) x0 x1 y).mpr hy,rfl⟩
 rw[e];exact zgx (hW _) d0 d1
def z3i(A B:List Row):List Row:=if(shr (z1S A B)).length<=60 then shr (z1S A B)else B
def z8s(Ts:List Tb)(K:yyF):Sp:=fun vs H Q _=>∃(v1 v2:V)(n:Nat)(A B:List Row),vs=[v1,v2]/\z5F Ts H/\Dr K H (D.tup (z0B A)) v1/\Dr K H (D.tup (z0B B)) v2/\z0h n A/\z0h n B/\n<=60/\A.length<=8/\B.length<=8 /\
 ∀(r:Addr)(H':Hp),z0Q Ts H H'->zif K H' r [A,B,shr (z2A A),z3i A B]->Q (.ref r) H'
theorem zco:∀xss:List (List Int),D.okL (xss.map fun xs=>D.lst (xs.map D.int)) (xss.map fun xs=>D.lst (xs.map D.int))
 |[]=>by simp only[y19,D.okL]
 |xs::xss=>by simp only[y0m,D.okL,D.ok];exact⟨z6U xs xs,zco xss⟩
def zbe(xss:List (List Int)):D.depL (xss.map fun xs=>D.lst (xs.map D.int))<=50:=by have:=zbi xss;simp only[D.dep]at this;lia
def zaU(xs:List V)(k:Nat):zek xs none (some (k:Int))=xs.take k:=by
 unfold zek;rw[HT.sIx_none,HT.sIx_nat,List.drop_zero,Nat.sub_zero];rcases Nat.le_total k xs.length with z|z
 .rw[y3u z]
 .rw[Nat.min_eq_right z,y0x (y0b _),y0x z]
section
variable{n:Nat}(n0:0<n){m:Nat}
include n0
theorem z1I{gs:List (List Row)}(hg:∀g∈gs,z0h n g):∀w∈gs.map (fun g=>z1d n g m),IsP (n^m) w:=fun w hw=>by obtain⟨g,h,rfl⟩:=y0a.mp hw;exact z3O (hg g h) n0
theorem z72{A:List Row}(GA:z0h n A)(h8:A.length<=8){y:Int}(y0:0<=y)(y1:y<((n^m:Nat):Int)):(z1d n (shr (z2A A)) m).getD ((z1d n A m).getD y.toNat 0).toNat 0=y:=by have h:=zcY (m:=m) GA h8 n0;have:=z9a (B:=z1d n (shr (z2A A)) m) (z3a n A m) y0 y1;rw[h]at this;rw[<-this,y03,z1o y0 y1];rfl
theorem zaA{A:List Row}(GA:z0h n A)(h8:A.length<=8):z0s (n^m) ([shr (z2A A)].map fun g=>z1d n g m) (n^m)=z0s (n^m) ([A].map fun g=>z1d n g m) (n^m):=by
 have GC:=z2b (z1z GA);have h1:=z1I n0 (m:=m) (gs:=[shr (z2A A)]) fun g hg=>by rw[y07.mp hg];exact GC
 have h2:=z1I n0 (m:=m) (gs:=[A]) fun g hg=>by rw[y07.mp hg];exact GA
 refine z7v h1 h2 (fun c c0 c1 y hy=>?_) (fun c c0 c1 y hy=>?_)
 .rw[y07.mp hy];exact z9m h2 (A:=z1d n A m) y0i (fun y y0 y1=>z72 n0 GA h8 y0 y1) c0 c1
 .rw[y07.mp hy];obtain⟨r0,r1⟩:=z4B (h2 _ y0i) (k:=c.toNat) (by lia);refine z4b h1 r0 r1 _ ?_;have:=z4s h1 (w:=z1d n (shr (z2A A)) m) y0i r0 r1;rw[z72 n0 GA h8 c0 c1]at this;exact this
theorem z58{A B:List Row}(GA:z0h n A)(GB:z0h n B)(a8:A.length<=8)(b8:B.length<=8):z0h n (z3i A B)/\(z3i A B).length<=60:=by
 have h4:A.length*B.length<=4000:=y0Q (Nat.mul_le_mul a8 b8) (by decide);unfold z3i;split
 .rename_i h;exact⟨z2b (z3c GA GB h4),h⟩
 .exact⟨GB,by lia⟩
theorem zbZ{A B:List Row}(GA:z0h n A)(GB:z0h n B)(a8:A.length<=8)(b8:B.length<=8):z0s (n^m) ([A,B,shr (z2A A),z3i A B].map fun g=>z1d n g m) (n^m)=z0s (n^m) ([A,B].map fun g=>z1d n g m) (n^m):=by
 have GC:=z2b (z1z GA);have GJ:=(z58 n0 GA GB a8 b8).1;have h4:A.length*B.length<=4000:=y0Q (Nat.mul_le_mul a8 b8) (by decide);have h1:=z1I n0 (m:=m) (gs:=[A,B,shr (z2A A),z3i A B]) fun g hg=>by
  simp only[y0j,y1o,y3r]at hg;rcases hg with rfl|rfl|rfl|rfl
  .exact GA
  .exact GB
  .exact GC
  .exact GJ
 have h2:=z1I n0 (m:=m) (gs:=[A,B]) fun g hg=>by
  simp only[y0j,y1o,y3r]at hg;rcases hg with rfl|rfl
  .exact GA
  .exact GB
 have mA:z1d n A m∈[A,B].map fun g=>z1d n g m:=y0i;have mB:z1d n B m∈[A,B].map fun g=>z1d n g m:=y0g _ y0i;refine z7v h1 h2 (fun c c0 c1 y hy=>?_) (fun c c0 c1 y hy=>?_)
 .obtain⟨w,hw,rfl⟩:=y0a.mp hy;obtain⟨g,hg,rfl⟩:=y0a.mp hw;simp only[y0j,y1o,y3r]at hg;rcases hg with rfl|rfl|rfl|rfl
  .exact z4s h2 mA c0 c1
  .exact z4s h2 mB c0 c1
  .exact z9m h2 mA (fun y y0 y1=>z72 n0 GA a8 y0 y1) c0 c1
  .unfold z3i;split
   .rw[<-zb7 GA GB h4 n0,z9a (z3a n A m) c0 c1];obtain⟨r0,r1⟩:=z4B (h2 _ mA) (k:=c.toNat) (by lia);exact z5a h2 c0 c1 (z4s h2 mA c0 c1) _ (z4s h2 mB r0 r1)
   .exact z4s h2 mB c0 c1
 .obtain⟨w,hw,rfl⟩:=y0a.mp hy;obtain⟨g,hg,rfl⟩:=y0a.mp hw;refine z4s h1 (y0a.mpr ⟨g,?_,rfl⟩) c0 c1;simp only[y0j,y1o,y3r]at hg⊢;rcases hg with rfl|rfl
  .exact .inl rfl
  .exact .inr (.inl rfl)
theorem z5W{A:List Row}(GA:z0h n A){xs:List Int}(h:xs∈z0s (n^m) ([A].map fun g=>z1d n g m) (n^m)){y:Int}(hy:y∈xs){r:Nat}(hr:z68 A (z4y n m y) r):0<=y/\y<((n^m:Nat):Int)/\xs.length=r:=by
 have h2:=z1I n0 (m:=m) (gs:=[A]) fun g hg=>by rw[y07.mp hg];exact GA
 obtain⟨x,x0,x1,rfl,_⟩:=z6T h2 h;have hm:=(z22 h2 x0 x1 y).mp hy;obtain⟨y0,y1⟩:=(z0m h2 x0 x1).2.1 y hm;refine⟨y0,y1,?_⟩;rw[<-z9f h2 x0 x1 hm];have R:=zcp GA n0 (z2C n0 m y) hr;rw[z3b,z5s n0 m y0 y1]at R;exact z7W (h2 _ y0i) y0 y1 R
theorem zaC{A:List Row}(GA:z0h n A){r:Nat}(hr:z68 A (List.replicate m 0) r):(z0s (n^m) ([A].map fun g=>z1d n g m) (n^m)).length=1↔r=n^m:=by
 have h2:=z1I n0 (m:=m) (gs:=[A]) fun g hg=>by rw[y07.mp hg];exact GA
 have hp:0<n^m:=Nat.pow_pos n0;rw[zcf h2 hp];have R:=zcp GA n0 (z9D n0 m) hr;rw[y23,z7L]at R;have:=z7W (h2 _ y0i) (y1u 0) (by lia) R;rw[show led (n^m) ([A].map fun g=>z1d n g m) 0=led (n^m) [z1d n A m] 0 from rfl,this]
end
def zhM{D:z46}{σ:St}{H:Hp}(h:D.nx σ H):zg8 D σ H:=h
def z7b(K:yyF):Sp:=fun vs H Q E=>∃(a:Addr)(gs:List (List Row))(n:Nat)(many:Int),vs=[.ref a,.int many]/\zif K H a gs/\(∀g∈gs,z0h n g/\g.length<=60)/\1<=gs.length/\gs.length<=10/\2<=n/\n<=5/\many<2^61/\0<=many/\n^many.toNat<=1024 /\
 zhI H Q (z0s (n^many.toNat) (gs.map fun g=>z1d n g many.toNat) (n^many.toNat))
section
variable{P:Program}{w:World}{K:yyF}{mg:yyS}{base:Heap}{f g:Addr}{fd gd:FuncData}{CX:CXT}[NoE CX]
def zda:z0n ["one","other"] ["one","other"] (z04 z5c):={}
def z9C:z1k ["one","other"] (z04 z5c) ["letter","other"] [none,some 1] (csc [(".0",.local),("letter",.local),("other",.free)]):={}
def zb3(F:Fun K "turned" "turned" z5c f fd)(mt:mg "tuple"=none):z0u P w K mg base CX 1 f fd ["one","other"] (z6p K):=by
 refine F.okc zda (fun vs H Q E h=>?_) (fun cdv A outer s H vs Q E hr h=>?_)
 .obtain⟨a,b,p,q,rfl,_⟩:=h;rfl
 obtain⟨a,b,p,q,rfl,ha,hb,hp,hn,k⟩:=h;refine⟨_,z05 (z0x (z0w z0o rfl mt y0E (z00 (z1b rfl z9C (z2r (pv 0)) (fun _ _ _ _ _=>z0a (i:=0) z9C.nd rfl (Or.inl rfl)) (fun _ _ _ _ _=>z0V (ixT K rfl) (pv 1) (pv 0) (fun _ _=>rfl))) z03))),?_⟩;simp only[Dr]at ha hb;obtain⟨a,vs,rfl,sa,da⟩:=ha;obtain⟨b,us,rfl,sb,db⟩:=hb;replace sa:=SqT.of (K:=K) sa;replace sb:=SqT.of (K:=K) sb;have ea:=DrL.ints_inv da;have eb:=DrL.ints_inv db;subst ea eb;refine(exA rfl ⟨a,rfl,⟨_,sa⟩,fun l hl0=>z2a (xs:=p.map V.int) (fun i ys H2=>i<=p.length/\ys=((p.take i).map fun x=>q.getD x.toNat 0).map V.int/\z0c H H2) ⟨y0K _,rfl,same_up (z0c.refl H) hl0⟩ (fun i ys H2 _ h=>h.2.2.tupl sa) (by rw[y01];exact z0U (by lia)) (fun i ys H2 h=>?_) (fun i x ys H2 hx h hy=>?_) (fun ys H2 h hy=>?_)⟩)
 .obtain⟨hi,rfl,_⟩:=h;rw[y01,y01,y0q];lia
 .obtain⟨hi,rfl,s2⟩:=h;have hil:i<p.length:=by have:=(y06.mp hx).1;rwa [y01]at this
  have epx:p[i]?=some p[i]:=y00 hil;obtain⟨h0,h1⟩:=hp _ (y0h hil);generalize p[i]=px at epx h0 h1;have ex:x=V.int px:=by rw[y04,epx]at hx;exact(y08 hx).symm
  subst ex;have eq:q[px.toNat]?=some (q.getD px.toNat 0):=by
   have:px.toNat<q.length:=by lia
   simp[this]
  refine(exA rfl (exA rfl ⟨b,_,px,V.int (q.getD px.toNat 0),rfl,rfl,s2.tupl sb,z29 h0 (by rw[y04,eq];rfl),hy,hil,?_,z09 s2 hl0⟩));rw[z1a _ epx,y0d];rfl
 .obtain⟨_,rfl,s2⟩:=h;refine⟨l,exA rfl (.inl ⟨SqL.of hy,fun t ht=>?_⟩)⟩;rw[y01,y0O];exact k _ _ (same_up s2 ht) (Dr.tup z01 (DrL.ints _))
def z4K:z0n ["one","came_of","letter","becomes"] ["one"] (z04 z6x):={}
def zcO(F:Fun K "undone" "undone" z6x f fd)(mt:mg "tuple"=none)(ml:mg "len"=none)(me:mg "enumerate"=none):z0u P w K mg base CX 1 f fd ["one"] (z6Q K):=by
 refine F.okc z4K (fun vs H Q E h=>?_) (fun cdv A outer s H vs Q E hr h=>?_)
 .obtain⟨a,p,n,rfl,_⟩:=h;rfl
 obtain⟨a,p,n,rfl,ha,hp,hn,k⟩:=h;refine⟨_,z02 (z0b (i:=1) z4K.nd rfl (Or.inl rfl) (z0G zeK (z1m (z00 z08 z03)) (z0i z0d rfl ml y0G (z00 (pv 0) z03))))
  (z02 (z1u y0R rfl (zf5 rfl me (z00 (pv 0) z03)) (z2f rfl (z0l (z0a (i:=2) z4K.nd rfl (Or.inl rfl)) (z0l (z0a (i:=3) z4K.nd rfl (Or.inl rfl)) z1g)))
   (z05 (z2S (pv 2) (zgX (pv 1) (pv 3) ze2))))
  (z05 (z0x (z0w z0o rfl mt y0E (z00 (pv 1) z03))))),?_⟩
 simp only[Dr]at ha;obtain⟨a,vs,rfl,sa,da⟩:=ha;replace sa:=SqT.of (K:=K) sa;have ea:=DrL.ints_inv da;subst ea;have hl:=hp.len;refine⟨by show 1<=sizeLine;decide,fun z hz=>(exA rfl ⟨a,exA rfl ⟨.inr ((same_up (z0c.refl H) hz).tupl sa),z,((p.map V.int).length:Int),exA rfl ⟨rfl,z01,by rw[y01];lia,by rw[y01];lia,?_,fun l hl0=>?_⟩⟩⟩)⟩
 .rw[y01];show 1*((p.length:Int)).toNat<=sizeLine;exact z0U (by lia)
 have s1:z0c H (upd (upd H z (.lst [.int 0])) l (.lst (List.replicate ((p.map V.int).length:Int).toNat [V.int 0]).flatten)):=same_up (same_up (z0c.refl H) hz) hl0;have hz0:H l=none:=(same_up (z0c.refl H) hz:z0c H (upd H z (.lst [.int 0]))).free hl0;have hrep:(List.replicate ((p.map V.int).length:Int).toNat [V.int 0]).flatten=(List.replicate n (0:Int)).map V.int:=by rw[y01,hl];simp
 rw[hrep]at s1⊢;refine⟨_,rfl,a,rfl,⟨_,s1.tupl sa⟩,zhq (xs:=p.map V.int) (fun i σ H2=>∃(u v:Option V)(ys:List Int),σ=[some (.ref a),some (.ref l),u,v]/\z0c H H2/\H2 l=some (.lst (ys.map V.int))/\ys.length=n/\∀(m:Nat)(x:Int),m<i->p[m]?=some x->ys[x.toNat]?=some (m:Int))
  ⟨none,none,_,rfl,s1,z01,y23,fun m x hm _=>absurd hm (y2Z _)⟩ (fun i σ H2 _ h=>by obtain⟨_,_,_,_,s2,_⟩:=h;exact s2.tupl sa) (fun i x b σ H2 hx h hb Ed nx3=>?_) (fun σ H2 h=>?_)⟩
 .obtain⟨u,v,ys,rfl,s2,hy,hyl,hinv⟩:=h;have hil:i<p.length:=by have:=(y06.mp hx).1;rwa [y01]at this
  obtain⟨px,epx,h0,h1⟩:=hp.get (i:=i) (by lia);have ex:x=V.int px:=by rw[y04,epx]at hx;exact(y08 hx).symm
  subst ex;have hlb:l≠b:=z0e hy hb;have hix:ixN (ys.map V.int).length px=some px.toNat:=by unfold ixN;rw[y01,if_pos h0,if_pos (by lia)]
  refine(exF b rfl (SqT.of z01) rfl (exB rfl (exC rfl rfl (exA rfl (exA rfl (exA rfl ⟨l,_,px,px.toNat,rfl,rfl,(by rw[z07 hlb];exact hy),hix,?_⟩))))));refine nx3 _ _ ⟨_,_,ys.set px.toNat i,rfl,z09 (same_up s2 hb) hz0,?_,by rw[List.length_set];exact hyl,fun m x hm e=>?_⟩
  .rw[z01,List.map_set]
  .by_cases hmi:m=i
   .subst hmi;rw[epx]at e;cases e;rw[y3x (by lia)]
   .have hxp:x.toNat≠px.toNat:=fun z=>by
     have hml:m<p.length:=by lia
     have e1:p[m]=x:=by rw[y00 hml]at e;exact y08 e
     have e2:p[i]=px:=by rw[y00 hil]at epx;exact y08 epx
     have hx0:=(hp.mem.mp (e1▸y0h hml)).1;have:p[m]=p[i]:=by rw[e1,e2];lia
     exact hmi ((y3Q hp.nodup).mp this)
    rw[y3X (y1v hxp)];exact hinv m x (by lia) e
 .obtain⟨u,v,ys,rfl,s2,hy,hyl,hinv⟩:=h;refine(exA rfl ⟨l,exA rfl (.inl ⟨SqL.of hy,fun t ht=>?_⟩)⟩);have e:ys=z2G p:=zfd hp hyl fun m x e=>hinv m x (by rw[y01];exact(y06.mp e).1) e;rw[e];exact k _ _ (same_up s2 ht) (Dr.tup z01 (DrL.ints _))
def z5p:z0n ["guise","rearranging","goings"] ["guise"] (z04 z4w):={}
def zaK(F:Fun K "breadth" "breadth" z4w f fd)(ml:mg "len"=none):z0u P w K mg base CX 1 f fd ["guise"] (z2o K):=by
 refine F.okc z5p (fun vs H Q E h=>?_) (fun cdv A outer s H vs Q E hr h=>?_)
 .obtain⟨a,r,z1B,rfl,_⟩:=h;rfl
 obtain⟨a,r,z1B,rfl,ha,hl,q⟩:=h;refine⟨_,z02 (z2S (z0V z27 (pv 0) z08 (fun _ _=>rfl)) (z2f rfl (z0l (z0a (i:=1) z5p.nd rfl (Or.inl rfl)) (z0l (z0a (i:=2) z5p.nd rfl (Or.inl rfl)) z1g))))
  (z05 (z0x (z0i z0d rfl ml y0G (z00 (pv 1) z03)))),?_⟩
 simp only[Dr,DrL]at ha;obtain⟨a,vs,rfl,ea,v,l,rfl,hv,_⟩:=ha;obtain⟨t,b,c,rfl,et,eb,ec⟩:=z1c hv;refine(exA rfl (exD a _ _ (.ref t) rfl rfl (SqT.of ea) (z0z (j:=0) rfl) (exF t rfl (SqT.of et) rfl (exB rfl (exC rfl rfl (exA rfl (exG b rfl (.inr (SqT.of eb)) ?_)))))));rw[y01];exact q _ (z0c.refl H)
abbrev nRB:List Str:=["row","rearranging","goings","came_of"]
def zhb:z0n nRB ["row"] (z04 z3G):={}
def zij:z1k nRB (z04 z3G) ["letter","goings"] [none,some 2] (csc [(".0",.local),("letter",.local),("goings",.free)]):={}
def zav(F:Fun K "row_back" "row_back" z3G f fd)(mt:mg "tuple"=none)(U:z0u P w K mg base CX 1 g gd ["one"] (z6Q K))(bU:z0j K gd ["one"] [])(kU:PySem.W.keepIn K (.ref g)=true)(mU:mg "undone"=some (.ref g)):z0u P w K mg base CX 2 f fd ["row"] (z53 K):=by
 refine F.okc zhb (fun vs H Q E h=>?_) (fun cdv A outer s H vs Q E hr h=>?_)
 .obtain⟨v,r,n,rfl,_⟩:=h;rfl
 obtain⟨v,r,n,rfl,dv,hp,hl,hn,gq⟩:=h;refine⟨_,z02 (z2S (pv 0) (z2f rfl (z0l (z0a (i:=1) zhb.nd rfl (Or.inl rfl)) (z0l (z0a (i:=2) zhb.nd rfl (Or.inr rfl)) z1g))))
  (z02 (z0b (i:=3) zhb.nd rfl (Or.inl rfl) (z0f U hr rfl mU kU bU .nil z0K (z00 (pv 1) z03)))
  (z05 (z0x (z2d (z00 (pv 3) (z00 (z0w z0o rfl mt y0E (z00 (z1b rfl zij (z2r (pv 3)) (fun _ _ _ _ _=>z0a (i:=0) zij.nd rfl (Or.inl rfl)) (fun _ _ _ _ _=>z0V (ixT K rfl) (pv 1) (pv 0) (fun _ _=>rfl))) z03)) z03)))))),?_⟩
 obtain⟨t,b,c,rfl,et,eb,ec⟩:=z1c dv;refine(exA rfl (exF t rfl (SqT.of et) rfl (exB rfl (exC rfl rfl ?_))));refine(exA rfl ⟨.ref b,r.1,n,rfl,Dr.tup eb (DrL.ints _),hp,by lia,fun v H1 s1 d1=>?_⟩);obtain⟨b1,rfl,eb1⟩:=Dr.its_inv d1;have hbl:(z2G r.1).length=n:=by rw[z9j,hp.len]
 refine(exA rfl (exA rfl ⟨b1,rfl,⟨_,SqT.of eb1⟩,fun l4 hl4=>z2a (xs:=(z2G r.1).map V.int) (fun j zs H4=>j<=(z2G r.1).length/\zs=(((z2G r.1).take j).map fun l=>r.2.getD l.toNat 0).map V.int/\z0c H1 H4) ⟨y0K _,rfl,same_up (z0c.refl H1) hl4⟩ (fun j zs H4 _ h=>SqT.of (h.2.2 _ _ eb1)) (by rw[y01];exact z0U (by lia)) (fun j zs H4 h=>?_) (fun j x zs H4 hx h hy4=>?_) (fun zs H4 h hy4=>?_)⟩))
 .obtain⟨hj,rfl,_⟩:=h;rw[y01,y01,y0q];lia
 .obtain⟨hj,rfl,s4⟩:=h;have hjl:j<(z2G r.1).length:=by have:=(y06.mp hx).1;rwa [y01]at this
  obtain⟨i,hi,e1,e2⟩:=zcR hp (show j<n by lia);have ex:x=V.int i:=by rw[y04,e1]at hx;exact(y08 hx).symm
  subst ex;have e3:r.2[i]?=some r.2[i]:=y00 (by lia);refine(exA rfl (exA rfl (exD c _ _ (V.int r.2[i]) rfl rfl (SqT.of ((s1.trans s4) _ _ ec)) (z0z (by rw[y04,e3];rfl)) ⟨hy4,hjl,?_,z09 s4 hl4⟩)));rw[z1a _ e1,y0d];show _=_++[V.int (r.2.getD ((i:Int)).toNat 0)];rw[y0l,y03,e3];rfl
 .obtain⟨_,rfl,s4⟩:=h;rw[y01,y0O]at hy4;refine⟨l4,exA rfl (.inl ⟨SqL.of hy4,fun t4 ht4=>⟨by show 2<=sizeLine;decide,fun t5 ht5=>?_⟩⟩)⟩;have s5:=same_up (o:=HO.tup (((z2G r.1).map fun l=>r.2.getD l.toNat 0).map V.int)) s4 ht4;have e5:upd H4 t4 (HO.tup (((z2G r.1).map fun l=>r.2.getD l.toNat 0).map V.int)) t4=some (.tup ((zb8 r).2.map V.int)):=z01;generalize upd H4 t4 (HO.tup (((z2G r.1).map fun l=>r.2.getD l.toNat 0).map V.int))=H5 at s5 e5 ht5;have s6:=same_up (o:=HO.tup [.ref b1,.ref t4]) (z0c.refl H5) ht5;exact gq _ _ ((s1.trans s5).trans s6) (z4a (r:=zb8 r) (b:=b1) (c:=t4) z01 ((s5.trans s6) _ _ eb1) (s6 _ _ e5))
abbrev nBk:List Str:=["guise"]
def ziy:z0n nBk ["guise"] (z04 z5N):={}
abbrev zic:Scope:=csc [("at",.local),("guise",.free),("row_back",.globalImplicit)]
def ziO:z1k nBk (z04 z5N) ["at","guise"] [none,some 0] zic:={}
def ziC:zh9 ["at","guise"] ["at"] zic:={}
def zdb{k b Ct cc:Addr}{kd bd:FuncData}{Ts:List Tb}{T0:Tb}(F:Fun K "back" "back" z5N f fd)(hcd:fd.code=.ref cc)(hC:PySem.W.CodeHd base cc T0.at_)(hB:z5I base mg)(hT:T0∈Ts)(hTn:∀T'∈Ts,T'.at_=T0.at_->T'=T0)(hTp:T0.pos=z7n (z0Y z5N))(hTq:T0.qual=("back.<locals>."++"<lambda>":Str))(J:z0u P w K mg base (CXx P w) 3 b bd ["row"] (z53 K))(bJ:z0j K bd ["row"] [])(kJ:PySem.W.keepIn K (.ref b)=true)(mJ:mg "row_back"=some (.ref b))(T:z0u P w K mg base (CXx P w) 6 k kd ["first","row_at"] (z74 P w K mg base (CXx P w) 4 Ct))(bT:z0j K kd ["first","row_at"] [])(kT:PySem.W.keepIn K (.ref k)=true)(mT:mg "least_form"=some (.ref k)):z0u P w K mg base (CXx P w) 7 f fd ["guise"] (z9e Ts K Ct):=by
 refine F.okL hcd ziy (fun vs H Q E h=>?_) (fun A outer s H vs Q E hr h=>?_)
 .obtain⟨v,n,one,rfl,_⟩:=h;rfl
 obtain⟨v,n,one,rfl,hTb,dv,G1,hn,gv,gx⟩:=h;refine⟨_,z05 (z0x (z9d (Ts:=Ts) (T:=T0) T hr rfl mT kT bT (z7a fun _ _ _ z=>z) z08 (fun σ H Q Q' h q=>h _ _ q) ziO rfl hC hB (fun _=>rfl) hT hTn hTp hTq)),?_⟩;have GC:=z1z G1;refine⟨hTb,fun fa H2 cs f1 f2 f3 C=>?_⟩;have n1:z0Q [] H H2:=⟨f1,fun _ _ h=>absurd h (by simp)⟩;obtain⟨av,us,rfl,eav,dus⟩:∃(av:Addr)(us:List V),v=.ref av/\H2 av=some (.tup us)/\DrL K H2 (z0B one) us:=by have:=dv.monoL n1;simp only[Dr]at this;exact this
 refine⟨fa,n,z2A one,fun i=>i,rfl,fun _ _ e=>e,?_,GC,hn,fun h6 v H3 s3 d=>gv h6 v _ (f2 _ s3) (d.nfr (NFr.utk f3 s3)),fun h6 e H3 s3=>gx h6 e _ (f2 _ s3)⟩;refine z3A.lam (k:=3) C ziC (fun _ _ _ _ us hl=>by obtain⟨a9,rfl⟩:=zgs hl;rfl) rfl (fun vs H Q h=>?_) (fun H' s' A outer s cd clos cs vs Q hr nf h=>?_)
 .obtain⟨i,rfl,_⟩:=h;rfl
 obtain⟨i,rfl,h0,h1,gq⟩:=h;rw[z1F]at h1;rw[zcb,z4J h0 h1]at gq;have hr':=z0t h0 h1;obtain⟨v,ev,dv'⟩:=z2M dus (z40 h0 h1);refine⟨_,z0f J hr rfl mJ kJ bJ .nil z0K (z00 (z0V z27 (pv 1) (pv 0) (fun _ _=>rfl)) z03),?_⟩;exact(exA rfl (exA rfl (exD av us i v rfl rfl (SqT.of (nf _ _ (fun _ z=>by cases z) (s' _ _ eav))) (z29 h0 ev) ⟨v,row one i,n,rfl,(dv'.mono s').nfr nf,G1.perm _ hr',G1.len _ hr',hn,fun v' H1' s1' d1' hc=>gq v' _ (z0c.rtk s1') (d1'.mono (z0c.rtk' hc))⟩)))
def zgG:z0n ["kinds","goings"] ["kinds","goings"] (z04 zb9):={}
def zeP:z1k ["kinds","goings"] (z04 zb9) ["going","kinds"] [none,some 0] (csc [(".0",.local),("going",.local),("kinds",.free)]):={}
def zfn(F:Fun K "kinds_gone_to" "kinds_gone_to" zb9 f fd)(mt:mg "tuple"=none):z0u P w K mg base CX 1 f fd ["kinds","goings"] (z9h K):=by
 refine F.okc zgG (fun vs H Q E h=>?_) (fun cdv A outer s H vs Q E hr h=>?_)
 .obtain⟨a,b,ks,gs,rfl,_⟩:=h;rfl
 obtain⟨a,b,ks,gs,rfl,ha,hb,hg,hl,q⟩:=h;refine⟨_,z05 (z0x (z0w z0o rfl mt y0E (z00 (z1b rfl zeP (z2r (pv 1)) (fun _ _ _ _ _=>z0a (i:=0) zeP.nd rfl (Or.inl rfl)) (fun _ _ _ _ _=>z0V (ixL K rfl) (pv 1) (pv 0) (fun _ _=>rfl))) z03))),?_⟩;obtain⟨b,rfl,eb⟩:=Dr.its_inv hb;refine(exA rfl ⟨b,rfl,⟨_,SqT.of eb⟩,fun l hl0=>z2a (xs:=gs.map V.int) (fun i ys H2=>i<=gs.length/\ys=((gs.take i).map fun g=>ks.getD g.toNat 0).map V.int/\z0c H H2) ⟨y0K _,rfl,same_up (z0c.refl H) hl0⟩ (fun i ys H2 _ h=>SqT.of (h.2.2 _ _ eb)) (by rw[y01];exact z0U (by lia)) (fun i ys H2 h=>?_) (fun i x ys H2 hx h hy=>?_) (fun ys H2 h hy=>?_)⟩)
 .obtain⟨hi,rfl,_⟩:=h;rw[y01,y01,y0q];lia
 .obtain⟨hi,rfl,s2⟩:=h;have hil:i<gs.length:=by have:=(y06.mp hx).1;rwa [y01]at this
  have eg:gs[i]?=some gs[i]:=y00 hil;obtain⟨h0,h1⟩:=hg _ (y0h hil);generalize gs[i]=gi at eg h0 h1;have ex:x=V.int gi:=by rw[y04,eg]at hx;exact(y08 hx).symm
  subst ex;have hk:gi.toNat<ks.length:=by lia
  refine(exA rfl (exA rfl (exD a _ gi (V.int (ks.getD gi.toNat 0)) rfl rfl (SqL.of (s2 _ _ ha)) (z29 h0 (by simp[hk])) ⟨hy,hil,?_,z09 s2 hl0⟩)));rw[z1a _ eg,y0d];rfl
 .obtain⟨_,rfl,s2⟩:=h;refine⟨l,exA rfl (.inl ⟨SqL.of hy,fun t ht=>?_⟩)⟩;rw[y01,y0O];exact q _ _ (same_up s2 ht) (Dr.tup z01 (DrL.ints _))
abbrev ziN:List Str:=["_law_one","_law_other","_law_told"]
def zgl:z0n ziN ["_law_one","_law_other"] (z04 zdy):={}
def zdL{Ct:Addr}{Ts:List Tb}{bmB:List Value}{newId:String}(mC:mg "TooMany"=some (.ref Ct))(xC:PySem.W.excIn K Ct bmB newId=true)(hB:bmB.contains (.type "BaseException")=true)(F:Fun K "_law_all" "_law_all" zdy f fd){aBk:Addr}{dBk:FuncData}(Bk:z0u P w K mg base (CXx P w) 7 aBk dBk ["guise"] (z9e Ts K Ct))(bBk:z0j K dBk ["guise"] [])(kBk:PySem.W.keepIn K (.ref aBk)=true)(mBk:mg "back"=some (.ref aBk)){aJn:Addr}{dJn:FuncData}(Jn:z0u P w K mg base (CXx P w) 7 aJn dJn ["one","other"] (z77 Ts K Ct))(bJn:z0j K dJn ["one","other"] [])(kJn:PySem.W.keepIn K (.ref aJn)=true)(mJn:mg "joined"=some (.ref aJn)):z0u P w K mg base (CXx P w) 8 f fd ["_law_one","_law_other"] (z8s Ts K):=by
 refine F.okc zgl (fun vs H Q E h=>?_) (fun cdv A' outer s H vs Q E hr h=>?_)
 .obtain⟨v1,v2,n,A,B,rfl,_⟩:=h;rfl
 obtain⟨v1,v2,n,A,B,rfl,tb,d1,d2,GA,GB,n60,a8,b8,q⟩:=h;refine⟨_,z02 (z0b (i:=2) zgl.nd rfl (Or.inl rfl) (z1m (z00 (pv 0) (z00 (pv 1) (z00 (z0f Bk hr rfl mBk kBk bBk .nil z0K (z00 (pv 0) z03)) z03)))))
  (z02 (zfp rfl rfl mC rfl xC hB (fun pn E1 D σ0 pass=>(z05 (z0P (zi5 K rfl y0y y0A y0B z0D (pv 2) (z00 (zdf Jn hr rfl mJn kJn bJn .nil pass (z00 (pv 0) (z00 (pv 1) z03))) z03)))))
   (fun e=>(z05 (z0P (zi5 K rfl y0y y0A y0B z0D (pv 2) (z00 (pv 1) z03))))))
  (z05 (z0x (pv 2)))),?_⟩
 have hC:(shr (z2A A)).length<=8:=by have:=z6b (z1z GA);rw[z1F]at this;lia
 refine(exA rfl (exA rfl (exA rfl ⟨v1,n,A,rfl,tb,d1,GA,n60,fun _ v3 H1 s1 d3=>?_,fun z=>absurd z (by lia)⟩)));refine⟨by show 3<=sizeLine;decide,fun tl htl=>?_⟩;have s2:z0Q Ts H1 (upd H1 tl (.lst [v1,v2,v3])):=z0Q.up (z0Q.refl H1) htl;have e2:upd H1 tl (.lst [v1,v2,v3]) tl=some (.lst [v1,v2,v3]):=z01;have h4:A.length*B.length<=4000:=y0Q (Nat.mul_le_mul a8 b8) (by decide);generalize upd H1 tl (.lst [v1,v2,v3])=H2 at s2 e2⊢;have kg:∀{H':Hp}{X:List Row}{x:V},z0Q Ts H2 H'->Dr K H' (D.tup (z0B X)) x->z3i A B=X->H' tl=some (.lst [v1,v2,v3])->Q (.ref tl) (upd H' tl (.lst ([v1,v2,v3]++[x]))):=fun{H' X x} s dx ex et=>by
  have kk:z0Z H' (upd H' tl (.lst ([v1,v2,v3]++[x]))):=z0Z.up (z0Z.refl _) et (fun _ z=>by cases z);have key:∀g:List Row,D.key (D.tup (z0B g)):=fun g=>by have:=zer [g];simp only[y0m,y19,D.keyL]at this;exact this.1
  refine q tl _ (z0Q.over2 (s1.trans (s2.trans s)) (s1.free2 htl) et) ⟨_,z01,?_⟩;rw[ex];exact DrL.cons ((d1.monoL (s1.trans (s2.trans s))).keyed kk (key _)) (DrL.cons ((d2.monoL (s1.trans (s2.trans s))).keyed kk (key _)) (DrL.cons ((d3.monoL (s2.trans s)).keyed kk (key _)) (DrL.cons (dx.keyed kk (key _)) DrL.nil)))
 refine(exA rfl ⟨.inl ⟨rfl,_,SqL.of e2⟩,rfl,exA rfl (exA rfl ⟨v1,v2,n,A,B,rfl,(s1.trans s2).tabs tb,d1.monoL (s1.trans s2),d2.monoL (s1.trans s2),GA,GB,n60,h4,fun hle x H3 s3 dx=>?_,fun hgt ea H3 s3=>⟨rfl,?_⟩⟩)⟩)
 .exact⟨tl,exC rfl rfl ⟨s3.g e2,by show 3<sizeLine;decide,exA rfl (kg s3 dx (by unfold z3i;rw[if_pos hle]) (s3.g e2))⟩⟩
 .exact(exA rfl ⟨.inl ⟨rfl,_,SqL.of (s3.g e2)⟩,exA rfl ⟨tl,exC rfl rfl ⟨s3.g e2,by show 3<sizeLine;decide,exA rfl (kg s3 (d2.monoL (s1.trans (s2.trans s3))) (by unfold z3i;rw[if_neg (by lia)]) (s3.g e2))⟩⟩⟩)
abbrev zhU:List Str:=["_law_script","_law_letters_here","_law_one","_law_other","_law_many","_law_alone","_law_camp","_law_both","_law_lower","_law_under"]
def z4O:z0n zhU ["_law_script"] (z04 zaS):={}
def zgg:z1k zhU (z04 zaS) ["_law_camp"] [none] (csc [(".0",.local),("_law_camp",.local),("len",.globalImplicit)]):={}
def zew:z1k zhU (z04 zaS) ["_law_number","_law_letters_here"] [none,some 1] (csc [(".0",.local),("_law_number",.local),("_law_letters_here",.free)]):={}
def zh1{Ct Cb Cw:Addr}{Ts:List Tb}(ml:mg "len"=none)(mso:mg "sorted"=none)(mset:mg "set"=none)(mmax:mg "max"=none)(msum:mg "sum"=none)(F:Fun K "law" "law" zaS f fd){aC:Addr}{dC:FuncData}(C:z0u P w K mg base (CXx P w) 9 aC dC ["_law_script","_law_at"] (z9U K))(bC:z0j K dC ["_law_script","_law_at"] [])(kC:PySem.W.keepIn K (.ref aC)=true)(mC:mg "_law_cell"=some (.ref aC)){aL:Addr}{dL:FuncData}(L:z0u P w K mg base (CXx P w) 9 aL dL ["_law_script","_law_at"] (z5z K))(bL:z0j K dL ["_law_script","_law_at"] [])(kL:PySem.W.keepIn K (.ref aL)=true)(mL:mg "_law_letters"=some (.ref aL)){aG:Addr}{dG:FuncData}(G:z0u P w K mg base (CXx P w) 9 aG dG ["_law_letters_here","_law_cell_here"] (z8F K))(bG:z0j K dG ["_law_letters_here","_law_cell_here"] [])(kG:PySem.W.keepIn K (.ref aG)=true)(mG:mg "_law_guise"=some (.ref aG)){aS:Addr}{dS:FuncData}(S:z0u P w K mg base (CXx P w) 9 aS dS ["_law_letters_here"] (z4Q K))(bS:z0j K dS ["_law_letters_here"] [])(kS:PySem.W.keepIn K (.ref aS)=true)(mS:mg "_law_stories"=some (.ref aS)){aCp:Addr}{dCp:FuncData}(Cp:z0u P w K mg base (CXx P w) 9 aCp dCp ["guises","many"] (z7b K))(bCp:z0j K dCp ["guises","many"] [])(kCp:PySem.W.keepIn K (.ref aCp)=true)(mCp:mg "camps"=some (.ref aCp)){aBk:Addr}{dBk:FuncData}(Bk:z0u P w K mg base (CXx P w) 9 aBk dBk ["guise"] (z9e Ts K Ct))(bBk:z0j K dBk ["guise"] [])(kBk:PySem.W.keepIn K (.ref aBk)=true)(mBk:mg "back"=some (.ref aBk)){aWh:Addr}{dWh:FuncData}(Wh:z0u P w K mg base (CXx P w) 9 aWh dWh ["guise","many"] (z6k K Ct Cb))(bWh:z0j K dWh ["guise","many"] [])(kWh:PySem.W.keepIn K (.ref aWh)=true)(mWh:mg "whirls"=some (.ref aWh)){aRd:Addr}{dRd:FuncData}(Rd:z0u P w K mg base (CXx P w) 9 aRd dRd ["guise","word"] (z4D K Cw Ct))(bRd:z0j K dRd ["guise","word"] [])(kRd:PySem.W.keepIn K (.ref aRd)=true)(mRd:mg "rounds"=some (.ref aRd)){aWo:Addr}{dWo:FuncData}(Wo:z0u P w K mg base (CXx P w) 9 aWo dWo ["letters","many","number"] (z4I K Cb))(bWo:z0j K dWo ["letters","many","number"] [])(kWo:PySem.W.keepIn K (.ref aWo)=true)(mWo:mg "word_of"=some (.ref aWo)){aAl:Addr}{dAl:FuncData}(Al:z0u P w K mg base (CXx P w) 9 aAl dAl ["_law_one","_law_other"] (z8s Ts K))(bAl:z0j K dAl ["_law_one","_law_other"] [])(kAl:PySem.W.keepIn K (.ref aAl)=true)(mAl:mg "_law_all"=some (.ref aAl)){aFs:Addr}{dFs:FuncData}(Fs:z0u P w K mg base (CXx P w) 9 aFs dFs ["_law_letters_here","_law_many"] (z8g K))(bFs:z0j K dFs ["_law_letters_here","_law_many"] [])(kFs:PySem.W.keepIn K (.ref aFs)=true)(mFs:mg "_law_floor_size"=some (.ref aFs)):z0u P w K mg base (CXx P w) 10 f fd ["_law_script"] (z9v Ts K):=by
 refine F.okc z4O (fun vs H Q E h=>?_) (fun cdv A' outer s H vs Q E' hr h=>?_)
 .obtain⟨a,ns,rfl,_⟩:=h;rfl
 obtain⟨a,ns,rfl,hS,h63,hTb,q⟩:=h;have hu:=hr.units;refine⟨_,z02 (z0b (i:=1) z4O.nd rfl (Or.inr rfl) (z0f L hr rfl mL kL bL .nil z0K (z00 (pv 0) (z00 z08 z03))))
  (z02 (z0b (i:=2) z4O.nd rfl (Or.inl rfl) (z0f G hr rfl mG kG bG .nil z0K (z00 (pv 1) (z00 (z0f C hr rfl mC kC bC .nil z0K (z00 (pv 0) (z00 z08 z03))) z03))))
  (z02 (z0b (i:=3) z4O.nd rfl (Or.inl rfl) (z0f G hr rfl mG kG bG .nil z0K (z00 (pv 1) (z00 (z0f C hr rfl mC kC bC .nil z0K (z00 (pv 0) (z00 z08 z03))) z03))))
  (z02 (z0b (i:=4) z4O.nd rfl (Or.inl rfl) (z0G z1Z (z0f C hr rfl mC kC bC .nil z0K (z00 (pv 0) (z00 z08 z03))) (z0G z21 (z0f S hr rfl mS kS bS .nil z0K (z00 (pv 1) z03)) z08)))
  (z02 (z0b (i:=5) z4O.nd rfl (Or.inl rfl) (z0f Cp hr rfl mCp kCp bCp .nil z0K (z00 (z1m (z00 (pv 2) z03)) (z00 (pv 4) z03))))
  (z02 (z1M (PW.pt (zgN (z0W (zcx K rfl hu) (z0f Cp hr rfl mCp kCp bCp .nil z0K (z00 (z1m (z00 (z0f Bk hr rfl mBk kBk bBk .nil z0K (z00 (pv 2) z03)) z03)) (z00 (pv 4) z03))) (pv 5) (z1j _)) (zeQ (z0W zhz (z6M zdh (z0i z0d rfl ml y0G (z00 (pv 5) z03)) z08 (z1j _)) (z0f Wh hr rfl mWh kWh bWh .nil z0K (z00 (pv 2) (z00 (pv 4) z03))) (z1j _))))) (z05 (z0x z7i)) z0I)
  (z02 (z1u y0R rfl (z1x (z9G zbJ (pv 5) zfO (z8t z08))) (z0a (i:=6) z4O.nd rfl (Or.inl rfl))
   (z05 (z1M (z1J (zeB (z0f Rd hr rfl mRd kRd bRd .nil z0K (z00 (pv 2) (z00 (z0f Wo hr rfl mWo kWo bWo .nil z0K (z00 (pv 1) (z00 (pv 4) (z00 (z0V z1s (pv 6) (zgB zeA z08) (fun _ _=>rfl)) z03)))) z03))) (z0i z0d rfl ml y0G (z00 (pv 6) z03)))) (z05 (z0x z7i)) z0I)))
  (z02 (z0b (i:=7) z4O.nd rfl (Or.inl rfl) (z0f Cp hr rfl mCp kCp bCp .nil z0K (z00 (z1m (z00 (pv 2) (z00 (pv 3) z03))) (z00 (pv 4) z03))))
  (z02 (z1M (z0W (zcx K rfl hu) (z0f Cp hr rfl mCp kCp bCp .nil z0K (z00 (z0f Al hr rfl mAl kAl bAl .nil z0K (z00 (pv 2) (z00 (pv 3) z03))) (z00 (pv 4) z03))) (pv 7) (z1j _)) (z05 (z0x z7i)) z0I)
  (z02 (z0b (i:=8) z4O.nd rfl (Or.inl rfl) (z0f Cp hr rfl mCp kCp bCp .nil z0K (z00 (z1m (z00 (pv 2) (z00 (pv 3) z03))) (z00 (z0i (zb2 rfl) rfl mmax y3O (z00 z08 (z00 (z0G z5t (pv 4) z08) z03))) z03))))
  (z02 (z1M (z0W zbc (pv 4) z08 (z1j _)) (z05 (z1u y0R rfl (z1x (pv 7)) (z0a (i:=6) z4O.nd rfl (Or.inl rfl))
    (z02 (z0b (i:=9) z4O.nd rfl (Or.inl rfl) (z0i (zfG K rfl rfl) rfl mso PyProof.Rows.boot_sorted (z00 (z0w (ziA K rfl rfl) rfl mset PyProof.Rows.boot_set (z00 (z1b rfl zew (z1x (pv 6)) (fun _ _ _ _ _=>z0a (i:=0) zew.nd rfl (Or.inl rfl)) (fun _ _ _ _ _=>z0G z50 (pv 0) (pv 1))) z03)) z03)))
    (z05 (z1M (z0W (zbl K rfl hu) (pv 9) (pv 8) rfl) (z05 (z0x z7i)) z0I))))) z0I)
  (z05 (z0x (z6M zdh (z0i (ziS K rfl rfl) rfl msum PyProof.Rows.boot_sum (z00 (z1b rfl zgg (z1x (pv 7)) (fun _ _ _ _ _=>z0a (i:=0) zgg.nd rfl (Or.inl rfl)) (fun _ _ _ _ _=>z0i (ziv K rfl) rfl ml y0G (z00 (pv 0) z03))) z03)) (z0f Fs hr rfl mFs kFs bFs .nil z0K (z00 (pv 1) (z00 (pv 4) z03))) (z1j _)))))))))))))),?_⟩
 have n2:=zfS ns 0;have n5:=zeX ns 0;generalize hn:zeH ns 0=n at *;refine(exA rfl ⟨a,ns,0,rfl,hS,h63,by lia,?_⟩);rw[hn];refine(exA rfl (exA rfl ⟨a,ns,1,rfl,hS,h63,by lia,n,exA rfl ⟨n2,n5,fun v1 H1 r1 s1 G1 l1 d1=>?_⟩⟩));refine(exA rfl (exA rfl ⟨a,ns,2,rfl,s1.seq hS,h63,by lia,n,exA rfl ⟨n2,n5,fun v2 H2 r2 s2 G2 l2 d2=>?_⟩⟩));have GA:=z2b G1;have GB:=z2b G2;have hA:(shr r1).length<=8:=by have:=z6b G1;lia
 have hB:(shr r2).length<=8:=by have:=z6b G2;lia
 generalize shr r1=RA at *;generalize shr r2=RB at *;have hs:0<z5T n+1/\z5T n<=10:=by
  unfold z5T;split
  .lia
  .split
   .lia
   .split<;>lia
 replace d1:=d1.mono s2;refine(exA rfl ⟨a,ns,3,rfl,(s1.trans s2).seq hS,h63,by lia,exA rfl ⟨n,rfl,n2,n5,fun H3 s3=>(exC rfl rfl (exC rfl rfl ⟨hs.1,?_⟩))⟩⟩);have m0:=y2z (cell ns 3) (show z5T n+1≠0 by lia);have m1:=y28 (cell ns 3) hs.1;obtain⟨m,hm⟩:=z3I m0;have hmt:(cell ns 3%(z5T n+1)).toNat=m:=by rw[hm];exact y0l m
 have hmp:n^m<=1024:=Nat.le_of_not_lt fun z=>absurd ((zdS n2 n5 m).mpr z) (by lia);have n0:0<n:=by lia
 have s03:=s1.trans (s2.trans s3);replace d1:=d1.mono s3;replace d2:=d2.mono s3;have tb3:=(z0c.l s03 (Ts:=Ts)).tabs hTb;have one1:∀g∈[RA],z0h n g/\g.length<=60:=fun g hg=>by rw[y07.mp hg];exact⟨GA,by lia⟩
 have two2:∀g∈[RA,RB],z0h n g/\g.length<=60:=fun g hg=>by
  simp only[y0j,y1o,y3r]at hg;rcases hg with rfl|rfl
  .exact⟨GA,by lia⟩
  .exact⟨GB,by lia⟩
 refine(exA rfl ⟨by show 1<=sizeLine;decide,fun lg hlg=>?_⟩);have s4:z0c H3 (upd H3 lg (.lst [v1])):=same_up (z0c.refl H3) hlg;have e4:upd H3 lg (.lst [v1]) lg=some (.lst [v1]):=z01;generalize upd H3 lg (.lst [v1])=H4 at s4 e4⊢;refine(exA rfl ⟨lg,[RA],n,exA rfl ⟨⟨_,e4,DrL.one (d1.mono s4)⟩,one1,by show 1<=1;decide,by show 1<=10;decide,n2,n5,by lia,by lia,by rw[hmt];exact hmp,fun la ba H5 s5 f5 e5 l5 nd5 fb5 x5=>?_⟩⟩);rw[hmt]at l5 x5;have s35:=s4.trans s5;have tb5:=(z0c.l s35 (Ts:=Ts)).tabs tb3;replace d1:=d1.mono s35;replace d2:=d2.mono s35;clear e4 s4 hlg;have GC:=z2b (z1z GA);have hC:(shr (z2A RA)).length<=8:=by have:=z6b (z1z GA);rw[z1F]at this;lia
 refine(exA rfl ⟨v1,n,RA,rfl,tb5,d1,GA,by lia,fun _ v3 H6 s6 d3=>?_,fun z=>absurd z (by lia)⟩);refine⟨by show 1<=sizeLine;decide,fun lb hlb=>?_⟩;have s7:z0c H6 (upd H6 lb (.lst [v3])):=same_up (z0c.refl H6) hlb;have e7:upd H6 lb (.lst [v3]) lb=some (.lst [v3]):=z01;generalize upd H6 lb (.lst [v3])=H7 at s7 e7⊢;refine(exA rfl ⟨lb,[shr (z2A RA)],n,exA rfl ⟨⟨_,e7,DrL.one (d3.mono s7)⟩,fun g hg=>by rw[y07.mp hg];exact⟨GC,by lia⟩,by show 1<=1;decide,by show 1<=10;decide,n2,n5,by lia,by lia,by rw[hmt];exact hmp,fun lc bc H8 s8 f8 e8 l8 nd8 fb8 x8=>?_⟩⟩);rw[hmt,zaA n0 GA hA]at l8 x8;have s58:z0Q Ts H5 H8:=s6.trans (z0c.l (s7.trans s8));have keepA:∀{H':Hp},z0Q Ts H5 H'->(H' la=some (.lst (ba.map V.ref)))/\∀(j:Nat)(xs:List Int),(z0s (n^m) ([RA].map fun g=>z1d n g m) (n^m))[j]?=some xs->∃b,ba[j]?=some b/\H' b=some (.lst (xs.map V.int)):=fun s=>⟨s.g e5,fun j xs e=>by obtain⟨b,h1,h2⟩:=x5 j xs e;exact⟨b,h1,s.g h2⟩⟩
 refine(exA rfl ⟨_,_,zgI e8 l8 x8,zgI (keepA s58).1 l5 (keepA s58).2,rfl,zco _,zbe _,?_⟩);rw[D.eq_refl];refine(exA rfl (z8e ?_));replace d1:=d1.monoL s58;replace d2:=d2.monoL s58;have tb8:=s58.tabs tb5;clear x8 e8 l8 e7 s7 hlb d3;refine(exA rfl (exG la rfl (.inl (SqL.of (keepA s58).1)) ⟨rfl,exA rfl (exA rfl ⟨v1,RA,n,exA rfl ⟨d1,GA,n2,n5,by lia,fun z=>absurd z (by lia),fun _ z=>absurd z (by rw[hmt];lia),fun _ _ r hr9 H9 s9=>⟨rfl,?_⟩⟩⟩)⟩));rw[hmt]at hr9⊢;have hwh:decide (V.int ((ba.map V.ref).length:Int)=V.int 1)=decide (r=n^m):=by
  rw[decide_eq_decide,y01,l5,<-zaC n0 GA hr9];constructor
  .intro z;cases z':(z0s (n^m) ([RA].map fun g=>z1d n g m) (n^m)).length with
   |zero=>rw[z']at z;cases z
   |succ k=>rw[z']at z;injection z with z;lia
  .intro z;rw[z];rfl
 rw[hwh,y11 rfl];refine(exA rfl (z8e ?_));have s59:z0Q Ts H5 H9:=s58.trans (z0c.l s9);replace d1:=d1.mono s9;replace d2:=d2.mono s9;have tb9:=s59.tabs tb5;refine zhM ?_;dsimp only;refine zhF (fun σ H'=>∃u6:Option V,σ=[some (.ref a),some (.int n),some v1,some v2,some (.int (cell ns 3%(z5T n+1))),some (.ref la),u6,none,none,none]/\z0c H9 H') (fun Ed nxE=>?_) (fun σ H10 h=>?_)
 .refine(exA rfl ⟨12,rfl,la,exA rfl ⟨SqL.of (keepA s59).1,fun lp hlp=>?_⟩⟩);have ecut:zek (ba.map V.ref) none (some 12)=(ba.map V.ref).take 12:=zaU _ 12;rw[ecut];have s10:z0c H9 (upd H9 lp (.lst ((ba.map V.ref).take 12))):=same_up (z0c.refl H9) hlp;have e10:upd H9 lp (.lst ((ba.map V.ref).take 12)) lp=some (.lst ((ba.map V.ref).take 12)):=z01;generalize upd H9 lp (.lst ((ba.map V.ref).take 12))=H10 at s10 e10⊢;refine⟨lp,rfl,⟨_,SqL.of e10⟩,zaN (xs:=(ba.map V.ref).take 12) (fun i σ H'=>∃u6:Option V,σ=[some (.ref a),some (.int n),some v1,some v2,some (.int (cell ns 3%(z5T n+1))),some (.ref la),u6,none,none,none]/\z0c H10 H') ⟨_,rfl,z0c.refl _⟩ (fun i σ H' _ h=>by obtain⟨_,_,t⟩:=h;exact SqL.of (t _ _ e10)) (fun i x σ H' hx h Ed2 nx2=>?_) (fun σ H' h=>?_)⟩
  .obtain⟨u6,rfl,t10⟩:=h;have t9:=s10.trans t10;have t5:z0Q Ts H5 H':=s59.trans (z0c.l t9);have hx':(ba.map V.ref)[i]?=some x:=by
    rw[List.getElem?_take]at hx;split at hx
    .exact hx
    .cases hx
   have hil:i<ba.length:=by have:=(y06.mp hx').1;rw[y01]at this;exact this
   obtain⟨b,eb,hb⟩:=(keepA t5).2 i _ (y00 (show i<(z0s (n^m) ([RA].map fun g=>z1d n g m) (n^m)).length by lia));have hxm:=y0h (show i<(z0s (n^m) ([RA].map fun g=>z1d n g m) (n^m)).length by lia);generalize(z0s (n^m) ([RA].map fun g=>z1d n g m) (n^m))[i]'(by lia)=xs at hb hxm;rw[y04,eb]at hx';cases hx';have h2:=z1I n0 (m:=m) (gs:=[RA]) fun g hg=>(one1 g hg).1;obtain⟨x0,_,_,_,hx0⟩:=z6T h2 hxm;obtain⟨ys,y,rfl⟩:∃ys y,xs=ys++[y]:=⟨xs.dropLast,xs.getLast (List.ne_nil_of_mem hx0),(List.dropLast_concat_getLast _).symm⟩;have hy:y∈ys++[y]:=y0H _ (y07.mpr rfl);obtain⟨r,hr,hrl⟩:=z9o GA n0 (z2C n0 m y);obtain⟨y0,y1,hlen⟩:=z5W n0 GA hxm hy hr;have GX:zai n (cell ns 3%(z5T n+1)) y:=⟨by lia,by lia,y0,by rw[hmt,<-y3v];exact y1⟩;have hfl:=z3b n m y;refine(exA rfl (exA rfl (exA rfl (exA rfl (exA rfl (exD b _ _ (.int y) rfl rfl (SqL.of hb) ((by rw[y0d];exact zdF _ _)) ⟨n,_,y,rfl,n0,by lia,fun _ t H11 s11 e11=>?_,fun z=>absurd GX z⟩))))));rw[hmt]at e11;refine⟨v1,.ref t,RA,n,z4y n m y,rfl,d1.mono (t9.trans s11),Dr.tup e11 (DrL.ints _),GA,n2,n5,by rw[hfl];lia,fun _ _ r' hr' H12 s12=>?_,fun _ z=>absurd z (by rw[hfl];lia),fun z=>absurd (z2C n0 m y) z⟩;have hl':=(z5W n0 GA hxm hy hr').2.2;refine(exA rfl (exG b rfl (.inl (SqL.of ((s11.trans s12) _ _ hb))) (exC rfl rfl (exA rfl ?_))));refine z30 (fun c=>absurd c ?_) (fun _=>nx2 _ _ (exA rfl (t10.trans (s11.trans s12))));rw[y01,hl'];simp
  .obtain⟨u6,rfl,t10⟩:=h;exact nxE _ _ (exA rfl (s10.trans t10))
 obtain⟨u6,rfl,s10⟩:=h;have s510:z0Q Ts H5 H10:=s59.trans (z0c.l s10);replace d1:=d1.mono s10;replace d2:=d2.mono s10;have tb10:=s510.tabs tb5;clear keepA x5 e5 s58 s59 tb9 tb8 tb5;refine(exA rfl (exA rfl ⟨by show 2<=sizeLine;decide,fun lt hlt=>?_⟩));have s11:z0c H10 (upd H10 lt (.lst [v1,v2])):=same_up (z0c.refl H10) hlt;have e11:upd H10 lt (.lst [v1,v2]) lt=some (.lst [v1,v2]):=z01;generalize upd H10 lt (.lst [v1,v2])=H11 at s11 e11⊢;refine(exA rfl ⟨lt,[RA,RB],n,exA rfl ⟨⟨_,e11,DrL.cons (d1.mono s11) (DrL.one (d2.mono s11))⟩,two2,by show 1<=2;decide,by show 2<=10;decide,n2,n5,by lia,by lia,by rw[hmt];exact hmp,fun lo bo H12 s12 f12 e12 l12 nd12 fb12 x12=>?_⟩⟩);rw[hmt]at l12 x12;have s1012:=s11.trans s12;replace d1:=d1.mono s1012;replace d2:=d2.mono s1012;have tb12:=(z0c.l s1012 (Ts:=Ts)).tabs tb10;clear e11 s11 hlt;refine(exA rfl (exA rfl ⟨v1,v2,n,RA,RB,rfl,tb12,d1,d2,GA,GB,by lia,hA,hB,fun lr H13 s13 g13=>?_⟩));have GJ:=z58 n0 GA GB hA hB;refine(exA rfl ⟨lr,_,n,exA rfl ⟨g13,fun g hg=>?_,by show 1<=4;decide,by show 4<=10;decide,n2,n5,by lia,by lia,by rw[hmt];exact hmp,fun lc bc H14 s14 f14 e14 l14 nd14 fb14 x14=>?_⟩⟩)
 .simp only[y0j,y1o,y3r]at hg;rcases hg with rfl|rfl|rfl|rfl
  .exact⟨GA,by lia⟩
  .exact⟨GB,by lia⟩
  .exact⟨GC,by lia⟩
  .exact GJ
 rw[hmt,zbZ n0 GA GB hA hB]at l14 x14;have s1214:z0Q Ts H12 H14:=s13.trans (z0c.l s14);have keepO:∀{H':Hp},z0Q Ts H12 H'->(H' lo=some (.lst (bo.map V.ref)))/\∀(j:Nat)(xs:List Int),(z0s (n^m) ([RA,RB].map fun g=>z1d n g m) (n^m))[j]?=some xs->∃b,bo[j]?=some b/\H' b=some (.lst (xs.map V.int)):=fun s=>⟨s.g e12,fun j xs e=>by obtain⟨b,h1,h2⟩:=x12 j xs e;exact⟨b,h1,s.g h2⟩⟩
 refine(exA rfl ⟨_,_,zgI e14 l14 x14,zgI (keepO s1214).1 l12 (keepO s1214).2,rfl,zco _,zbe _,?_⟩);rw[D.eq_refl];refine(exA rfl (z8e ?_));replace d1:=d1.monoL s1214;replace d2:=d2.monoL s1214;clear x14 e14 l14 g13;have hk:(if cell ns 3%(z5T n+1)-1>0 then cell ns 3%(z5T n+1)-1 else 0)=((m-1:Nat):Int):=by rw[hm];split<;>lia
 have hpk:n^(m-1)<=1024:=y0Q (y2u n0 (by lia)) hmp;refine(exA rfl (exA rfl ⟨by show 2<=sizeLine;decide,fun lt hlt=>?_⟩));have s15:z0c H14 (upd H14 lt (.lst [v1,v2])):=same_up (z0c.refl H14) hlt;have e15:upd H14 lt (.lst [v1,v2]) lt=some (.lst [v1,v2]):=z01;generalize upd H14 lt (.lst [v1,v2])=H15 at s15 e15⊢;refine(exA rfl (exC rfl rfl (exB rfl ⟨lt,[RA,RB],n,((m-1:Nat):Int),(by show[V.ref lt,V.int (if cell ns 3%(z5T n+1)-1>0 then cell ns 3%(z5T n+1)-1 else 0)]=_;rw[hk]),⟨_,e15,DrL.cons (d1.mono s15) (DrL.one (d2.mono s15))⟩,two2,by show 1<=2;decide,by show 2<=10;decide,n2,n5,by lia,by lia,by rw[y0l];exact hpk,fun lw bw H16 s16 f16 e16 l16 nd16 fb16 x16=>?_⟩)));rw[y0l]at l16 x16;have s1216:z0Q Ts H12 H16:=s1214.trans (z0c.l (s15.trans s16));clear e15 s15 hlt hk;have h2:=z1I n0 (m:=m) (gs:=[RA,RB]) fun g hg=>(two2 g hg).1;have hpos:0<n^m:=Nat.pow_pos n0;have small:∀(k:Nat)(xs:List Int),n^k<=1024->xs∈z0s (n^k) ([RA,RB].map fun g=>z1d n g k) (n^k)->xs.length<=1024:=fun k xs hk hx=>by obtain⟨y,_,rfl⟩:=y0a.mp hx;have:=y3P (fun z=>decide (z∈cmp (n^k) ([RA,RB].map fun g=>z1d n g k) y)) (z0p (n^k));rw[z0y]at this;exact y0Q this hk
 have hcl:(z0s (n^m) ([RA,RB].map fun g=>z1d n g m) (n^m)).length<=1024:=by unfold z0s;rw[y01];have:=y3P (z1y (n^m) ([RA,RB].map fun g=>z1d n g m)) (z0p (n^m));rw[z0y]at this;lia
 dsimp only[zbD];refine zhF (fun σ H'=>∃u6 u9:Option V,σ=[some (.ref a),some (.int n),some v1,some v2,some (.int (cell ns 3%(z5T n+1))),some (.ref la),u6,some (.ref lo),some (.ref lw),u9]/\z0c H16 H') (fun Ed nxE=>?_) (fun σ H17 h=>?_)
 .refine(exA rfl (exC rfl rfl (exA rfl (z30 (fun c=>?_) (fun _=>nxE _ _ (exB rfl (z0c.refl _)))))));have c':(0:Int)<cell ns 3%(z5T n+1):=y0V c;obtain⟨k,rfl⟩:∃k,m=k+1:=⟨m-1,by lia⟩;have ek:k+1-1=k:=rfl;rw[ek]at l16 x16 hpk;refine⟨_,rfl,lo,rfl,⟨_,SqL.of (keepO s1216).1⟩,zaN (xs:=bo.map V.ref) (fun i σ H'=>∃u6 u9:Option V,σ=[some (.ref a),some (.int n),some v1,some v2,some (.int (cell ns 3%(z5T n+1))),some (.ref la),u6,some (.ref lo),some (.ref lw),u9]/\z0c H16 H') ⟨_,_,rfl,z0c.refl _⟩ (fun i σ H' _ h=>by obtain⟨_,_,_,t⟩:=h;exact SqL.of ((s1216.trans (z0c.l t)).g e12)) (fun i x σ H' hx h Ed2 nx2=>?_) (fun σ H' h=>?_)⟩
  .obtain⟨u6,u9,rfl,t16⟩:=h;have hil:i<bo.length:=by have:=(y06.mp hx).1;rw[y01]at this;exact this
   obtain⟨b,eb,hb⟩:=(keepO (s1216.trans (z0c.l t16))).2 i _ (y00 (show i<(z0s (n^(k+1)) ([RA,RB].map fun g=>z1d n g (k+1)) (n^(k+1))).length by lia));have hxm:=y0h (show i<(z0s (n^(k+1)) ([RA,RB].map fun g=>z1d n g (k+1)) (n^(k+1))).length by lia);generalize(z0s (n^(k+1)) ([RA,RB].map fun g=>z1d n g (k+1)) (n^(k+1)))[i]'(by lia)=xs at hb hxm;rw[y04,eb]at hx;cases hx;obtain⟨x0,x00,x01,exs,_⟩:=z6T h2 hxm;have hxl:=small (k+1) xs hmp hxm;refine(exA rfl ⟨b,rfl,⟨_,SqL.of hb⟩,fun lc hlc=>zaZ (ns:=xs) (fun y=>y/(n:Int)) hlc (SqL.of hb) (y0Q hxl (by decide)) (fun y hy Hx Q' sx qx=>?_) (fun H17 s17 e17=>?_)⟩)
   .exact(exA rfl (exA rfl (exC rfl rfl ⟨⟨by lia,by lia⟩,qx⟩)))
   refine⟨lc,xs.map (fun y=>y/(n:Int)),rfl,SqL.of e17,by rw[y01];lia,fun St ks hSt hks=>?_⟩;have hdl:(z7Y (xs.map fun y=>y/(n:Int))).length<=1024:=by have:=z54 (xs.map fun y=>y/(n:Int)) [];rw[y01,y2d,y2Y]at this;exact y0Q this hxl
   have s18:=same_up (o:=zfi P w St ks) (z0c.refl H17) hSt;have e18:upd H17 St (zfi P w St ks) St=some (zfi P w St ks):=z01;refine⟨St,ks,rfl,e18,by rw[hks.length_eq];lia,fun ns' hp' hs' lu hlu=>?_⟩;have s19:=same_up (o:=HO.lst (ns'.map V.int)) s18 hlu;have e19:upd (upd H17 St (zfi P w St ks)) lu (.lst (ns'.map V.int)) lu=some (.lst (ns'.map V.int)):=z01;have hmem:ns'∈z0s (n^k) ([RA,RB].map fun g=>z1d n g k) (n^k):=by refine zb1 n0 (fun g hg=>(two2 g hg).1) x00 x01 ((hp'.trans hks).nodup_iff.mpr (z8i _)) hs' fun z=>?_;rw[(hp'.trans hks).mem_iff,zcz,exs]
   have t1619:=t16.trans (s17.trans s19);refine⟨_,rfl,_,rfl,D.lst (ns'.map D.int),_,Dr.lst e19 (DrL.ints _),zgI (t1619 _ _ e16) l16 (fun j ys e=>by obtain⟨b,h1,h2⟩:=x16 j ys e;exact⟨b,h1,t1619 _ _ h2⟩),fun e he=>?_,?_,?_⟩
   .obtain⟨ys,_,rfl⟩:=y0a.mp he;exact⟨by simp only[D.ok];exact z6U ys ns',by simp only[D.dep,D.depL_ints];decide⟩
   .exact⟨_,y0a.mpr ⟨ns',hmem,rfl⟩,D.eq_refl _⟩
   .exact(exA rfl (z8e (nx2 _ _ (exB rfl t1619))))
  .obtain⟨u6,u9,rfl,t16⟩:=h;exact nxE _ _ (exB rfl t16)
 obtain⟨u6,u9,rfl,s17⟩:=h;have s1217:z0Q Ts H12 H17:=s1216.trans (z0c.l s17);have hsum:=z7t h2;generalize hCL:z0s (n^m) ([RA,RB].map fun g=>z1d n g m) (n^m)=CL at *;refine(exA rfl ⟨lo,rfl,⟨_,SqL.of (keepO s1217).1⟩,fun lc hlc=>z1Y (xs:=bo.map V.ref) (fun i ys H'=>ys=((CL.take i).map fun xs=>V.int (xs.length:Int))/\i<=CL.length/\z0c H17 H') ⟨rfl,y0K _,same_up (z0c.refl H17) hlc⟩ (fun i ys H' _ h=>SqL.of (h.2.2 _ _ (keepO s1217).1)) (by rw[y01,l12];exact y0Q hcl (by decide)) (fun i ys H' h=>by rw[h.1,y01,y0q];have:=h.2.1;lia) (fun i x ys H' hx h hy=>?_) (fun ys H' h hy=>?_)⟩)
 .obtain⟨rfl,hi,t17⟩:=h;have hil:i<CL.length:=by have:=(y06.mp hx).1;rw[y01]at this;lia
  obtain⟨b,eb,hb⟩:=(keepO (s1217.trans (z0c.l t17))).2 i _ (y00 hil);rw[y04,eb]at hx;cases hx;refine(exA rfl (exG b rfl (.inl (SqL.of hb)) ⟨hy,?_,hil,z09 t17 hlc⟩));rw[y0D,y00 hil,y0d,y01];rfl
 obtain⟨rfl,_,t17⟩:=h;rw[y01,l12,y0O]at hy;have hy':H' lc=some (.lst ((CL.map fun xs=>(xs.length:Int)).map V.int)):=by rw[hy,y1h];rfl
 refine⟨lc,CL.map fun xs=>(xs.length:Int),rfl,SqL.of hy',exA rfl (exA rfl ⟨n,m,(by show[V.int (n:Int),V.int (cell ns 3%(z5T n+1))]=_;rw[hm]),n0,by lia,by lia,rfl,?_⟩)⟩;have es:(CL.map fun xs=>(xs.length:Int)).sum=(n:Int)^m:=by
  have:∀l:List (List Int),(l.map fun xs=>(xs.length:Int)).sum=(((l.map List.length).sum:Nat):Int):=fun l=>by
   induction l with
   |nil=>rfl
   |cons x l ih=>simp only[y0m,List.sum_cons,ih];lia
  rw[this,hsum,y3v]
 rw[es,y11 rfl];exact q _
def z49:z0n ["things","numbers","thing"] ["things"] (z04 z2q):={}
def z5U:z1k ["things","numbers","thing"] (z04 z2q) ["thing","numbers"] [none,some 1] (csc [(".0",.local),("thing",.local),("numbers",.free)]):={}
def z8Y(F:Fun K "numbered" "numbered" z2q f fd)(ml:mg "len"=none):z0u P w K mg base CX 1 f fd ["things"] (z44 K):=by
 refine F.okc z49 (fun vs H Q E h=>?_) (fun cdv A outer s H vs Q E hr h=>?_)
 .obtain⟨a,us,ds,rfl,_⟩:=h;rfl
 obtain⟨a,us,ds,rfl,ha,hd,hT,hlen,q⟩:=h;have hu9:(A.deeper (PyProof.Rows.envOfC "numbered" (z04 z2q) s.heap.objs.size f cdv)).units+9<cLine:=by have:=hr.units;lia
 refine⟨_,z02 (z0b (i:=1) z49.nd rfl (Or.inr rfl) (zcB (K:=K)))
  (z02 (z1u y0R rfl (z1x (pv 0)) (z0a (i:=2) z49.nd rfl (Or.inl rfl))
   (z05 (z1M (z1J (z7y (K:=K) hu9 (pv 2) (pv 1))) (z05 (z8B (K:=K) hu9 (pv 1) (pv 2) (z0i (zej K) rfl ml y0G (z00 (pv 1) z03)))) z0I)))
  (z05 (z0x (z1b rfl z5U (z1x (pv 0)) (fun _ _ _ _ _=>z0a (i:=0) z5U.nd rfl (Or.inl rfl)) (fun _ _ _ _ _=>zex P w K rfl rfl hu9 (pv 1) (pv 0) (fun _ _=>rfl)))))),?_⟩
 intro d hd0 ob0 g0;have hul:ds.length=us.length:=hd.length;have s0:z0c H (upd H d ob0):=same_up (z0c.refl H) hd0;refine⟨_,rfl,a,rfl,⟨_,SqL.of (s0 _ _ ha)⟩,zaN (xs:=us) (fun i σ H2=>∃v:Option V,σ=[some (.ref a),some (.ref d),v]/\z0c H H2/\DD P w K H2 d (prs id (z0F (ds.take i))))
  ⟨none,rfl,s0,g0⟩ (fun i σ H2 _ h=>by obtain⟨_,_,s2,_⟩:=h;exact SqL.of (s2 _ _ ha)) (fun i x σ H2 hx h Ed nx3=>?_) (fun σ H2 h=>?_)⟩
 .obtain⟨v,rfl,s2,g⟩:=h;have hiu:i<us.length:=(y06.mp hx).1;have ed:ds[i]?=some ds[i]:=y00 (by lia);obtain⟨x',ex,dx⟩:=hd.get ed;rw[hx]at ex;cases ex;have hk:=hT _ (y0h (show i<ds.length by lia));generalize ds[i]=di at ed dx hk;have et:z0F (ds.take (i+1))=z26 (z0F (ds.take i)) di:=by
   unfold z0F;rw[y0D,ed];exact z1f _ _ _
  have hlu:(z0F (ds.take i)).length<=4900:=by have:=z1V (ds.take i) [];rw[y0q]at this;unfold z0F;simp at this;lia
  refine(exA rfl (exA rfl ⟨d,_,di,rfl,g,zd6 hk (dx.mono s2),exA rfl ?_⟩));have hv:z3d (prs id (z0F (ds.take i))) di=_:=z1X id (fun _ _ e=>e) (z0F (ds.take i)) di;by_cases hm:di∈z0F (ds.take i)
  .rw[hv,if_pos hm];refine z8e (nx3 _ _ (exA rfl ⟨s2,?_⟩));rw[et,z0q hm];exact g
  .rw[hv,if_neg hm];refine zfJ (exA rfl ⟨d,exA rfl ⟨g,exA rfl (exA rfl ⟨d,_,di,rfl,g,zd6 hk (dx.mono s2),by rw[z1R];exact z1O hlu,fun ob g2=>nx3 _ _ (exA rfl ⟨z09 s2 hd0,?_⟩)⟩)⟩⟩);rw[et,z0r hm,<-z4T id (fun _ _ e=>e) hm];rw[z1R]at g2;exact g2
 .obtain⟨v,rfl,s2,g⟩:=h;rw[y0x (by lia)]at g;refine(exA rfl ⟨a,rfl,⟨_,SqL.of (s2 _ _ ha)⟩,fun l hl0=>z1Y (xs:=us) (fun i ys H3=>i<=ds.length/\ys=((z2k ds).take i).map V.int/\z0c H2 H3) ⟨y0K _,rfl,same_up (z0c.refl H2) hl0⟩ (fun i ys H3 _ h=>SqL.of (h.2.2 _ _ (s2 _ _ ha))) (z0U (by lia)) (fun i ys H3 h=>?_) (fun i x ys H3 hx h hy=>?_) (fun ys H3 h hy=>?_)⟩)
  .obtain⟨hi,rfl,_⟩:=h;unfold z2k;rw[y01,y0q,y01];lia
  .obtain⟨_,rfl,s3⟩:=h;have hiu:i<us.length:=(y06.mp hx).1;have ed:ds[i]?=some ds[i]:=y00 (by lia);obtain⟨x',ex,dx⟩:=hd.get ed;rw[hx]at ex;cases ex;have hmem:ds[i]∈ds:=y0h (show i<ds.length by lia);have hk:=hT _ hmem;generalize ds[i]=di at ed dx hk hmem;have hm:di∈z0F ds:=z0k.mpr (.inr hmem);have hv:z3d (prs id (z0F ds)) di=_:=z1X id (fun _ _ e=>e) (z0F ds) di;rw[if_pos hm]at hv;refine(exA rfl (exA rfl ⟨d,_,di,exA rfl ⟨g.mono s3,zd6 hk (dx.mono (s2.trans s3)),hv,hy,by lia,?_,z09 s3 hl0⟩⟩));have en:(z2k ds)[i]?=some (((z0F ds).idxOf di:Nat):Int):=by unfold z2k;rw[y04,ed];rfl
   rw[z1a _ en]
  .obtain⟨_,rfl,s3⟩:=h;have e:((z2k ds).take us.length)=z2k ds:=y0x (by unfold z2k;rw[y01];lia);rw[e]at hy;exact q l H3 (s2.trans s3) hy
def zgb:z0n ["_law_script","_law_at"] ["_law_script","_law_at"] (z04 ze8):={}
def zfX(F:Fun K "_law_cell" "_law_cell" ze8 f fd)(ml:mg "len"=none):z0u P w K mg base CX 1 f fd ["_law_script","_law_at"] (z9U K):=by
 refine F.okc zgb (fun vs H Q E h=>?_) (fun cdv A outer s H vs Q E hr h=>?_)
 .obtain⟨a,ns,i,rfl,_⟩:=h;rfl
 obtain⟨a,ns,i,rfl,hS,h63,hi,q⟩:=h;refine⟨_,z02 (z1M (z0W z5K (pv 1) (z0i z0d rfl ml y0G (z00 (pv 0) z03)) (z1j _)) (z05 (z0x (z0V z1s (pv 0) (pv 1) (fun _ _=>rfl)))) z0I)
  (z02 (z1M (z0W zdh (z0i z0d rfl ml y0G (z00 (pv 0) z03)) z08 (z1j _)) (z05 (z0x (z0G z21 (z0G z3B z08 (pv 1)) z08))) z0I)
  (z05 (z0x (z0G z21 (z0G z1Z (z0V z1s (pv 0) (z0G z1Z (pv 1) (z0i z0d rfl ml y0G (z00 (pv 0) z03))) (fun _ _=>rfl)) z08) (z0G z3B z08 (pv 1)))))),?_⟩
 have hl:(ns.map V.int).length=ns.length:=y01 _;refine(exA rfl (exA rfl ⟨a,exA rfl ⟨.inl hS,exC rfl rfl (exA rfl ?_)⟩⟩));refine z30 (fun c=>?_) (fun c=>?_)
 .have c':(i:Int)<(((ns.map V.int).length:Nat):Int):=y0V c;rw[hl]at c';have hin:i<ns.length:=by lia
  refine(exA rfl (exA rfl ⟨a,_,_,V.int (ns.getD i 0),rfl,rfl,hS,z0z (by simp[hin]),?_⟩));have e:cell ns i=ns.getD i 0:=by unfold cell;rw[if_pos hin]
  rw[e]at q;exact q
 .have c':¬(i:Int)<(((ns.map V.int).length:Nat):Int):=y16 (y14.mpr c);rw[hl]at c';have hin:¬i<ns.length:=by lia
  refine(exA rfl ⟨a,exA rfl ⟨.inl hS,rfl,exA rfl ?_⟩⟩);refine z30 (fun c=>?_) (fun c=>?_)
  .have c2:=y0V c;rw[hl]at c2;have hz:ns.length=0:=by injection c2 with c2;lia
   refine(exA rfl (exC rfl rfl ⟨.inl ⟨by decide,by decide⟩,exC rfl rfl ?_⟩));have e:cell ns i=29*i+5:=by unfold cell;rw[if_neg hin,if_pos hz]
   rw[e]at q;exact q
  .have c2:=y16 (y14.mpr c);rw[hl]at c2;have hz:¬ns.length=0:=fun z=>c2 (y1G V.int (by lia));have hpos:(0:Int)<ns.length:=by lia
   have hm:i%ns.length<ns.length:=Nat.mod_lt _ (by lia);have em:(i:Int)%(((ns.map V.int).length:Nat):Int)=((i%ns.length:Nat):Int):=by rw[hl];exact(Int.natCast_emod i ns.length).symm
   refine(exA rfl (exA rfl (exA rfl ⟨a,exA rfl ⟨.inl hS,exC rfl rfl ⟨by rw[hl];exact hpos,a,_,_,V.int (ns.getD (i%ns.length) 0),rfl,rfl,hS,(by rw[em];exact z0z (by simp[hm])),exC rfl rfl ⟨(by show(0:Int)<1000003;decide),exA rfl (exC rfl rfl ⟨.inl ⟨by decide,by decide⟩,exC rfl rfl ?_⟩)⟩⟩⟩⟩)));have e:cell ns i=ns.getD (i%ns.length) 0%1000003+103*i:=by unfold cell;rw[if_neg hin,if_neg hz]
   rw[e]at q;exact q
def zc6:z0n ["_law_script","_law_at"] ["_law_script","_law_at"] (z04 z4A):={}
def zaL(F:Fun K "_law_letters" "_law_letters" z4A f fd)(G:z0u P w K mg base CX 1 g gd ["_law_script","_law_at"] (z9U K))(bG:z0j K gd ["_law_script","_law_at"] [])(kG:PySem.W.keepIn K (.ref g)=true)(mG:mg "_law_cell"=some (.ref g)) : z0u P w K mg base CX 2 f fd ["_law_script","_law_at"] (z5z K):=by
 refine F.okc zc6 (fun vs H Q E h=>?_) (fun cdv A outer s H vs Q E hr h=>?_)
 .obtain⟨a,ns,i,rfl,_⟩:=h;rfl
 obtain⟨a,ns,i,rfl,hS,h63,hi,q⟩:=h;refine⟨_,z05 (z0x (z0G z21 z08 (z0G z1Z (z0f G hr rfl mG kG bG .nil z0K (z00 (pv 0) (z00 (pv 1) z03))) z08))),?_⟩;rw[zdC]at q;exact(exA rfl (exA rfl ⟨a,ns,i,rfl,hS,h63,hi,exC rfl rfl ⟨(by show(0:Int)<4;decide),exC rfl rfl q⟩⟩))
def z5S:z0n ["_law_pick","_law_letters_here","_law_left","_law_made","_law_k","_law_many"] ["_law_pick","_law_letters_here"] (z04 zdJ):={}
def zfx(F:Fun K "_law_rearranged" "_law_rearranged" zdJ f fd)(ml:mg "len"=none)(mt:mg "tuple"=none)(mr:mg "range"=none)(mls:mg "list"=none):z0u P w K mg base CX 1 f fd ["_law_pick","_law_letters_here"] (zbU K):=by
 refine F.okc z5S (fun vs H Q E h=>?_) (fun cdv A outer s H vs Q E hr h=>?_)
 .obtain⟨pick,n,rfl,_⟩:=h;rfl
 obtain⟨pick,n,rfl,hn,k⟩:=h;refine⟨_,z02 (z0b (i:=2) z5S.nd rfl (Or.inl rfl) (z0w (z6Y rfl) rfl mls PyProof.Rows.boot_list (z00 (z0w z9r rfl mr PyProof.Rows.boot_range (z00 (pv 1) z03)) z03)))
  (z02 (z0b (i:=3) z5S.nd rfl (Or.inl rfl) (z1m z03))
  (z02 (z1u y0R rfl (z1A rfl mr (z00 (pv 1) z03)) (z0a (i:=4) z5S.nd rfl (Or.inl rfl))
   (z02 (z0b (i:=5) z5S.nd rfl (Or.inl rfl) (z0i z0d rfl ml y0G (z00 (pv 2) z03)))
   (z02 (z0P (z2V y0y y0A y0B z0D (pv 3) (z00 (z2V y0y PySem.F.slot_list_pop PySem.F.type_list_pop zdI (pv 2) (z00 (z0G z1Z (pv 0) (pv 5)) z03)) z03)))
   (z05 (z0b (i:=0) z5S.nd rfl (Or.inl rfl) (z0G z50 (pv 0) (pv 5)))))))
  (z05 (z0x (z0w z0o rfl mt y0E (z00 (pv 3) z03)))))),?_⟩
 refine(exA rfl ⟨(n:Int),rfl,by lia,by lia,fun p hp=>⟨p,0,(n:Int),rfl,z01,⟨by decide,by decide,by lia,by lia⟩,by lia,fun l hl=>⟨by show 0<=sizeLine;decide,fun m hm=>?_⟩⟩⟩);have e:((n:Int)-0).toNat=n:=by lia
 rw[e,z82]at hm⊢;have s1:z0c H (upd H p (.rng 0 n)):=same_up (z0c.refl H) hp;have s2:z0c H (upd (upd H p (.rng 0 n)) l (.lst ((z0p n).map V.int))):=same_up s1 hl;have hl0:H l=none:=s1.free hl;have hm0:H m=none:=s2.free hm;have hlm:l≠m:=z0e z01 hm;have s3:z0c H (upd (upd (upd H p (.rng 0 n)) l (.lst ((z0p n).map V.int))) m (.lst [])):=same_up s2 hm;refine⟨_,rfl,(n:Int),rfl,by lia,by lia,zes (n:=(n:Int).toNat) (fun i σ H2=>∃(u v:Option V)(pk:Int)(left made:List Int),σ=[some (.int pk),some (.int n),some (.ref l),some (.ref m),u,v]/\z0c H H2/\H2 l=some (.lst (left.map V.int))/\H2 m=some (.lst (made.map V.int)) /\
   left.length+i=n/\made.length=i/\zdQ pick n=made++zem left.length pk left)
  ⟨none,none,pick,z0p n,[],rfl,s3,(by rw[z07 hlm,z01]),z01,z0y n,rfl,by rw[z0y];rfl⟩ (fun i σ H2 hi h Ed nx3=>?_) (fun σ H2 h=>?_)⟩
 .obtain⟨u,v,pk,left,made,rfl,t2,gl,gm,e1,e2,e3⟩:=h;have hin:i<n:=by simpa using hi
  have hpos:0<left.length:=by lia
  have hL:(left.map V.int).length=left.length:=y01 _;obtain⟨ix,hixe,hix⟩:∃ix:Nat,pk%(((left.map V.int).length:Nat):Int)=(ix:Int)/\ix<left.length:=by rw[hL];have h0:=y2z pk (show(left.length:Int)≠0 by lia);have h1:=y28 pk (show(0:Int)<left.length by lia);exact⟨(pk%(left.length:Int)).toNat,by lia,by lia⟩
  have hsq:PySem.seqIndex? (pk%(((left.map V.int).length:Nat):Int)) (left.map V.int).length=some ix:=by rw[hixe,hL,PySem.seqIndex_of (by lia) (by lia)];simp
  refine(exA rfl (exG l rfl (.inl (SqL.of gl)) (exA rfl ⟨.inl ⟨rfl,_,SqL.of gm⟩,exA rfl ⟨.inl ⟨rfl,_,SqL.of gl⟩,exA rfl (exA rfl (exC rfl rfl ⟨by rw[hL];lia,?_⟩))⟩⟩)));refine⟨l,_,_,ix,V.int (left.getD ix 0),rfl,rfl,gl,by rw[hixe];lia,by rw[hixe];lia,hsq,by simp[hix],m,exC rfl rfl ⟨by rw[z07 (y1v hlm)];exact gm,by rw[y01];exact z3M (by lia),?_⟩⟩;refine(exA rfl (exA rfl (exC rfl rfl ⟨⟨by rw[hL];lia,by rw[hL];lia⟩,?_⟩)));refine nx3 _ _ ⟨_,_,pk/(((left.map V.int).length:Nat):Int),left.eraseIdx ix,made++[left.getD ix 0],rfl,z09 (z09 t2 hl0) hm0,?_,?_,?_,by simp[e2],?_⟩
  .rw[z07 hlm,z01];congr 2;exact z80 V.int left ix
  .rw[z01,y0d];rfl
  .rw[y37 hix];lia
  .rw[e3,y0p];congr 1;obtain⟨q,hq⟩:∃q,left.length=q+1:=⟨left.length-1,by lia⟩;have e5:(left.eraseIdx ix).length=q:=by rw[y37 hix];lia
   rw[e5,hL];rw[hL]at hixe;have e6:(pk%(left.length:Int)).toNat=ix:=by lia
   have e7:zem (q+1) pk left=left.getD (pk%(left.length:Int)).toNat 0::zem q (pk/(left.length:Int)) (left.eraseIdx (pk%(left.length:Int)).toNat):=rfl;rw[hq,e7,e6];rw[hq];rfl
 .obtain⟨u,v,pk,left,made,rfl,t2,gl,gm,e1,e2,e3⟩:=h;refine(exA rfl ⟨m,exA rfl (.inl ⟨SqL.of gm,fun t ht=>?_⟩)⟩);have e9:(n:Int).toNat=n:=by lia
  have e4:left.length=0:=by lia
  rw[e4]at e3;have e5:zdQ pick n=made:=by rw[e3];unfold zem;simp
  rw[<-e5];exact k _ _ (same_up t2 ht) (Dr.tup z01 (DrL.ints _))
abbrev nNO:List Str:=["letters","word","number","letter"]
def zhc:z0n nNO ["letters","word"] (z04 z3T):={}
def z8G{Ct aCk:Addr}{dCk:FuncData}(F:Fun K "number_of" "number_of" z3T f fd)(Ck:z0u P w K mg base (CXx P w) 1 aCk dCk ["letters","word"] (z3F K Ct))(bCk:z0j K dCk ["letters","word"] [])(kCk:PySem.W.keepIn K (.ref aCk)=true)(mCk:mg "check_word"=some (.ref aCk)):z0u P w K mg base (CXx P w) 2 f fd ["letters","word"] (z8p K Ct):=by
 refine F.okx zhc (fun vs H Q E h=>?_) (fun cdv A outer s H vs Q E hr h=>?_)
 .obtain⟨n,u,wd,rfl,_⟩:=h;rfl
 obtain⟨n,u,wd,rfl,dw,hn,h5,gv,gx⟩:=h;refine⟨_,z02 (z0P (z0f Ck hr rfl mCk kCk bCk .nil (z7a fun _ _ _ z=>z) (z00 (pv 0) (z00 (pv 1) z03))))
  (z02 (z0b (i:=2) zhc.nd rfl (Or.inl rfl) z08)
  (z02 (z1u y2D rfl (z2r (pv 1)) (z0a (i:=3) zhc.nd rfl (Or.inl rfl))
   (z05 (z0b (i:=2) zhc.nd rfl (Or.inl rfl) (z0G z21 (z0G z3B (pv 2) (pv 0)) (pv 3)))))
  (z05 (z0x (pv 2))))),?_⟩
 refine(exA rfl (exA rfl ⟨n,u,wd,rfl,dw,by lia,fun hw H2 s2=>?_,fun hw ea H2 s2=>gx hw ea H2 s2⟩));obtain⟨aw,rfl,eaw⟩:=Dr.its_inv dw;refine⟨_,rfl,aw,rfl,⟨_,SqT.of (s2 _ _ eaw)⟩,z8P (xs:=wd.map V.int) (fun i σ H3=>∃(u3:Option V),σ=[some (.int n),some (.ref aw),some (.int (z2I n (wd.take i))),u3]/\z0c H H3)
  ⟨_,rfl,s2⟩ (fun i σ H3 _ h=>by obtain⟨_,_,t3⟩:=h;exact SqT.of (t3 _ _ eaw)) (fun i x σ H3 hx h=>?_) (fun σ H3 h=>?_)⟩
 .obtain⟨u3,rfl,t3⟩:=h;have hil:i<wd.length:=by have:=(y06.mp hx).1;rwa [y01]at this
  have eg:wd[i]?=some wd[i]:=y00 hil;generalize wd[i]=l at eg;have ex:x=V.int l:=by rw[y04,eg]at hx;exact(y08 hx).symm
  subst ex;have est:z2I n (wd.take (i+1))=z2I n (wd.take i)*(n:Int)+l:=by rw[y0D,eg,Option.toList,z2O]
  rw[est];exact(exA rfl (exA rfl (exC rfl rfl ⟨Or.inr ⟨by lia,by lia⟩,exA rfl (exC rfl rfl (exA rfl t3))⟩)))
 .obtain⟨u3,rfl,t3⟩:=h;rw[y01,y0O];exact(exA rfl (gv hw H3 t3))
abbrev nWO:List Str:=["letters","many","number","lightest_first","left","place","letter"]
def zg3:z0n nWO ["letters","many","number"] (z04 z6V):={}
def zby{Cb:Addr}{bmB:List Value}{B newId initId:String}{tm:Tok}(mC:mg "BadCount"=some (.ref Cb))(xC:PySem.W.excIn K Cb bmB newId=true)(hB:ExcBaseFacts B newId initId bmB)(m_MOST_LETTERS_TOLD:mg "MOST_LETTERS_TOLD"=some (.int 1000 tm))(mr:mg "range"=none)(mdm:mg "divmod"=none)(mt:mg "tuple"=none)(F:Fun K "word_of" "word_of" z6V f fd):z0u P w K mg base (CXx P w) 1 f fd ["letters","many","number"] (z4I K Cb):=by
 refine F.okx zg3 (fun vs H Q E h=>?_) (fun cdv A outer s H vs Q E hr h=>?_)
 .obtain⟨n,many,x,rfl,_⟩:=h;rfl
 obtain⟨n,many,x,rfl,n0,hn,gv,gb⟩:=h;refine⟨_,z02 (z1M (zh0 (z6o z8C z8C z08 (pv 1) (z8N (v:=.int 1000) rfl m_MOST_LETTERS_TOLD ⟨_,rfl⟩))) (z05 (z36 mC rfl xC hB z6h)) z0I)
  (z02 (z0b (i:=3) zg3.nd rfl (Or.inl rfl) (z1m z03))
  (z02 (z0b (i:=4) zg3.nd rfl (Or.inl rfl) (pv 2))
  (z02 (z1u y2D rfl (z1A rfl mr (z00 (pv 1) z03)) (z0a (i:=5) zg3.nd rfl (Or.inl rfl))
   (z02 (z2S (z0i z8j rfl mdm PyProof.Rows.boot_divmod (z00 (pv 4) (z00 (pv 0) z03))) (z2f rfl (z0l (z0a (i:=4) zg3.nd rfl (Or.inl rfl)) (z0l (z0a (i:=6) zg3.nd rfl (Or.inl rfl)) z1g))))
   (z05 (z0P (z2V y0y y0A y0B z0D (pv 3) (z00 (pv 6) z03))))))
  (z02 (z1M (z1J (zeB (pv 4) z08)) (z05 (z36 mC rfl xC hB z6h)) z0I)
  (z05 (z0x (z0w z0o rfl mt y0E (z00 (zfo (pv 3) (zgB zeA z08)) z03)))))))),?_⟩
 have bad:¬(0<=many/\many<=1000)->∀ea:Addr,E (.ref ea) (some Cb) H:=fun z ea=>gb (fun y=>z ⟨y.1,y.2.1⟩) ea H (z0c.refl _);refine(exA rfl (exC rfl rfl (exA rfl (z30 (fun c1=>(exC rfl rfl (exA rfl ?_))) (fun c1=>?_)))));rotate_left
 .have c1':=y16 (y14.mpr c1);refine(exA rfl (z30 (fun _=>bad (by lia)) (fun z=>absurd rfl z)))
 have c1':=y0V c1;refine z30 (fun z=>bad (fun y=>by rw[y11 y.2]at z;cases z)) (fun z=>?_);have c2':many<=1000:=by
  by_cases y:many<=1000
  .exact y
  .exact absurd (by rw[y0Z y];rfl) z
 obtain⟨m,rfl⟩:=z3I c1';have hgx:zai n m x↔dvn n m x=0:=by
  rw[z95 (by lia)];unfold zai;rw[y0l];constructor
  .exact fun h=>h.2.2
  .exact fun h=>⟨by lia,c2',h⟩
 refine⟨by show 0<=sizeLine;decide,fun lm hlm=>?_⟩;have s1:=same_up (o:=HO.lst []) (z0c.refl H) hlm;refine(exA rfl (exA rfl ⟨(m:Int),rfl,by lia,by lia,z2Z (n:=(m:Int).toNat) (fun i σ H3=>∃(u5 u6:Option V),σ=[some (.int n),some (.int m),some (.int x),some (.ref lm),some (.int (dvn n i x)),u5,u6]/\z0c H H3/\H3 lm=some (.lst ((lit n i x).map V.int))) (exB rfl ⟨s1,z01⟩) (fun i σ H3 hi h=>?_) (fun σ H3 h=>?_)⟩))
 .obtain⟨u5,u6,rfl,s3,e3⟩:=h;refine(exA rfl (exA rfl (exB rfl ⟨⟨by lia,by lia⟩,fun p hp=>?_⟩)));have s4:=same_up (o:=HO.tup [V.int (dvn n i x/(n:Int)),V.int (dvn n i x%(n:Int))]) (z0c.refl H3) hp;refine(exF p rfl (SqT.of z01) rfl (exB rfl (exC rfl rfl ?_)));refine(exA rfl ⟨.inl ⟨rfl,_,SqL.of (s4 _ _ e3)⟩,exA rfl ⟨lm,exC rfl rfl ⟨s4 _ _ e3,z1O (by rw[y01,z8v];lia),?_⟩⟩⟩);rw[z9T,za4,y0d];exact(exB rfl ⟨z09 (s3.trans s4) hlm,z01⟩)
 .obtain⟨u5,u6,rfl,s3,e3⟩:=h;rw[y0l]at *;refine(exA rfl (exC rfl rfl (exA rfl (z30 (fun c=>?_) (fun c=>?_)))))
  .exact fun ea=>gb (fun y=>by have:=hgx.mp y;simp[this]at c) ea H3 s3
  .have c':dvn n m x=0:=y0Y fun y=>c (by simp[y]);refine(exA rfl (exA rfl ⟨rfl,lm,exA rfl ⟨SqL.of e3,fun p hp=>?_⟩⟩));have s4:=same_up (o:=HO.lst ((lit n m x).map V.int).reverse) (z0c.refl H3) hp;refine⟨p,exA rfl (.inl ⟨SqL.of z01,fun l hl=>?_⟩)⟩;refine gv (hgx.mpr c') l _ ((s3.trans s4).trans (same_up (z0c.refl _) hl)) ?_;show upd _ l _ l=some (.tup ((lit n m x).reverse.map V.int));rw[<-List.map_reverse];exact z01
abbrev nOF:List Str:=["letters","many","count","place"]
def zhd:z0n nOF ["letters","many"] (z04 z4z):={}
def zal{Ct Cb:Addr}{bmB bmB2:List Value}{B newId initId B2 newId2 initId2:String}{tm:Tok}(mC:mg "BadCount"=some (.ref Cb))(xC:PySem.W.excIn K Cb bmB newId=true)(hB:ExcBaseFacts B newId initId bmB)(mC2:mg "TooMany"=some (.ref Ct))(xC2:PySem.W.excIn K Ct bmB2 newId2=true)(hB2:ExcBaseFacts B2 newId2 initId2 bmB2)(m_MOST_WORDS:mg "MOST_WORDS"=some (.int 1024 tm))(mr:mg "range"=none)(F:Fun K "words_on_floor" "words_on_floor" z4z f fd):z0u P w K mg base (CXx P w) 1 f fd ["letters","many"] (z2W K Ct Cb):=by
 refine F.okx zhd (fun vs H Q E h=>?_) (fun cdv A outer s H vs Q E hr h=>?_)
 .obtain⟨n,many,rfl,_⟩:=h;rfl
 obtain⟨n,many,rfl,n2,n5,hm,gb,gx,gv⟩:=h;refine⟨_,z02 (z1M (z0W z5K (pv 1) z08 (z1j _)) (z05 (z36 mC rfl xC hB z6h)) z0I)
  (z02 (z0b (i:=2) zhd.nd rfl (Or.inl rfl) z08)
  (z02 (z1u y2D rfl (z1A rfl mr (z00 (pv 1) z03)) (z0a (i:=3) zhd.nd rfl (Or.inl rfl))
   (z02 (z0b (i:=2) zhd.nd rfl (Or.inl rfl) (z0G z3B (pv 2) (pv 0)))
   (z05 (z1M (z0W zbc (pv 2) (z8N (v:=.int 1024) rfl m_MOST_WORDS ⟨_,rfl⟩) (z1j _)) (z05 (z36 mC2 rfl xC2 hB2 z6h)) z0I))))
  (z05 (z0x (pv 2))))),?_⟩
 refine(exA rfl (exC rfl rfl (exA rfl (z30 (fun c=>?_) (fun c=>?_)))))
 .exact fun ea=>gb (y0V c) ea H (z0c.refl _)
 have c':=y16 (y14.mpr c);obtain⟨m,rfl⟩:=z3I (x:=many) (by lia);rw[y0l]at gx gv;refine(exA rfl ⟨(m:Int),rfl,by lia,by lia,z2Z (n:=(m:Int).toNat) (fun i σ H3=>∃(u3:Option V),σ=[some (.int n),some (.int m),some (.int ((n^i:Nat):Int)),u3]/\H3=H/\n^i<=1024) (exA rfl ⟨rfl,by simp⟩) (fun i σ H3 hi h=>?_) (fun σ H3 h=>?_)⟩)
 .obtain⟨u3,rfl,rfl,h4⟩:=h;refine(exA rfl (exA rfl (exC rfl rfl ⟨Or.inr ⟨by lia,by lia⟩,?_⟩)));have ep:((n^i:Nat):Int)*(n:Int)=((n^(i+1):Nat):Int):=by rw[y48,y24]
  refine(exA rfl (exC rfl rfl (exA rfl (z30 (fun c2=>?_) (fun c2=>?_)))))
  .have c2':=y0V c2;rw[ep]at c2';have him:i+1<=m:=by lia
   have:=y2u (show 1<=n by lia) him;exact fun ea=>gx (by lia) (by lia) ea _ (z0c.refl _)
  .have c2':=y16 (y14.mpr c2);rw[ep]at c2';refine⟨some (V.int (0+(i:Int))),?_,rfl,by lia⟩;show[some (V.int n),some (V.int m),some (V.int (((n^i:Nat):Int)*(n:Int))),some (V.int (0+(i:Int)))]=_;rw[ep]
 .obtain⟨u3,rfl,rfl,h4⟩:=h;rw[y0l]at *;exact(exA rfl (gv (by lia) h4))
abbrev nFl:List Str:=["guise","many","letters","count"]
def zhj:z0n nFl ["guise","many"] (z04 z7N):={}
def ziq:z1k nFl (z04 z7N) ["number","guise","letters","many"] [none,some 0,some 2,some 1] (csc [(".0",.local),("number",.local),("number_of",.globalImplicit),("worn",.globalImplicit),("word_of",.globalImplicit),("guise",.free),("letters",.free),("many",.free)]):={}
def zdk{Ct Cb Cw aR aO aN aW aV:Addr}{dR dO dN dW dV:FuncData}(mr:mg "range"=none)(F:Fun K "floor" "floor" z7N f fd)(R:z0u P w K mg base (CXx P w) 2 aR dR ["guise"] (z2o K))(bR:z0j K dR ["guise"] [])(kR:PySem.W.keepIn K (.ref aR)=true)(mR:mg "breadth"=some (.ref aR))(O:z0u P w K mg base (CXx P w) 2 aO dO ["letters","many"] (z2W K Ct Cb))(bO:z0j K dO ["letters","many"] [])(kO:PySem.W.keepIn K (.ref aO)=true)(mO:mg "words_on_floor"=some (.ref aO))(N:z0u P w K mg base (CXx P w) 2 aN dN ["letters","word"] (z8p K Cw))(bN:z0j K dN ["letters","word"] [])(kN:PySem.W.keepIn K (.ref aN)=true)(mN:mg "number_of"=some (.ref aN))(W:z0u P w K mg base (CXx P w) 2 aW dW ["guise","word"] (z9A K Cw))(bW:z0j K dW ["guise","word"] [])(kW:PySem.W.keepIn K (.ref aW)=true)(mW:mg "worn"=some (.ref aW))(Vo:z0u P w K mg base (CXx P w) 2 aV dV ["letters","many","number"] (z4I K Cb))(bV:z0j K dV ["letters","many","number"] [])(kV:PySem.W.keepIn K (.ref aV)=true)(mV:mg "word_of"=some (.ref aV)):z0u P w K mg base (CXx P w) 3 f fd ["guise","many"] (z8R K Ct Cb):=by
 refine F.okx zhj (fun vs H Q E h=>?_) (fun cdv A outer s H vs Q E hr h=>?_)
 .obtain⟨v,one,n,many,rfl,_⟩:=h;rfl
 obtain⟨v,one,n,many,rfl,dv,GM,n2,n5,hm,gb,gx,gv⟩:=h;refine⟨_,z02 (z0b (i:=2) zhj.nd rfl (Or.inr rfl) (z0f R hr rfl mR kR bR .nil z0K (z00 (pv 0) z03)))
  (z02 (z0b (i:=3) zhj.nd rfl (Or.inl rfl) (z0f O hr rfl mO kO bO .nil (z7a fun _ _ _ z=>z) (z00 (pv 2) (z00 (pv 1) z03))))
  (z05 (z0x (z1b rfl ziq (z1A rfl mr (z00 (pv 3) z03)) (fun _ _ _ _ _=>z0a (i:=0) ziq.nd rfl (Or.inl rfl)) (fun _ _ _ _ _=>z0f N hr rfl mN kN bN .nil z0K (z00 (pv 2) (z00 (z0f W hr rfl mW kW bW .nil z0K (z00 (pv 1) (z00 (z0f Vo hr rfl mV kV bV .nil z0K (z00 (pv 2) (z00 (pv 3) (z00 (pv 0) z03)))) z03))) z03))))))),?_⟩
 have h1:=GM.some;obtain⟨r0,rt,er⟩:∃r0 rt,one=r0::rt:=by
  cases one with
  |nil=>simp at h1
  |cons r0 rt=>exact⟨r0,rt,rfl⟩
 have hl0:=(GM.perm r0 (by rw[er];simp)).len;refine(exA rfl ⟨v,r0,z0B rt,rfl,(by rw[er]at dv;exact dv),by lia,fun H1 s1=>?_⟩);refine(exA rfl (exA rfl ⟨n,many,(by rw[hl0];rfl),n2,n5,hm,fun z ea H2 s2=>gb z ea H2 (s1.trans s2),fun z y ea H2 s2=>gx z y ea H2 (s1.trans s2),fun m0 hf=>?_⟩));replace gv:=gv m0 hf;obtain⟨m,rfl⟩:=z3I m0;rw[y0l]at hf gv;have hm10:=z7F n2 hf;refine(exA rfl ⟨((n^m:Nat):Int),rfl,by lia,by lia,fun l hl0'=>z4f (n:=((n^m:Nat):Int).toNat) (fun i ys H3=>i<=n^m/\ys=((z1d n one m).take i).map V.int/\z0c H1 H3) ⟨y0K _,rfl,same_up (z0c.refl H1) hl0'⟩ (by rw[y0l];exact z0U (by lia)) (fun i ys H3 h=>?_) (fun i ys H3 hi h hy=>?_) (fun ys H3 h hy=>?_)⟩)
 .obtain⟨_,rfl,_⟩:=h;rw[y01,y0q,z3a];lia
 .obtain⟨_,rfl,s3⟩:=h;have hi':i<n^m:=by lia
  have gx:zai n m (i:Int):=⟨by lia,by lia,by lia,by rw[y0l,<-y3v];lia⟩;have lf:=z2C (n:=n) (by lia) m (i:Int);have ll:=z3b (n:Int) m (i:Int);refine(exA rfl (exA rfl (exA rfl (exA rfl (exA rfl ⟨n,m,(i:Int),(by rw[hl0,Int.zero_add];rfl),by lia,by lia,fun _ t H4 s4 e4=>?_,fun z=>absurd gx z⟩)))));rw[y0l]at e4;refine⟨v,.ref t,one,n,exA rfl ⟨dv.mono (s1.trans (s3.trans s4)),Dr.tup e4 (DrL.ints _),GM,by lia,by lia,fun _ t5 H5 s5 e5=>?_,fun z=>absurd lf z⟩⟩;have lo:=z6l GM _ 0 lf (y1u 0) (by lia);refine⟨n,.ref t5,_,(by rw[hl0];rfl),Dr.tup e5 (DrL.ints _),by lia,by rw[z3v];lia,fun _ H6 s6=>?_,fun z=>absurd lo z⟩;have s36:=s4.trans (s5.trans s6);refine⟨s36 _ _ hy,by lia,?_,z09 (s3.trans s36) hl0'⟩;unfold z1d;rw[z6C _ _ _ hi',y0d];rfl
 .obtain⟨_,rfl,s3⟩:=h;rw[y0l,y0x (by rw[z3a];exact y0b _)]at hy;exact gv l H3 (s1.trans s3) (y1F fun z=>by
   cases e:H l with
   |none=>exact z e
   |some o=>have:=s1 l o e;rw[hl0']at this;cases this) hy
abbrev nSt:List Str:=["_law_letters_here"]
def zix:z0n nSt ["_law_letters_here"] (z04 z4L):={}
def zad(F:Fun K "_law_stories" "_law_stories" z4L f fd):z0u P w K mg base CX 1 f fd ["_law_letters_here"] (z4Q K):=by
 refine F.okc zix (fun vs H Q E h=>?_) (fun cdv A outer s H vs Q E hr h=>?_)
 .obtain⟨n,rfl,_⟩:=h;rfl
 obtain⟨n,rfl,n2,n5,q⟩:=h;refine⟨_,z05 (z0x (z0V z27 (z2d (z00 z08 (z00 z08 (z00 z08 (z00 z08 z03))))) (z0G z5t (pv 0) z08) (fun _ _=>rfl))),?_⟩;refine⟨by show 4<=sizeLine;decide,fun tq htq=>?_⟩;exact(exA rfl (exC rfl rfl ⟨tq,_,_,V.int (z5T n),rfl,rfl,SqT.of z01,zfq n2 n5,q _ (same_up (z0c.refl H) htq)⟩))
abbrev nFS:List Str:=["_law_letters_here","_law_many","_law_found","_law_turn"]
def zhe:z0n nFS ["_law_letters_here","_law_many"] (z04 z39):={}
def zdH(F:Fun K "_law_floor_size" "_law_floor_size" z39 f fd)(mr:mg "range"=none):z0u P w K mg base CX 1 f fd ["_law_letters_here","_law_many"] (z8g K):=by
 refine F.okc zhe (fun vs H Q E h=>?_) (fun cdv A outer s H vs Q E hr h=>?_)
 .obtain⟨n,m,rfl,_⟩:=h;rfl
 obtain⟨n,m,rfl,n0,hn,hm,q⟩:=h;refine⟨_,z02 (z0b (i:=2) zhe.nd rfl (Or.inl rfl) z08)
  (z02 (z1u y0R rfl (z1A rfl mr (z00 (pv 1) z03)) (z0a (i:=3) zhe.nd rfl (Or.inl rfl))
   (z05 (z0b (i:=2) zhe.nd rfl (Or.inl rfl) (z0G z3B (pv 2) (pv 0)))))
  (z05 (z0x (pv 2)))),?_⟩
 refine(exA rfl ⟨(m:Int),rfl,by lia,by lia,z2Z (n:=(m:Int).toNat) (fun i σ H3=>∃(u3:Option V),σ=[some (.int n),some (.int m),some (.int ((n:Int)^i)),u3]/\H3=H) (exA rfl rfl) (fun i σ H3 hi h=>?_) (fun σ H3 h=>?_)⟩)
 .obtain⟨u3,rfl,t3⟩:=h;rw[Int.pow_succ];exact(exA rfl (exA rfl (exC rfl rfl ⟨Or.inr ⟨by lia,by lia⟩,exA rfl t3⟩)))
 .obtain⟨u3,rfl,t3⟩:=h;rw[y0l,t3];exact(exA rfl q)
abbrev zeD:List Str:=["first","row_at","order","places","found","rearranging","goings","going"]
def z3n:z0n zeD ["first","row_at"] (z04 z76):={}
def zbG:z1k zeD (z04 z76) ["going","places"] [none,some 3] (csc [(".0",.local),("going",.local),("places",.free)]):={}
def zdP(F:Fun K "rows_come_to" "rows_come_to" z76 f fd)(ml:mg "len"=none)(mt:mg "tuple"=none):z0u P w K mg base CX 5 f fd ["first","row_at"] (z8y P w K mg base CX 4):=by
 refine F.okc z3n (fun vs H Q E h=>?_) (fun cdv A outer s H vs Q E hr h=>?_)
 .obtain⟨a,v0,n,rows,m,rfl,_⟩:=h;rfl
 obtain⟨fa,v0,n,rows,mm,rfl,dv0,hV,G,hn,q⟩:=h;obtain⟨a0,rfl,ea0⟩:=zep dv0;have hu:=zaj hr;have hu9:(A.deeper (PyProof.Rows.envOfC "rows_come_to" (z04 z76) s.heap.objs.size f cdv)).units+9<cLine:=by have:=hr.units;lia
 refine⟨_,z02 (z0b (i:=2) z3n.nd rfl (Or.inl rfl) (z1m (z00 (pv 0) z03)))
  (z02 (z0b (i:=3) z3n.nd rfl (Or.inr rfl) (zdc (K:=K) hu9 (pv 0) z08))
  (z02 (z0b (i:=4) z3n.nd rfl (Or.inl rfl) (z1m z03))
  (z02 (z1T y0R (z0W z5K (z0i z0d rfl ml y0G (z00 (pv 4) z03)) (z0i z0d rfl ml y0G (z00 (pv 2) z03)) (z1j _))
   (z02 (z2S (za7 (CX:=CX) 1 hr (z00 (z0V z1s (pv 2) (z0i z0d rfl ml y0G (z00 (pv 4) z03)) (fun _ _=>rfl)) z03)) (z2f rfl (z0l (z0a (i:=5) z3n.nd rfl (Or.inl rfl)) (z0l (z0a (i:=6) z3n.nd rfl (Or.inl rfl)) z1g))))
   (z02 (z1u y0R rfl (z2r (pv 6)) (z0a (i:=7) z3n.nd rfl (Or.inl rfl))
    (z05 (z1M (z1J (z7y (K:=K) hu9 (pv 7) (pv 3)))
     (z02 (z8B (K:=K) hu9 (pv 3) (pv 7) (z0i z0d rfl ml y0G (z00 (pv 2) z03)))
     (z05 (z0P (z2V y0y y0A y0B z0D (pv 2) (z00 (pv 7) z03))))) z0I)))
   (z05 (z0P (z2V y0y y0A y0B z0D (pv 4) (z00 (z2d (z00 (pv 5) (z00 (z0w z0o rfl mt y0E
    (z00 (z1b rfl zbG (z2r (pv 6)) (fun _ _ _ _ _=>z0a (i:=0) zbG.nd rfl (Or.inl rfl)) (fun _ _ _ _ _=>zex P w K rfl rfl hu9 (pv 1) (pv 0) (fun _ _=>rfl))) z03)) z03))) z03)))))))
  (z05 (z0x (pv 4)))))),?_⟩
 refine(exA rfl ⟨by show 1<=sizeLine;decide,fun lo hlo=>?_⟩);have s1:=same_up (o:=HO.lst [.ref a0]) (z0c.refl H) hlo;have elo1:upd H lo (.lst [.ref a0]) lo=some (.lst [.ref a0]):=z01;generalize upd H lo (.lst [.ref a0])=H1 at s1 elo1;refine fun lp hlp ob0 g0=>(exA rfl ?_);have hlp0:H lp=none:=s1.free hlp;have nlo:lo≠lp:=z0e elo1 hlp;have s2:=same_up (o:=ob0) s1 hlp;refine⟨pr mm 0,g0,zd6 (z4l mm 0) (dv0.mono s2),fun ob g2=>⟨by show 0<=sizeLine;decide,fun lf hlf=>?_⟩⟩;have s3:z0c H (upd (upd H1 lp ob0) lp ob):=z09 s2 hlp0;have elo3:upd (upd H1 lp ob0) lp ob lo=some (.lst [.ref a0]):=by rw[z07 nlo,z07 nlo];exact elo1
 generalize upd (upd H1 lp ob0) lp ob=H2' at s3 elo3 g2 hlf;have hlf0:H lf=none:=s3.free hlf;have nlf:lo≠lf:=z0e elo3 hlf;have nlpf:lp≠lf:=by obtain⟨xs,e0,_⟩:=id g2;exact z0e e0 hlf
 have s4:=same_up (o:=HO.lst []) s3 hlf;have s24:=same_up (o:=HO.lst []) (z0c.refl H2') hlf;have OL:=z0v G;have hol:=OL.1.len;have h400:=G.few;refine⟨fun m σ H2=>∃(i:Nat)(o:List Int)(os:List V)(u1 u2 u3:Option V)(fs:List V),m=rows.length+1-i/\σ=[some (.ref a0),some (.ref fa),some (.ref lo),some (.ref lp),some (.ref lf),u1,u2,u3]/\z0c H H2/\H2 lo=some (.lst os)/\DrL K H2 (o.map (pr mm)) os/\DD P w K H2 lp (prs (pr mm) o)/\H2 lf=some (.lst fs) /\
   DrL K H2 (z0B ((z0E rows).take i)) fs/\z7g rows o/\i<=o.length/\bfs rows (rows.length+1-i) i o=z0g rows,⟨_,0,[0],[.ref a0],none,none,none,[],rfl,rfl,s4,s24 _ _ elo3,?_,g2.mono s24,z01,DrL.nil,zci G,by simp,rfl⟩,?_⟩
 .exact DrL.one (dv0.mono s4)
 rintro m σ H2 ⟨i,o,os,u1,u2,u3,fs,rfl,rfl,t2,glo,dos,glp,glf,df,L,hi,hb⟩;have hfl:fs.length=i:=by
  have:=df.length;unfold z0B at this;rw[y01,y0q]at this;obtain⟨m0,em⟩:=z3V rows (rows.length+1-i) i o;rw[hb]at em;have:(z0E rows).length=(z0g rows).length:=by unfold z0E z1D;rw[y01]
  have:o.length<=(z0g rows).length:=by rw[em,y0f];lia
  lia
 refine(exA rfl (exG lf rfl (.inl (SqL.of glf)) (exA rfl (exG lo rfl (.inl (SqL.of glo)) (exC rfl rfl (exA rfl ?_))))));have hol2:os.length=o.length:=by have:=dos.length;rw[y01]at this;lia
 refine z30 (fun c=>?_) (fun c=>?_)
 .have c':=y0V c;rw[hfl,hol2]at c';have hio:i<o.length:=by lia
  have eo:o[i]?=some o[i]:=y00 hio;have hro:o[i]∈o:=y0h hio;generalize o[i]=r at eo hro;obtain⟨r0,r1⟩:=L.rg r hro;have hrow:=z0t r0 r1;have hgl:=G.len _ hrow;have hgo:=G.go _ hrow;have hlen:=L.len;refine zeU fun N nx2=>?_;obtain⟨vo,evo,dvo⟩:=dos.get (show(o.map (pr mm))[i]?=some (pr mm r)by rw[y04,eo];rfl);refine⟨fa,z9X K rows mm,rfl,(hV.mono t2).1,exA rfl (exA rfl (exG lf rfl (.inl (SqL.of glf)) (exD lo _ _ vo rfl rfl (SqL.of glo) (z0z (by rw[hfl];exact evo)) ⟨hV.mono t2,r,vo,rfl,dvo,r0,r1,fun v Hc sc dv=>?_⟩)))⟩;obtain⟨t,b,cc,ws,rfl,et,eb,ec,dws⟩:=zdj dv;have t2:=t2.trans sc;have glo:=sc _ _ glo;have glp:=glp.mono sc;have dos:=dos.mono sc;have glf:=sc _ _ glf;have df:=df.mono sc;refine(exF t rfl (SqT.of et) rfl (exB rfl (exC rfl rfl ?_)));generalize hgs:(row rows r).2=gs at *;refine⟨_,rfl,cc,rfl,⟨_,SqT.of ec⟩,zhE (xs:=ws) (fun j σ H3=>∃(u:Option V)(oj:List V),σ=[some (.ref a0),some (.ref fa),some (.ref lo),some (.ref lp),some (.ref lf),some (.ref b),some (.ref cc),u]/\z0c H H3/\z0Z Hc H3/\H3 lo=some (.lst oj)/\DrL K H3 ((z06 o (gs.take j)).map (pr mm)) oj/\DD P w K H3 lp (prs (pr mm) (z06 o (gs.take j)))/\H3 lf=some (.lst fs))
   ⟨_,os,rfl,t2,z0Z.refl _,glo,dos,glp,glf⟩ (fun j σ H3 _ h=>by obtain⟨_,_,_,_,k3,_⟩:=h;exact SqT.of (k3 _ _ ec)) (fun j x σ H3 hx h Ed nx3=>?_) (fun σ H3 h=>?_)⟩
  .obtain⟨u,oj,rfl,t3,k3,e1,doj,g3,e3⟩:=h;have hwl:ws.length=gs.length:=by have:=dws.length;rw[y01]at this;lia
   have hjl:j<gs.length:=by have:=(y06.mp hx).1;lia
   have eg:gs[j]?=some gs[j]:=y00 hjl;obtain⟨x',ex,dx⟩:=dws.get (show(gs.map (pr mm))[j]?=some (pr mm gs[j])by rw[y04,eg];rfl);rw[hx]at ex;cases ex;generalize gs[j]=gj at eg dx;have dx3:Dr K H3 (pr mm gj) x:=dx.keyed k3 (z4l mm gj).1;have et':z06 o (gs.take (j+1))=z26 (z06 o (gs.take j)) gj:=by rw[y0D,eg];exact z1f _ _ _
   have hal:(z06 o (gs.take j)).length<=4500:=by have:=z1V (gs.take j) o;rw[y0q]at this;lia
   have hojl:oj.length=(z06 o (gs.take j)).length:=by have:=doj.length;rw[y01]at this;lia
   generalize z06 o (gs.take j)=ol at *;refine(exA rfl (exA rfl ⟨lp,_,pr mm gj,rfl,g3,zd6 (z4l mm gj) dx3,exA rfl ?_⟩));have hv:=z1X (κ:=D) (pr mm) (zc7 mm) ol gj;by_cases hm:gj∈ol
   .rw[hv,if_pos hm];refine z8e (nx3 _ _ ⟨_,oj,rfl,t3,k3,e1,?_,?_,e3⟩)
    .rw[et',z0q hm];exact doj
    .rw[et',z0q hm];exact g3
   .rw[hv,if_neg hm];refine zfJ (exA rfl (exG lo rfl (.inl (SqL.of e1)) (exA rfl (exA rfl ⟨lp,_,pr mm gj,rfl,g3,zd6 (z4l mm gj) dx3,by rw[z1R];exact z1O (by lia),fun ob g4=>?_⟩))));rw[hojl,z4T (pr mm) (zc7 mm) hm]at g4;have k4:z0Z H3 (upd H3 lp ob):=by
     obtain⟨xs,e0,_⟩:=g3;exact z0Z.up (z0Z.refl _) e0 (fun _ z=>by unfold zbQ at z;cases z)
    have e1':upd H3 lp ob lo=some (.lst oj):=by rw[z07 nlo];exact e1
    have k5:z0Z (upd H3 lp ob) (upd (upd H3 lp ob) lo (.lst (oj++[x]))):=z0Z.up (z0Z.refl _) e1' (fun _ z=>by cases z);refine(exA rfl ⟨.inl ⟨rfl,_,SqL.of e1'⟩,exA rfl ⟨lo,exC rfl rfl ⟨e1',z1O (by lia),?_⟩⟩⟩);refine nx3 _ _ ⟨_,oj++[x],rfl,z09 (z09 t3 hlp0) hlo,k3.trans (k4.trans k5),z01,?_,?_,?_⟩
    .rw[et',z0r hm,y0d];exact DrL.append (doj.keyed (k4.trans k5) (z6O mm _)) (DrL.one (dx3.keyed (k4.trans k5) (z4l mm gj).1))
    .rw[et',z0r hm];exact DD.keyed g4 k5 (by rw[z07 nlo.symm])
    .rw[z07 nlf.symm,z07 nlpf.symm];exact e3
  .obtain⟨u,oj,rfl,t3,k3,e1,doj,e2,e3⟩:=h;have hwl:ws.length=gs.length:=by have:=dws.length;rw[y01]at this;lia
   rw[hwl,y0O]at doj e2;obtain⟨m0,em⟩:=z3V rows (rows.length+1-(i+1)) (i+1) (z06 o gs);have hb':bfs rows (rows.length+1-(i+1)) (i+1) (z06 o gs)=z0g rows:=by rw[<-hb,show rows.length+1-i=(rows.length+1-(i+1))+1 by lia,z3u eo,hgs]
   rw[hb']at em;have L':z7g rows (z06 o gs):=by rw[<-hgs];exact L.add G hro
   obtain⟨m1,em1⟩:=z0A gs o;have hoi:(z0g rows)[i]?=some r:=by rw[em,em1,y0p,y0F hio];exact eo
   have hi':i+1<=(z06 o gs).length:=by rw[em1,y0f];lia
   have hmem:∀g∈gs,g∈z06 o gs:=fun g hg=>z0k.mpr (.inr hg);have efound:(z0E rows).take (i+1)=(z0E rows).take i++[((row rows r).1,gs.map fun g=>(((z06 o gs).idxOf g:Nat):Int))]:=by
    have e4:(z0E rows)[i]?=some ((row rows r).1,gs.map fun g=>(((z06 o gs).idxOf g:Nat):Int)):=by unfold z0E z1D;rw[y04,hoi];show some ((row rows r).1,(row rows r).2.map fun g=>(((z0g rows).idxOf g:Nat):Int))=_;rw[hgs];congr 2;refine y0L fun g hg=>?_;rw[em,z5r (hmem g hg)]
    rw[y0D,e4];rfl
   generalize z06 o gs=o' at *;refine(exA rfl ⟨.inl ⟨rfl,_,SqL.of e3⟩,exA rfl (exA rfl ⟨cc,rfl,⟨_,SqT.of (k3 _ _ ec)⟩,fun l4 hl4=>z2a (xs:=ws) (fun j ys H4=>j<=gs.length/\ys=((gs.take j).map fun g=>((o'.idxOf g:Nat):Int)).map V.int/\z0c H3 H4) ⟨y0K _,rfl,same_up (z0c.refl H3) hl4⟩ (fun j ys H4 _ h=>SqT.of (h.2.2 _ _ (k3 _ _ ec))) (by rw[hwl];exact z0U (by lia)) (fun j ys H4 h=>?_) (fun j x ys H4 hx h hy=>?_) (fun ys H4 h hy=>?_)⟩)⟩)
   .obtain⟨hj,rfl,_⟩:=h;rw[y01,y01,y0q];lia
   .obtain⟨hj,rfl,s4⟩:=h;have hjl:j<gs.length:=by have:=(y06.mp hx).1;lia
    have eg:gs[j]?=some gs[j]:=y00 hjl;have hgm:=hmem _ (y0h hjl);obtain⟨x',ex,dx⟩:=dws.get (show(gs.map (pr mm))[j]?=some (pr mm gs[j])by rw[y04,eg];rfl);rw[hx]at ex;cases ex;generalize gs[j]=gj at eg hgm dx;have dx4:Dr K H4 (pr mm gj) x:=(dx.keyed k3 (z4l mm gj).1).mono s4;have hv:=z1X (κ:=D) (pr mm) (zc7 mm) o' gj;rw[if_pos hgm]at hv;refine(exA rfl (exA rfl ⟨lp,_,pr mm gj,exA rfl ⟨e2.mono s4,zd6 (z4l mm gj) dx4,hv,hy,hjl,?_,z09 s4 hl4⟩⟩));rw[z1a _ eg,y0d];rfl
   .obtain⟨_,rfl,s4⟩:=h;rw[hwl,y0O]at hy;refine⟨l4,exA rfl (.inl ⟨SqL.of hy,fun t4 ht4=>⟨by show 2<=sizeLine;decide,fun t5 ht5=>?_⟩⟩)⟩;have s5:=same_up (o:=HO.tup ((gs.map fun g=>((o'.idxOf g:Nat):Int)).map V.int)) s4 ht4;have s6:=same_up (o:=HO.tup [.ref b,.ref t4]) s5 ht5;have e3':=s6 _ _ e3;refine⟨lf,fs,.ref t5,rfl,rfl,e3',by rw[hfl];exact z1O (by lia),?_⟩;have kk:z0Z Hc (upd (upd (upd H4 t4 (.tup ((gs.map fun g=>((o'.idxOf g:Nat):Int)).map V.int))) t5 (.tup [.ref b,.ref t4])) lf (.lst (fs++[.ref t5]))):=z0Z.up (k3.trans (z0Z.of s6)) e3' (fun _ z=>by cases z);have kk':=z0Z.up (u:=HO.lst (fs++[.ref t5])) (z0Z.refl (upd (upd H4 t4 (.tup ((gs.map fun g=>((o'.idxOf g:Nat):Int)).map V.int))) t5 (.tup [.ref b,.ref t4]))) e3' (fun _ z=>by cases z);have nt5:t5≠lf:=z47 z01 e3' (by intro z;cases z);have nt4:t4≠t5:=z0e z01 ht5;have nt4f:t4≠lf:=z47 (show upd (upd H4 t4 (.tup ((gs.map fun g=>((o'.idxOf g:Nat):Int)).map V.int))) t5 (.tup [.ref b,.ref t4]) t4=some (.tup ((gs.map fun g=>((o'.idxOf g:Nat):Int)).map V.int))by rw[z07 nt4];exact z01) e3' (by intro z;cases z);refine nx2 (rows.length+1-(i+1)) _ _ (by lia) ⟨i+1,o',oj,_,_,_,fs++[.ref t5],rfl,rfl,z09 (t3.trans s6) hlf0,?_,?_,?_,z01,?_,L',hi',hb'⟩
    .rw[z07 nlf];exact s6 _ _ e1
    .exact(doj.mono s6).keyed kk' (z6O mm _)
    .exact DD.keyed (e2.mono s6) kk' (by rw[z07 nlpf])
    .rw[efound];unfold z0B;rw[y0d];refine DrL.append (df.keyed kk (z2x _)) (DrL.one (z4a (b:=b) (c:=t4) ?_ (kk _ _ eb) ?_))
     .rw[z07 nt5];exact z01
     .rw[z07 nt4f,z07 nt4];exact z01
 .have c':=y16 (y14.mpr c);rw[hfl,hol2]at c';have e:z0g rows=o:=by rw[<-hb];exact z3x (by lia)
  have e2:(z0E rows).take i=z0E rows:=y0x (by unfold z0E z1D;rw[y01,e];lia);rw[e2]at df;exact(exA rfl (q lf H2 t2 ⟨fs,glf,df⟩))
abbrev zeO:List Str:=["first","row_at","order","places","found","rearranging","goings","going"]
def z3p:z0n zeO ["first","row_at"] (z04 z76):={}
def zbf:z1k zeO (z04 z76) ["going","places"] [none,some 3] (csc [(".0",.local),("going",.local),("places",.free)]):={}
def zeg(F:Fun K "rows_come_to" "rows_come_to" z76 f fd)(ml:mg "len"=none)(mt:mg "tuple"=none):z0u P w K mg base CX 5 f fd ["first","row_at"] (z8Z P w K mg base CX 4):=by
 refine F.okc z3p (fun vs H Q E h=>?_) (fun cdv A outer s H vs Q E hr h=>?_)
 .obtain⟨a,n,rows,nm,rfl,_⟩:=h;rfl
 obtain⟨fa,n,rows,nm,rfl,ni,hV,G,hn,q⟩:=h;have hu:=zaj hr;refine⟨_,z02 (z0b (i:=2) z3p.nd rfl (Or.inl rfl) (z1m (z00 (pv 0) z03)))
  (z02 (z0b (i:=3) z3p.nd rfl (Or.inr rfl) (z8I (z4G (pv 0) z08 z7d) rfl rfl (by simp) (by decide)))
  (z02 (z0b (i:=4) z3p.nd rfl (Or.inl rfl) (z1m z03))
  (z02 (z1T y0R (z0W z5K (z0i z0d rfl ml y0G (z00 (pv 4) z03)) (z0i z0d rfl ml y0G (z00 (pv 2) z03)) (z1j _))
   (z02 (z2S (za7 (CX:=CX) 1 hr (z00 (z0V z1s (pv 2) (z0i z0d rfl ml y0G (z00 (pv 4) z03)) (fun _ _=>rfl)) z03)) (z2f rfl (z0l (z0a (i:=5) z3p.nd rfl (Or.inl rfl)) (z0l (z0a (i:=6) z3p.nd rfl (Or.inl rfl)) z1g))))
   (z02 (z1u y0R rfl (z2r (pv 6)) (z0a (i:=7) z3p.nd rfl (Or.inl rfl))
    (z05 (z1M (z1J (z2X hu (pv 7) (pv 3)))
     (z02 (z4e hu (pv 3) (pv 7) (z0i z0d rfl ml y0G (z00 (pv 2) z03)) rfl)
     (z05 (z0P (z2V y0y y0A y0B z0D (pv 2) (z00 (pv 7) z03))))) z0I)))
   (z05 (z0P (z2V y0y y0A y0B z0D (pv 4) (z00 (z2d (z00 (pv 5) (z00 (z0w z0o rfl mt y0E
    (z00 (z1b rfl zbf (z2r (pv 6)) (fun _ _ _ _ _=>z0a (i:=0) zbf.nd rfl (Or.inl rfl)) (fun _ _ _ _ _=>z3k hu (pv 1) (pv 0) (fun _ _=>rfl))) z03)) z03))) z03)))))))
  (z05 (z0x (pv 4)))))),?_⟩
 refine(exA rfl ⟨by show 1<=sizeLine;decide,fun lo hlo=>fun lp hlp=>(exA rfl ⟨z01,[(Sum.inl (nm 0),V.int 0)],rfl,by simp,by show 0<=sizeLine;decide,fun lf hlf=>?_⟩)⟩);have s1:z0c H (upd H lo (.lst [.int (nm 0)])):=same_up (z0c.refl H) hlo;have hlp0:H lp=none:=s1.free hlp;have nlo:lo≠lp:=z0e z01 hlp;have s2:z0c H (upd (upd (upd H lo (.lst [.int (nm 0)])) lp (.dK [])) lp (.dK (z3S [] [(Sum.inl (nm 0),V.int 0)]))):=z09 (same_up s1 hlp) hlp0;have hlf0:H lf=none:=s2.free hlf;have nlf:lo≠lf:=z0e (show upd (upd (upd H lo (.lst [.int (nm 0)])) lp (.dK [])) lp (.dK (z3S [] [(Sum.inl (nm 0),V.int 0)])) lo=_ by rw[z07 nlo,z07 nlo];exact z01) hlf;have nlpf:lp≠lf:=z0e z01 hlf;have s3:=same_up (o:=HO.lst []) s2 hlf;have OL:=z0v G;have hol:=OL.1.len;have h400:=G.few;refine⟨fun m σ H2=>∃(i:Nat)(o:List Int)(u1 u2 u3:Option V)(fs:List V),m=rows.length+1-i/\σ=[some (.int (nm 0)),some (.ref fa),some (.ref lo),some (.ref lp),some (.ref lf),u1,u2,u3]/\z0c H H2/\H2 lo=some (.lst (o.map (nV nm)))/\H2 lp=some (.dK (prs (kN nm) o))/\H2 lf=some (.lst fs) /\
   DrL K H2 (z0B ((z0E rows).take i)) fs/\z7g rows o/\i<=o.length/\bfs rows (rows.length+1-i) i o=z0g rows,⟨_,0,[0],none,none,none,[],rfl,rfl,s3,?_,?_,z01,DrL.nil,zci G,by simp,rfl⟩,?_⟩
 .rw[z07 nlf,z07 nlo,z07 nlo];exact z01
 .rw[z07 nlpf];exact z01
 rintro m σ H2 ⟨i,o,u1,u2,u3,fs,rfl,rfl,t2,glo,glp,glf,df,L,hi,hb⟩;have hfl:fs.length=i:=by
  have:=df.length;unfold z0B at this;rw[y01,y0q]at this;obtain⟨mm,em⟩:=z3V rows (rows.length+1-i) i o;rw[hb]at em;have:(z0E rows).length=(z0g rows).length:=by unfold z0E z1D;rw[y01]
  have:o.length<=(z0g rows).length:=by rw[em,y0f];lia
  lia
 refine(exA rfl (exG lf rfl (.inl (SqL.of glf)) (exA rfl (exG lo rfl (.inl (SqL.of glo)) (exC rfl rfl (exA rfl ?_))))));have hol2:(o.map (nV nm)).length=o.length:=y01 _;refine z30 (fun c=>?_) (fun c=>?_)
 .have c':=y0V c;rw[hfl,hol2]at c';have hio:i<o.length:=by lia
  have eo:o[i]?=some o[i]:=y00 hio;have hro:o[i]∈o:=y0h hio;generalize o[i]=r at eo hro;obtain⟨r0,r1⟩:=L.rg r hro;have hrow:=z0t r0 r1;have hgl:=G.len _ hrow;have hgo:=G.go _ hrow;have hlen:=L.len;refine zeU fun N nx2=>?_;refine⟨fa,zdG K rows nm,rfl,(hV.mono t2).1,exA rfl (exA rfl (exG lf rfl (.inl (SqL.of glf)) (exD lo _ _ (V.int (nm r)) rfl rfl (SqL.of glo) (z0z (by rw[y04,hfl,eo];rfl)) ⟨hV.mono t2,r,rfl,r0,r1,fun v Hc sc dv=>?_⟩)))⟩;obtain⟨t,b,cc,rfl,et,eb,ec⟩:=z1c dv;have t2:=t2.trans sc;have glo:=sc _ _ glo;have glp:=sc _ _ glp;have glf:=sc _ _ glf;have df:=df.mono sc;refine(exF t rfl (SqT.of et) rfl (exB rfl (exC rfl rfl ?_)));unfold zdM at eb ec;simp only at eb ec;generalize hgs:(row rows r).2=gs at *;refine⟨_,rfl,cc,rfl,⟨_,SqT.of ec⟩,zhE (xs:=(gs.map nm).map V.int) (fun j σ H3=>∃u:Option V,σ=[some (.int (nm 0)),some (.ref fa),some (.ref lo),some (.ref lp),some (.ref lf),some (.ref b),some (.ref cc),u]/\z0c H H3/\z0Z Hc H3/\H3 lo=some (.lst ((z06 o (gs.take j)).map (nV nm)))/\H3 lp=some (.dK (prs (kN nm) (z06 o (gs.take j))))/\H3 lf=some (.lst fs))
   ⟨_,rfl,t2,z0Z.refl _,glo,glp,glf⟩ (fun j σ H3 _ h=>by obtain⟨_,_,_,k3,_⟩:=h;exact SqT.of (k3 _ _ ec)) (fun j x σ H3 hx h Ed nx3=>?_) (fun σ H3 h=>?_)⟩
  .obtain⟨u,rfl,t3,k3,e1,e2,e3⟩:=h;have hjl:j<gs.length:=by have:=(y06.mp hx).1;rwa [y01,y01]at this
   have eg:gs[j]?=some gs[j]:=y00 hjl;generalize gs[j]=gj at eg;have ex:x=V.int (nm gj):=by rw[y04,y04,eg]at hx;exact(y08 hx).symm
   subst ex;have et':z06 o (gs.take (j+1))=z26 (z06 o (gs.take j)) gj:=by rw[y0D,eg];exact z1f _ _ _
   have hal:(z06 o (gs.take j)).length<=4500:=by have:=z1V (gs.take j) o;rw[y0q]at this;lia
   generalize z06 o (gs.take j)=oj at *;refine(exA rfl (exA rfl ⟨lp,exA rfl ⟨z5C.k (k:=kN nm gj) e2,exA rfl ?_⟩⟩));have hv:=z1X (κ:=Key) (kN nm) (zcu ni) oj gj;by_cases hm:gj∈oj
   .rw[hv,if_pos hm];refine z8e (nx3 _ _ (exA rfl ⟨t3,k3,?_,?_,e3⟩))
    .rw[et',z0q hm];exact e1
    .rw[et',z0q hm];exact e2
   .rw[hv,if_neg hm];have nlop:lo≠lp:=z47 e1 e2 (by intro z;cases z);refine zfJ (exA rfl (exG lo rfl (.inl (SqL.of e1)) (exA rfl (exA rfl ⟨lp,exA rfl ⟨zd5.k (k:=kN nm gj) e2 (by rw[z1R];exact z1O (by lia)),?_⟩⟩))));have e1':upd H3 lp (.dK (z2K (prs (kN nm) oj) (kN nm gj) (V.int ((oj.map (nV nm)).length:Nat)))) lo=some (.lst (oj.map (nV nm))):=by rw[z07 nlop];exact e1
    refine(exA rfl ⟨.inl ⟨rfl,_,SqL.of e1'⟩,exA rfl ⟨lo,exC rfl rfl ⟨e1',by rw[y01];exact z1O (by lia),?_⟩⟩⟩);refine nx3 _ _ (exA rfl ⟨z09 (z09 t3 hlp0) hlo,z0Z.up (z0Z.up k3 e2 (fun _ z=>by cases z)) e1' (fun _ z=>by cases z),?_,?_,?_⟩)
    .rw[z01,et',z0r hm,y0d];rfl
    .rw[z07 nlop.symm,z01,et',z0r hm,y01,z4T (kN nm) (zcu ni) hm]
    .rw[z07 nlf.symm,z07 nlpf.symm];exact e3
  .obtain⟨u,rfl,t3,k3,e1,e2,e3⟩:=h;rw[y01,y01,y0O]at e1 e2;obtain⟨mm,em⟩:=z3V rows (rows.length+1-(i+1)) (i+1) (z06 o gs);have hb':bfs rows (rows.length+1-(i+1)) (i+1) (z06 o gs)=z0g rows:=by
    rw[<-hb,show rows.length+1-i=(rows.length+1-(i+1))+1 by lia,z3u eo,hgs]
   rw[hb']at em;have L':z7g rows (z06 o gs):=by rw[<-hgs];exact L.add G hro
   obtain⟨m1,em1⟩:=z0A gs o;have hoi:(z0g rows)[i]?=some r:=by rw[em,em1,y0p,y0F hio];exact eo
   have hi':i+1<=(z06 o gs).length:=by rw[em1,y0f];lia
   have hmem:∀g∈gs,g∈z06 o gs:=fun g hg=>z0k.mpr (.inr hg);have efound:(z0E rows).take (i+1)=(z0E rows).take i++[((row rows r).1,gs.map fun g=>(((z06 o gs).idxOf g:Nat):Int))]:=by
    have e4:(z0E rows)[i]?=some ((row rows r).1,gs.map fun g=>(((z06 o gs).idxOf g:Nat):Int)):=by unfold z0E z1D;rw[y04,hoi];show some ((row rows r).1,(row rows r).2.map fun g=>(((z0g rows).idxOf g:Nat):Int))=_;rw[hgs];congr 2;refine y0L fun g hg=>?_;rw[em,z5r (hmem g hg)]
    rw[y0D,e4];rfl
   generalize z06 o gs=o' at *;refine(exA rfl ⟨.inl ⟨rfl,_,SqL.of e3⟩,exA rfl (exA rfl ⟨cc,rfl,⟨_,SqT.of (k3 _ _ ec)⟩,fun l4 hl4=>z2a (xs:=(gs.map nm).map V.int) (fun j ys H4=>j<=gs.length/\ys=((gs.take j).map fun g=>((o'.idxOf g:Nat):Int)).map V.int/\z0c H3 H4) ⟨y0K _,rfl,same_up (z0c.refl H3) hl4⟩ (fun j ys H4 _ h=>SqT.of (h.2.2 _ _ (k3 _ _ ec))) (by rw[y01,y01];exact z0U (by lia)) (fun j ys H4 h=>?_) (fun j x ys H4 hx h hy=>?_) (fun ys H4 h hy=>?_)⟩)⟩)
   .obtain⟨hj,rfl,_⟩:=h;rw[y01,y01,y0q];lia
   .obtain⟨hj,rfl,s4⟩:=h;have hjl:j<gs.length:=by have:=(y06.mp hx).1;rwa [y01,y01]at this
    have eg:gs[j]?=some gs[j]:=y00 hjl;have hgm:=hmem _ (y0h hjl);generalize gs[j]=gj at eg hgm;have ex:x=V.int (nm gj):=by rw[y04,y04,eg]at hx;exact(y08 hx).symm
    subst ex;have hv:=z1X (κ:=Key) (kN nm) (zcu ni) o' gj;rw[if_pos hgm]at hv;refine(exA rfl (exA rfl ⟨lp,exA rfl ⟨(by rw[<-hv];exact z5C.k (k:=kN nm gj) (s4 _ _ e2)),hy,hjl,?_,z09 s4 hl4⟩⟩));rw[z1a _ eg,y0d];rfl
   .obtain⟨_,rfl,s4⟩:=h;rw[y01,y01,y0O]at hy;refine⟨l4,exA rfl (.inl ⟨SqL.of hy,fun t4 ht4=>⟨by show 2<=sizeLine;decide,fun t5 ht5=>?_⟩⟩)⟩;have s5:=same_up (o:=HO.tup ((gs.map fun g=>((o'.idxOf g:Nat):Int)).map V.int)) s4 ht4;have s6:=same_up (o:=HO.tup [.ref b,.ref t4]) s5 ht5;have e3':=s6 _ _ e3;refine⟨lf,fs,.ref t5,rfl,rfl,e3',by rw[hfl];exact z1O (by lia),?_⟩;have kk:z0Z Hc (upd (upd (upd H4 t4 (.tup ((gs.map fun g=>((o'.idxOf g:Nat):Int)).map V.int))) t5 (.tup [.ref b,.ref t4])) lf (.lst (fs++[.ref t5]))):=z0Z.up (k3.trans (z0Z.of s6)) e3' (fun _ z=>by cases z);have nt5:t5≠lf:=z47 z01 e3' (by intro z;cases z);have nt4:t4≠t5:=z0e z01 ht5;have nt4f:t4≠lf:=z47 (show upd (upd H4 t4 (.tup ((gs.map fun g=>((o'.idxOf g:Nat):Int)).map V.int))) t5 (.tup [.ref b,.ref t4]) t4=some (.tup ((gs.map fun g=>((o'.idxOf g:Nat):Int)).map V.int))by rw[z07 nt4];exact z01) e3' (by intro z;cases z);refine nx2 (rows.length+1-(i+1)) _ _ (by lia) ⟨i+1,o',_,_,_,fs++[.ref t5],rfl,rfl,z09 (t3.trans s6) hlf0,?_,?_,z01,?_,L',hi',hb'⟩
    .rw[z07 nlf];exact s6 _ _ e1
    .rw[z07 nlpf];exact s6 _ _ e2
    .rw[efound];unfold z0B;rw[y0d];refine DrL.append (df.keyed kk (z2x _)) (DrL.one (z4a (b:=b) (c:=t4) ?_ (kk _ _ eb) ?_))
     .rw[z07 nt5];exact z01
     .rw[z07 nt4f,z07 nt4];exact z01
 .have c':=y16 (y14.mpr c);rw[hfl,hol2]at c';have e:z0g rows=o:=by rw[<-hb];exact z3x (by lia)
  have e2:(z0E rows).take i=z0E rows:=y0x (by unfold z0E z1D;rw[y01,e];lia);rw[e2]at df;exact(exA rfl (q lf H2 t2 ⟨fs,glf,df⟩))
def z52:z0n ["rows","kinds","count"] ["rows"] (z04 z62):={}
def z6z:z1k ["rows","kinds","count"] (z04 z62) ["rearranging","goings"] [none,none] (csc [(".0",.local),("rearranging",.local),("goings",.local)]):={}
def z4E:z1k ["rows","kinds","count"] (z04 z62) ["kind","rearranging","goings","kinds"] [none,none,none,some 1] (csc [(".0",.local),("kind",.local),("rearranging",.local),("goings",.local),("kinds_gone_to",.globalImplicit),("kinds",.free)]):={}
def zc5{k Ct:Addr}{kd:FuncData}{tm:Tok}{bmB:List Value}{B newId initId:String}(mC:mg "TooMany"=some (.ref Ct))(xC:PySem.W.excIn K Ct bmB newId=true)(hB:ExcBaseFacts B newId initId bmB)(F:Fun K "kinds_of_rows" "kinds_of_rows" z62 f fd)(mz:mg "zip"=none)(mx:mg "max"=none)(mM:mg "MOST_FORM_ROWS"=some (.int 60 tm))(G:z0u P w K mg base (CXx P w) 1 g gd ["things"] (z44 K))(bG:z0j K gd ["things"] [])(kG:PySem.W.keepIn K (.ref g)=true)(mG:mg "numbered"=some (.ref g))(T:z0u P w K mg base (CXx P w) 1 k kd ["kinds","goings"] (z9h K))(bT:z0j K kd ["kinds","goings"] [])(kT:PySem.W.keepIn K (.ref k)=true)(mT:mg "kinds_gone_to"=some (.ref k)):z0u P w K mg base (CXx P w) 2 f fd ["rows"] (z6r K Ct):=by
 refine F.okx z52 (fun vs H Q E h=>?_) (fun cdv A outer s H vs Q E hr h=>?_)
 .obtain⟨a,n,rows,rfl,_⟩:=h;rfl
 obtain⟨a,n,rows,rfl,⟨us,ea,da⟩,GF,hn,q,qx⟩:=h;have h400:=GF.few;refine⟨_,z02 (z0b (i:=1) z52.nd rfl (Or.inr rfl) (z0f G hr rfl mG kG bG .nil z0K (z00 (z1b rfl z6z (z1x (pv 0)) (fun _ _ _ _ _=>pgT K (n:=2) rfl rfl (z0l (z0a (i:=0) z6z.nd rfl (Or.inl rfl)) (z0l (z0a (i:=1) z6z.nd rfl (Or.inl rfl)) z1g))) (fun _ _ _ _ _=>pv 0)) z03)))
  (z02 (z0b (i:=2) z52.nd rfl (Or.inl rfl) z08)
  (z02 (z1T y2D (z0W z5K (pv 2) (z0G z21 (z0i (zig K rfl rfl) rfl mx y3O (z00 (pv 1) z03)) z08) (z1j _))
   (z02 (z0b (i:=2) z52.nd rfl (Or.inl rfl) (z0G z21 (z0i (zig K rfl rfl) rfl mx y3O (z00 (pv 1) z03)) z08))
   (z02 (z1M (z0W zbc (pv 2) (z8N (v:=.int 60) rfl mM ⟨_,rfl⟩) (z1j _)) (z05 (z36 mC rfl xC hB z6h)) z0I)
   (z05 (z0b (i:=1) z52.nd rfl (Or.inr rfl) (z0f G hr rfl mG kG bG .nil z0K (z00 (z1b rfl z4E (zhm K rfl rfl mz (z00 (pv 1) (z00 (pv 0) z03)))
    (fun _ _ _ _ _=>pgT K (n:=2) rfl rfl (z0l (z0a (i:=0) z4E.nd rfl (Or.inl rfl)) (z0l (pgT K (n:=2) rfl rfl (z0l (z0a (i:=1) z4E.nd rfl (Or.inl rfl)) (z0l (z0a (i:=2) z4E.nd rfl (Or.inl rfl)) z1g))) z1g)))
    (fun _ _ _ _ _=>z2d (z00 (pv 0) (z00 (z0f T hr rfl mT kT bT .nil z0K (z00 (pv 3) (z00 (pv 2) z03))) z03)))) z03)))))))
  (z05 (z0x (pv 1))))),?_⟩
 have hul:us.length=rows.length:=by have:=da.length;unfold z0B at this;rw[y01]at this;exact this.symm
 have hrs:=GF.some;refine(exA rfl ⟨a,rfl,⟨_,SqL.of ea⟩,fun l1 hl1=>z1Y (xs:=us) (fun i ys H2=>i<=us.length/\ys.length=i/\z0c H H2/\DrL K H2 ((rows.take i).map fun r=>D.its r.1) ys) ⟨y0K _,rfl,same_up (z0c.refl H) hl1,DrL.nil⟩ (fun i ys H2 _ h=>SqL.of (h.2.2.1 _ _ ea)) (z0U (by lia)) (fun i ys H2 h=>h.2.1) (fun i x ys H2 hx h hy=>?_) (fun ys H2 h hy=>?_)⟩)
 .obtain⟨hi,hyl,s2,d2⟩:=h;have hil:i<us.length:=(y06.mp hx).1;have er:rows[i]?=some rows[i]:=y00 (by lia);obtain⟨x',ex,dx⟩:=z2M da er;rw[hx]at ex;cases ex;generalize rows[i]=ri at er dx;obtain⟨t,b,c,rfl,et,eb,ec⟩:=z1c (dx.mono s2);refine(exF t rfl (SqT.of et) rfl (exB rfl (exC rfl rfl (exA rfl ⟨hy,hil,by rw[y0f,hyl];rfl,z09 s2 hl1,?_⟩))));rw[z1a _ er];have kk:z0Z H2 (upd H2 l1 (.lst (ys++[.ref b]))):=z0Z.up (z0Z.refl _) hy (fun _ z=>by cases z);exact DrL.append (d2.keyed kk (by have:=z9R ((rows.take i).map (·.1));rw[y1h]at this;exact this)) (DrL.one (Dr.tup (kk _ _ eb) (DrL.ints _)))
 obtain⟨_,hyl,s2,d2⟩:=h;rw[y0x (by lia)]at d2;have e1:(rows.map fun r=>D.its r.1)=(rows.map (·.1)).map D.its:=by rw[y1h];rfl
 rw[e1]at d2;refine⟨l1,ys,exA rfl ⟨hy,d2,fun d hd=>?_,by rw[y01,y01];lia,fun l2 H3 s3 e3=>?_⟩⟩
 .obtain⟨p,_,rfl⟩:=y0a.mp hd;exact⟨z3r p,by rw[zc4];decide,_,rfl⟩
 rw[z9g D.its (fun _ _=>z8r)]at e3;have K0:=zeF GF;refine⟨fun m σ H4=>∃(c:Int)(ks:List Int)(l:Addr),σ=[some (.ref a),some (.ref l),some (.int c)]/\z0c H H4/\H4 l=some (.lst (ks.map V.int))/\z5J rows ks/\zbM rows ks/\(c=0\/c<=60)/\0<=c/\(rows.length:Int)+1<=m+c/\z5k rows m c ks=z2J rows,
  ⟨rows.length+1,0,_,l2,rfl,s2.trans s3,e3,K0,zgR rows,.inl rfl,y1u _,by lia,rfl⟩,?_⟩
 rintro m σ H4 ⟨c,ks,l,rfl,t4,e4,GK,NK,hc6,hc0,hm,hk⟩;obtain⟨x1,x2⟩:=z8S (zgu GF GK) fun k hk=>(GK.rg k hk).1;obtain⟨c1,c2⟩:=zgF (zgu GF GK) GK.rg;have ec:cnt ks-1+1=cnt ks:=by lia
 refine(exA rfl (exA rfl ⟨l,ks,cnt ks-1,rfl,SqL.of e4,x1,x2,exC rfl rfl (exC rfl rfl (exA rfl ?_))⟩));refine z30 (fun cc=>?_) (fun cc=>?_)
 .have c':=y0V cc;rw[ec]at c';refine zeU fun N nx2=>?_;refine(exA rfl ⟨l,ks,cnt ks-1,rfl,SqL.of e4,x1,x2,exC rfl rfl (exA rfl (exC rfl rfl (exA rfl ?_)))⟩);have hmono:=z5O GF m c ks NK GK;rw[hk]at hmono;refine z30 (fun cc2=>?_) (fun cc2=>?_)
  .have c'':=y0V cc2;exact fun ea=>qx (by lia) ea H4 t4
  have c60:=y16 (y14.mpr cc2);have hkl:=GK.len;have hsl:=z7M GK;have hn400:=GF.few;refine(exA rfl (exA rfl ⟨l,a,rfl,⟨_,SqL.of e4⟩,⟨_,SqL.of (t4 _ _ ea)⟩,fun l5 hl5=>zdZ (xs:=ks.map V.int) (zs:=us) (by rw[y01];lia) (fun i ys H5=>i<=rows.length/\ys.length=i/\z0c H4 H5/\DrL K H5 (((z3e ks rows).take i).map z5H) ys) ⟨y0K _,rfl,same_up (z0c.refl H4) hl5,DrL.nil⟩ (fun i ys H5 _ h=>⟨SqL.of (h.2.2.1 _ _ e4),SqL.of (h.2.2.1 _ _ (t4 _ _ ea))⟩) (by rw[y01];exact z0U (by lia)) (fun i ys H5 h=>h.2.1) (fun i x y p ys H5 hx hz h hy hp=>?_) (fun ys H5 h hy=>?_)⟩))
  .obtain⟨hi,hyl,s5,d5⟩:=h;have hil:i<rows.length:=by have:=(y06.mp hz).1;lia
   have er:rows[i]?=some rows[i]:=y00 hil;have ek:ks[i]?=some ks[i]:=y00 (by lia);have hrm:rows[i]∈rows:=y0h hil;obtain⟨y',ey,dy⟩:=z2M da er;rw[hz]at ey;cases ey;have es:(z3e ks rows)[i]?=some (ks[i],rows[i].2.map fun g=>ks.getD g.toNat 0):=by unfold z3e;rw[y04,y1C (z:=(ks[i],rows[i])) |>.mpr ⟨ek,er⟩];rfl
   generalize rows[i]=ri at er dy es hrm;generalize ks[i]=ki at ek es;have ex:x=V.int ki:=by rw[y04,ek]at hx;exact(y08 hx).symm
   subst ex;have sp:z0c H (upd H5 p (.tup [V.int ki,y])):=(t4.trans s5).trans (same_up (z0c.refl H5) hp);have sp5:z0c H5 (upd H5 p (.tup [V.int ki,y])):=same_up (z0c.refl H5) hp;obtain⟨t,b,c,rfl,et,eb,ec⟩:=z1c (dy.mono sp);refine(exF p rfl (SqT.of z01) rfl (exB rfl (exB rfl (exF t rfl (SqT.of et) rfl (exB rfl (exC rfl rfl ⟨rfl,exA rfl (exA rfl (exA rfl ⟨l,.ref c,ks,ri.2,rfl,sp5 _ _ (s5 _ _ e4),Dr.tup ec (DrL.ints _),fun g hg=>by rw[hkl];exact GF.go ri hrm g hg,by rw[GF.len ri hrm];lia,fun v H6 s6 dv=>⟨by show 2<=sizeLine;decide,fun t7 ht7=>?_⟩⟩))⟩))))));have s67:=same_up (o:=HO.tup [V.int ki,v]) s6 ht7;have hy7:=s67 _ _ (sp5 _ _ hy);refine⟨hy7,hil,by rw[y0f,hyl];rfl,z09 (s5.trans (sp5.trans s67)) hl5,?_⟩;rw[z1a _ es];have kk:z0Z H5 (upd (upd H6 t7 (.tup [V.int ki,v])) l5 (.lst (ys++[.ref t7]))):=z0Z.up (z0Z.of (sp5.trans s67)) hy7 (fun _ z=>by cases z);have k6:z0Z H6 (upd (upd H6 t7 (.tup [V.int ki,v])) l5 (.lst (ys++[.ref t7]))):=z0Z.up (z0Z.of (same_up (z0c.refl H6) ht7)) hy7 (fun _ z=>by cases z);have nt7:t7≠l5:=z47 z01 hy7 (by intro z;cases z);refine DrL.append (d5.keyed kk (z7x _)) (DrL.one ?_);exact Dr.tup (vs:=[V.int ki,v]) (by rw[z07 nt7];exact z01) (DrL.cons (Dr.int ki) (DrL.one (dv.keyed k6 (z3r _))))
  obtain⟨_,hyl5,s5,d5⟩:=h;rw[y01,hkl,y0x (by lia)]at d5;refine⟨l5,ys,exA rfl ⟨hy,d5,fun d hd=>?_,by rw[y01];lia,fun l6 H6 s6 e6=>?_⟩⟩
  .obtain⟨p,_,rfl⟩:=y0a.mp hd;exact⟨z93 p,zdt p,_,rfl⟩
  rw[z9g z5H zcj]at e6;cases m with
  |zero=>lia
  |succ m =>
   refine nx2 m _ _ (Nat.lt_succ_self m) ⟨cnt ks,_,l6,(by show[some (V.ref a),some (V.ref l6),some (V.int (cnt ks-1+1))]=_;rw[ec]),(t4.trans s5).trans s6,e6,zcU GK,zeL hkl,.inr (by lia),by lia,by lia,?_⟩;rw[<-hk];exact(if_pos c').symm
 .have c':=y16 (y14.mpr cc);rw[ec]at c';have hkk:z2J rows=ks:=by
   rw[<-hk];cases m with
   |zero=>rfl
   |succ m=>exact if_neg c'
  refine(exA rfl (q (by rw[hkk];lia) l H4 t4 ?_));rw[hkk];exact e4
abbrev zfP:List Str:=["first","row_at","found","kinds","least","rearranging","goings","kind"]
def z2y:z0n zfP ["first","row_at"] (z04 za2):={}
def z81{Cm:V->Addr->Hp->List Row->Prop}{k q Ct:Addr}{kd qd:FuncData}(F:Fun K "least_form" "least_form" za2 f fd)(ml:mg "len"=none)(mt:mg "tuple"=none)(mz:mg "zip"=none)(G:z0u P w K mg base (CXx P w) 5 g gd ["first","row_at"] (z8D K Cm))(bG:z0j K gd ["first","row_at"] [])(kG:PySem.W.keepIn K (.ref g)=true)(mG:mg "rows_come_to"=some (.ref g))(T:z0u P w K mg base (CXx P w) 5 k kd ["rows"] (z6r K Ct))(bT:z0j K kd ["rows"] [])(kT:PySem.W.keepIn K (.ref k)=true)(mT:mg "kinds_of_rows"=some (.ref k))(U:z0u P w K mg base (CXx P w) 5 q qd ["kinds","goings"] (z9h K))(bU:z0j K qd ["kinds","goings"] [])(kU:PySem.W.keepIn K (.ref q)=true)(mU:mg "kinds_gone_to"=some (.ref q)):z0u P w K mg base (CXx P w) 6 f fd ["first","row_at"] (z6s K Cm Ct):=by
 refine F.okx z2y (fun vs H Q E h=>?_) (fun cdv A outer s H vs Q E hr h=>?_)
 .obtain⟨a,v0,n,rows,rfl,_⟩:=h;rfl
 obtain⟨fa,v0,n,rows,rfl,hC,GM,hn,gv,gx⟩:=h;have hsc:=zfv GM;have h400:=GM.few;refine⟨_,z02 (z0b (i:=2) z2y.nd rfl (Or.inl rfl) (z0f G hr rfl mG kG bG .nil z0K (z00 (pv 0) (z00 (pv 1) z03))))
  (z02 (z0b (i:=3) z2y.nd rfl (Or.inl rfl) (z0f T hr rfl mT kT bT .nil (z7a fun _ _ _ z=>z) (z00 (pv 2) z03)))
  (z02 (z0b (i:=4) z2y.nd rfl (Or.inl rfl) (z1m z03))
  (z02 (z1u y2D rfl (zeE rfl mz (z00 (pv 2) (z00 (pv 3) z03)))
   (z2f rfl (z0l (z2f rfl (z0l (z0a (i:=5) z2y.nd rfl (Or.inl rfl)) (z0l (z0a (i:=6) z2y.nd rfl (Or.inl rfl)) z1g))) (z0l (z0a (i:=7) z2y.nd rfl (Or.inl rfl)) z1g)))
   (z05 (z1M (z1J (z4k (pv 7) (z0i z0d rfl ml y0G (z00 (pv 4) z03))))
    (z05 (z0P (z2V y0y y0A y0B z0D (pv 4) (z00 (z2d (z00 (pv 5) (z00 (z0f U hr rfl mU kU bU .nil z0K (z00 (pv 3) (z00 (pv 6) z03))) z03))) z03)))) z0I)))
  (z05 (z0x (z0w z0o rfl mt y0E (z00 (pv 4) z03))))))),?_⟩
 have GF:=z2n GM;have hfl:=zee GM;refine(exA rfl (exA rfl ⟨fa,v0,n,rows,rfl,hC,GM,hn,fun lf H1 s1 rf=>?_⟩));refine(exA rfl ⟨lf,n,z0E rows,rfl,rf,GF,hn,fun h6 lk H2 s2 ek=>?_,fun h6 ea H' s'=>gx (by lia) ea H' (s1.trans s')⟩);have gv:=gv (by lia);rw[<-z5d GM]at gv;clear hsc h6;have GK:=z41 GF;have hkl:=GK.len;unfold zaJ at gv;generalize z2J (z0E rows)=ks at *;generalize z0E rows=fs at *;obtain⟨us,ef,df⟩:=rf.mono s2;have hul:us.length=fs.length:=by have:=df.length;unfold z0B at this;rw[y01]at this;exact this.symm
 have s12:=s1.trans s2;refine⟨by show 0<=sizeLine;decide,fun ll hll=>(exA rfl (exA rfl ⟨lf,lk,rfl,?_⟩))⟩;have hll0:H2 ll=none:=hll;have s3:z0c H2 (upd H2 ll (.lst [])):=same_up (z0c.refl H2) hll;refine⟨⟨_,SqL.of (s3 _ _ ef)⟩,⟨_,SqL.of (s3 _ _ ek)⟩,ziH (xs:=us) (ys:=ks.map V.int) (by rw[y01];lia) (fun i σ H3=>∃(u1 u2 u3:Option V)(ws:List V),σ=[some v0,some (.ref fa),some (.ref lf),some (.ref lk),some (.ref ll),u1,u2,u3]/\z0c H2 H3/\H3 ll=some (.lst ws)/\DrL K H3 (z0B (z2l fs ks i)) ws)
  ⟨_,_,_,[],rfl,s3,z01,DrL.nil⟩ (fun i σ H3 _ h=>by obtain⟨_,_,_,_,_,t3,_,_⟩:=h;exact⟨SqL.of (t3 _ _ ef),SqL.of (t3 _ _ ek)⟩) (fun i x y p σ H3 hx hy h hp Ed nx3=>?_) (fun σ H3 h=>?_)⟩
 .obtain⟨u1,u2,u3,ws,rfl,t3,e3,d3⟩:=h;have hil:i<fs.length:=by have:=(y06.mp hx).1;lia
  have er:fs[i]?=some fs[i]:=y00 hil;have ek':ks[i]?=some ks[i]:=y00 (by lia);have hrm:fs[i]∈fs:=y0h hil;obtain⟨x',ex,dx⟩:=z2M df er;rw[hx]at ex;cases ex;generalize fs[i]=ri at er dx hrm;generalize ks[i]=ki at ek';have ey:y=V.int ki:=by rw[y04,ek']at hy;exact(y08 hy).symm
  subst ey;have hst:=z4U er ek';have hll2:=zah fs ks i;have hwl:ws.length=(z2l fs ks i).length:=by have:=d3.length;unfold z0B at this;rw[y01]at this;exact this.symm
  generalize z2l fs ks i=lp at *;have sp3:z0c H3 (upd H3 p (.tup [x,V.int ki])):=same_up (z0c.refl H3) hp;have sp:z0c H2 (upd H3 p (.tup [x,V.int ki])):=t3.trans sp3;obtain⟨t,b,c,rfl,et,eb,ec⟩:=z1c (dx.mono sp);refine(exF p rfl (SqT.of z01) rfl (exB rfl (exF t rfl (SqT.of et) rfl (exB rfl (exC rfl rfl (exC rfl rfl (exA rfl (exA rfl (exG ll rfl (.inl (SqL.of (sp3 _ _ e3))) (exC rfl rfl (exA rfl ?_)))))))))));refine z30 (fun c'=>?_) (fun c'=>?_)
  .have c'':=y0V c';have hst2:z2l fs ks (i+1)=lp++[(ri.1,ri.2.map fun g=>ks.getD g.toNat 0)]:=by
    rw[hst];unfold z6W;exact if_pos (by rw[<-hwl];exact c'')
   refine(exA rfl ⟨.inl ⟨rfl,_,SqL.of (sp3 _ _ e3)⟩,exA rfl (exA rfl (exA rfl ⟨lk,.ref c,ks,ri.2,rfl,sp _ _ ek,Dr.tup ec (DrL.ints _),fun g hg=>by rw[hkl];exact GF.go ri hrm g hg,by rw[GF.len ri hrm];lia,fun v H6 s6 dv=>⟨by show 2<=sizeLine;decide,fun t7 ht7=>?_⟩⟩))⟩);have s67:=same_up (o:=HO.tup [.ref b,v]) s6 ht7;have e7:=s67 _ _ (sp3 _ _ e3);refine⟨ll,ws,.ref t7,rfl,rfl,e7,z1O (by lia),?_⟩;have kk:z0Z H3 (upd (upd H6 t7 (.tup [.ref b,v])) ll (.lst (ws++[.ref t7]))):=z0Z.up (z0Z.of (sp3.trans s67)) e7 (fun _ z=>by cases z);have k6:z0Z H6 (upd (upd H6 t7 (.tup [.ref b,v])) ll (.lst (ws++[.ref t7]))):=z0Z.up (z0Z.of (same_up (z0c.refl H6) ht7)) e7 (fun _ z=>by cases z);have nt7:t7≠ll:=z47 z01 e7 (by intro z;cases z);have eb':H6 b=some (.tup (ri.1.map V.int)):=s6 _ _ eb;obtain⟨c2,rfl,ec2⟩:=Dr.its_inv dv;refine nx3 _ _ ⟨_,_,_,ws++[.ref t7],rfl,z09 (sp.trans s67) hll0,z01,?_⟩;rw[hst2];unfold z0B;rw[y0d];refine DrL.append (d3.keyed kk (z2x _)) (DrL.one (z4a (b:=b) (c:=c2) ?_ (k6 _ _ eb') (k6 _ _ ec2)));rw[z07 nt7];exact z01
  .have c'':=y16 (y14.mpr c');have hst2:z2l fs ks (i+1)=lp:=by
    rw[hst];unfold z6W;exact if_neg (by rw[<-hwl];exact c'')
   refine nx3 _ _ ⟨_,_,_,ws,rfl,sp,sp3 _ _ e3,?_⟩;rw[hst2];exact d3.mono sp3
 .obtain⟨u1,u2,u3,ws,rfl,t3,e3,d3⟩:=h;rw[hul,z60 hkl]at d3;refine(exA rfl ⟨ll,exA rfl (.inl ⟨SqL.of e3,fun t ht=>?_⟩)⟩);exact gv _ _ ((s12.trans t3).trans (same_up (z0c.refl H3) ht)) (Dr.tup z01 (d3.mono (same_up (z0c.refl H3) ht)))
abbrev nJR:List Str:=["one","other","pair","row","beside","rearranging","goings","rearranging_then","goings_then","pairs"]
def zeR:z0n nJR ["one","other","pair"] (z04 z2t):={}
def zhS:z1k nJR (z04 z2t) ["going","made","goings_then"] [none,none,some 8] (csc [(".0",.local),("going",.local),("made",.local),("goings_then",.free)]):={}
def zfC(F:Fun K "joined_row" "joined_row" z2t f fd)(mzip:mg "zip"=none)(mt:mg "tuple"=none)(G:z0u P w K mg base CX 1 g gd ["one","other"] (z6p K))(bG:z0j K gd ["one","other"] [])(kG:PySem.W.keepIn K (.ref g)=true)(mG:mg "turned"=some (.ref g)):z0u P w K mg base CX 2 f fd ["one","other","pair"] (zbP K):=by
 refine F.okc zeR (fun vs H Q E h=>?_) (fun cdv A outer s H vs Q E hr h=>?_)
 .obtain⟨v1,v2,v3,n,one,other,i,rfl,_⟩:=h;rfl
 obtain⟨v1,v2,v3,n,one,other,ix,rfl,d1,d2,d3,G1,G2,hn,i0,i1,gq⟩:=h;refine⟨_,z02 (z2S (pv 2) (z2f rfl (z0l (z0a (i:=3) zeR.nd rfl (Or.inl rfl)) (z0l (z0a (i:=4) zeR.nd rfl (Or.inl rfl)) z1g))))
  (z02 (z2S (z0V z27 (pv 0) (pv 3) (fun _ _=>rfl)) (z2f rfl (z0l (z0a (i:=5) zeR.nd rfl (Or.inl rfl)) (z0l (z0a (i:=6) zeR.nd rfl (Or.inl rfl)) z1g))))
  (z02 (z2S (z0V z27 (pv 1) (pv 4) (fun _ _=>rfl)) (z2f rfl (z0l (z0a (i:=7) zeR.nd rfl (Or.inl rfl)) (z0l (z0a (i:=8) zeR.nd rfl (Or.inr rfl)) z1g))))
  (z02 (zbs (i:=9) rfl zhS (zf9 rfl mzip (z00 (pv 6) (z00 (pv 5) z03))) (fun _ _ _ _ _=>pgT K (n:=2) rfl rfl (z0l (z0a (i:=0) zhS.nd rfl (Or.inl rfl)) (z0l (z0a (i:=1) zhS.nd rfl (Or.inl rfl)) z1g))) (fun _ _ _ _ _=>z2d (z00 (pv 0) (z00 (z0V (ixT K rfl) (pv 2) (pv 1) (fun _ _=>rfl)) z03))) zeR.nd rfl rfl)
  (z05 (z0x (z2d (z00 (z0f G hr rfl mG kG bG .nil z0K (z00 (pv 5) (z00 (pv 7) z03))) (z00 (z0w z0o rfl mt y0E (z00 (pv 9) z03)) z03)))))))),?_⟩
 obtain⟨a1,us,rfl,e1,dus⟩:∃(a:Addr)(us:List V),v1=.ref a/\H a=some (.tup us)/\DrL K H (z0B one) us:=by simp only[Dr]at d1;exact d1
 obtain⟨a2,vs,rfl,e2,dvs⟩:∃(a:Addr)(us:List V),v2=.ref a/\H a=some (.tup us)/\DrL K H (z0B other) us:=by simp only[Dr]at d2;exact d2
 obtain⟨a3,rfl,e3⟩:=zep d3;obtain⟨⟨r0,r1⟩,s0,s1⟩:=pix (one:=one) (other:=other) i0 i1;rw[z51 i0 i1]at gq;obtain⟨w1,ew1,dw1⟩:=z2M dus (z40 r0 r1);obtain⟨w2,ew2,dw2⟩:=z2M dvs (z40 s0 s1);have hR:=z0t r0 r1;have hS:=z0t s0 s1;have pR:=G1.perm _ hR;have lR:=G1.len _ hR;have gR:=G1.go _ hR;have pS:=G2.perm _ hS;have lS:=G2.len _ hS;have gS:=G2.go _ hS;generalize ix/(other.length:Int)=r at *;generalize ix%(other.length:Int)=b at *;generalize row one r=R at *;generalize row other b=S at *;obtain⟨t1,b1,c1,rfl,et1,eb1,ec1⟩:=z1c dw1;obtain⟨t2,b2,c2,rfl,et2,eb2,ec2⟩:=z1c dw2;have hpl:=pR.len;refine(exA rfl (exF a3 rfl (SqT.of e3) rfl (exB rfl (exC rfl rfl ?_))));refine(exA rfl (exA rfl (exD a1 _ r (.ref t1) rfl rfl (SqT.of e1) (z29 r0 ew1) (exF t1 rfl (SqT.of et1) rfl (exB rfl (exC rfl rfl ?_))))));refine(exA rfl (exA rfl (exD a2 _ b (.ref t2) rfl rfl (SqT.of e2) (z29 s0 ew2) (exF t2 rfl (SqT.of et2) rfl (exB rfl (exC rfl rfl ?_))))));refine(exA rfl (exA rfl ⟨c1,b1,rfl,⟨_,SqT.of ec1⟩,⟨_,SqT.of eb1⟩,fun l3 hl3=>zbp (xs:=R.2.map V.int) (zs:=R.1.map V.int) (by rw[y01,y01];lia) (fun k ys H3=>ys.length=k/\k<=n/\z0c H H3/\DrL K H3 (((List.range k).map fun k=>R.2.getD k 0*(other.length:Int)+S.2.getD (R.1.getD k 0).toNat 0).map (pr other.length)) ys) ⟨rfl,y0K _,same_up (z0c.refl H) hl3,DrL.nil⟩ (fun k ys H3 _ h=>⟨SqT.of (h.2.2.1 _ _ ec1),SqT.of (h.2.2.1 _ _ eb1)⟩) (by rw[y01];exact z0U (by lia)) (fun k ys H3 h=>h.1) (fun k x y p ys H3 hx hy0 h hy hp=>?_) (fun ys H3 h hy=>?_)⟩))
 .obtain⟨hyl,_,s3,d3'⟩:=h;have hk:k<n:=by have:=(y06.mp hx).1;rw[y01]at this;lia
  obtain⟨l,g',e,q1,q2,q3,q4,q5,q6,g0,g1',e0,e1'⟩:=z8f (m:=other.length) (N:=one.length) pR lR gR lS gS hk;have ex:x=V.int g':=by rw[y04,q3]at hx;exact(y08 hx).symm
  have ey:y=V.int l:=by rw[y04,q1]at hy0;exact(y08 hy0).symm
  subst ex ey;have s4:=same_up (o:=HO.tup [V.int g',V.int l]) (z0c.refl H3) hp;have e4:upd H3 p (HO.tup [V.int g',V.int l]) p=some (.tup [V.int g',V.int l]):=z01;generalize upd H3 p (HO.tup [V.int g',V.int l])=H4 at s4 e4;refine(exF p rfl (SqT.of e4) rfl (exB rfl (exC rfl rfl ?_)));refine(exA rfl (exA rfl (exA rfl (exD c2 _ _ (V.int e) rfl rfl (SqT.of ((s3.trans s4) _ _ ec2)) (z0z (by rw[y04,q4];rfl)) ⟨by show 2<=sizeLine;decide,fun t5 ht5=>?_⟩))));have s5:=same_up (o:=HO.tup [V.int g',V.int e]) (z0c.refl H4) ht5;have e5:upd H4 t5 (HO.tup [V.int g',V.int e]) t5=some (.tup [V.int g',V.int e]):=z01;generalize upd H4 t5 (HO.tup [V.int g',V.int e])=H5 at s5 e5;have hy5:=s5 _ _ (s4 _ _ hy);have kk:z0Z H5 (upd H5 l3 (.lst (ys++[.ref t5]))):=z0Z.up (z0Z.refl _) hy5 (fun _ z=>by cases z);refine⟨hy5,by rw[y0f,hyl];rfl,by lia,z09 (s3.trans (s4.trans s5)) hl3,?_⟩;rw[y45,y0d,y0d];refine DrL.append ((d3'.mono (s4.trans s5)).keyed kk (z6O _ _)) (DrL.one ?_);show Dr K _ (pr other.length (R.2.getD k 0*(other.length:Int)+S.2.getD (R.1.getD k 0).toNat 0)) (.ref t5);rw[q5,q6,zhi e0 e1'];exact Dr.tup (kk _ _ e5) (DrL.cons (Dr.int _) (DrL.cons (Dr.int _) DrL.nil))
 obtain⟨hyl,_,s3,d3'⟩:=h;rw[y01,lR]at d3';refine(exA rfl (exA rfl ⟨.ref b1,.ref b2,R.1,S.1,rfl,Dr.tup (s3 _ _ eb1) (DrL.ints _),Dr.tup (s3 _ _ eb2) (DrL.ints _),fun x hx=>?_,by lia,fun v H4 s4 d4=>?_⟩))
 .have:=z0L.mp (pR.mem_iff.mp hx);rw[pS.len];exact this
 obtain⟨b4,rfl,eb4⟩:=Dr.its_inv d4;refine(exA rfl ⟨l3,exA rfl (.inl ⟨SqL.of (s4 _ _ hy),fun t5 ht5=>⟨by show 2<=sizeLine;decide,fun t6 ht6=>?_⟩⟩)⟩);have s5:=same_up (o:=HO.tup ys) (z0c.refl H4) ht5;have e5:upd H4 t5 (HO.tup ys) t5=some (.tup ys):=z01;generalize upd H4 t5 (HO.tup ys)=H5 at s5 e5 ht6;have s6:=same_up (o:=HO.tup [.ref b4,.ref t5]) (z0c.refl H5) ht6;refine gq _ _ ((s3.trans s4).trans (s5.trans s6)) ?_;unfold zgy zfW;refine Dr.tup z01 (DrL.cons (Dr.tup (s6 _ _ (s5 _ _ eb4)) (DrL.ints _)) (DrL.cons (Dr.tup (s6 _ _ e5) ?_) DrL.nil));rw[hpl];exact d3'.mono (s4.trans (s5.trans s6))
abbrev nJd:List Str:=["one","other"]
def ziV:z0n nJd ["one","other"] (z04 z2h):={}
abbrev zi0:Scope:=csc [("pair",.local),("one",.free),("other",.free),("joined_row",.globalImplicit)]
def zj4:z1k nJd (z04 z2h) ["pair","one","other"] [none,some 0,some 1] zi0:={}
def ziD:zh9 ["pair","one","other"] ["pair"] zi0:={}
def zb4{k b Ct cc:Addr}{kd bd:FuncData}{Ts:List Tb}{T0:Tb}(F:Fun K "joined" "joined" z2h f fd)(hcd:fd.code=.ref cc)(hC:PySem.W.CodeHd base cc T0.at_)(hB:z5I base mg)(hT:T0∈Ts)(hTn:∀T'∈Ts,T'.at_=T0.at_->T'=T0)(hTp:T0.pos=z7n (z0Y z2h))(hTq:T0.qual=("joined.<locals>."++"<lambda>":Str))(J:z0u P w K mg base (CXx P w) 3 b bd ["one","other","pair"] (zbP K))(bJ:z0j K bd ["one","other","pair"] [])(kJ:PySem.W.keepIn K (.ref b)=true)(mJ:mg "joined_row"=some (.ref b))(T:z0u P w K mg base (CXx P w) 6 k kd ["first","row_at"] (z6t P w K mg base (CXx P w) 4 Ct))(bT:z0j K kd ["first","row_at"] [])(kT:PySem.W.keepIn K (.ref k)=true)(mT:mg "least_form"=some (.ref k)):z0u P w K mg base (CXx P w) 7 f fd ["one","other"] (z77 Ts K Ct):=by
 refine F.okL hcd ziV (fun vs H Q E h=>?_) (fun A outer s H vs Q E hr h=>?_)
 .obtain⟨v1,v2,n,one,other,rfl,_⟩:=h;rfl
 obtain⟨v1,v2,n,one,other,rfl,hTb,d1,d2,G1,G2,hn,h4,gv,gx⟩:=h;refine⟨_,z05 (z0x (z9d (Ts:=Ts) (T:=T0) T hr rfl mT kT bT (z7a fun _ _ _ z=>z) (z2d (z00 z08 (z00 z08 z03))) (fun σ H Q Q' h ⟨a,b⟩=>⟨a,fun t ht=>h _ _ (b t ht)⟩) zj4 rfl hC hB (fun _=>rfl) hT hTn hTp hTq)),?_⟩;have GP:=z3c G1 G2 h4;refine⟨by show 2<=sizeLine;decide,fun t ht=>?_⟩;have s1:=same_up (o:=HO.tup [V.int 0,V.int 0]) (z0c.refl H) ht;have e1:upd H t (HO.tup [V.int 0,V.int 0]) t=some (.tup [V.int 0,V.int 0]):=z01;generalize upd H t (HO.tup [V.int 0,V.int 0])=H1 at s1 e1;refine⟨z5F.mono hTb s1,fun fa H2 cs f1 f2 f3 C=>?_⟩;have fin:∀{H3:Hp},z0c H2 H3->z0Q Ts H (utk H3 cs):=fun s3=>(z0c.l s1).trans (f2 _ s3);have n1:z0Q [] H1 H2:=⟨f1,fun _ _ h=>absurd h (by simp)⟩;have e2:=n1.g e1;have d12:=(d1.mono s1).monoL n1;have d22:=(d2.mono s1).monoL n1;have hz:(0:Int)/(other.length:Int)=0/\(0:Int)%(other.length:Int)=0:=⟨Int.zero_ediv _,Int.zero_emod _⟩;refine⟨fa,.ref t,n,z1S one other,other.length,rfl,zhP (by rw[hz.1,hz.2];exact e2),?_,GP,hn,fun h6 v H3 s3 d=>gv h6 v _ (fin s3) (d.nfr (NFr.utk f3 s3)),fun h6 e H3 s3=>gx h6 e _ (fin s3)⟩;refine z3A.lam (k:=3) C ziD (fun _ _ _ _ us hl=>by obtain⟨a9,rfl⟩:=zgs hl;rfl) rfl (fun vs H Q h=>?_) (fun H' s' A outer s cd clos cs vs Q hr nf h=>?_)
 .obtain⟨i,v,rfl,_⟩:=h;rfl
 obtain⟨i,v,rfl,dv,h0,h1,gq⟩:=h;rw[z3y]at h1;refine⟨_,z0f J hr rfl mJ kJ bJ .nil z0K (z00 (pv 1) (z00 (pv 2) (z00 (pv 0) z03))),?_⟩;exact(exA rfl (exA rfl (exA rfl ⟨v1,v2,v,n,one,other,i,rfl,(d12.mono s').nfr nf,(d22.mono s').nfr nf,dv.nfr nf,G1,G2,hn,h0,h1,fun v' H1' s1' d1' hc=>gq v' _ (z0c.rtk s1') (d1'.mono (z0c.rtk' hc))⟩)))
def z2v:z0n ["_law_cell_here","_law_many","_law_row","_law_rest","_law_seed"] ["_law_cell_here","_law_many"] (z04 z4H):={}
def zar(F:Fun K "_law_numbers" "_law_numbers" z4H f fd)(ml:mg "len"=none):z0u P w K mg base CX 1 f fd ["_law_cell_here","_law_many"] (z5q K):=by
 refine F.okc z2v (fun vs H Q E h=>?_) (fun cdv A outer s H vs Q E hr h=>?_)
 .obtain⟨c,m,rfl,_⟩:=h;rfl
 obtain⟨c,m,rfl,hm,q⟩:=h;refine⟨_,z02 (z0b (i:=2) z2v.nd rfl (Or.inl rfl) (z1m z03))
  (z02 (z0b (i:=3) z2v.nd rfl (Or.inl rfl) (z0G z5t (pv 0) (z0G zgM z08 z08)))
  (z02 (z1T y0R (PW.pt (z9W (z0W zbc (pv 3) z08 (z1j _)) (z78 (z0W z5K (z0i z0d rfl ml y0G (z00 (pv 2) z03)) (pv 1) (z1j _)))))
   (z02 (z0P (z2V y0y y0A y0B z0D (pv 2) (z00 (z0G z1Z (pv 3) z08) z03)))
   (z05 (z0b (i:=3) z2v.nd rfl (Or.inl rfl) (z0G z50 (pv 3) z08)))))
  (z02 (z0b (i:=4) z2v.nd rfl (Or.inl rfl) (z0G z1Z (pv 0) z08))
  (z02 (z1T y0R (z0W z5K (z0i z0d rfl ml y0G (z00 (pv 2) z03)) (pv 1) (z1j _))
   (z02 (z0b (i:=4) z2v.nd rfl (Or.inl rfl) (z0G z1Z (z0G z21 (z0G z21 (z0G z3B (pv 4) z08) z08) (z0i z0d rfl ml y0G (z00 (pv 2) z03))) z08))
   (z05 (z0P (z2V y0y y0A y0B z0D (pv 2) (z00 (z0G z1Z (z0G z50 (z0G z1Z (z0G z3B (pv 4) z08) z08) z08) z08) z03))))))
  (z05 (z0x (pv 2))))))),?_⟩
 refine⟨by show 0<=sizeLine;decide,fun l hl=>(exA rfl (exC rfl rfl ⟨⟨by decide,by decide,by decide⟩,exC rfl rfl ?_⟩))⟩;show z87 _ _ _ _ _;refine zhW (fun σ' H'=>∃(k:Nat)(r:Int)(ns:List Int),σ'=[some (.int c),some (.int m),some (.ref l),some (.int r),none]/\z0c H H'/\H' l=some (.lst (ns.map V.int))/\k+ns.length=m/\∀x∈ns,0<=x/\x<1009) (fun Ed nx=>?_) (fun σ' H' p=>?_);rotate_left
 .obtain⟨k,r,ns,rfl,s2,e2,hk,hns⟩:=p;refine(exA rfl (exC rfl rfl ⟨zd4,?_⟩));refine⟨fun k σ H2=>∃(v:Int)(ns:List Int),σ=[some (.int c),some (.int m),some (.ref l),some (.int r),some (.int v)]/\z0c H H2/\H2 l=some (.lst (ns.map V.int))/\k+ns.length=m/\∀x∈ns,0<=x/\x<1009,
   ⟨k,_,ns,rfl,s2,e2,hk,hns⟩,?_⟩
  rintro k σ H2 ⟨v,ns,rfl,s2,e2,hk,hns⟩;have hnl:(ns.map V.int).length=ns.length:=y01 _;refine(exA rfl (exG l rfl (.inl (SqL.of e2)) (exA rfl (exC rfl rfl (exA rfl (z30 (fun c2=>?_) (fun c2=>?_)))))))
  .have c2':=y0V c2;rw[hnl]at c2';have hkp:ns.length<m:=by lia
   refine zeU fun N nx2=>?_;refine(exA rfl (exC rfl rfl ⟨.inr ⟨by decide,by decide⟩,exC rfl rfl (exA rfl (exG l rfl (.inl (SqL.of e2)) (exC rfl rfl (exC rfl rfl ⟨zd4,?_⟩))))⟩));refine(exA rfl ⟨.inl ⟨rfl,_,SqL.of e2⟩,exA rfl (exC rfl rfl ⟨.inr ⟨by decide,by decide⟩,exC rfl rfl ⟨zd4,exC rfl rfl ⟨⟨by decide,by decide⟩,exC rfl rfl ⟨zd4,l,exC rfl rfl ⟨e2,by rw[hnl];exact z3M (by lia),?_⟩⟩⟩⟩⟩)⟩);refine nx2 (k-1) _ _ (by lia) ⟨_,ns++[(v*48271+9973+((ns.map V.int).length:Nat))%2147483647*39373%2147483629/11%1009],rfl,z09 s2 hl,?_,?_,z7U hns (zcP _)⟩
   .rw[z01,y0d];rfl
   .rw[y0f];show k-1+(ns.length+1)=m;lia
  .have c2':=y16 (y14.mpr c2);rw[hnl]at c2';exact(exA rfl (q l H2 ns s2 e2 ⟨by lia,hns⟩))
 refine⟨fun k σ H2=>∃(r:Int)(ns:List Int),σ=[some (.int c),some (.int m),some (.ref l),some (.int r),none]/\z0c H H2/\H2 l=some (.lst (ns.map V.int))/\k+ns.length=m/\∀x∈ns,0<=x/\x<1009,
  ⟨m,_,[],rfl,same_up (z0c.refl H) hl,z01,rfl,fun x hx=>by simp at hx⟩,?_⟩
 rintro k σ H2 ⟨r,ns,rfl,s2,e2,hk,hns⟩;have hnl:(ns.map V.int).length=ns.length:=y01 _;refine(exA rfl (exC rfl rfl (exA rfl (z30 (fun c1=>(exA rfl (exG l rfl (.inl (SqL.of e2)) (exA rfl (exC rfl rfl (exA rfl (z30 (fun c2=>?_) (fun c2=>?_)))))))) (fun c1=>z8e ?_)))))
 .have c2':=y0V c2;rw[hnl]at c2';have hkp:ns.length<m:=by lia
  refine zeU fun N nx2=>?_;refine(exA rfl ⟨.inl ⟨rfl,_,SqL.of e2⟩,exA rfl (exC rfl rfl ⟨zd4,l,exC rfl rfl ⟨e2,by rw[hnl];exact z3M (by lia),?_⟩⟩)⟩);refine(exA rfl (exC rfl rfl ⟨⟨by decide,by decide⟩,nx2 (k-1) _ _ (by lia) ⟨_,ns++[r%1009],rfl,z09 s2 hl,?_,?_,z7U hns (zcP r)⟩⟩))
  .rw[z01,y0d];rfl
  .rw[y0f];show k-1+(ns.length+1)=m;lia
 all_goals exact nx _ _ ⟨k,r,ns,rfl,s2,e2,hk,hns⟩
def zeY:z0n ["_law_letters_here","_law_cell_here"] ["_law_letters_here","_law_cell_here"] (z04 z98):={}
def zdW{k:Addr}{kd:FuncData}(F:Fun K "_law_guise" "_law_guise" z98 f fd)(G:z0u P w K mg base CX 2 g gd ["_law_letters_here","_law_cell_here"] (zbW K))(bG:z0j K gd ["_law_letters_here","_law_cell_here"] [])(kG:PySem.W.keepIn K (.ref g)=true)(mG:mg "_law_rows"=some (.ref g))(T:z0u P w K mg base CX 2 k kd ["_law_rows_here","_law_start"] (z9Q K))(bT:z0j K kd ["_law_rows_here","_law_start"] [])(kT:PySem.W.keepIn K (.ref k)=true)(mT:mg "_law_shrunk"=some (.ref k)):z0u P w K mg base CX 3 f fd ["_law_letters_here","_law_cell_here"] (z8F K):=by
 refine F.okc zeY (fun vs H Q E h=>?_) (fun cdv A outer s H vs Q E hr h=>?_)
 .obtain⟨n,c,rfl,_⟩:=h;rfl
 obtain⟨n,c,rfl,h2,h5,q⟩:=h;refine⟨_,z05 (z0x (z0f T hr rfl mT kT bT .nil z0K (z00 (z0f G hr rfl mG kG bG .nil z0K (z00 (pv 0) (z00 (pv 1) z03))) (z00 z08 z03)))),?_⟩;refine(exA rfl (exA rfl ⟨n,c,rfl,h2,h5,fun r H1 rows s1 hr1 G1 h8=>⟨r,n,rows,rfl,hr1,G1,by lia,fun v H2 s2 d=>q v H2 rows (s1.trans s2) G1 h8 d⟩⟩))
abbrev ze6:List Str:=["_law_letters_here","_law_cell_here","_law_nums","_law_many","_law_kind","_law_rows_here","_law_at","_law_pick","_law_first","_law_goings"]
def z2u:z0n ze6 ["_law_letters_here","_law_cell_here"] (z04 z8V):={}
def zbX:z1k ze6 (z04 z8V) ["_law_k","_law_many","_law_pick"] [none,some 3,some 7] (csc [(".0",.local),("_law_k",.local),("_law_many",.free),("_law_pick",.free)]):={}
def zaT:z1k ze6 (z04 z8V) ["_law_to","_law_at","_law_many"] [none,some 6,some 3] (csc [(".0",.local),("_law_to",.local),("min",.globalImplicit),("_law_at",.free),("_law_many",.free)]):={}
def zc8:z1k ze6 (z04 z8V) ["_law_k","_law_goings","_law_letters_here","_law_many","_law_pick"] [none,some 9,some 0,some 3,some 7] (csc [(".0",.local),("_law_k",.local),("_law_goings",.free),("_law_letters_here",.free),("_law_many",.free),("_law_pick",.free)]):={}
def zeW{k:Addr}{kd:FuncData}(F:Fun K "_law_rows" "_law_rows" z8V f fd)(mr:mg "range"=none)(mt:mg "tuple"=none)(mm:mg "min"=none)(G:z0u P w K mg base CX 1 g gd ["_law_cell_here","_law_many"] (z5q K))(bG:z0j K gd ["_law_cell_here","_law_many"] [])(kG:PySem.W.keepIn K (.ref g)=true)(mG:mg "_law_numbers"=some (.ref g))(T:z0u P w K mg base CX 1 k kd ["_law_pick","_law_letters_here"] (zbU K))(bT:z0j K kd ["_law_pick","_law_letters_here"] [])(kT:PySem.W.keepIn K (.ref k)=true)(mT:mg "_law_rearranged"=some (.ref k)):z0u P w K mg base CX 2 f fd ["_law_letters_here","_law_cell_here"] (zbW K):=by
 refine F.okc z2u (fun vs H Q E h=>?_) (fun cdv A outer s H vs Q E hr h=>?_)
 .obtain⟨n,c,rfl,_⟩:=h;rfl
 obtain⟨n,c,rfl,hn2,hn5,q⟩:=h;refine⟨_,z02 (z0b (i:=2) z2u.nd rfl (Or.inl rfl) (z0f G hr rfl mG kG bG .nil z0K (z00 (pv 1) (z00 z08 z03))))
  (z02 (z0b (i:=3) z2u.nd rfl (Or.inr rfl) (z0G z21 z08 (z0G z1Z (z0V z1s (pv 2) z08 (fun _ _=>rfl)) z08)))
  (z02 (z0b (i:=4) z2u.nd rfl (Or.inl rfl) (z0G z1Z (z0V z1s (pv 2) z08 (fun _ _=>rfl)) z08))
  (z02 (z0b (i:=5) z2u.nd rfl (Or.inl rfl) (z1m z03))
  (z02 (z1u y0R rfl (z1A rfl mr (z00 (pv 3) z03)) (z0a (i:=6) z2u.nd rfl (Or.inr rfl))
   (z02 (z0b (i:=7) z2u.nd rfl (Or.inr rfl) (z9G zbJ (pv 2) (z8t (z0G z21 z08 (z0G z3B z08 (pv 6)))) (z8t (z0G z21 z08 (z0G z3B z08 (pv 6))))))
   (z02 (z0b (i:=8) z2u.nd rfl (Or.inl rfl) (z0f T hr rfl mT kT bT .nil z0K (z00 (z0V z1s (pv 7) z08 (fun _ _=>rfl)) (z00 (pv 0) z03))))
   (z02 (z0b (i:=9) z2u.nd rfl (Or.inr rfl) (z1b rfl zbX (z1A rfl mr (z00 (pv 0) z03)) (fun _ _ _ _ _=>z0a (i:=0) zbX.nd rfl (Or.inl rfl)) (fun _ _ _ _ _=>z0G z1Z (z0V (ixL K rfl) (pv 2) (z0G z21 z08 (pv 0)) (fun _ _=>rfl)) (pv 1))))
   (z02 (PS.weak (tRI K) (z1M (z1J (z4k (pv 4) z08)) (z05 (z0b (i:=9) z2u.nd rfl (Or.inr rfl) (z1b rfl zaT (z1x (pv 9)) (fun _ _ _ _ _=>z0a (i:=0) zaT.nd rfl (Or.inl rfl)) (fun _ _ _ _ _=>z0i (zbH rfl) rfl mm PyProof.Rows.boot_min (z00 (z0G z5t (pv 2) z08) (z00 (z0G z21 (z0G z21 (pv 1) z08) (pv 0)) z03)))))) z0I) ?_)
   (z02 (PS.weak (tRI K) (z1M (z1J (z4k (pv 4) z08)) (z05 (z0b (i:=9) z2u.nd rfl (Or.inr rfl) (z1b rfl zc8 (z1A rfl mr (z00 (pv 0) z03)) (fun _ _ _ _ _=>z0a (i:=0) zc8.nd rfl (Or.inl rfl)) (fun _ _ _ _ _=>zdo (z1J (z4k (pv 0) (z0G z1Z (z0G z50 (z0V (ixL K rfl) (pv 4) z08 (fun _ _=>rfl)) z08) (pv 2)))) (z0V (ixL K rfl) (pv 1) (pv 0) (fun _ _=>rfl)) (z0G z5t (pv 3) z08))))) z0I) ?_)
   (z02 (PS.weak (tRI K) (z1M (PT.weak (zi1 (zgK K)) (PW.pt (zgN (PW.pt (z9W (z6o z8C z8C z08 (pv 4) z08) (z78 (z1J (z4k (pv 6) (z0G z5t (pv 3) z08)))))) (zeQ (PW.pt (z9W (z1J (z4k (pv 4) z08)) (z78 (z1J (z4k (z0G z1Z (z0V z1s (pv 7) z08 (fun _ _=>rfl)) z08) z08)))))))) ?_)
    (z05 (z0b (i:=8) z2u.nd rfl (Or.inl rfl) (z0w (z5G rfl) rfl mt y0E (z00 (z0w z9r rfl mr PyProof.Rows.boot_range (z00 (pv 0) z03)) z03)))) z0I) ?_)
   (z02 (PS.weak (tRI K) (z1M (PT.weak (zi1 (zgK K)) (PW.pt (z9W (z6o z8C z8C z08 (pv 4) z08) (z78 (z1J (z4k (pv 6) (z0G z5t (pv 3) z08)))))) ?_)
    (z05 (z0b (i:=9) z2u.nd rfl (Or.inr rfl) (z0G zeK (z1m (z00 (pv 6) z03)) (pv 0)))) z0I) ?_)
   (z05 (z0P (z2V y0y y0A y0B z0D (pv 5) (z00 (z2d (z00 (pv 8) (z00 (z0w z0o rfl mt y0E (z00 (pv 9) z03)) z03))) z03))))))))))))
  (z05 (z0x (pv 5))))))),?_⟩
 .intro D σ H h;obtain⟨n,m,c,kd,j,ln,lr,lp,ps,H0,rf,ri,nx⟩:=h;obtain⟨b,lg,p,gs,rfl,s0,db,hp,eg,hgl,hgr⟩:=ri.ex;have h5:=rf.n5;have hjm:=rf.jm;refine(exA rfl (exC rfl rfl (exA rfl (z30 (fun _=>?_) (fun _=>nx _ _ ri)))));refine⟨_,rfl,lg,rfl,⟨_,SqL.of eg⟩,fun l hl=>z1Y (xs:=gs.map V.int) (GI m H) (GI.nil hl) (fun i ys H2 _ h=>by obtain⟨_,_,_,_,s⟩:=h;exact SqL.of (s _ _ eg)) (by rw[y01];exact z0U (by lia)) (fun i ys H2 h=>h.len) (fun i x ys H2 hx h hy=>?_) (fun ys H2 h hy=>?_)⟩
  .have hil:i<gs.length:=by have:=(y06.mp hx).1;rwa [y01]at this
   have eg':gs[i]?=some gs[i]:=y00 hil;obtain⟨h0,h1⟩:=hgr _ (y0h hil);generalize gs[i]=gi at eg' h0 h1;have ex:x=V.int gi:=by rw[y04,eg']at hx;exact(y08 hx).symm
   subst ex;exact(exA rfl (exC rfl rfl (exA rfl (exC rfl rfl (exA rfl (exC rfl rfl (exB rfl ⟨hy,h.snoc hl ⟨by split<;>lia,by split<;>lia⟩⟩)))))))
  .obtain⟨gs',rfl,el,r',s'⟩:=h;rw[y01]at el;exact nx _ _ ⟨b,l,p,gs',rfl,s0.trans s',db.mono s',hp,hy,by lia,r'⟩
 .intro D σ H h;obtain⟨n,m,c,kd,j,ln,lr,lp,ps,H0,rf,ri,nx⟩:=h;obtain⟨b,lg,p,gs,rfl,s0,db,hp,eg,hgl,hgr⟩:=ri.ex;have h5:=rf.n5;have h2:=rf.n2;have hjm:=rf.jm;have elp:=s0 _ _ rf.lp;have h6:=rf.len;have ep:ps[0]?=some ps[0]:=y00 (by lia);refine(exA rfl (exC rfl rfl (exA rfl (z30 (fun _=>?_) (fun _=>nx _ _ ri)))));refine(exA rfl ⟨(n:Int),rfl,by lia,by lia,fun l hl=>z4f (n:=(n:Int).toNat) (GI m H) (GI.nil hl) (z0U (by lia)) (fun i ys H2 h=>h.len) (fun i ys H2 hi h hy=>?_) (fun ys H2 h hy=>?_)⟩)
  .have e0:(0:Int)+(i:Int)=(i:Int):=by lia
   rw[e0];have hil:i<gs.length:=by lia
   have eg':gs[i]?=some gs[i]:=y00 hil;obtain⟨h0,h1⟩:=hgr _ (y0h hil);generalize gs[i]=gi at eg' h0 h1;obtain⟨_,_,_,_,s2⟩:=id h;refine(exA rfl (exA rfl (exD lp _ _ (V.int ps[0]) rfl rfl (SqL.of (s2 _ _ elp)) (z0z (j:=0) (by rw[y04,ep];rfl)) (exC rfl rfl ⟨⟨by decide,by decide⟩,exA rfl (exC rfl rfl ⟨zd4 (by lia),exC rfl rfl (exA rfl (z30 (fun _=>?_) (fun _=>?_)))⟩)⟩))))
   .exact(exA rfl (exA rfl (exD lg _ _ (V.int gi) rfl rfl (SqL.of (s2 _ _ eg)) (z0z (by rw[y04,eg'];rfl)) ⟨hy,h.snoc hl ⟨h0,h1⟩⟩)))
   .exact(exA rfl (exC rfl rfl ⟨hy,h.snoc hl ⟨by lia,by lia⟩⟩))
  .obtain⟨gs',rfl,el,r',s'⟩:=h;exact nx _ _ ⟨b,l,p,gs',rfl,s0.trans s',db.mono s',hp,hy,by lia,r'⟩
 .intro σ H Q h;obtain⟨⟨n,m,c,kd,j,ln,lr,lp,ps,H0,rf,ri⟩,q⟩:=h;obtain⟨b,lg,p,gs,rfl,s0,db,hp,eg,hgl,hgr⟩:=ri.ex;have elp:=s0 _ _ rf.lp;have h6:=rf.len;have ep:ps[0]?=some ps[0]:=y00 (by lia);refine(exA rfl (exC rfl rfl (exA rfl (z30 (fun _=>(exC rfl rfl (exA rfl (z30 (fun _=>(exA rfl (exA rfl (exC rfl rfl (exC rfl rfl (exA rfl (z30 (fun _=>q _) (fun _=>?_)))))))) (fun _=>z8e ?_))))) (fun _=>(exA rfl (z8e (z8e ?_))))))));all_goals exact(exA rfl (exC rfl rfl (exA rfl (z30 (fun _=>(exA rfl (exD lp _ _ (V.int ps[0]) rfl rfl (SqL.of elp) (z0z (j:=0) (by rw[y04,ep];rfl)) (exC rfl rfl ⟨zd4,exC rfl rfl (exA rfl (q _))⟩)))) (fun _=>q _)))))
 .intro D σ H h;obtain⟨n,m,c,kd,j,ln,lr,lp,ps,H0,rf,ri,nx⟩:=h;obtain⟨b,lg,p,gs,rfl,s0,db,hp,eg,hgl,hgr⟩:=ri.ex;have h5:=rf.n5;refine⟨⟨n,m,c,kd,j,ln,lr,lp,ps,H0,rf,ri⟩,fun cc=>z30 (fun _=>?_) (fun _=>nx _ _ ri)⟩;refine(exA rfl ⟨(n:Int),rfl,by lia,by lia,fun r hr0=>⟨r,0,(n:Int),rfl,z01,⟨by decide,by decide,by lia,by lia⟩,by lia,fun l hl=>?_⟩⟩);have e:((n:Int)-0).toNat=n:=by lia
  rw[e,z82];have s':=same_up (o:=HO.tup ((z0p n).map V.int)) (same_up (o:=HO.rng 0 n) (z0c.refl H) hr0) hl;exact nx _ _ ⟨.ref l,lg,z0p n,gs,rfl,s0.trans s',Dr.tup z01 (DrL.ints _),z9l n,s' _ _ eg,hgl,hgr⟩
 .intro σ H Q h;obtain⟨⟨n,m,c,kd,j,ln,lr,lp,ps,H0,rf,ri⟩,q⟩:=h;obtain⟨b,lg,p,gs,rfl,s0,db,hp,eg,hgl,hgr⟩:=ri.ex;exact(exA rfl (exC rfl rfl (exA rfl (z30 (fun _=>(exC rfl rfl (exA rfl (z30 (fun _=>(exA rfl (exA rfl (exC rfl rfl (exC rfl rfl (exA rfl (q _))))))) (fun _=>q _))))) (fun _=>(exA rfl (z8e (q _))))))))
 .intro D σ H h;obtain⟨n,m,c,kd,j,ln,lr,lp,ps,H0,rf,ri,nx⟩:=h;obtain⟨b,lg,p,gs,rfl,s0,db,hp,eg,hgl,hgr⟩:=ri.ex;have h5:=rf.n5;have hjm:=rf.jm;refine⟨⟨n,m,c,kd,j,ln,lr,lp,ps,H0,rf,ri⟩,fun cc=>z30 (fun _=>?_) (fun _=>nx _ _ ri)⟩;refine(exA rfl ⟨by show 1<=sizeLine;decide,fun l0 hl0=>(exA rfl ⟨l0,(n:Int),exA rfl ⟨rfl,z01,by lia,by lia,?_,fun l hl=>?_⟩⟩)⟩)
  .show 1*(n:Int).toNat<=sizeLine;exact z0U (by lia)
  have e:((n:Int)).toNat=n:=by lia
  rw[e,zgQ];have s':=same_up (o:=HO.lst ((List.replicate n (j:Int)).map V.int)) (same_up (o:=HO.lst [V.int (j:Int)]) (z0c.refl H) hl0) hl;exact nx _ _ ⟨b,l,p,List.replicate n (j:Int),rfl,s0.trans s',db.mono s',hp,z01,y23,fun g hg=>by rw[(y2U.mp hg).2];lia⟩
 refine(exA rfl ⟨c,64,rfl,by lia,fun ln H1 ns s1 e1 hns=>?_⟩);have hnl:=hns.1;have en0:ns[0]?=some ns[0]:=y00 (by lia);have en1:ns[1]?=some ns[1]:=y00 (by lia);obtain⟨m,hm⟩:=z3I (x:=(1:Int)+ns[0]%8) (by lia);have hm1:1<=m:=by lia
 have hm8:m<=8:=by lia
 refine(exA rfl (exD ln _ _ (V.int ns[0]) rfl rfl (SqL.of e1) (z0z (j:=0) (by rw[y04,en0];rfl)) (exC rfl rfl ⟨zd4,exC rfl rfl ?_⟩)));generalize ns[1]=n1 at en1;refine(exA rfl (exD ln _ _ (V.int n1) rfl rfl (SqL.of e1) (z0z (j:=1) (by rw[y04,en1];rfl)) (exC rfl rfl ⟨zd4,by show 0<=sizeLine;decide,fun lr hlr=>?_⟩)));obtain⟨kd,hkd⟩:∃kd,kd=n1%6:=⟨_,rfl⟩;have s2:=same_up (o:=HO.lst []) (z0c.refl H1) hlr;refine⟨_,rfl,(m:Int),(by rw[<-hm]),by lia,by lia,zes (n:=(m:Int).toNat) (fun i σ H2=>∃(u6 u7 u8 u9:Option V)(us:List V)(rs:List Row),σ=[some (.int n),some (.int c),some (.ref ln),some (.int m),some (.int kd),some (.ref lr),u6,u7,u8,u9]/\z0c H1 H2/\H2 lr=some (.lst us)/\DrL K H2 (z0B rs) us/\rs.length=i/\GR n m rs)
  ⟨_,_,_,_,[],[],(by rw[<-hm,hkd];rfl),s2,z01,DrL.nil,rfl,fun r hr=>by simp at hr⟩ (fun i σ H2 hi h Ed nx3=>?_) (fun σ H2 h=>?_)⟩
 .obtain⟨u6,u7,u8,u9,us,rs,rfl,t2,elr,drs,hrl,gr⟩:=h;have e0:(0:Int)+(i:Int)=(i:Int):=by lia
  rw[e0];have him:i<m:=by lia
  obtain⟨ps,ecut,hp6,hpr⟩:=ziU (i:=i) hns (by lia);have ep:ps[0]?=some ps[0]:=y00 (by lia);refine(exA rfl (exA rfl (exC rfl rfl ⟨.inl ⟨by decide,by decide⟩,exC rfl rfl (exA rfl (exA rfl (exC rfl rfl ⟨.inl ⟨by decide,by decide⟩,exC rfl rfl (exA rfl ⟨ln,exA rfl ⟨SqL.of (t2 _ _ e1),fun lp hlp=>?_⟩⟩)⟩)))⟩)));rw[ecut];have s3:=same_up (o:=HO.lst (ps.map V.int)) (z0c.refl H2) hlp;refine(exA rfl (exD lp _ _ (V.int ps[0]) rfl rfl (SqL.of z01) (z0z (j:=0) (by rw[y04,ep];rfl)) (exA rfl ⟨ps[0],n,rfl,by lia,fun b H3 s4 d3=>?_⟩)));have elp3:H3 lp=some (.lst (ps.map V.int)):=s4 _ _ z01;refine(exA rfl ⟨(n:Int),rfl,by lia,by lia,fun lg hlg=>z4f (n:=(n:Int).toNat) (GI m H3) (GI.nil hlg) (z0U (by lia)) (fun i ys H h=>h.len) (fun k ys H4 hk h hy=>?_) (fun ys H4 h hy=>?_)⟩)
  .have ek:(1:Int)+(0+(k:Int))=((1+k:Nat):Int):=by lia
   have ek':ps[1+k]?=some (ps[1+k]'(by lia)):=y00 (by lia);generalize ps[1+k]'(by lia)=pk at ek';obtain⟨_,_,_,_,s5⟩:=id h;refine(exA rfl (exA rfl (exC rfl rfl (exD lp _ _ (V.int pk) rfl rfl (SqL.of (s5 _ _ elp3)) ((by rw[ek];exact z0z (by rw[y04,ek'];rfl))) (exA rfl (exC rfl rfl ⟨zd4 (by lia),hy,h.snoc hlg ⟨?_,?_⟩⟩))))))
   .exact y2z _ (by lia)
   .exact y28 _ (by lia)
  obtain⟨gs,rfl,hgl,hgr,s5⟩:=h;have rf:RF n m i ps lp H3:=⟨hn2,hn5,him,hm8,elp3,hp6,hpr⟩;refine⟨n,m,c,kd,i,ln,lr,lp,ps,H3,rf,⟨b,lg,_,gs,rfl,s5,d3.mono s5,zaO _ _,hy,by lia,hgr⟩,fun σ1 H5 r1=>⟨n,m,c,kd,i,ln,lr,lp,ps,H3,rf,r1,fun σ2 H6 r2=>⟨n,m,c,kd,i,ln,lr,lp,ps,H3,rf,r2,fun σ3 H7 r3=>⟨n,m,c,kd,i,ln,lr,lp,ps,H3,rf,r3,fun σ4 H8 r4=>?_⟩⟩⟩⟩;clear hgl hgr hy;obtain⟨b,lg,p,gs,rfl,s0,db,hp,eg,hgl,hgr⟩:=r4.ex;have s28:z0c H2 H8:=(s3.trans s4).trans s0;refine(exA rfl ⟨.inl ⟨rfl,_,SqL.of (s28 _ _ elr)⟩,exA rfl (exA rfl ⟨lg,exA rfl (.inl ⟨SqL.of eg,fun t4 ht4=>⟨by show 2<=sizeLine;decide,fun t5 ht5=>?_⟩⟩)⟩)⟩);have s9:=same_up (o:=HO.tup (gs.map V.int)) (z0c.refl H8) ht4;have s10:=same_up (o:=HO.tup [b,.ref t4]) s9 ht5;have elr':=s10 _ _ (s28 _ _ elr);have hul:us.length=i:=by have:=drs.length;unfold z0B at this;rw[y01]at this;lia
  refine⟨lr,us,.ref t5,rfl,rfl,elr',z3M (by lia),?_⟩;obtain⟨b0,rfl,eb⟩:=Dr.its_inv db;have kk:z0Z H8 (upd (upd (upd H8 t4 (.tup (gs.map V.int))) t5 (.tup [.ref b0,.ref t4])) lr (.lst (us++[.ref t5]))):=z0Z.up (z0Z.of s10) elr' (fun _ z=>by cases z);have nt5:t5≠lr:=z47 z01 elr' (by intro z;cases z);have nt4:t4≠t5:=z0e z01 ht5;have nt4f:t4≠lr:=z47 (show upd (upd H8 t4 (.tup (gs.map V.int))) t5 (.tup [.ref b0,.ref t4]) t4=some (.tup (gs.map V.int))by rw[z07 nt4];exact z01) elr' (by intro z;cases z);refine nx3 _ _ ⟨_,_,_,_,us++[.ref t5],rs++[(p,gs)],rfl,z09 (t2.trans (s28.trans s10)) hlr,z01,?_,by rw[y0f,hrl];rfl,gr.snoc ⟨hp,hgl,hgr⟩⟩;unfold z0B;rw[y0d];refine DrL.append ((drs.mono s28).keyed kk (z2x _)) (DrL.one (z4a (r:=(p,gs)) (b:=b0) (c:=t4) ?_ (kk _ _ eb) ?_))
  .rw[z07 nt5];exact z01
  .rw[z07 nt4f,z07 nt4];exact z01
 .obtain⟨u6,u7,u8,u9,us,rs,rfl,t2,elr,drs,hrl,gr⟩:=h;exact(exA rfl (q lr H2 rs (s1.trans t2) ⟨us,elr,drs⟩ (gr.good (by lia) hm1 (by lia)) (by lia)))
abbrev zih:List Str:=["_law_rows_here","_law_line","_law_marks","_law_place","_law_heads","_law_row"]
abbrev zgq:List Str:=["_law_row","_law_marks","_law_place","_law_rows_here"]
abbrev zhl:Scope:=csc [(".0",.local),("_law_row",.local),("tuple",.globalImplicit),("_law_marks",.free),("_law_place",.free),("_law_rows_here",.free)]
def zef:z0n zih ["_law_rows_here","_law_line","_law_marks"] (z04 z5i):={}
def zeN:z1k zih (z04 z5i) zgq [none,some 2,some 3,some 0] zhl:={}
abbrev zhD:Scope:=csc [(".0",.local),("_law_row",.local),("tuple",.globalImplicit),("_law_marks",.cell),("_law_place",.cell),("_law_rows_here",.cell)]
def zen:z1k zgq zhD ["_law_to","_law_marks","_law_place"] [none,some 1,some 2] (csc [(".0",.local),("_law_to",.local),("_law_marks",.free),("_law_place",.free)]):={}
def zap(F:Fun K "_law_in_line" "_law_in_line" z5i f fd)(ml:mg "len"=none)(mt:mg "tuple"=none):z0u P w K mg base CX 1 f fd ["_law_rows_here","_law_line","_law_marks"] (z5v K):=by
 refine F.okc zef (fun vs H Q E h=>?_) (fun cdv A outer s H vs Q E hr h=>?_)
 .obtain⟨a,l,m,n,rows,nm,us,o,k,kvs,rfl,_⟩:=h;rfl
 obtain⟨a,l,m,n,rows,nm,us,o,k,kvs,rfl,Sa,da,ni,GM,hn,el,em,mk,L,cl,q⟩:=h;have hu:=zaj hr;refine⟨_,z02 (z0b (i:=3) zef.nd rfl (Or.inr rfl) z6E)
  (z02 (z0b (i:=4) zef.nd rfl (Or.inl rfl) (z1m z03))
  (z02 (z1u y0R rfl (z1x (pv 1)) (z0a (i:=5) zef.nd rfl (Or.inl rfl))
   (z05 (z1M (z1J (z2X hu (z3k hu (pv 2) (pv 5) (fun _ _=>rfl)) (pv 3)))
    (z02 (z4e hu (pv 3) (z3k hu (pv 2) (pv 5) (fun _ _=>rfl)) (z0i z0d rfl ml y0G (z00 (pv 4) z03)) rfl)
    (z05 (z0P (z2V y0y y0A y0B z0D (pv 4) (z00 (pv 5) z03))))) z0I)))
  (z05 (z0x (z0w z0o rfl mt y0E (z00 (z1b rfl zeN (z1x (pv 4)) (fun _ _ _ _ _=>z0a (i:=0) zeN.nd rfl (Or.inl rfl))
   (fun _ _ _ _ _=>z2d (z00 (z0w (zid K rfl) rfl mt y0E (z00 (z0V (ixT K rfl) (z0V (ixQ K rfl) (pv 3) (pv 0) (fun _ _=>rfl)) z08 (fun _ _=>rfl)) z03))
    (z00 (z0w (zid K rfl) rfl mt y0E (z00 (z1b rfl zen (piT K rfl (z0V (ixT K rfl) (z0V (ixQ K rfl) (pv 3) (pv 0) (fun _ _=>rfl)) z08 (fun _ _=>rfl))) (fun _ _ _ _ _=>z0a (i:=0) zen.nd rfl (Or.inl rfl))
     (fun _ _ _ _ _=>z3k hu (pv 2) (z3k hu (pv 1) (pv 0) (fun _ _=>rfl)) (fun _ _=>rfl))) z03)) z03)))) z03)))))),?_⟩
 have hol:=L.len;have h400:=GM.few;have gk:∀r∈o,z3d kvs (kN nm r)=some (V.int (k r)):=fun r hr=>by obtain⟨v,hv,d⟩:=mk.get ni hr;simp only[Dr]at d;rw[hv,d]
 refine fun lp hlp=>⟨by show 0<=sizeLine;decide,fun lh hlh=>?_⟩;have s1:=same_up (o:=HO.dK []) (z0c.refl H) hlp;have hlh0:H lh=none:=s1.free hlh;have nph:lp≠lh:=z0e z01 hlh;have s2:=same_up (o:=HO.lst []) s1 hlh;refine⟨_,rfl,l,rfl,⟨_,SqL.of (s2 _ _ el)⟩,zaN (xs:=o.map (nV nm)) (fun i σ H2=>∃(u:Option V),σ=[some (.ref a),some (.ref l),some (.ref m),some (.ref lp),some (.ref lh),u]/\z0c H H2/\H2 lh=some (.lst ((z0H k (o.take i)).map (nV nm)))/\H2 lp=some (.dK (prs Sum.inl ((z0H k (o.take i)).map k))))
  ⟨_,rfl,s2,z01,by rw[z07 nph];exact z01⟩ (fun i σ H2 _ h=>by obtain⟨_,_,t2,_⟩:=h;exact SqL.of (t2 _ _ el)) (fun i x σ H2 hx h Ed nx3=>?_) (fun σ H2 h=>?_)⟩
 .obtain⟨u,rfl,t2,e1,e2⟩:=h;have hil:i<o.length:=by have:=(y06.mp hx).1;rwa [y01]at this
  have eo:o[i]?=some o[i]:=y00 hil;have hro:o[i]∈o:=y0h hil;generalize o[i]=r at eo hro;have ex:x=V.int (nm r):=by rw[y04,eo]at hx;exact(y08 hx).symm
  subst ex;have et:z0H k (o.take (i+1))=z0N k (z0H k (o.take i)) r:=by rw[y0D,eo];exact z1C k _ _
  have hhl:=(z1w k (o.take i)).2.2;rw[y0q]at hhl;generalize z0H k (o.take i)=hs at *;have gm:z5C H2 m (V.int (nm r)) (some (V.int (k r))):=by rw[<-gk r hro];exact z5C.k (k:=kN nm r) (t2 _ _ em)
  refine(exA rfl (exA rfl ⟨m,exA rfl ⟨gm,exA rfl ⟨lp,exA rfl ⟨z5C.k (k:=Sum.inl (k r)) e2,exA rfl ?_⟩⟩⟩⟩));have hv:=z1X (κ:=Key) Sum.inl z8M (hs.map k) (k r);by_cases hm:k r∈hs.map k
  .rw[hv,if_pos hm];refine z8e (nx3 _ _ (exA rfl ⟨t2,?_,?_⟩))
   .rw[et,z0N,if_pos hm];exact e1
   .rw[et,z0N,if_pos hm];exact e2
  .rw[hv,if_neg hm];have nlop:lh≠lp:=y1v nph;refine zfJ (exA rfl (exG lh rfl (.inl (SqL.of e1)) (exA rfl (exA rfl (exA rfl ⟨m,exA rfl ⟨gm,lp,exA rfl ⟨zd5.k (k:=Sum.inl (k r)) e2 (by rw[z1R,y01];exact z1O (by lia)),?_⟩⟩⟩)))));have e1':upd H2 lp (.dK (z2K (prs Sum.inl (hs.map k)) (Sum.inl (k r):Key) (V.int ((hs.map (nV nm)).length:Nat)))) lh=some (.lst (hs.map (nV nm))):=by rw[z07 nlop];exact e1
   refine(exA rfl ⟨.inl ⟨rfl,_,SqL.of e1'⟩,exA rfl ⟨lh,exC rfl rfl ⟨e1',by rw[y01];exact z1O (by lia),?_⟩⟩⟩);refine nx3 _ _ (exA rfl ⟨z09 (z09 t2 hlp) hlh0,?_,?_⟩)
   .rw[z01,et,z0N,if_neg hm,y0d];rfl
   .rw[z07 nph,z01,et,z0N,if_neg hm,y0d];have:=z4T (κ:=Key) Sum.inl z8M hm;rw[y01]at this⊢;rw[this];rfl
 .obtain⟨u,rfl,t2,e1,e2⟩:=h;rw[y01,y0O]at e1 e2;obtain⟨hh1,hh2,hh3⟩:=z1w k o;unfold z2c at q;generalize z0H k o=hs at *;refine(exA rfl ⟨lh,rfl,⟨_,SqL.of e1⟩,fun l3 hl3=>z1Y (xs:=hs.map (nV nm)) (fun i ys H3=>i<=hs.length/\ys.length=i/\z0c H2 H3/\DrL K H3 (((hs.take i).map fun r=>z8o ((row rows r).1,(row rows r).2.map fun g=>(((hs.map k).idxOf (k g):Nat):Int)))) ys) ⟨y0K _,rfl,same_up (z0c.refl H2) hl3,DrL.nil⟩ (fun i ys H3 _ h=>SqL.of (h.2.2.1 _ _ e1)) (by rw[y01];exact z0U (by lia)) (fun i ys H3 h=>h.2.1) (fun i x ys H3 hx h hy=>?_) (fun ys H3 h hy=>?_)⟩)
  .obtain⟨_,hyl,s3,d3⟩:=h;have hil:i<hs.length:=by have:=(y06.mp hx).1;rwa [y01]at this
   have eo:hs[i]?=some hs[i]:=y00 hil;have hrh:hs[i]∈hs:=y0h hil;generalize hs[i]=r at eo hrh;have hro:=hh2 r hrh;have ex:x=V.int (nm r):=by rw[y04,eo]at hx;exact(y08 hx).symm
   subst ex;obtain⟨r0,r1⟩:=L.rg r hro;obtain⟨nr0,v,ev,dv⟩:=da r r0 r1;have t3:=t2.trans s3;obtain⟨t,b,cc,rfl,et,eb,ec⟩:=z1c (dv.mono t3);dsimp only[zdM]at eb ec;have hgl:=GM.len _ (z0t r0 r1);have hgo:=cl r hro;have esn:=z1a (fun r=>z8o ((row rows r).1,(row rows r).2.map fun g=>(((hs.map k).idxOf (k g):Nat):Int))) eo;generalize hrr:(row rows r).2=gs at *;refine(exA rfl (exA rfl ⟨a,_,nm r,.ref t,rfl,rfl,Sa.mono t3,z29 nr0 ev,exD t _ _ (.ref b) rfl rfl (SqT.of et) (z0z (j:=0) rfl) ⟨b,exA rfl (.inr ⟨SqT.of eb,?_⟩)⟩⟩));refine(exA rfl (exA rfl ⟨a,_,nm r,.ref t,rfl,rfl,Sa.mono t3,z29 nr0 ev,exD t _ _ (.ref cc) rfl rfl (SqT.of et) (z0z (j:=1) rfl) ⟨cc,rfl,⟨_,SqT.of ec⟩,fun l4 hl4=>z2a (xs:=(gs.map nm).map V.int) (fun j zs H4=>j<=gs.length/\zs=((gs.take j).map fun g=>(((hs.map k).idxOf (k g):Nat):Int)).map V.int/\z0c H3 H4) ⟨y0K _,rfl,same_up (z0c.refl H3) hl4⟩ (fun j zs H4 _ h=>SqT.of (h.2.2 _ _ ec)) (by rw[y01,y01];exact z0U (by lia)) (fun j zs H4 h=>?_) (fun j x zs H4 hx h hy4=>?_) (fun zs H4 h hy4=>?_)⟩⟩))
   .obtain⟨hj,rfl,_⟩:=h;rw[y01,y01,y0q];lia
   .obtain⟨hj,rfl,s4⟩:=h;have hjl:j<gs.length:=by have:=(y06.mp hx).1;rwa [y01,y01]at this
    have eg:gs[j]?=some gs[j]:=y00 hjl;have hgm:=hgo _ (y0h hjl);generalize gs[j]=gj at eg hgm;have ex:x=V.int (nm gj):=by rw[y04,y04,eg]at hx;exact(y08 hx).symm
    subst ex;have t4:=t3.trans s4;have gm:z5C H4 m (V.int (nm gj)) (some (V.int (k gj))):=by rw[<-gk gj hgm];exact z5C.k (k:=kN nm gj) (t4 _ _ em)
    have hv:=z1X (κ:=Key) Sum.inl z8M (hs.map k) (k gj);rw[if_pos (hh1 gj hgm)]at hv;refine(exA rfl (exA rfl (exA rfl ⟨m,exA rfl ⟨gm,lp,exA rfl ⟨(by rw[<-hv];exact z5C.k (k:=Sum.inl (k gj)) (s4 _ _ (s3 _ _ e2))),hy4,hjl,?_,z09 s4 hl4⟩⟩⟩)));rw[z1a _ eg,y0d];rfl
   .obtain⟨_,rfl,s4⟩:=h;rw[y01,y01,y0O]at hy4;refine⟨l4,exA rfl (.inl ⟨SqL.of hy4,fun t4 ht4=>⟨by show 2<=sizeLine;decide,fun t5 ht5=>?_⟩⟩)⟩;have s5:=same_up (o:=HO.tup ((gs.map fun g=>(((hs.map k).idxOf (k g):Nat):Int)).map V.int)) s4 ht4;have s6:=same_up (o:=HO.tup [.ref b,.ref t4]) s5 ht5;have hy6:=s6 _ _ hy;refine⟨hy6,hil,by rw[y0f,hyl];rfl,z09 (s3.trans s6) hl3,?_⟩;have kk:z0Z H3 (upd (upd (upd H4 t4 (.tup ((gs.map fun g=>(((hs.map k).idxOf (k g):Nat):Int)).map V.int))) t5 (.tup [.ref b,.ref t4])) l3 (.lst (ys++[.ref t5]))):=z0Z.up (z0Z.of s6) hy6 (fun _ z=>by cases z);have nt5:t5≠l3:=z47 z01 hy6 (by intro z;cases z);have nt4:t4≠t5:=z0e z01 ht5;have nt4f:t4≠l3:=z47 (show upd (upd H4 t4 (.tup ((gs.map fun g=>(((hs.map k).idxOf (k g):Nat):Int)).map V.int))) t5 (.tup [.ref b,.ref t4]) t4=_ by rw[z07 nt4];exact z01) hy6 (by intro z;cases z);rw[esn];refine DrL.append (d3.keyed kk (by have:=z2x ((hs.take i).map fun r=>((row rows r).1,(row rows r).2.map fun g=>(((hs.map k).idxOf (k g):Nat):Int)));unfold z0B at this;rw[y1h]at this;exact this)) (DrL.one (z4a (b:=b) (c:=t4) ?_ (kk _ _ eb) ?_))
    .rw[z07 nt5];exact z01
    .rw[z07 nt4f,z07 nt4];exact z01
  .obtain⟨_,_,s3,d3⟩:=h;rw[y01,y0O]at d3;refine⟨l3,exA rfl (.inl ⟨SqL.of hy,fun t ht=>?_⟩)⟩;refine q _ _ ((t2.trans s3).trans (same_up (z0c.refl H3) ht)) (Dr.tup z01 ?_);unfold z0B;rw[y1h];exact d3.mono (same_up (z0c.refl H3) ht)
abbrev zil:List Str:=["_law_rows_here","_law_start","_law_line","_law_marks","_law_at","_law_to","_law_many","_law_grown","_law_known","_law_fresh","_law_row","_law_key"]
def z3q:z0n zil ["_law_rows_here","_law_start"] (z04 z45):={}
def zgh:z1k zil (z04 z45) ["_law_to","_law_marks"] [none,some 3] (csc [(".0",.local),("_law_to",.local),("_law_marks",.free)]):={}
def zcy(u:List D)(d:D)(hn:u.Nodup):z2K (prs id u) d ((z3d (prs id u) d).getD (V.int ((prs id u).length:Nat)))=prs id (z26 u d):=by
 have hv:z3d (prs id u) d=_:=z1X id (fun _ _ e=>e) u d;by_cases hm:d∈u
 .rw[hv,if_pos hm,z0q hm];have:=z7J 0 u d hm hn;rw[y2Y]at this;exact this
 .rw[hv,if_neg hm,z0r hm,<-z4T id (fun _ _ e=>e) hm];rw[z1R];rfl
def zax(F:Fun K "_law_shrunk" "_law_shrunk" z45 f fd)(ml:mg "len"=none)(mt:mg "tuple"=none)(G:z0u P w K mg base CX 1 g gd ["_law_rows_here","_law_line","_law_marks"] (z5v K))(bG:z0j K gd ["_law_rows_here","_law_line","_law_marks"] [])(kG:PySem.W.keepIn K (.ref g)=true)(mG:mg "_law_in_line"=some (.ref g)):z0u P w K mg base CX 2 f fd ["_law_rows_here","_law_start"] (z55 K):=by
 refine F.okc z3q (fun vs H Q E h=>?_) (fun cdv A outer s H vs Q E hr h=>?_)
 .obtain⟨a,n,rows,nm,us,rfl,_⟩:=h;rfl
 obtain⟨a,n,rows,nm,us,rfl,Sa,da,ni,GM,hn,q⟩:=h;have hu:=zaj hr;have hu9:(A.deeper (PyProof.Rows.envOfC "_law_shrunk" (z04 z45) s.heap.objs.size f cdv)).units+9<cLine:=by have:=hr.units;lia
 refine⟨_,z02 (z0b (i:=2) z3q.nd rfl (Or.inl rfl) (z1m (z00 (pv 1) z03)))
  (z02 (z0b (i:=3) z3q.nd rfl (Or.inr rfl) (z8I (z4G (pv 1) (z0V z27 (z0V (ixQ K rfl) (pv 0) (pv 1) (fun _ _=>rfl)) z08 (fun _ _=>rfl)) z7d) rfl rfl (by simp) (by decide)))
  (z02 (z0b (i:=4) z3q.nd rfl (Or.inl rfl) z08)
  (z02 (z1T y0R (z0W z5K (pv 4) (z0i z0d rfl ml y0G (z00 (pv 2) z03)) (z1j _))
   (z02 (z1u y0R rfl (z2r (z0V z27 (z0V (ixQ K rfl) (pv 0) (z0V z1s (pv 2) (pv 4) (fun _ _=>rfl)) (fun _ _=>rfl)) z08 (fun _ _=>rfl))) (z0a (i:=5) z3q.nd rfl (Or.inl rfl))
    (z05 (z1M (z1J (z2X hu (pv 5) (pv 3)))
     (z02 (z4e hu (pv 3) (pv 5) (z0V z27 (z0V (ixQ K rfl) (pv 0) (pv 5) (fun _ _=>rfl)) z08 (fun _ _=>rfl)) rfl)
     (z05 (z0P (z2V y0y y0A y0B z0D (pv 2) (z00 (pv 5) z03))))) z0I)))
   (z05 (zcK (i:=4) z3q.nd rfl (Or.inl rfl) z08 zck))))
  (z02 (z0b (i:=6) z3q.nd rfl (Or.inl rfl) z08)
  (z02 (z0b (i:=7) z3q.nd rfl (Or.inl rfl) z7i)
  (z02 (z1T y0R (zeS (pv 7))
   (z02 (z0b (i:=8) z3q.nd rfl (Or.inl rfl) (zcB (K:=K)))
   (z02 (z0b (i:=9) z3q.nd rfl (Or.inl rfl) z6E)
   (z02 (z1u y0R rfl (z1x (pv 2)) (z0a (i:=10) z3q.nd rfl (Or.inl rfl))
    (z02 (z0b (i:=11) z3q.nd rfl (Or.inl rfl) (z2d (z00 (z3k hu (pv 3) (pv 10) (fun _ _=>rfl)) (z00 (z0w z0o rfl mt y0E (z00
     (z1b rfl zgh (z2r (z0V z27 (z0V (ixQ K rfl) (pv 0) (pv 10) (fun _ _=>rfl)) z08 (fun _ _=>rfl))) (fun _ _ _ _ _=>z0a (i:=0) zgh.nd rfl (Or.inl rfl)) (fun _ _ _ _ _=>z3k hu (pv 1) (pv 0) (fun _ _=>rfl))) z03)) z03))))
    (z02 (z8B (K:=K) hu9 (pv 8) (pv 11) (zdd (K:=K) hu9 (pv 8) (pv 11) (z0i (zej K) rfl ml y0G (z00 (pv 8) z03)) ⟨rfl,rfl,rfl,rfl⟩))
    (z05 (z4e hu (pv 9) (pv 10) (zcX (K:=K) hu9 (pv 8) (pv 11) (fun _ _=>rfl)) rfl)))))
   (z02 (z0b (i:=7) z3q.nd rfl (Or.inl rfl) (z6M zbc (z0i (zej K) rfl ml y0G (z00 (pv 8) z03)) (pv 6) (z1j _)))
   (z02 (z0b (i:=6) z3q.nd rfl (Or.inl rfl) (z0i (zej K) rfl ml y0G (z00 (pv 8) z03)))
   (z05 (z0b (i:=3) z3q.nd rfl (Or.inr rfl) (pv 9)))))))))
  (z05 (z0x (z0f G hr rfl mG kG bG .nil z0K (z00 (pv 0) (z00 (pv 2) (z00 (pv 3) z03)))))))))))),?_⟩
 have h400:=GM.few;have h1:=GM.some;have hz1:(0:Int)<(rows.length:Int):=by lia
 refine(exA rfl ⟨by show 1<=sizeLine;decide,fun lo hlo=>?_⟩);refine fun lm hlm=>(exA rfl ?_);have s1:=same_up (o:=HO.lst [V.int (nm 0)]) (z0c.refl H) hlo;have s2:=same_up (o:=HO.dK []) s1 hlm;have nlo:lo≠lm:=z0e z01 hlm;have hlm0:H lm=none:=s1.free hlm;obtain⟨nz0,v0,ev0,dv0⟩:=da 0 (y1u 0) hz1;obtain⟨t0,b0,c0,rfl,et0,eb0,ec0⟩:=z1c (dv0.mono s2);refine(exA rfl (exA rfl ⟨a,_,nm 0,.ref t0,rfl,rfl,Sa.mono s2,z29 nz0 ev0,exD t0 _ _ (.ref b0) rfl rfl (SqT.of et0) (z0z (j:=0) rfl) ⟨z01,[(Sum.inl (nm 0),V.ref b0)],rfl,by simp,?_⟩⟩));have s3:z0c H (upd (upd (upd H lo (.lst [.int (nm 0)])) lm (.dK [])) lm (.dK (z3S [] [(Sum.inl (nm 0),V.ref b0)]))):=z09 s2 hlm0;have hF0:=FK.its rows;have L0:=zci GM;have OL:=z0v GM;have hol:=OL.1.len;show z87 _ _ _ _ _;refine zhW (fun σ' H'=>∃(i0:Int)(o:List Int)(u5:Option V)(kvs:List (Key × V)),σ'=[some (.ref a),some (.int (nm 0)),some (.ref lo),some (.ref lm),some (.int i0),u5,none,none,none,none,none,none]/\z0c H H'/\H' lo=some (.lst (o.map (nV nm)))/\H' lm=some (.dK kvs)/\MkN nm K H' o (fun r=>D.its (row rows r).1) kvs/\z7g rows o/\z0g rows=o) (fun Ed nx=>?_) (fun σ' H' p=>?_);rotate_left
 .obtain⟨i0,o,u5,kvs,rfl,t2,glo,glm,mk2,L,eoo⟩:=p;have cl:∀r∈o,∀g∈(row rows r).2,g∈o:=by have:=OL.2;rwa [eoo]at this
  have hln:=L.len;refine⟨fun m σ H3=>∃(f:Int->D)(many:Nat)(gr:Bool)(lm:Addr)(kvs:List (Key × V))(u8 u9 u10 u11:Option V),σ=[some (.ref a),some (.int (nm 0)),some (.ref lo),some (.ref lm),some (.int i0),u5,some (.int many),some (.bl gr),u8,u9,u10,u11]/\z0c H H3/\H3 lo=some (.lst (o.map (nV nm)))/\H3 lm=some (.dK kvs)/\MkN nm K H3 o f kvs/\FK f /\
    ((gr=true/\o.length+2<=m+many/\many<=o.length/\z4V rows o m many f=z5Y rows)\/(gr=false/\f=z5Y rows)),
   ⟨rows.length+2,_,0,true,lm,kvs,_,_,_,_,rfl,t2,glo,glm,mk2,hF0,.inl ⟨rfl,by lia,by lia,by unfold z5Y;rw[eoo]⟩⟩,?_⟩
  clear glm mk2;rintro m σ H3 ⟨f,many,gr,lm,kvs,u8,u9,u10,u11,rfl,t3,elo,elm,mk3,hf,alt⟩;refine(exA rfl (exA rfl (z30 (fun c=>?_) (fun c=>?_))))
  .obtain⟨_,hm1,hm2,hsl⟩:=alt.resolve_right fun z=>by rw[z.1]at c;cases c
   clear alt;refine zeU fun N nx2=>?_;intro lk hlk ob0 g0 lf hlf;have s4:=same_up (o:=ob0) (z0c.refl H3) hlk;have hlf0:H3 lf=none:=s4.free hlf;have nkf:lk≠lf:=z0e z01 hlf;have s5:=same_up (o:=HO.dK []) s4 hlf;refine⟨_,rfl,lo,rfl,⟨_,SqL.of (s5 _ _ elo)⟩,zaN (xs:=o.map (nV nm)) (fun i σ H4=>∃(u10 u11:Option V)(kv4:List (Key × V)),σ=[some (.ref a),some (.int (nm 0)),some (.ref lo),some (.ref lm),some (.int i0),u5,some (.int many),some (.bl gr),some (.ref lk),some (.ref lf),u10,u11]/\z0c H3 H4/\DD P w K H4 lk (prs id (z0F ((z2j rows o f).take i)))/\H4 lf=some (.dK kv4)/\MkN nm K H4 (o.take i) (z3h rows o f) kv4)
    ⟨_,_,[],rfl,s5,?_,z01,MkN.nil⟩ (fun i σ H4 _ h=>by obtain⟨_,_,_,_,t4,_⟩:=h;exact SqL.of (t4 _ _ elo)) (fun i x σ H4 hx h Ed nx3=>?_) (fun σ H4 h=>?_)⟩
   .exact g0.mono (same_up (z0c.refl _) hlf)
   .obtain⟨u10,u11,kv4,rfl,t4,g4,elf,mk4⟩:=h;have hil:i<o.length:=by have:=(y06.mp hx).1;rwa [y01]at this
    have eo:o[i]?=some o[i]:=y00 hil;have hro:o[i]∈o:=y0h hil;have hnew:o[i]∉o.take i:=zfh L.nd eo;generalize o[i]=r at eo hro hnew;have ex:x=V.int (nm r):=by rw[y04,eo]at hx;exact(y08 hx).symm
    subst ex;obtain⟨r0,r1⟩:=L.rg r hro;have t34:=t3.trans t4;obtain⟨nr0,vr,evr,dvr⟩:=da r r0 r1;obtain⟨t,b,cc,rfl,et,eb,ec⟩:=z1c (dvr.mono t34);dsimp only[zdM]at eb ec;have hgl:=GM.len _ (z0t r0 r1);have hgo:=cl r hro;obtain⟨v,hv,dv⟩:=mk3.get ni hro;have gm:z5C H4 lm (V.int (nm r)) (some v):=by rw[<-hv];exact z5C.k (k:=kN nm r) (t4 _ _ elm)
    have ekey:z1N rows f r=D.tup [f r,D.tup ((row rows r).2.map f)]:=rfl;have ks:=hf.key (rows:=rows) r;have esk:(z2j rows o f)[i]?=some (z1N rows f r):=by unfold z2j;rw[y04,eo];rfl
    have hidx:(((z0F ((z2j rows o f).take (i+1))).idxOf (z1N rows f r):Nat):Int)=z32 rows o f r:=by
     unfold z32;obtain⟨m2,e2⟩:=z0A ((z2j rows o f).drop (i+1)) (z0F ((z2j rows o f).take (i+1)));have e3:z0F (z2j rows o f)=z0F ((z2j rows o f).take (i+1))++m2:=by rw[<-e2];unfold z0F z06;rw[<-y2c,y0T]
     rw[e3,z5r];refine z0k.mpr (.inr ?_);rw[y0D,esk];simp
    have hun:z0F ((z2j rows o f).take (i+1))=z26 (z0F ((z2j rows o f).take i)) (z1N rows f r):=by unfold z0F;rw[y0D,esk];exact z1f _ _ _
    have hund:(z0F ((z2j rows o f).take i)).Nodup:=z0O _ _ y2s;have hunl:(z0F ((z2j rows o f).take i)).length<=4000:=by have:=z4X ((z2j rows o f).take i);rw[y0q]at this;lia
    rw[hun]at hidx;generalize z0F ((z2j rows o f).take i)=un at *;generalize hgs:(row rows r).2=gs at *;dsimp only[zbD];refine zhF (fun σ' H'=>∃t7:Addr,σ'=[some (.ref a),some (.int (nm 0)),some (.ref lo),some (.ref lm),some (.int i0),u5,some (.int many),some (.bl gr),some (.ref lk),some (.ref lf),some (.int (nm r)),some (.ref t7)]/\z0c H4 H'/\Dr K H' (z1N rows f r) (.ref t7)) (fun Eq nxq=>?_) (fun σ' H7 p=>?_);rotate_left
    .obtain⟨t7,rfl,s47,dk⟩:=p;have g7:=g4.mono s47;have e7f:=s47 _ _ elf;have t7':=t4.trans s47;refine(exA rfl ⟨lk,exA rfl ⟨g7,exA rfl (exA rfl ⟨lk,exA rfl ⟨g7,_,_,g7,zd6 ks dk,exA rfl (exA rfl ⟨lk,exB rfl ⟨g7,zd6 ks dk,by rw[z1R];exact z1O (by lia),fun ob g8=>?_⟩⟩)⟩⟩)⟩⟩);rw[zcy un _ hund]at g8;have k8:z0Z H7 (upd H7 lk ob):=by
      obtain⟨xs,e0,_⟩:=g7;exact z0Z.up (z0Z.refl _) e0 (fun _ z=>by unfold zbQ at z;cases z)
     have dk8:=dk.keyed k8 ks.1;have hval:z3d (prs id (z26 un (z1N rows f r))) (z1N rows f r)=some (V.int (z32 rows o f r)):=by have:=z1X (κ:=D) id (fun _ _ e=>e) (z26 un (z1N rows f r)) (z1N rows f r);rw[if_pos (zdp _ _),hidx]at this;exact this
     have e8f:upd H7 lk ob lf=some (.dK kv4):=by rw[z07 nkf.symm];exact e7f
     refine(exA rfl (exA rfl ⟨lk,_,exB rfl ⟨g8,zd6 ks dk8,hval,exA rfl (exA rfl ⟨lf,exA rfl ⟨zd5.k (k:=kN nm r) e8f (by rw[mk4.len,y0q];exact z1O (by lia)),?_⟩⟩)⟩⟩));have k9:z0Z (upd H7 lk ob) (upd (upd H7 lk ob) lf (.dK (z2K kv4 (kN nm r) (V.int (z32 rows o f r))))):=z0Z.up (z0Z.refl _) e8f (fun _ z=>by cases z);refine nx3 _ _ ⟨_,exB rfl ⟨z09 (z09 t7' hlk) hlf0,?_,z01,?_⟩⟩
     .rw[hun];exact DD.keyed g8 k9 (by rw[z07 nkf])
     .rw[y0D,eo];exact(mk4.mono s47).put ni hnew (((mk4.mono s47).keyed k8 (FK.int _)).keyed k9 (FK.int _)) (Dr.int _)
    refine(exA rfl (exA rfl ⟨lm,v,rfl,gm,exA rfl (exA rfl ⟨a,_,nm r,.ref t,rfl,rfl,Sa.mono t34,z29 nr0 evr,exD t _ _ (.ref cc) rfl rfl (SqT.of et) (z0z (j:=1) rfl) ⟨cc,rfl,⟨_,SqT.of ec⟩,fun l5 hl5=>z2a (xs:=(gs.map nm).map V.int) (fun j zs H5=>j<=gs.length/\zs.length=j/\z0c H4 H5/\DrL K H5 ((gs.take j).map f) zs) ⟨y0K _,rfl,same_up (z0c.refl H4) hl5,DrL.nil⟩ (fun j zs H5 _ h=>SqT.of (h.2.2.1 _ _ ec)) (by rw[y01,y01];exact z0U (by lia)) (fun j zs H5 h=>h.2.1) (fun j x zs H5 hx h hy5=>?_) (fun zs H5 h hy5=>?_)⟩⟩)⟩))
    .obtain⟨hj,hzl,s5',d5⟩:=h;have hjl:j<gs.length:=by have:=(y06.mp hx).1;rwa [y01,y01]at this
     have eg:gs[j]?=some gs[j]:=y00 hjl;have hgm:=hgo _ (y0h hjl);generalize gs[j]=gj at eg hgm;have ex:x=V.int (nm gj):=by rw[y04,y04,eg]at hx;exact(y08 hx).symm
     subst ex;obtain⟨vg,hvg,dvg⟩:=mk3.get ni hgm;have gmg:z5C H5 lm (V.int (nm gj)) (some vg):=by rw[<-hvg];exact z5C.k (k:=kN nm gj) (s5' _ _ (t4 _ _ elm))
     have kk:z0Z H5 (upd H5 l5 (.lst (zs++[vg]))):=z0Z.up (z0Z.refl _) hy5 (fun _ z=>by cases z);refine(exA rfl (exA rfl ⟨lm,vg,rfl,gmg,hy5,hjl,by rw[y0f,hzl];rfl,z09 s5' hl5,?_⟩));rw[z1a _ eg];exact DrL.append (d5.keyed kk (hf.keyL _)) (DrL.one ((dvg.mono (t4.trans s5')).keyed kk (hf gj).1))
    .obtain⟨_,hzl,s5',d5⟩:=h;rw[y01,y01,y0O]at d5;refine⟨l5,exA rfl (.inl ⟨SqL.of hy5,fun t6 ht6=>⟨by show 2<=sizeLine;decide,fun t7 ht7=>?_⟩⟩)⟩;have s6:=same_up (o:=HO.tup zs) (z0c.refl H5) ht6;have s7:=same_up (o:=HO.tup [v,.ref t6]) s6 ht7;have s47:=s5'.trans s7;have nt6:t6≠t7:=z0e z01 ht7;have dk:Dr K (upd (upd H5 t6 (.tup zs)) t7 (.tup [v,.ref t6])) (z1N rows f r) (.ref t7):=by
      rw[ekey];exact Dr.tup z01 (DrL.cons (dv.mono (t4.trans s47)) (DrL.one (Dr.tup (by rw[z07 nt6];exact z01) (d5.mono s7))))
     exact nxq _ _ ⟨t7,rfl,s47,dk⟩
   .obtain⟨u10,u11,kv4,rfl,t4,g4,elf,mk4⟩:=h;rw[y01]at g4 mk4;rw[y0O]at mk4;rw[y0x (by unfold z2j;rw[y01];lia)]at g4;have hcl:=z8c rows o f;refine(exA rfl ⟨lk,exA rfl ⟨g4,exA rfl (exC rfl rfl (exA rfl ⟨lk,exA rfl ⟨g4,exA rfl ?_⟩⟩))⟩⟩);have hpl:(prs id (z0F (z2j rows o f))).length=z2H rows o f:=z1R _ _ _;cases m with
    |zero=>lia
    |succ m =>
     refine nx2 m _ _ (Nat.lt_succ_self m) ⟨z3h rows o f,z2H rows o f,decide ((many:Int)<(z2H rows o f:Nat)),lf,kv4,_,_,_,_,(by rw[<-hpl];rfl),t3.trans t4,t4 _ _ elo,elf,mk4,FK.int _,?_⟩;unfold z4V at hsl;by_cases hc:many<z2H rows o f
     .rw[if_pos hc]at hsl;exact .inl ⟨y11 (by lia),by lia,hcl,hsl⟩
     .rw[if_neg hc]at hsl;exact .inr ⟨y0Z (by lia),hsl⟩
  .rcases alt with⟨hg,_⟩|⟨_,hfs⟩
   .exact absurd hg c
   refine(exA rfl (exA rfl (exA rfl ⟨a,lo,lm,n,rows,nm,us,o,kOf rows,kvs,rfl,Sa.mono t3,da.mono t3,ni,GM,hn,elo,elm,?_,L,cl,fun v H4 s4 d4=>?_⟩)))
   .rw[hfs,z6a rows]at mk3;exact mk3
   .refine q v H4 (t3.trans s4) ?_;unfold shr;rw[eoo];exact d4
 refine⟨fun m σ H2=>∃(i:Nat)(o:List Int)(u5:Option V)(kvs:List (Key × V)),m=rows.length+1-i/\σ=[some (.ref a),some (.int (nm 0)),some (.ref lo),some (.ref lm),some (.int i),u5,none,none,none,none,none,none]/\z0c H H2/\H2 lo=some (.lst (o.map (nV nm)))/\H2 lm=some (.dK kvs) /\
   MkN nm K H2 o (fun r=>D.its (row rows r).1) kvs/\z7g rows o/\i<=o.length/\bfs rows (rows.length+1-i) i o=z0g rows,
  ⟨_,0,[0],none,_,rfl,rfl,s3,?_,z01,?_,L0,by simp,rfl⟩,?_⟩
 .rw[z07 nlo,z07 nlo];exact z01
 .refine⟨[.ref b0],rfl,?_⟩;show DrL K _ [D.its (row rows 0).1] [.ref b0];exact DrL.one (Dr.tup (by rw[z07 (z47 eb0 z01 (by intro z;cases z))];exact eb0) (DrL.ints _))
 rintro m σ H2 ⟨i,o,u5,kvs,rfl,rfl,t2,glo,glm,mk2,L,hi,hb⟩;have hol2:(o.map (nV nm)).length=o.length:=y01 _;refine(exA rfl (exA rfl (exG lo rfl (.inl (SqL.of glo)) (exC rfl rfl (exA rfl (z30 (fun c=>?_) (fun c=>?_)))))))
 .have c':=y0V c;rw[hol2]at c';have hio:i<o.length:=by lia
  have eo:o[i]?=some o[i]:=y00 hio;have hro:o[i]∈o:=y0h hio;generalize o[i]=r at eo hro;obtain⟨r0,r1⟩:=L.rg r hro;obtain⟨nr0,v,ev,dv⟩:=da r r0 r1;obtain⟨t,b,cc,rfl,et,eb,ec⟩:=z1c (dv.mono t2);dsimp only[zdM]at eb ec;have hrow:=z0t r0 r1;have hgl:=GM.len _ hrow;have hgo:=GM.go _ hrow;have hlen:=L.len;refine zeU fun N nx2=>?_;refine(exA rfl (exA rfl (exA rfl (exD lo _ _ (V.int (nm r)) rfl rfl (SqL.of glo) (z0z (by rw[y04,eo];rfl)) ⟨a,_,nm r,.ref t,rfl,rfl,Sa.mono t2,z29 nr0 ev,exD t _ _ (.ref cc) rfl rfl (SqT.of et) (z0z (j:=1) rfl) ⟨cc,rfl,⟨_,SqT.of ec⟩,?_⟩⟩))));generalize hgs:(row rows r).2=gs at *;refine zhE (xs:=(gs.map nm).map V.int) (fun j σ H3=>∃(u:Option V)(kv3:List (Key × V)),σ=[some (.ref a),some (.int (nm 0)),some (.ref lo),some (.ref lm),some (.int i),u,none,none,none,none,none,none]/\z0c H H3/\z0Z H2 H3/\H3 lo=some (.lst ((z06 o (gs.take j)).map (nV nm)))/\H3 lm=some (.dK kv3)/\MkN nm K H3 (z06 o (gs.take j)) (fun r=>D.its (row rows r).1) kv3)
   ⟨_,kvs,rfl,t2,z0Z.refl _,glo,glm,mk2⟩ (fun j σ H3 _ h=>by obtain⟨_,_,_,_,k3,_⟩:=h;exact SqT.of (k3 _ _ ec)) (fun j x σ H3 hx h Ed nx3=>?_) (fun σ H3 h=>?_)
  .obtain⟨u,kv3,rfl,t3,k3,e1,e2,mk3⟩:=h;have hjl:j<gs.length:=by have:=(y06.mp hx).1;rwa [y01,y01]at this
   have eg:gs[j]?=some gs[j]:=y00 hjl;obtain⟨g0,g1⟩:=hgo _ (y0h hjl);generalize gs[j]=gj at eg g0 g1;have ex:x=V.int (nm gj):=by rw[y04,y04,eg]at hx;exact(y08 hx).symm
   subst ex;have et':z06 o (gs.take (j+1))=z26 (z06 o (gs.take j)) gj:=by rw[y0D,eg];exact z1f _ _ _
   have hal:(z06 o (gs.take j)).length<=4500:=by have:=z1V (gs.take j) o;rw[y0q]at this;lia
   generalize z06 o (gs.take j)=oj at *;refine(exA rfl (exA rfl ⟨lm,exA rfl ⟨z5C.k (k:=kN nm gj) e2,exA rfl ?_⟩⟩));by_cases hm:gj∈oj
   .obtain⟨v',hv',_⟩:=mk3.get ni hm;rw[hv'];refine z8e (nx3 _ _ ⟨_,kv3,rfl,t3,k3,?_,e2,?_⟩)
    .rw[et',z0q hm];exact e1
    .rw[et',z0q hm];exact mk3
   .rw[mk3.no ni hm];have nlop:lo≠lm:=nlo;obtain⟨ng0,v',ev',dv'⟩:=da gj g0 g1;obtain⟨t',b',c'',rfl,et'',eb'',ec''⟩:=z1c (dv'.mono t3);refine zfJ (exA rfl (exA rfl ⟨a,_,nm gj,.ref t',rfl,rfl,Sa.mono t3,z29 ng0 ev',exD t' _ _ (.ref b') rfl rfl (SqT.of et'') (z0z (j:=0) rfl) (exA rfl (exA rfl ⟨lm,exA rfl ⟨zd5.k (k:=kN nm gj) e2 (by rw[mk3.len];exact z1O (by lia)),?_⟩⟩))⟩));have e1':upd H3 lm (.dK (z2K kv3 (kN nm gj) (V.ref b'))) lo=some (.lst (oj.map (nV nm))):=by rw[z07 nlop];exact e1
    refine(exA rfl ⟨.inl ⟨rfl,_,SqL.of e1'⟩,exA rfl ⟨lo,exC rfl rfl ⟨e1',by rw[y01];exact z1O (by lia),?_⟩⟩⟩);have kk:z0Z H3 (upd (upd H3 lm (.dK (z2K kv3 (kN nm gj) (V.ref b')))) lo (.lst (oj.map (nV nm)++[V.int (nm gj)]))):=z0Z.up (z0Z.up (z0Z.refl _) e2 (fun _ z=>by cases z)) e1' (fun _ z=>by cases z);refine nx3 _ _ (exB rfl ⟨z09 (z09 t3 hlm0) hlo,k3.trans kk,?_,(by rw[z07 nlo.symm];exact z01),?_⟩)
    .rw[z01,et',z0r hm,y0d];rfl
    .rw[et',z0r hm];exact mk3.put ni hm (mk3.keyed kk hF0) (Dr.tup (kk _ _ eb'') (DrL.ints _))
  .obtain⟨u,kv3,rfl,t3,k3,e1,e2,mk3⟩:=h;rw[y01,y01,y0O]at e1 mk3;obtain⟨mm,em⟩:=z3V rows (rows.length+1-(i+1)) (i+1) (z06 o gs);have hb':bfs rows (rows.length+1-(i+1)) (i+1) (z06 o gs)=z0g rows:=by
    rw[<-hb,show rows.length+1-i=(rows.length+1-(i+1))+1 by lia,z3u eo,hgs]
   have L':z7g rows (z06 o gs):=by rw[<-hgs];exact L.add GM hro
   obtain⟨m1,em1⟩:=z0A gs o;have hi':i+1<=(z06 o gs).length:=by rw[em1,y0f];lia
   exact(exA rfl (exC rfl rfl (nx2 (rows.length+1-(i+1)) _ _ (by lia) ⟨i+1,z06 o gs,_,kv3,rfl,rfl,t3,e1,e2,mk3,L',hi',hb'⟩)))
 have c':=y16 (y14.mpr c);rw[hol2]at c';have eoo:z0g rows=o:=by rw[<-hb];exact z3x (by lia)
 exact nx _ _ ⟨_,o,u5,kvs,rfl,t2,glo,glm,mk2,L,eoo⟩
abbrev zi6:List Str:=["letters","word"]
def zhf:z0n zi6 ["letters","word"] (z04 z5x):={}
def zgA:z1k zi6 (z04 z5x) ["letter","letters"] [none,some 0] (csc [(".0",.local),("letter",.local),("letters",.free)]):={}
def zet(n:Nat)(l:Int):Bool:=!(decide (0<=l)&&decide (l<(n:Int)))
def z9K{n:Nat}{w:List Int}:((w.map (zet n)).any _root_.id=true)↔¬LW n w:=by
 unfold LW zet;rw[List.any_map];simp only[y2M,Function.comp,_root_.id,Bool.not_eq_true',Bool.and_eq_false_iff,decide_eq_false_iff_not];constructor
 .rintro⟨x,hx,h⟩ z;have:=z x hx;lia
 .intro h;apply y0Y;intro h2;exact h fun l hl=>y0Y fun h3=>h2 ⟨l,hl,by lia⟩
def zbV{Ct:Addr}{bmB:List Value}{B newId initId:String}(mC:mg "BadWord"=some (.ref Ct))(xC:PySem.W.excIn K Ct bmB newId=true)(hB:ExcBaseFacts B newId initId bmB)(F:Fun K "check_word" "check_word" z5x f fd)(many:mg "any"=none):z0u P w K mg base (CXx P w) 1 f fd ["letters","word"] (z3F K Ct):=by
 refine F.okx zhf (fun vs H Q E h=>?_) (fun cdv A outer s H vs Q E hr h=>?_)
 .obtain⟨n,u,w,rfl,_⟩:=h;rfl
 obtain⟨n,u,w,rfl,dw,h5,q,qx⟩:=h;obtain⟨a,rfl,ea⟩:=Dr.its_inv dw;refine⟨_,z05 (z1M (zeS (z0i (ziR K rfl rfl) rfl many PyProof.Rows.boot_any (z00 (z1b rfl zgA (z2r (pv 1)) (fun _ _ _ _ _=>z0a (i:=0) zgA.nd rfl (Or.inl rfl)) (fun _ _ _ _ _=>zg9 (ze4 z8C z5K z08 (pv 0) (pv 1)))) z03))) (z05 (z36 mC rfl xC hB z6h)) z0I),?_⟩;refine(exA rfl ⟨a,rfl,⟨_,SqT.of ea⟩,fun l hl0=>z2a (xs:=w.map V.int) (fun i ys H4=>i<=w.length/\ys=((w.take i).map (zet n)).map V.bl/\z0c H H4) ⟨y0K _,rfl,same_up (z0c.refl H) hl0⟩ (fun i ys H4 _ h=>SqT.of (h.2.2 _ _ ea)) (by rw[y01];exact z0U (by lia)) (fun i ys H4 h=>?_) (fun i x ys H4 hx h hy=>?_) (fun ys H4 h hy=>?_)⟩)
 .obtain⟨_,rfl,_⟩:=h;rw[y01,y01,y0q];lia
 .obtain⟨_,rfl,s4⟩:=h;have hil:i<w.length:=by have:=(y06.mp hx).1;rwa [y01]at this
  have eg:w[i]?=some w[i]:=y00 hil;generalize w[i]=gi at eg;have ex:x=V.int gi:=by rw[y04,eg]at hx;exact(y08 hx).symm
  subst ex;have et:(w.take (i+1)).map (zet n)=(w.take i).map (zet n)++[zet n gi]:=z1a _ eg;refine(exA rfl (exC rfl rfl (exA rfl (z30 (fun c=>(exA rfl (exC rfl rfl (exA rfl ⟨hy,hil,?_,z09 s4 hl0⟩)))) (fun c=>(exA rfl ⟨hy,hil,?_,z09 s4 hl0⟩))))))
  .rw[et,y0d];have c':=y0V c;unfold zet;rw[y11 c',Bool.true_and];rfl
  .rw[et,y0d];have c':=y16 (y14.mpr c);unfold zet;rw[y0Z c',Bool.false_and];rfl
 .obtain⟨_,rfl,s4⟩:=h;refine⟨l,exA rfl ⟨SqL.of hy,exA rfl (z30 (fun c=>?_) (fun c=>?_))⟩⟩
  .rw[y01,y0O]at c;exact fun e=>qx (z9K.mp c) e H4 s4
  .rw[y01,y0O]at c;exact q (y1F fun z=>c (z9K.mpr z)) H4 s4
abbrev nRf:List Str:=["guise","row","word","made","at","letter","rearranging","goings"]
def zeZ:z0n nRf ["guise","row","word"] (z04 z9L):={}
def ze1(F:Fun K "read_from" "read_from" z9L f fd)(mt:mg "tuple"=none):z0u P w K mg base CX 1 f fd ["guise","row","word"] (z8u K):=by
 refine F.okc zeZ (fun vs H Q E h=>?_) (fun cdv A outer s H vs Q E hr h=>?_)
 .obtain⟨v,u,rows,n,wd,s0,rfl,_⟩:=h;rfl
 obtain⟨v,u,rows,n,wd,s0,rfl,dv,dw,GM,hn,h5,hw,h0,h1,q⟩:=h;obtain⟨av,us,rfl,eav,dus⟩:∃(av:Addr)(us:List V),v=.ref av/\H av=some (.tup us)/\DrL K H (z0B rows) us:=by simp only[Dr]at dv;exact dv
 obtain⟨aw,rfl,eaw⟩:=Dr.its_inv dw;refine⟨_,z02 (z0b (i:=3) zeZ.nd rfl (Or.inl rfl) (z1m z03))
  (z02 (z0b (i:=4) zeZ.nd rfl (Or.inl rfl) (pv 1))
  (z02 (z1u y0R rfl (z2r (pv 2)) (z0a (i:=5) zeZ.nd rfl (Or.inl rfl))
   (z02 (z2S (z0V z27 (pv 0) (pv 4) (fun _ _=>rfl)) (z2f rfl (z0l (z0a (i:=6) zeZ.nd rfl (Or.inl rfl)) (z0l (z0a (i:=7) zeZ.nd rfl (Or.inl rfl)) z1g))))
   (z02 (z0P (z2V y0y y0A y0B z0D (pv 3) (z00 (z0V z27 (pv 6) (pv 5) (fun _ _=>rfl)) z03)))
   (z05 (z0b (i:=4) zeZ.nd rfl (Or.inl rfl) (z0V z27 (pv 7) (pv 5) (fun _ _=>rfl)))))))
  (z05 (z0x (z2d (z00 (z0w z0o rfl mt y0E (z00 (pv 3) z03)) (z00 (pv 4) z03))))))),?_⟩
 refine⟨by show 0<=sizeLine;decide,fun lm hlm=>?_⟩;have s1:=same_up (o:=HO.lst []) (z0c.refl H) hlm;refine⟨_,rfl,_,rfl,aw,rfl,⟨_,SqT.of (s1 _ _ eaw)⟩,z8P (xs:=wd.map V.int) (fun i σ H3=>∃(u5 u6 u7:Option V),σ=[some (.ref av),some (.int s0),some (.ref aw),some (.ref lm),some (.int (goW rows s0 (wd.take i))),u5,u6,u7]/\z0c H H3/\H3 lm=some (.lst ((z1v rows s0 (wd.take i)).map V.int)))
  ⟨_,_,_,rfl,s1,z01⟩ (fun i σ H3 _ h=>by obtain⟨_,_,_,_,t3,_⟩:=h;exact SqT.of (t3 _ _ eaw)) (fun i x σ H3 hx h=>?_) (fun σ H3 h=>?_)⟩
 .obtain⟨u5,u6,u7,rfl,t3,em⟩:=h;have hil:i<wd.length:=by have:=(y06.mp hx).1;rwa [y01]at this
  have eg:wd[i]?=some wd[i]:=y00 hil;obtain⟨l0,l1⟩:=hw _ (y0h hil);generalize wd[i]=l at eg l0 l1;have ex:x=V.int l:=by rw[y04,eg]at hx;exact(y08 hx).symm
  subst ex;have hwt:LW n (wd.take i):=fun x hx=>hw x (y1i hx);obtain⟨g0,g1⟩:=zgm GM hwt h0 h1;have est:goW rows s0 (wd.take (i+1))=(row rows (goW rows s0 (wd.take i))).2.getD l.toNat 0:=by rw[y0D,eg,Option.toList,zcQ];rfl
  have eot:z1v rows s0 (wd.take (i+1))=z1v rows s0 (wd.take i)++[(row rows (goW rows s0 (wd.take i))).1.getD l.toNat 0]:=by rw[y0D,eg,Option.toList,z6K];rfl
  have hol:(z1v rows s0 (wd.take i)).length=i:=by rw[z3v,y0q];lia
  rw[est,eot];generalize z1v rows s0 (wd.take i)=ms at em hol;generalize goW rows s0 (wd.take i)=g at g0 g1;obtain⟨vr,evr,dvr⟩:=z2M dus (z40 g0 g1);obtain⟨t,b',c',rfl,et,eb,ec⟩:=z1c (dvr.mono t3);have hgl:=GM.len _ (z0t g0 g1);have hpl:=(GM.perm _ (z0t g0 g1)).len;have hll:l.toNat<(row rows g).2.length:=by lia
  have hl1:l.toNat<(row rows g).1.length:=by lia
  refine(exA rfl (exA rfl (exD av _ g (.ref t) rfl rfl (SqT.of (t3 _ _ eav)) (z29 g0 evr) (exF t rfl (SqT.of et) rfl (exB rfl (exC rfl rfl ?_))))));refine(exA rfl ⟨.inl ⟨rfl,_,SqL.of em⟩,exA rfl (exA rfl (exD b' _ l (V.int ((row rows g).1.getD l.toNat 0)) rfl rfl (SqT.of eb) (z29 l0 ?_) ⟨lm,exC rfl rfl ⟨em,z1O (by rw[y01];lia),?_⟩⟩))⟩)
  .rw[y04,y03,y00 hl1];rfl
  have kk:z0Z H3 (upd H3 lm (.lst (ms.map V.int++[V.int ((row rows g).1.getD l.toNat 0)]))):=z0Z.up (z0Z.refl _) em (fun _ z=>by cases z);have t4:z0c H (upd H3 lm (.lst (ms.map V.int++[V.int ((row rows g).1.getD l.toNat 0)]))):=z09 t3 hlm;refine(exA rfl (exA rfl (exD c' _ l (V.int ((row rows g).2.getD l.toNat 0)) rfl rfl (SqT.of (kk _ _ ec)) (z29 l0 ?_) ⟨_,exB rfl ⟨t4,?_⟩⟩)))
  .rw[y04,y03,y00 hll];rfl
  .rw[y0d];exact z01
 .obtain⟨u5,u6,u7,rfl,t3,em⟩:=h;rw[y01,y0O]at *;refine(exA rfl ⟨lm,exA rfl (.inl ⟨SqL.of em,fun t ht=>(exA rfl ⟨by show 2<=sizeLine;decide,fun r hr'=>?_⟩)⟩)⟩);exact q r t _ (same_up (same_up t3 ht) hr') z01 (same_up (z0c.refl _) hr' _ _ z01)
abbrev nWr:List Str:=["guise","word","made","at"]
def zhC:z0n nWr ["guise","word"] (z04 zdx):={}
def zfQ{b c Cw:Addr}{bd cd:FuncData}(F:Fun K "worn" "worn" zdx f fd)(G:z0u P w K mg base (CXx P w) 1 g gd ["letters","word"] (z3F K Cw))(bG:z0j K gd ["letters","word"] [])(kG:PySem.W.keepIn K (.ref g)=true)(mG:mg "check_word"=some (.ref g))(R:z0u P w K mg base (CXx P w) 1 b bd ["guise"] (z2o K))(bR:z0j K bd ["guise"] [])(kR:PySem.W.keepIn K (.ref b)=true)(mR:mg "breadth"=some (.ref b))(U:z0u P w K mg base (CXx P w) 1 c cd ["guise","row","word"] (z8u K))(bU:z0j K cd ["guise","row","word"] [])(kU:PySem.W.keepIn K (.ref c)=true)(mU:mg "read_from"=some (.ref c)):z0u P w K mg base (CXx P w) 2 f fd ["guise","word"] (z9A K Cw):=by
 refine F.okx zhC (fun vs H Q E h=>?_) (fun cdv A outer s H vs Q E hr h=>?_)
 .obtain⟨v,u,rows,n,w,rfl,_⟩:=h;rfl
 obtain⟨v,u,rows,n,wd,rfl,dv,dw,GM,hn,h5,gv,gx⟩:=h;refine⟨_,z02 (z0P (z0f G hr rfl mG kG bG .nil (z7a fun _ _ _ z=>z) (z00 (z0f R hr rfl mR kR bR .nil z0K (z00 (pv 0) z03)) (z00 (pv 1) z03))))
  (z02 (z2S (z0f U hr rfl mU kU bU .nil z0K (z00 (pv 0) (z00 z08 (z00 (pv 1) z03)))) (z2f rfl (z0l (z0a (i:=2) zhC.nd rfl (Or.inl rfl)) (z0l (z0a (i:=3) zhC.nd rfl (Or.inl rfl)) z1g))))
  (z05 (z0x (pv 2)))),?_⟩
 have h1:=GM.some;obtain⟨r0,rt,er⟩:∃r0 rt,rows=r0::rt:=by
  cases rows with
  |nil=>simp at h1
  |cons r0 rt=>exact⟨r0,rt,rfl⟩
 have hp0:=GM.perm r0 (by rw[er];simp);have hl0:=hp0.len;refine(exA rfl ⟨v,r0,z0B rt,rfl,(by rw[er]at dv;exact dv),by lia,fun H1 s1=>(exA rfl ⟨n,u,wd,(by rw[hl0];rfl),dw.mono s1,by lia,fun hw H2 s2=>?_,fun hw ea H2 s2=>gx hw ea H2 (s1.trans s2)⟩)⟩);have s02:=s1.trans s2;refine(exA rfl (exA rfl ⟨v,u,rows,n,wd,0,rfl,dv.mono s02,dw.mono s02,GM,hn,h5,hw,y1u 0,by lia,fun r t H3 s3 er' et=>?_⟩));exact(exF r rfl (SqT.of er') rfl (exB rfl (exC rfl rfl (exA rfl (gv hw t H3 (s02.trans s3) et)))))
abbrev nRs:List Str:=["guise","word","letters","made","count"]
def zg1:z0n nRs ["guise","word"] (z04 z6J):={}
def zbu{Cw Ct Cb aR aCk aO aW:Addr}{dR dCk dO dW:FuncData}(ml:mg "len"=none)(F:Fun K "rounds" "rounds" z6J f fd)(R:z0u P w K mg base (CXx P w) 2 aR dR ["guise"] (z2o K))(bR:z0j K dR ["guise"] [])(kR:PySem.W.keepIn K (.ref aR)=true)(mR:mg "breadth"=some (.ref aR))(Ck:z0u P w K mg base (CXx P w) 2 aCk dCk ["letters","word"] (z3F K Cw))(bCk:z0j K dCk ["letters","word"] [])(kCk:PySem.W.keepIn K (.ref aCk)=true)(mCk:mg "check_word"=some (.ref aCk))(O:z0u P w K mg base (CXx P w) 2 aO dO ["letters","many"] (z2W K Ct Cb))(bO:z0j K dO ["letters","many"] [])(kO:PySem.W.keepIn K (.ref aO)=true)(mO:mg "words_on_floor"=some (.ref aO))(W:z0u P w K mg base (CXx P w) 2 aW dW ["guise","word"] (z9A K Cw))(bW:z0j K dW ["guise","word"] [])(kW:PySem.W.keepIn K (.ref aW)=true)(mW:mg "worn"=some (.ref aW)):z0u P w K mg base (CXx P w) 3 f fd ["guise","word"] (z4D K Cw Ct):=by
 refine F.okx zg1 (fun vs H Q E h=>?_) (fun cdv A outer s H vs Q E hr h=>?_)
 .obtain⟨v,u,one,n,wd,rfl,_⟩:=h;rfl
 obtain⟨v,u,one,n,wd,rfl,dv,dw,GM,n2,n5,h5,gv,gx,gw⟩:=h;refine⟨_,z02 (z0b (i:=2) zg1.nd rfl (Or.inl rfl) (z0f R hr rfl mR kR bR .nil z0K (z00 (pv 0) z03)))
  (z02 (z0P (z0f Ck hr rfl mCk kCk bCk .nil (z7a fun _ _ _ z=>z) (z00 (pv 2) (z00 (pv 1) z03))))
  (z02 (z0P (z0f O hr rfl mO kO bO .nil (z7a fun _ _ _ z=>z) (z00 (pv 2) (z00 (z0i z0d rfl ml y0G (z00 (pv 1) z03)) z03))))
  (z02 (z0b (i:=3) zg1.nd rfl (Or.inl rfl) (z0f W hr rfl mW kW bW .nil z0K (z00 (pv 0) (z00 (pv 1) z03))))
  (z02 (z0b (i:=4) zg1.nd rfl (Or.inl rfl) z08)
  (z02 (z1T y2D (z0W (zge hr.units0) (pv 3) (pv 1) (z1j _))
   (z02 (z0b (i:=3) zg1.nd rfl (Or.inl rfl) (z0f W hr rfl mW kW bW .nil z0K (z00 (pv 0) (z00 (pv 3) z03))))
   (z05 (zcK (i:=4) zg1.nd rfl (Or.inl rfl) z08 zck))))
  (z05 (z0x (pv 4)))))))),?_⟩
 have h1:=GM.some;obtain⟨r0,rt,er⟩:∃r0 rt,one=r0::rt:=by
  cases one with
  |nil=>simp at h1
  |cons r0 rt=>exact⟨r0,rt,rfl⟩
 have hl0:=(GM.perm r0 (by rw[er];simp)).len;obtain⟨aw,rfl,eaw⟩:=Dr.its_inv dw;have lw':(wd.map V.int).length=wd.length:=y01 _;refine(exA rfl ⟨v,r0,z0B rt,rfl,(by rw[er]at dv;exact dv),by lia,fun H1 s1=>?_⟩);rw[hl0];refine(exA rfl (exA rfl ⟨n,.ref aw,wd,rfl,dw.mono s1,by lia,fun hw H2 s2=>?_,fun hw ea H2 s2=>gw hw ea H2 (s1.trans s2)⟩));have s02:=s1.trans s2;refine(exA rfl (exA rfl (exG aw rfl (.inr (SqT.of (s02 _ _ eaw))) ⟨n,exA rfl ⟨n2,n5,by lia,fun z=>absurd z (by lia),fun _ hx ea H3 s3=>?_,fun _ hx=>?_⟩⟩)))
 .rw[y0l,lw']at hx;exact gx hw hx ea H3 (s02.trans s3)
 rw[y0l,lw']at hx;obtain⟨r,R,hr2⟩:=z9o GM (by lia) hw;have gv:=gv hw hx r R;obtain⟨r1,re,rlt⟩:=R;refine(exA rfl (exA rfl ⟨v,.ref aw,one,n,wd,rfl,dv.mono s02,dw.mono s02,GM,by lia,h5,fun _ t H3 s3 e3=>?_,fun z=>absurd hw z⟩));refine⟨fun m σ H4=>∃(c:Nat)(t:Addr),σ=[some v,some (.ref aw),some (.int n),some (.ref t),some (.int c)]/\z0c H H4/\H4 t=some (.tup ((itW one c wd).map V.int))/\1<=c/\c+m=r/\(∀k,1<=k->k<c->itW one k wd≠wd),
  ⟨r-1,1,t,rfl,s02.trans s3,e3,y0b _,by lia,fun k k1 k2=>absurd k2 (by lia)⟩,?_⟩
 rintro m σ H4 ⟨c,t,rfl,s4,e4,c1,hc,hlt⟩;refine(exA rfl (exA rfl ⟨t,aw,_,wd,rfl,rfl,e4,s4 _ _ eaw,exA rfl (z30 (fun z=>?_) (fun z=>?_))⟩))
 .have ne:itW one c wd≠wd:=fun y=>by rw[y11 y]at z;cases z
  have hcr:c<r:=by
   rcases y1q c r with y|y
   .exact y
   .have:c=r:=by lia
    rw[this]at ne;exact absurd re ne
  refine⟨fun σ' H'=>∃m',m'<m/\_,fun _ _ w=>w,exA rfl (exA rfl ⟨v,.ref t,one,n,itW one c wd,rfl,dv.mono s4,Dr.tup e4 (DrL.ints _),GM,by lia,by rw[z2F];exact h5,fun _ t5 H5 s5 e5=>?_,fun y=>absurd (z3g GM c wd hw) y⟩)⟩;refine(exA rfl (exC rfl rfl ⟨m-1,by lia,c+1,t5,rfl,s4.trans s5,e5,by lia,by lia,fun k k1 k2=>?_⟩));by_cases y:k=c
  .rw[y];exact ne
  .exact hlt k k1 (by lia)
 .have e:itW one c wd=wd:=y0Y fun y=>z (by rw[y0Z y];rfl);have hcr:c=r:=by
   rcases y1q c r with y|y
   .exact absurd e (rlt c c1 y)
   .lia
  rw[hcr];exact(exA rfl (gv H4 s4))
abbrev nWh:List Str:=["guise","many","count"]
def zii:z0n nWh ["guise","many"] (z04 z6P):={}
def zbn{Cw Ct Cb aR aO aN:Addr}{dR dO dN:FuncData}(F:Fun K "whirls" "whirls" z6P f fd)(R:z0u P w K mg base (CXx P w) 3 aR dR ["guise"] (z2o K))(bR:z0j K dR ["guise"] [])(kR:PySem.W.keepIn K (.ref aR)=true)(mR:mg "breadth"=some (.ref aR))(O:z0u P w K mg base (CXx P w) 3 aO dO ["letters","many"] (z2W K Ct Cb))(bO:z0j K dO ["letters","many"] [])(kO:PySem.W.keepIn K (.ref aO)=true)(mO:mg "words_on_floor"=some (.ref aO))(N:z0u P w K mg base (CXx P w) 3 aN dN ["guise","word"] (z4D K Cw Ct))(bN:z0j K dN ["guise","word"] [])(kN:PySem.W.keepIn K (.ref aN)=true)(mN:mg "rounds"=some (.ref aN)):z0u P w K mg base (CXx P w) 4 f fd ["guise","many"] (z6k K Ct Cb):=by
 refine F.okx zii (fun vs H Q E h=>?_) (fun cdv A outer s H vs Q E hr h=>?_)
 .obtain⟨v,one,n,many,rfl,_⟩:=h;rfl
 obtain⟨v,one,n,many,rfl,dv,GM,n2,n5,hm,gb,gx,gv⟩:=h;refine⟨_,z02 (z0b (i:=2) zii.nd rfl (Or.inl rfl) (z0f O hr rfl mO kO bO .nil (z7a fun _ _ _ z=>z) (z00 (z0f R hr rfl mR kR bR .nil z0K (z00 (pv 0) z03)) (z00 (pv 1) z03))))
  (z05 (z0x (z6M zdh (z0f N hr rfl mN kN bN .nil z0K (z00 (pv 0) (z00 (z0G zfK (z2d (z00 z08 z03)) (pv 1)) z03))) (pv 2) (z1j _)))),?_⟩
 have h1:=GM.some;obtain⟨r0,rt,er⟩:∃r0 rt,one=r0::rt:=by
  cases one with
  |nil=>simp at h1
  |cons r0 rt=>exact⟨r0,rt,rfl⟩
 have hl0:=(GM.perm r0 (by rw[er];simp)).len;refine(exA rfl ⟨v,r0,z0B rt,rfl,(by rw[er]at dv;exact dv),by lia,fun H1 s1=>?_⟩);rw[hl0];refine(exA rfl ⟨n,many,rfl,n2,n5,hm,fun z ea H2 s2=>gb z ea H2 (s1.trans s2),fun z y ea H2 s2=>gx z y ea H2 (s1.trans s2),fun m0 hf=>?_⟩);have gv:=gv m0 hf;obtain⟨m,rfl⟩:=z3I m0;rw[y0l]at hf gv⊢;have hm10:=z7F n2 hf;refine(exA rfl ⟨by show 1<=sizeLine;decide,fun p hp=>?_⟩);have s2:=same_up (o:=HO.tup [V.int 0]) (z0c.refl H1) hp;refine(exA rfl ⟨p,(m:Int),exA rfl ⟨rfl,z01,by lia,by lia,?_,fun p3 H3 s3 e3=>?_⟩⟩)
 .rw[y0l];show 1*m<=sizeLine;exact z0U (by lia)
 have ez:(List.replicate (m:Int).toNat [V.int 0]).flatten=(List.replicate m (0:Int)).map V.int:=by rw[y0l];exact zgQ m 0
 rw[ez]at e3;have s03:=s1.trans (s2.trans s3);have hz:=z9D (n:=n) (by lia) m;have hzl:(List.replicate m (0:Int)).length=m:=y23;refine⟨v,.ref p3,one,n,exA rfl ⟨dv.mono s03,Dr.tup e3 (DrL.ints _),GM,n2,n5,by lia,fun _ _ r R H4 s4=>?_,fun _ z=>absurd z (by rw[hzl];lia),fun z=>absurd hz z⟩⟩;refine(exA rfl ⟨rfl,?_⟩);have:=gv r R H4 (s03.trans s4);have e:decide (V.int (r:Int)=V.int ((n^m:Nat):Int))=decide (r=n^m):=by
  by_cases y:r=n^m
  .rw[y11 y,y];exact y11 rfl
  .rw[y0Z y];exact y0Z fun z=>y (by injection z with z;lia)
 rw[e];exact this
abbrev nLt:List Str:=["ways","number","camp","seen","at","way","going"]
def zfw:z0n nLt ["ways","number"] (z04 z9O):={}
def zde(ml:mg "len"=none)(mso:mg "sorted"=none)(F:Fun K "led_to" "led_to" z9O f fd):z0u P w K mg base CX 1 f fd ["ways","number"] (z8x K):=by
 refine F.okc zfw (fun vs H Q E h=>?_) (fun cdv A outer s H vs Q E hr h=>?_)
 .obtain⟨a,x,L,W,rfl,_⟩:=h;rfl
 obtain⟨a,x,L,W,rfl,⟨bs,ea,hbl,hbs⟩,hW,hL,x0,x1,q⟩:=h;have hu:=zaj hr;refine⟨_,z02 (z0b (i:=2) zfw.nd rfl (Or.inl rfl) (z1m (z00 (pv 1) z03)))
  (z02 (z0b (i:=3) zfw.nd rfl (Or.inl rfl) (z8I (z4G (pv 1) z7i z7d) rfl rfl (by simp) (by decide)))
  (z02 (z0b (i:=4) zfw.nd rfl (Or.inl rfl) z08)
  (z02 (z1T y0R (z0W z5K (pv 4) (z0i z0d rfl ml y0G (z00 (pv 2) z03)) (z1j _))
   (z02 (z1u y0R rfl (z1x (pv 0)) (z0a (i:=5) zfw.nd rfl (Or.inl rfl))
    (z02 (z0b (i:=6) zfw.nd rfl (Or.inl rfl) (z0V z1s (pv 5) (z0V z1s (pv 2) (pv 4) (fun _ _=>rfl)) (fun _ _=>rfl)))
    (z05 (z1M (z1J (z2X hu (pv 6) (pv 3))) (z02 (z4e hu (pv 3) (pv 6) z7i rfl)
     (z05 (z0P (z2V y0y y0A y0B z0D (pv 2) (z00 (pv 6) z03))))) z0I))))
   (z05 (zcK (i:=4) zfw.nd rfl (Or.inl rfl) z08 zck))))
  (z05 (z0x (z0i (zgj K rfl) rfl mso PyProof.Rows.boot_sorted (z00 (pv 2) z03))))))),?_⟩
 refine(exA rfl ⟨by show 1<=sizeLine;decide,fun lo hlo=>fun ld hld=>(exA rfl ⟨z01,[(Sum.inl x,V.bl true)],rfl,by show 1<=15;decide,?_⟩)⟩);have s1:z0c H (upd H lo (.lst [.int x])):=same_up (z0c.refl H) hlo;have hld0:H ld=none:=s1.free hld;have nlo:lo≠ld:=z0e z01 hld;have s2:z0c H (upd (upd (upd H lo (.lst [.int x])) ld (.dK [])) ld (.dK (z3S [] [(Sum.inl x,V.bl true)]))):=z09 (same_up s1 hld) hld0;refine⟨fun m σ H2=>∃(i:Nat)(o:List Int)(u5 u6:Option V),m=L+1-i/\σ=[some (.ref a),some (.int x),some (.ref lo),some (.ref ld),some (.int i),u5,u6]/\z0c H H2/\H2 lo=some (.lst (o.map V.int))/\H2 ld=some (.dK (kvT o))/\o.Nodup/\(∀y∈o,0<=y/\y<(L:Int))/\i<=o.length/\lbf (gof W) (L+1-i) i o=cmp L W x,⟨_,0,[x],none,none,rfl,rfl,s2,?_,z01,by simp,fun y hy=>by rw[y07.mp hy];exact⟨x0,x1⟩,by simp,rfl⟩,?_⟩
 .rw[z07 nlo,z07 nlo];exact z01
 rintro m σ H2 ⟨i,o,u5,u6,rfl,rfl,t2,glo,gld,nd,rg,hi,hb⟩;have hol:=z24 nd rg;refine(exA rfl (exA rfl (exG lo rfl (.inl (SqL.of glo)) (exC rfl rfl (exA rfl ?_)))));have hol2:(o.map V.int).length=o.length:=y01 _;refine z30 (fun c=>?_) (fun c=>?_)
 .have c':=y0V c;rw[hol2]at c';have hio:i<o.length:=by lia
  have eo:o[i]?=some o[i]:=y00 hio;have hro:o[i]∈o:=y0h hio;generalize o[i]=r at eo hro;obtain⟨r0,r1⟩:=rg r hro;refine⟨fun σ' H'=>∃m',m'<L+1-i/\_,fun _ _ z=>z,?_⟩;refine⟨_,rfl,a,rfl,⟨_,SqL.of (t2 _ _ ea)⟩,zaN (xs:=bs.map V.ref) (fun j σ H3=>∃u5 u6:Option V,σ=[some (.ref a),some (.int x),some (.ref lo),some (.ref ld),some (.int i),u5,u6]/\z0c H H3/\H3 lo=some (.lst ((z06 o ((gof W r).take j)).map V.int))/\H3 ld=some (.dK (kvT (z06 o ((gof W r).take j)))))
   ⟨_,_,rfl,t2,glo,gld⟩ (fun j σ H3 _ h=>by obtain⟨_,_,_,t3,_⟩:=h;exact SqL.of (t3 _ _ ea)) (fun j y σ H3 hx h Ed nx=>?_) (fun σ H3 h=>?_)⟩
  .obtain⟨u5,u6,rfl,t3,e1,e2⟩:=h;have hjl:j<W.length:=by have:=(y06.mp hx).1;rw[y01,hbl]at this;exact this
   have ew:W[j]?=some W[j]:=y00 hjl;have hw:=hW _ (y0h hjl);generalize W[j]=w at ew hw;obtain⟨b,eb,hb2⟩:=hbs j w ew;have ey:y=V.ref b:=by rw[y04,eb]at hx;exact(y08 hx).symm
   subst ey;have eg:(gof W r)[j]?=some (w.getD r.toNat 0):=by unfold gof;rw[y04,ew];rfl
   have et':z06 o ((gof W r).take (j+1))=z26 (z06 o ((gof W r).take j)) (w.getD r.toNat 0):=by rw[y0D,eg];exact z1f _ _ _
   have hgr:=za0 hW r r0 r1;have hal:(z06 o ((gof W r).take j)).length<=L:=z24 (z0O _ _ nd) fun y hy=>by
    rcases z0k.mp hy with z|z
    .exact rg y z
    .exact hgr y (y1i z)
   obtain⟨m1,em1⟩:=z0A ((gof W r).take j) o;have ei:(z06 o ((gof W r).take j))[i]?=some r:=by rw[em1,y0F hio];exact eo
   generalize z06 o ((gof W r).take j)=oj at *;have hwl:=hw.len;refine(exA rfl (exA rfl (exA rfl (exD lo _ _ (.int r) rfl rfl (SqL.of e1) (z0z (by rw[y04,ei];rfl)) ⟨b,_,_,.int (w.getD r.toNat 0),rfl,rfl,SqL.of (t3 _ _ hb2),?_,?_⟩))))
   .obtain⟨k,rfl⟩:=z3I r0;refine z0z ?_;rw[y04,y03,y0l,y00 (by lia)];rfl
   generalize w.getD r.toNat 0=gj at *;refine(exA rfl (exA rfl ⟨ld,exA rfl ⟨z5C.k (k:=Sum.inl gj) e2,exA rfl ?_⟩⟩));have hv:=zcq oj gj;by_cases hm:gj∈oj
   .rw[y11 hm]at hv;rw[hv];refine z8e (nx _ _ (exB rfl ⟨t3,?_,?_⟩))
    .rw[et',z0q hm];exact e1
    .rw[et',z0q hm];exact e2
   .rw[y0Z hm]at hv;rw[hv];have nlop:lo≠ld:=nlo;refine zfJ (exA rfl (exA rfl ⟨ld,exA rfl ⟨zd5.k (k:=Sum.inl gj) e2 (by rw[zbY];exact y26 (y0Q hal hL) (by decide)),?_⟩⟩));have e1':upd H3 ld (.dK (z2K (kvT oj) (Sum.inl gj:Key) (V.bl true))) lo=some (.lst (oj.map V.int)):=by rw[z07 nlop];exact e1
    refine(exA rfl ⟨.inl ⟨rfl,_,SqL.of e1'⟩,exA rfl ⟨lo,exC rfl rfl ⟨e1',by rw[y01];exact y26 (y0Q hal hL) (by decide),?_⟩⟩⟩);refine nx _ _ (exB rfl ⟨z09 (z09 t3 hld0) hlo,?_,?_⟩)
    .rw[z01,et',z0r hm,y0d];rfl
    .rw[z07 nlop.symm,z01,zaV,et']
  .obtain⟨u5,u6,rfl,t3,e1,e2⟩:=h;have hgl:(gof W r).length=(bs.map V.ref).length:=by unfold gof;rw[y01,y01,hbl]
   rw[<-hgl,y0O]at e1 e2;have hb':lbf (gof W) (L+1-(i+1)) (i+1) (z06 o (gof W r))=cmp L W x:=by rw[<-hb,show L+1-i=(L+1-(i+1))+1 by lia,z6D eo]
   obtain⟨m1,em1⟩:=z0A (gof W r) o;have hgr:=za0 hW r r0 r1;refine(exA rfl (exC rfl rfl ⟨L+1-(i+1),by lia,i+1,z06 o (gof W r),exC rfl rfl ⟨t3,e1,e2,z0O _ _ nd,fun y hy=>?_,by rw[em1,y0f];lia,hb'⟩⟩));rcases z0k.mp hy with z|z
   .exact rg y z
   .exact hgr y z
 .have c':¬((i:Int)<((o.map V.int).length:Int)):=fun z=>c (y11 z);rw[hol2]at c';rw[z6N (by lia)]at hb;subst hb;refine(exA rfl ⟨lo,cmp L W x,rfl,SqL.of glo,fun ns' hp hs l hl=>?_⟩);have e:=z5Q hW x0 x1 hp hs;subst e;exact q l _ (same_up t2 hl) (t2.free hl) z01
abbrev nCm:List Str:=["guises","many","ways","seen","told","number","camp","member"]
def zg0:z0n nCm ["guises","many"] (z04 z7j):={}
def zie:z1k nCm (z04 z7j) ["guise","many"] [none,some 1] (csc [(".0",.local),("guise",.local),("floor",.globalImplicit),("many",.free)]):={}
def zb5{Ct Cb:Addr}(ml:mg "len"=none)(mr:mg "range"=none)(F:Fun K "camps" "camps" z7j f fd){aFL:Addr}{dFL:FuncData}(FL:z0u P w K mg base (CXx P w) 3 aFL dFL ["guise","many"] (z8R K Ct Cb))(bFL:z0j K dFL ["guise","many"] [])(kFL:PySem.W.keepIn K (.ref aFL)=true)(mFL:mg "floor"=some (.ref aFL)){aLD:Addr}{dLD:FuncData}(LD:z0u P w K mg base (CXx P w) 3 aLD dLD ["ways","number"] (z8x K))(bLD:z0j K dLD ["ways","number"] [])(kLD:PySem.W.keepIn K (.ref aLD)=true)(mLD:mg "led_to"=some (.ref aLD)):z0u P w K mg base (CXx P w) 4 f fd ["guises","many"] (z7b K):=by
 refine F.okc zg0 (fun vs H Q E h=>?_) (fun cdv A outer s H vs Q E hr h=>?_)
 .obtain⟨a,gs,n,many,rfl,_⟩:=h;rfl
 obtain⟨a,gs,n,many,rfl,⟨us,ea,dus⟩,hgs,hg1,hg10,n2,n5,hm,m0,hmp,q⟩:=h;have hu:=zaj hr;refine⟨_,z02 (zbs (i:=2) rfl zie (z1x (pv 0)) (fun _ _ _ _ _=>z0a (i:=0) zie.nd rfl (Or.inl rfl)) (fun _ _ _ _ _=>z0f FL hr rfl mFL kFL bFL .nil z0K (z00 (pv 0) (z00 (pv 1) z03))) zg0.nd rfl rfl)
  (z02 (z0b (i:=3) zg0.nd rfl (Or.inl rfl) z6E)
  (z02 (z0b (i:=4) zg0.nd rfl (Or.inl rfl) (z1m z03))
  (z02 (z1u y0R rfl (z1A rfl mr (z00 (z0i z0d rfl ml y0G (z00 (z0V z1s (pv 2) z08 (fun _ _=>rfl)) z03)) z03)) (z0a (i:=5) zg0.nd rfl (Or.inl rfl))
   (z05 (z1M (z1J (z2X hu (pv 5) (pv 3))) (z02 (z0b (i:=6) zg0.nd rfl (Or.inl rfl) (z0f LD hr rfl mLD kLD bLD .nil z0K (z00 (pv 2) (z00 (pv 5) z03))))
    (z02 (z1u y0R rfl (z1x (pv 6)) (z0a (i:=7) zg0.nd rfl (Or.inl rfl))
     (z05 (z4e hu (pv 3) (pv 7) z7i rfl)))
    (z05 (z0P (z2V y0y y0A y0B z0D (pv 4) (z00 (pv 6) z03)))))) z0I)))
  (z05 (z0x (pv 4)))))),?_⟩
 have hul:us.length=gs.length:=by have:=dus.length;rw[y01]at this;lia
 have n0:0<n:=by lia
 refine(exA rfl ⟨a,rfl,⟨_,SqL.of ea⟩,fun l1 hl1=>z1Y (xs:=us) (fun i ys H4=>i<=gs.length/\z0c H H4/\∃bs:List Addr,ys=bs.map V.ref/\bs.length=i/\∀(j:Nat)(g:List Row),j<i->gs[j]?=some g->∃b,bs[j]?=some b/\H4 b=some (.lst ((z1d n g many.toNat).map V.int))/\b≠l1) ⟨y0K _,same_up (z0c.refl H) hl1,[],rfl,rfl,fun j g z=>absurd z (y2Z _)⟩ (fun i ys H4 _ h=>SqL.of (h.2.1 _ _ ea)) (y0Q (by lia:us.length<=10) (by decide)) (fun i ys H4 h=>?_) (fun i x ys H4 hx h hy=>?_) (fun ys H4 h hy=>?_)⟩)
 .obtain⟨_,_,bs,rfl,hb,_⟩:=h;rw[y01];exact hb
 .obtain⟨hi,s4,bs,rfl,hb,hbs⟩:=h;have hil:i<gs.length:=by have:=(y06.mp hx).1;lia
  have eg:gs[i]?=some gs[i]:=y00 hil;obtain⟨v,ev,dv⟩:=dus.get (show(gs.map fun g=>D.tup (z0B g))[i]?=some (D.tup (z0B gs[i]))by rw[y04,eg];rfl);rw[hx]at ev;cases ev;obtain⟨GM,_⟩:=hgs _ (y0h hil);refine(exA rfl (exA rfl ⟨x,_,n,many,rfl,dv.mono s4,GM,n2,n5,hm,fun z=>absurd z (by lia),fun _ z=>absurd z (by lia),fun _ _ lf H5 s5 f5 e5=>?_⟩));have hne:lf≠l1:=fun z=>by rw[z,hy]at f5;cases f5
  refine⟨s5 _ _ hy,hil,z09 (s4.trans s5) hl1,bs++[lf],by rw[y0d];rfl,by rw[y0f,hb];rfl,fun j g hj ej=>?_⟩;rcases y1q j i with z|z
  .obtain⟨b,h1,h2,h3⟩:=hbs j g z ej;exact⟨b,by rw[y0F (by lia)];exact h1,by rw[z07 h3];exact s5 _ _ h2,h3⟩
  .have:j=i:=by lia
   subst this;rw[eg]at ej;cases ej;exact⟨lf,by rw[y0W (by lia),hb,y3L];rfl,by rw[z07 hne];exact e5,hne⟩
 obtain⟨_,s4,bs,rfl,hb,hbs⟩:=h;generalize hm':many.toNat=m at *;generalize hL:n^m=L at *;generalize hWd:gs.map (fun g=>z1d n g m)=W at *;have hWl:W.length=gs.length:=by rw[<-hWd,y01]
 have hW:∀w∈W,IsP L w:=fun w hw=>by rw[<-hWd]at hw;obtain⟨g,hg,rfl⟩:=y0a.mp hw;obtain⟨GM,h8⟩:=hgs g hg;rw[<-hL];exact z3O GM n0
 have hws:zeJ H4 l1 W:=⟨bs,hy,by rw[hb,hul,hWl],fun j w ej=>by rw[<-hWd,y04]at ej;obtain⟨g,eg,rfl⟩:=y2i.mp ej;obtain⟨b,h1,h2,_⟩:=hbs j g (by have:=(y06.mp eg).1;lia) eg;exact⟨b,h1,h2⟩⟩
 obtain⟨b0,eb0,hb0⟩:∃b0,bs[0]?=some b0/\∃w0:List Int,w0.length=L/\H4 b0=some (.lst (w0.map V.int)):=by have eg:gs[0]?=some gs[0]:=y00 (by lia);obtain⟨b,h1,h2,_⟩:=hbs 0 _ (by lia) eg;exact⟨b,h1,_,by rw[z3a];exact hL,h2⟩
 obtain⟨w0,hw0,hb0⟩:=hb0;intro d hd;refine⟨by show 0<=sizeLine;decide,fun lt hlt=>?_⟩;have hlt0:H4 lt=none:=(same_up (z0c.refl H4) hd).free hlt;have ndl:d≠lt:=z0e z01 hlt;have sA:z0c H4 (upd (upd H4 d (.dK [])) lt (.lst [])):=same_up (same_up (z0c.refl H4) hd) hlt;have eA:(upd (upd H4 d (HO.dK [])) lt (HO.lst [])) d=some (.dK (kvT [])):=by rw[z07 ndl];exact z01
 refine⟨_,rfl,l1,_,_,.ref b0,rfl,rfl,SqL.of (sA _ _ hy),z0z (j:=0) (by rw[y04,eb0];rfl),b0,_,rfl,.inl (SqL.of (sA _ _ hb0)),(L:Int),by rw[y01,hw0],by lia,by lia,z2Z (n:=(L:Int).toNat) (fun i σ H2=>∃(o:List Int)(cs:List Addr)(u5 u6 u7:Option V),σ=[some (.ref a),some (.int many),some (.ref l1),some (.ref d),some (.ref lt),u5,u6,u7]/\z0c H4 H2/\H2 d=some (.dK (kvT o))/\H2 lt=some (.lst (cs.map V.ref))/\z9Z L W i o/\cs.length=(z0s L W i).length/\cs.Nodup/\(∀c∈cs,H4 c=none/\c≠d/\c≠lt)/\∀(j:Nat)(xs:List Int),(z0s L W i)[j]?=some xs->∃b,cs[j]?=some b/\H2 b=some (.lst (xs.map V.int)))
  ⟨[],[],none,none,none,rfl,sA,eA,z01,z9Z.zero L W,rfl,y2s,fun c hc=>absurd hc (by simp),fun j xs e=>by simp[z0s,z0p]at e⟩ (fun i σ H2 hi h=>?_) (fun σ H2 h=>?_)⟩
 .obtain⟨o,cs,u5,u6,u7,rfl,s2,ed,el,sn,hcl,hcn,hcf,hcs⟩:=h;have hi':i<L:=by lia
  have e0:(0:Int)+(i:Int)=(i:Int):=by lia
  rw[e0];refine(exA rfl (exA rfl ⟨d,exA rfl ⟨z5C.k (k:=Sum.inl (i:Int)) ed,exA rfl ?_⟩⟩));have hv:=zcq o (i:Int);have hh:=sn.head hW hi';by_cases hm2:(i:Int)∈o
  .rw[y11 hm2]at hv;rw[hv];have hno:=hh.mp hm2;refine z8e ⟨o,cs,_,exB rfl ⟨s2,ed,el,sn.no hW hi' hm2,?_,hcn,hcf,?_⟩⟩
   .rw[z4R hno];exact hcl
   .rw[z4R hno];exact hcs
  .rw[y0Z hm2]at hv;rw[hv];have hyes:z1y L W (i:Int)=true:=by
    cases e:z1y L W (i:Int)with
    |true=>rfl
    |false=>exact absurd (hh.mpr e) hm2
   refine zfJ (exA rfl (exA rfl ⟨l1,(i:Int),L,W,rfl,?_,hW,hmp,by lia,by lia,fun cl H3 s3 f3 e3=>?_⟩))
   .obtain⟨bs',h1,h2,h3⟩:=hws;exact⟨bs',s2 _ _ h1,h2,fun j w ej=>by obtain⟨b,h4,h5⟩:=h3 j w ej;exact⟨b,h4,s2 _ _ h5⟩⟩
   have ncd:cl≠d:=fun z=>by rw[z,ed]at f3;cases f3
   have ncl:cl≠lt:=fun z=>by rw[z,el]at f3;cases f3
   have i0:(0:Int)<=(i:Int):=by lia
   have i1:(i:Int)<(L:Int):=by lia
   have hcL:(z0s L W i).length<=1024:=by unfold z0s;rw[y01];have:=y3P (z1y L W) (z0p i);rw[z0y]at this;lia
   refine⟨_,rfl,cl,rfl,⟨_,SqL.of e3⟩,z9B (xs:=(led L W (i:Int)).map V.int) (fun j σ H5=>∃u7:Option V,σ=[some (.ref a),some (.int many),some (.ref l1),some (.ref d),some (.ref lt),some (.int i),some (.ref cl),u7]/\z0c H4 H5/\(∀c,c≠d->∀ob,H3 c=some ob->H5 c=some ob)/\H5 d=some (.dK (kvT (z06 o ((led L W (i:Int)).take j)))))
    ⟨_,rfl,s2.trans s3,fun _ _ _ h=>h,s3 _ _ ed⟩ (fun j σ H5 _ h=>by obtain⟨_,_,_,k5,_⟩:=h;exact SqL.of (k5 cl ncd _ e3)) (fun j y σ H5 hx h=>?_) (fun σ H5 h=>?_)⟩
   .obtain⟨u7,rfl,s5,k5,e5⟩:=h;rw[y04]at hx;obtain⟨g,eg,rfl⟩:=y2i.mp hx;have hal:(z06 o ((led L W (i:Int)).take j)).length<=L:=z24 (z0O _ _ sn.1) fun y hy=>by
     rcases z0k.mp hy with z|z
     .exact sn.2.1 y z
     .exact(z0m hW i0 i1).2.1 y ((z22 hW i0 i1 y).mp (y1i z))
    refine(exA rfl (exA rfl ⟨d,exA rfl ⟨zd5.k (k:=Sum.inl g) e5 (by rw[zbY];exact y26 (y0Q hal hmp) (by decide)),?_⟩⟩));refine(exA rfl ⟨z09 s5 hd,fun c hc ob h=>by rw[z07 hc];exact k5 c hc ob h,?_⟩);rw[z01,zaV,y0D,eg];exact y1G (fun z=>some (HO.dK (kvT z))) (z1f _ _ _).symm
   .obtain⟨u7,rfl,s5,k5,e5⟩:=h;rw[y01,y0O]at e5;have el5:=k5 lt ndl.symm _ (s3 _ _ el);refine(exA rfl ⟨.inl ⟨rfl,_,SqL.of el5⟩,exA rfl ⟨lt,exC rfl rfl ⟨el5,by rw[y01,hcl];exact y26 hcL (by decide),?_⟩⟩⟩);have hsome:∀c∈cs,∃xs:List Int,H2 c=some (.lst (xs.map V.int)):=fun c hc=>by
     obtain⟨j,hj,ej⟩:=y17 hc;obtain⟨b,h1,h2⟩:=hcs j _ (y00 (by lia));rw[y00 hj,ej]at h1;cases h1;exact⟨_,h2⟩
    refine⟨z06 o (led L W (i:Int)),cs++[cl],_,exB rfl ⟨z09 s5 hlt0,by rw[z07 ndl];exact e5,by rw[z01,y0d];rfl,sn.yes hW hi',?_,?_,?_,?_⟩⟩
    .rw[z3Y hyes,y0f,y0f,hcl];rfl
    .refine y3F.mpr ⟨hcn,by simp,fun c hc c' hc' e=>?_⟩;rw[y07.mp hc']at e;obtain⟨xs,hx⟩:=hsome c hc;rw[e,f3]at hx;cases hx
    .intro c hc;rcases y0s.mp hc with z|z
     .exact hcf c z
     .rw[y07.mp z];exact⟨s2.free f3,ncd,ncl⟩
    .intro j xs ej;rw[z3Y hyes]at ej;rcases y1q j (z0s L W i).length with z|z
     .rw[y0F z]at ej;obtain⟨b,h1,h2⟩:=hcs j xs ej;obtain⟨_,n1,n2'⟩:=hcf b (y0z h1);exact⟨b,by rw[y0F (by lia)];exact h1,by rw[z07 n2'];exact k5 b n1 _ (s3 _ _ h2)⟩
     .rw[y0W z]at ej;have hj:j=(z0s L W i).length:=by have:=(y06.mp ej).1;simp at this;lia
      rw[hj,y3L]at ej;cases ej;exact⟨cl,by rw[y0W (by lia),hj,hcl,y3L];rfl,by rw[z07 ncl];exact k5 cl ncd _ e3⟩
 .obtain⟨o,cs,u5,u6,u7,rfl,s2,ed,el,sn,hcl,hcn,hcf,hcs⟩:=h;rw[y0l]at hcl hcs;exact(exA rfl (q lt cs H2 (s4.trans s2) (s4.free hlt0) el hcl hcn (fun b hb=>s4.free (hcf b hb).1) hcs))
end
structure FA(K:yyF)(f:Addr)(x:Str)(st:Stmt):Prop where
 a:PySem.W.nsIn K mainGlobals x=some (some (.ref f))
 l:∃oc od kV dc pm an cd ct sl,K.lookup f=some ⟨oc,od,.func (PySem.W.fnOf x x (z1L st) (z0Y st) (z04 st) .none kV dc pm an cd ct),sl⟩/\PySem.W.codeIn K cd x=true
 k:PySem.W.keepIn K (.ref f)=true
def FA.of{K:yyF}{f:Addr}{x:Str}{st:Stmt}{oc kV dc pm cd ct:Value}{od an:Option Addr}{sl:Array (Option Value)}(a:PySem.W.nsIn K mainGlobals x=some (some (.ref f)))(l:K.lookup f=some ⟨oc,od,.func (PySem.W.fnOf x x (z1L st) (z0Y st) (z04 st) .none kV dc pm an cd ct),sl⟩)(c:PySem.W.codeIn K cd x=true)(k:PySem.W.keepIn K (.ref f)=true):FA K f x st:=⟨a,⟨_,_,_,_,_,_,_,_,_,l,c⟩,k⟩
def FA.go{K:yyF}{f:Addr}{x:Str}{st:Stmt}{h:Heap}{mg:yyS}(A:FA K f x st)(X:K.In h)(G:h.Ns mainGlobals mg):∃fd,Fun K x x st f fd/\mg x=some (.ref f)/\PySem.W.keepIn K (.ref f)=true:=by obtain⟨a,⟨_,_,_,_,_,_,_,_,_,l,c⟩,k⟩:=A;exact⟨_,z9t l c k,y22 X G a,k⟩
abbrev fnY(x:Str)(st:Stmt)(kV dc pm:Value)(an:Option Addr)(cd ct:Value):=PySem.W.fnOf x x (z1L st) (z0Y st) (z04 st) .none kV dc pm an cd ct
section
variable{K:yyF}{x:Str}{st:Stmt}{f:Addr}{fd:FuncData}
def zg4{a:Str}(F:Fun K x x st f fd)(h:∀(kV dc pm:Value)(an:Option Addr)(cd ct u:Value),bindArgs (fnY x st kV dc pm an cd ct) ⟨[u],[]⟩=pure [(a,u)]):z0j K fd [a] []:=F.binds fun _ _ _ _ _ _ us hl=>by obtain⟨_,rfl⟩:=zgs hl;exact h _ _ _ _ _ _ _
def z5D{a b:Str}(F:Fun K x x st f fd)(h:∀(kV dc pm:Value)(an:Option Addr)(cd ct u v:Value),bindArgs (fnY x st kV dc pm an cd ct) ⟨[u,v],[]⟩=pure [(a,u),(b,v)]):z0j K fd [a,b] []:=F.binds fun _ _ _ _ _ _ us hl=>by obtain⟨_,_,rfl⟩:=zhR hl;exact h _ _ _ _ _ _ _ _
def zh8{a b c:Str}(F:Fun K x x st f fd)(h:∀(kV dc pm:Value)(an:Option Addr)(cd ct u v w:Value),bindArgs (fnY x st kV dc pm an cd ct) ⟨[u,v,w],[]⟩=pure [(a,u),(b,v),(c,w)]):z0j K fd [a,b,c] []:=F.binds fun _ _ _ _ _ _ us hl=>by obtain⟨_,_,_,rfl⟩:=zj0 hl;exact h _ _ _ _ _ _ _ _ _
end
abbrev zd8(P22 P20:Addr):List Tb:=[⟨P22,z7n (z0Y z5N),("back.<locals>."++"<lambda>":Str)⟩,⟨P20,z7n (z0Y z2h),("joined.<locals>."++"<lambda>":Str)⟩]
def all_mk{l:PySem.W.OpenLaw}{w:World}{K:yyF}{h:Heap}{mg:yyS}{fa f1 f2 f3 f4 f5 f6 f7 f8 f9 f10 f11 f12 f13 f14 f15 f16 f17 f18 f19 f20 f21 f22 f23 f24 f25 f26 f27 f28 f29 f30 f31 f32 f33 f34 f35:Addr}(X:K.In h)(G:h.Ns mainGlobals mg)(hfa:mg "law"=some (.ref fa)){od20 an20 od22 an22 od35 an35:Option Addr}{sl20 sl22 sl35:Array (Option Value)}{tk1 tk2 tk3:Tok}{oc20 kV20 dc20 pm20 ct20 oc22 kV22 dc22 pm22 ct22 oc35 kV35 dc35 pm35 ct35 cd35:Value}{cc22 P22 cc20 P20:Addr}(h1:FA K f1 "turned" z5c)(h2:FA K f2 "undone" z6x)(h3:FA K f3 "breadth" z4w)(h4:FA K f4 "read_from" z9L)(h5:FA K f5 "least_form" za2)(h6:FA K f6 "rows_come_to" z76)(h7:FA K f7 "kinds_of_rows" z62)(h8:FA K f8 "kinds_gone_to" zb9)(h9:FA K f9 "numbered" z2q)(h10:FA K f10 "check_word" z5x)(h11:FA K f11 "worn" zdx)(h12:FA K f12 "number_of" z3T)(h13:FA K f13 "word_of" z6V)(h14:FA K f14 "words_on_floor" z4z)(h15:FA K f15 "floor" z7N)(h16:FA K f16 "rounds" z6J)(h17:FA K f17 "whirls" z6P)(h18:FA K f18 "camps" z7j)(h19:FA K f19 "led_to" z9O)(a20:PySem.W.nsIn K mainGlobals "joined"=some (some (.ref f20)))(l20:K.lookup f20=some ⟨oc20,od20,.func (PySem.W.fnOf "joined" "joined" (z1L z2h) (z0Y z2h) (z04 z2h) .none kV20 dc20 pm20 an20 (.ref cc20) ct20),sl20⟩)(c20:PySem.W.codeIn K (.ref cc20) "joined"=true)(k20:PySem.W.keepIn K (.ref f20)=true)(h21:FA K f21 "joined_row" z2t)(a22:PySem.W.nsIn K mainGlobals "back"=some (some (.ref f22)))(l22:K.lookup f22=some ⟨oc22,od22,.func (PySem.W.fnOf "back" "back" (z1L z5N) (z0Y z5N) (z04 z5N) .none kV22 dc22 pm22 an22 (.ref cc22) ct22),sl22⟩)(c22:PySem.W.codeIn K (.ref cc22) "back"=true)(k22:PySem.W.keepIn K (.ref f22)=true)(h23:FA K f23 "row_back" z3G)(h24:FA K f24 "_law_cell" ze8)(h25:FA K f25 "_law_letters" z4A)(h26:FA K f26 "_law_in_line" z5i)(h27:FA K f27 "_law_shrunk" z45)(h28:FA K f28 "_law_numbers" z4H)(h29:FA K f29 "_law_rearranged" zdJ)(h30:FA K f30 "_law_rows" z8V)(h31:FA K f31 "_law_guise" z98)(h32:FA K f32 "_law_stories" z4L)(h33:FA K f33 "_law_floor_size" z39)(h34:FA K f34 "_law_all" zdy)(a35:PySem.W.nsIn K mainGlobals "law"=some (some (.ref f35)))(l35:K.lookup f35=some ⟨oc35,od35,.func (PySem.W.fnOf "law" "law" (z1L zaS) (z0Y zaS) (z04 zaS) .none kV35 dc35 pm35 an35 cd35 ct35),sl35⟩)(c35:PySem.W.codeIn K cd35 "law"=true)(k35:PySem.W.keepIn K (.ref f35)=true)(t22:PySem.W.codeHdIn K cc22 P22=true)(u22:K.lookup P22=none)(t20:PySem.W.codeHdIn K cc20 P20=true)(u20:K.lookup P20=none)(nP:([P22,P20]:List Addr).Nodup)(i1:PySem.W.nsIn K mainGlobals "MOST_FORM_ROWS"=some (some (.int 60 tk1)))(i2:PySem.W.nsIn K mainGlobals "MOST_WORDS"=some (some (.int 1024 tk2)))(i3:PySem.W.nsIn K mainGlobals "MOST_LETTERS_TOLD"=some (some (.int 1000 tk3)))(z1:PySem.W.nsIn K mainGlobals "len"=some none)(z2:PySem.W.nsIn K mainGlobals "tuple"=some none)(z3:PySem.W.nsIn K mainGlobals "list"=some none)(z4:PySem.W.nsIn K mainGlobals "range"=some none)(z5:PySem.W.nsIn K mainGlobals "isinstance"=some none)(z6:PySem.W.nsIn K mainGlobals "int"=some none)(z7:PySem.W.nsIn K mainGlobals "bool"=some none)(z8:PySem.W.nsIn K mainGlobals "str"=some none)(z9:PySem.W.nsIn K mainGlobals "all"=some none)(z10:PySem.W.nsIn K mainGlobals "any"=some none)(z11:PySem.W.nsIn K mainGlobals "sorted"=some none)(z12:PySem.W.nsIn K mainGlobals "zip"=some none)(z13:PySem.W.nsIn K mainGlobals "max"=some none)(z14:PySem.W.nsIn K mainGlobals "min"=some none)(z15:PySem.W.nsIn K mainGlobals "enumerate"=some none)(z16:PySem.W.nsIn K mainGlobals "abs"=some none)(z17:PySem.W.nsIn K mainGlobals "divmod"=some none)(z18:PySem.W.nsIn K mainGlobals "set"=some none)(z19:PySem.W.nsIn K mainGlobals "sum"=some none){CtTooMany:Addr}(yTooMany:PySem.W.nsIn K mainGlobals "TooMany"=some (some (.ref CtTooMany)))(xTooMany:PySem.W.excIn K CtTooMany [.type "ValueError",.type "Exception",.type "BaseException",.type "object"] "ValueError.__new__"=true){CtBadWord:Addr}(yBadWord:PySem.W.nsIn K mainGlobals "BadWord"=some (some (.ref CtBadWord)))(xBadWord:PySem.W.excIn K CtBadWord [.type "ValueError",.type "Exception",.type "BaseException",.type "object"] "ValueError.__new__"=true){CtBadCount:Addr}(yBadCount:PySem.W.nsIn K mainGlobals "BadCount"=some (some (.ref CtBadCount)))(xBadCount:PySem.W.excIn K CtBadCount [.type "ValueError",.type "Exception",.type "BaseException",.type "object"] "ValueError.__new__"=true): ∃fd:FuncData,(∀(s:Shared) (v:Value),BindsTo s fd ⟨[v],[]⟩ [("_law_script",v)])/\(∀T∈(zd8 P22 P20),K.lookup T.at_=none/\∃c,PySem.W.codeHdIn K c T.at_=true)/\∀base:Heap,K.In base->base.Ns mainGlobals mg->z5I base mg->z0u l.prog w K mg base (CXx l.prog w) 10 fa fd ["_law_script"] (z9v (zd8 P22 P20) K):=by
 have e:=hfa.symm.trans (y22 X G a35);cases e;obtain⟨d1,F1,m1,k1⟩:=h1.go X G;have b1:z0j K d1 ["one","other"] []:=z5D F1 fun _ _ _ _ _ _ _ _=>rfl;obtain⟨d2,F2,m2,k2⟩:=h2.go X G;have b2:z0j K d2 ["one"] []:=zg4 F2 fun _ _ _ _ _ _ _=>rfl;obtain⟨d3,F3,m3,k3⟩:=h3.go X G;have b3:z0j K d3 ["guise"] []:=zg4 F3 fun _ _ _ _ _ _ _=>rfl;obtain⟨d4,F4,m4,k4⟩:=h4.go X G;have b4:z0j K d4 ["guise","row","word"] []:=zh8 F4 fun _ _ _ _ _ _ _ _ _=>rfl;obtain⟨d5,F5,m5,k5⟩:=h5.go X G;have b5:z0j K d5 ["first","row_at"] []:=z5D F5 fun _ _ _ _ _ _ _ _=>rfl;obtain⟨d6,F6,m6,k6⟩:=h6.go X G;have b6:z0j K d6 ["first","row_at"] []:=z5D F6 fun _ _ _ _ _ _ _ _=>rfl;obtain⟨d7,F7,m7,k7⟩:=h7.go X G;have b7:z0j K d7 ["rows"] []:=zg4 F7 fun _ _ _ _ _ _ _=>rfl;obtain⟨d8,F8,m8,k8⟩:=h8.go X G;have b8:z0j K d8 ["kinds","goings"] []:=z5D F8 fun _ _ _ _ _ _ _ _=>rfl;obtain⟨d9,F9,m9,k9⟩:=h9.go X G;have b9:z0j K d9 ["things"] []:=zg4 F9 fun _ _ _ _ _ _ _=>rfl;obtain⟨d10,F10,m10,k10⟩:=h10.go X G;have b10:z0j K d10 ["letters","word"] []:=z5D F10 fun _ _ _ _ _ _ _ _=>rfl;obtain⟨d11,F11,m11,k11⟩:=h11.go X G;have b11:z0j K d11 ["guise","word"] []:=z5D F11 fun _ _ _ _ _ _ _ _=>rfl;obtain⟨d12,F12,m12,k12⟩:=h12.go X G;have b12:z0j K d12 ["letters","word"] []:=z5D F12 fun _ _ _ _ _ _ _ _=>rfl;obtain⟨d13,F13,m13,k13⟩:=h13.go X G;have b13:z0j K d13 ["letters","many","number"] []:=zh8 F13 fun _ _ _ _ _ _ _ _ _=>rfl;obtain⟨d14,F14,m14,k14⟩:=h14.go X G;have b14:z0j K d14 ["letters","many"] []:=z5D F14 fun _ _ _ _ _ _ _ _=>rfl;obtain⟨d15,F15,m15,k15⟩:=h15.go X G;have b15:z0j K d15 ["guise","many"] []:=z5D F15 fun _ _ _ _ _ _ _ _=>rfl;obtain⟨d16,F16,m16,k16⟩:=h16.go X G;have b16:z0j K d16 ["guise","word"] []:=z5D F16 fun _ _ _ _ _ _ _ _=>rfl;obtain⟨d17,F17,m17,k17⟩:=h17.go X G;have b17:z0j K d17 ["guise","many"] []:=z5D F17 fun _ _ _ _ _ _ _ _=>rfl;obtain⟨d18,F18,m18,k18⟩:=h18.go X G;have b18:z0j K d18 ["guises","many"] []:=z5D F18 fun _ _ _ _ _ _ _ _=>rfl;obtain⟨d19,F19,m19,k19⟩:=h19.go X G;have b19:z0j K d19 ["ways","number"] []:=z5D F19 fun _ _ _ _ _ _ _ _=>rfl;have F20:=z9t (st:=z2h) l20 c20 k20;have b20:=F20.binds (ps:=["one","other"]) fun _ _ _ _ _ _ us hl=>by obtain⟨a0,a1,rfl⟩:=zhR hl;rfl
 have m20:=y22 X G a20;obtain⟨d21,F21,m21,k21⟩:=h21.go X G;have b21:z0j K d21 ["one","other","pair"] []:=zh8 F21 fun _ _ _ _ _ _ _ _ _=>rfl;have F22:=z9t (st:=z5N) l22 c22 k22;have b22:=F22.binds (ps:=["guise"]) fun _ _ _ _ _ _ us hl=>by obtain⟨a0,rfl⟩:=zgs hl;rfl
 have m22:=y22 X G a22;obtain⟨d23,F23,m23,k23⟩:=h23.go X G;have b23:z0j K d23 ["row"] []:=zg4 F23 fun _ _ _ _ _ _ _=>rfl;obtain⟨d24,F24,m24,k24⟩:=h24.go X G;have b24:z0j K d24 ["_law_script","_law_at"] []:=z5D F24 fun _ _ _ _ _ _ _ _=>rfl;obtain⟨d25,F25,m25,k25⟩:=h25.go X G;have b25:z0j K d25 ["_law_script","_law_at"] []:=z5D F25 fun _ _ _ _ _ _ _ _=>rfl;obtain⟨d26,F26,m26,k26⟩:=h26.go X G;have b26:z0j K d26 ["_law_rows_here","_law_line","_law_marks"] []:=zh8 F26 fun _ _ _ _ _ _ _ _ _=>rfl;obtain⟨d27,F27,m27,k27⟩:=h27.go X G;have b27:z0j K d27 ["_law_rows_here","_law_start"] []:=z5D F27 fun _ _ _ _ _ _ _ _=>rfl;obtain⟨d28,F28,m28,k28⟩:=h28.go X G;have b28:z0j K d28 ["_law_cell_here","_law_many"] []:=z5D F28 fun _ _ _ _ _ _ _ _=>rfl;obtain⟨d29,F29,m29,k29⟩:=h29.go X G;have b29:z0j K d29 ["_law_pick","_law_letters_here"] []:=z5D F29 fun _ _ _ _ _ _ _ _=>rfl;obtain⟨d30,F30,m30,k30⟩:=h30.go X G;have b30:z0j K d30 ["_law_letters_here","_law_cell_here"] []:=z5D F30 fun _ _ _ _ _ _ _ _=>rfl;obtain⟨d31,F31,m31,k31⟩:=h31.go X G;have b31:z0j K d31 ["_law_letters_here","_law_cell_here"] []:=z5D F31 fun _ _ _ _ _ _ _ _=>rfl;obtain⟨d32,F32,m32,k32⟩:=h32.go X G;have b32:z0j K d32 ["_law_letters_here"] []:=zg4 F32 fun _ _ _ _ _ _ _=>rfl;obtain⟨d33,F33,m33,k33⟩:=h33.go X G;have b33:z0j K d33 ["_law_letters_here","_law_many"] []:=z5D F33 fun _ _ _ _ _ _ _ _=>rfl;obtain⟨d34,F34,m34,k34⟩:=h34.go X G;have b34:z0j K d34 ["_law_one","_law_other"] []:=z5D F34 fun _ _ _ _ _ _ _ _=>rfl;have F35:=z9t (st:=zaS) l35 c35 k35;have m35:=y22 X G a35;have mTooMany:=y22 X G yTooMany;have mBadWord:=y22 X G yBadWord;have mBadCount:=y22 X G yBadCount;have j1:=y22 X G i1;have j2:=y22 X G i2;have j3:=y22 X G i3;have n_len:=y0P X G z1;have n_tuple:=y0P X G z2;have n_list:=y0P X G z3;have n_range:=y0P X G z4;have n_isinstance:=y0P X G z5;have n_int:=y0P X G z6;have n_bool:=y0P X G z7;have n_str:=y0P X G z8;have n_all:=y0P X G z9;have n_any:=y0P X G z10;have n_sorted:=y0P X G z11;have n_zip:=y0P X G z12;have n_max:=y0P X G z13;have n_min:=y0P X G z14;have n_enumerate:=y0P X G z15;have n_abs:=y0P X G z16;have n_divmod:=y0P X G z17;have n_set:=y0P X G z18;have n_sum:=y0P X G z19;have B:Blt mg:=⟨n_len,n_tuple,n_list,n_range,n_isinstance,n_int,n_bool,n_str,n_all⟩;refine⟨PySem.W.fnOf "law" "law" (z1L zaS) (z0Y zaS) (z04 zaS) .none kV35 dc35 pm35 an35 cd35 ct35,fun s v=>.of_eq rfl,?_,fun base hK _ hBM=>?_⟩
 .simp only[zd8,List.forall_mem_cons];exact⟨⟨u22,cc22,t22⟩,⟨u20,cc20,t20⟩,fun _ h=>absurd h (by simp)⟩
 have O9:z0u l.prog w K mg base (CXx l.prog w) 1 f9 _ ["things"] (z44 K):=z8Y F9 B.len;have O8:z0u l.prog w K mg base (CXx l.prog w) 1 f8 _ ["kinds","goings"] (z9h K):=zfn F8 B.tup;have O7:z0u l.prog w K mg base (CXx l.prog w) 2 f7 _ ["rows"] (z6r K CtTooMany):=zc5 mTooMany xTooMany y1y F7 n_zip n_max j1 O9 b9 k9 m9 O8 b8 k8 m8;have O2:z0u l.prog w K mg base (CXx l.prog w) 1 f2 _ ["one"] (z6Q K):=zcO F2 B.tup B.len n_enumerate;have O23:z0u l.prog w K mg base (CXx l.prog w) 2 f23 _ ["row"] (z53 K):=zav F23 B.tup O2 b2 k2 m2;have O3:z0u l.prog w K mg base (CXx l.prog w) 1 f3 _ ["guise"] (z2o K):=zaK F3 B.len;have O6F:z0u l.prog w K mg base (CXx l.prog w) 5 f6 _ ["first","row_at"] (z8Z l.prog w K mg base (CXx l.prog w) 4):=zeg F6 B.len B.tup;have O6P:z0u l.prog w K mg base (CXx l.prog w) 5 f6 _ ["first","row_at"] (z8y l.prog w K mg base (CXx l.prog w) 4):=zdP F6 B.len B.tup;have O5F:z0u l.prog w K mg base (CXx l.prog w) 6 f5 _ ["first","row_at"] (z74 l.prog w K mg base (CXx l.prog w) 4 CtTooMany):=((z81 F5 B.len B.tup n_zip (O6F.sub zgf) b6 k6 m6 (O7.mono (by decide)) b7 k7 m7 (O8.mono (by decide)) b8 k8 m8).sub zfk);have O5P:z0u l.prog w K mg base (CXx l.prog w) 6 f5 _ ["first","row_at"] (z6t l.prog w K mg base (CXx l.prog w) 4 CtTooMany):=((z81 F5 B.len B.tup n_zip (O6P.sub zh6) b6 k6 m6 (O7.mono (by decide)) b7 k7 m7 (O8.mono (by decide)) b8 k8 m8).sub zf8);have O22:z0u l.prog w K mg base (CXx l.prog w) 7 f22 _ ["guise"] (z9e (zd8 P22 P20) K CtTooMany):=zdb F22 rfl (PySem.W.codeHd_of_K hK t22) hBM y0i (zcI nP y0i) rfl rfl (O23.mono (by decide)) b23 k23 m23 O5F b5 k5 m5;have O1:z0u l.prog w K mg base (CXx l.prog w) 1 f1 _ ["one","other"] (z6p K):=zb3 F1 B.tup;have O21:z0u l.prog w K mg base (CXx l.prog w) 2 f21 _ ["one","other","pair"] (zbP K):=zfC F21 n_zip B.tup O1 b1 k1 m1;have O20:z0u l.prog w K mg base (CXx l.prog w) 7 f20 _ ["one","other"] (z77 (zd8 P22 P20) K CtTooMany):=zb4 F20 rfl (PySem.W.codeHd_of_K hK t20) hBM (y0g _ y0i) (zcI nP (y0g _ y0i)) rfl rfl (O21.mono (by decide)) b21 k21 m21 O5P b5 k5 m5;have O10:z0u l.prog w K mg base (CXx l.prog w) 1 f10 _ ["letters","word"] (z3F K CtBadWord):=zbV mBadWord xBadWord y1y F10 n_any;have O4:z0u l.prog w K mg base (CXx l.prog w) 1 f4 _ ["guise","row","word"] (z8u K):=ze1 F4 B.tup;have O11:z0u l.prog w K mg base (CXx l.prog w) 2 f11 _ ["guise","word"] (z9A K CtBadWord):=zfQ F11 O10 b10 k10 m10 O3 b3 k3 m3 O4 b4 k4 m4;have O12:z0u l.prog w K mg base (CXx l.prog w) 2 f12 _ ["letters","word"] (z8p K CtBadWord):=z8G F12 O10 b10 k10 m10;have O13:z0u l.prog w K mg base (CXx l.prog w) 1 f13 _ ["letters","many","number"] (z4I K CtBadCount):=zby mBadCount xBadCount y1y j3 B.rng n_divmod B.tup F13;have O14:z0u l.prog w K mg base (CXx l.prog w) 1 f14 _ ["letters","many"] (z2W K CtTooMany CtBadCount):=zal mBadCount xBadCount y1y mTooMany xTooMany y1y j2 B.rng F14;have O15:z0u l.prog w K mg base (CXx l.prog w) 3 f15 _ ["guise","many"] (z8R K CtTooMany CtBadCount):=zdk B.rng F15 (O3.mono (by decide)) b3 k3 m3 (O14.mono (by decide)) b14 k14 m14 O12 b12 k12 m12 O11 b11 k11 m11 (O13.mono (by decide)) b13 k13 m13;have O16:z0u l.prog w K mg base (CXx l.prog w) 3 f16 _ ["guise","word"] (z4D K CtBadWord CtTooMany):=zbu (Cb:=CtBadCount) B.len F16 (O3.mono (by decide)) b3 k3 m3 (O10.mono (by decide)) b10 k10 m10 (O14.mono (by decide)) b14 k14 m14 O11 b11 k11 m11;have O17:z0u l.prog w K mg base (CXx l.prog w) 4 f17 _ ["guise","many"] (z6k K CtTooMany CtBadCount):=zbn (Cw:=CtBadWord) F17 (O3.mono (by decide)) b3 k3 m3 (O14.mono (by decide)) b14 k14 m14 O16 b16 k16 m16;have O19:z0u l.prog w K mg base (CXx l.prog w) 1 f19 _ ["ways","number"] (z8x K):=zde B.len n_sorted F19;have O18:z0u l.prog w K mg base (CXx l.prog w) 4 f18 _ ["guises","many"] (z7b K):=zb5 (Ct:=CtTooMany) (Cb:=CtBadCount) B.len B.rng F18 O15 b15 k15 m15 (O19.mono (by decide)) b19 k19 m19;have O24:z0u l.prog w K mg base (CXx l.prog w) 1 f24 _ ["_law_script","_law_at"] (z9U K):=zfX F24 B.len;have O25:z0u l.prog w K mg base (CXx l.prog w) 2 f25 _ ["_law_script","_law_at"] (z5z K):=zaL F25 O24 b24 k24 m24;have O28:z0u l.prog w K mg base (CXx l.prog w) 1 f28 _ ["_law_cell_here","_law_many"] (z5q K):=zar F28 B.len;have O29:z0u l.prog w K mg base (CXx l.prog w) 1 f29 _ ["_law_pick","_law_letters_here"] (zbU K):=zfx F29 B.len B.tup B.rng B.lst;have O30:z0u l.prog w K mg base (CXx l.prog w) 2 f30 _ ["_law_letters_here","_law_cell_here"] (zbW K):=zeW F30 B.rng B.tup n_min O28 b28 k28 m28 O29 b29 k29 m29;have O26:z0u l.prog w K mg base (CXx l.prog w) 1 f26 _ ["_law_rows_here","_law_line","_law_marks"] (z5v K):=zap F26 B.len B.tup;have O27:z0u l.prog w K mg base (CXx l.prog w) 2 f27 _ ["_law_rows_here","_law_start"] (z55 K):=zax F27 B.len B.tup O26 b26 k26 m26;have O31:z0u l.prog w K mg base (CXx l.prog w) 3 f31 _ ["_law_letters_here","_law_cell_here"] (z8F K):=zdW F31 O30 b30 k30 m30 ((O27.mono (by decide)).sub zae) b27 k27 m27;have O32:z0u l.prog w K mg base (CXx l.prog w) 1 f32 _ ["_law_letters_here"] (z4Q K):=zad F32;have O33:z0u l.prog w K mg base (CXx l.prog w) 1 f33 _ ["_law_letters_here","_law_many"] (z8g K):=zdH F33 B.rng;have O34:z0u l.prog w K mg base (CXx l.prog w) 8 f34 _ ["_law_one","_law_other"] (z8s (zd8 P22 P20) K):=zdL mTooMany xTooMany y1y.hasBase F34 O22 b22 k22 m22 O20 b20 k20 m20;exact zh1 B.len n_sorted n_set n_max n_sum F35 (O24.mono (by decide)) b24 k24 m24 (O25.mono (by decide)) b25 k25 m25 (O31.mono (by decide)) b31 k31 m31 (O32.mono (by decide)) b32 k32 m32 (O18.mono (by decide)) b18 k18 m18 (O22.mono (by decide)) b22 k22 m22 (O17.mono (by decide)) b17 k17 m17 (O16.mono (by decide)) b16 k16 m16 (O13.mono (by decide)) b13 k13 m13 (O34.mono (by decide)) b34 k34 m34 (O33.mono (by decide)) b33 k33 m33
def walk{l:PySem.W.OpenLaw}{q:Program}{loose:List Str}{XP:(yyS)->Heap->Prop}{YP:World->Heap->Prop}{d:DefRec}{K:Params->yyF}{P22 P20:Addr}(hn:l.most=some 63)(hdf:d.params.defaults=[])(hY:∀(w:World) (h:Heap),YP w h->(K w.params).In h/\∀P∈([P22,P20]:List Addr),h.get? P=some (PySem.W.tabObj #[]))(F:∀(w:World) (mg:yyS) (fa:Addr) (h:Heap),(K w.params).In h->h.Ns mainGlobals mg->mg d.name=some (.ref fa) -> ∃fd:FuncData,(∀(s:Shared) (u:Value),BindsTo s fd ⟨[u],[]⟩ [("_law_script",u)])/\(∀T∈(zd8 P22 P20),(K w.params).lookup T.at_=none/\∃c,PySem.W.codeHdIn (K w.params) c T.at_=true)/\∀base:Heap,(K w.params).In base->base.Ns mainGlobals mg->z5I base mg->z0u l.prog w (K w.params) mg base (CXx l.prog w) 10 fa fd ["_law_script"] (z9v (zd8 P22 P20) (K w.params))) : PySem.W.WalkO q loose XP YP l.row.toRowW d [] (fun f vs=>PySem.call f vs) :=
 L2.walk_of2 (Ts:=(zd8 P22 P20)) (n:=63) (k:=10) (x:="_law_script") (CX:=fun w=>(CXx l.prog w)) (sp:=fun w=>z9v (zd8 P22 P20) (K w.params)) hn (by decide) hdf ⟨rfl,by decide,by decide⟩ hY F (fun _ _ a ns hl hT hS=>⟨a,ns,rfl,hS,hl,hT,fun _=>rfl⟩) fun _ _ _ _ _ z=>(by obtain⟨_,_,_,_,_,_,_,_,_,h⟩:=z;exact h)
end Gu
open PySem.W PyProof.Rows
set_option maxRecDepth 100000 in
set_option maxHeartbeats 0 in
theorem PySem.Challenge.cw_guisery_k34_whole_camps_holds : PySem.Challenge.rw_guisery_k34_whole_camps.Holds := by
 w_on;o_law;refine holds_open (q:=Gu.viewOf Gu.pY) (loose:=[]) (Xt:=fun s=>xlAt (Gu.viewOf Gu.pY) [] s&&recOk (RowW.records Gu.rY.toRowW) s) (XP:=XL (Gu.viewOf Gu.pY) []) (Yf:=Hook.obs Gu.HK) (Ya:=Hook.val Gu.HK) (YP:=Hook.says (PySem.W.kmHook Gu.KH Gu.KA (fun _=>by kernel_rfl) [194,182])) (N:=4054) Gu.left (Hook.of Gu.HK) (Hook.keeps Gu.HK) (fun s e=>xl_of s (Bool.and_eq_true_iff.mp e).1) XL.keeps (by rfl) (by rfl) (by rfl) (fun s e=>recFacts_of (Bool.and_eq_true_iff.mp e).2) (by rfl) (by first|assumption|decide +kernel) (by decide +kernel) ⟨rfl,rfl,rfl,rfl,rfl,by decide +kernel⟩ ?hw ?hc;(case hw=>w_witness2)
 k_fill
 refine Gu.walk (l:=PySem.Challenge.rw_guisery_k34_whole_camps) rfl rfl (fun w h Y=>⟨PySem.W.km_in_of Y,PySem.W.km_tabs_of Y⟩) ?F;case F =>
  intro w mg fa h KX G hmg;refine' Gu.all_mk KX G hmg ?h1 ?h2 ?h3 ?h4 ?h5 ?h6 ?h7 ?h8 ?h9 ?h10 ?h11 ?h12 ?h13 ?h14 ?h15 ?h16 ?h17 ?h18 ?h19 ?a20 ?l20 ?c20 ?k20 ?h21 ?a22 ?l22 ?c22 ?k22 ?h23 ?h24 ?h25 ?h26 ?h27 ?h28 ?h29 ?h30 ?h31 ?h32 ?h33 ?h34 ?a35 ?l35 ?c35 ?k35 ?t22 ?u22 ?t20 ?u20 ?nP ?i1 ?i2 ?i3 ?z1 ?z2 ?z3 ?z4 ?z5 ?z6 ?z7 ?z8 ?z9 ?z10 ?z11 ?z12 ?z13 ?z14 ?z15 ?z16 ?z17 ?z18 ?z19 ?yTooMany ?xTooMany ?yBadWord ?xBadWord ?yBadCount ?xBadCount;all_goals try (refine' Gu.FA.of ?_ ?_ ?_ ?_<;>try k_is)
  (case a20=>k_is);(case l20=>k_is);(case c20=>k_is);(case k20=>k_is)
  (case a22=>k_is);(case l22=>k_is);(case c22=>k_is);(case k22=>k_is)
  (case a35=>k_is);(case l35=>k_is);(case c35=>k_is);(case k35=>k_is)
  (case t22=>(first|kernel_rfl|k_is))
  (case u22=>(first|kernel_rfl|k_is))
  (case t20=>(first|kernel_rfl|k_is))
  (case u20=>(first|kernel_rfl|k_is))
  (case nP=>decide)
  (case i1=>k_is)
  (case i2=>k_is)
  (case i3=>k_is)
  (case z1=>k_is)
  (case z2=>k_is)
  (case z3=>k_is)
  (case z4=>k_is)
  (case z5=>k_is)
  (case z6=>k_is)
  (case z7=>k_is)
  (case z8=>k_is)
  (case z9=>k_is)
  (case z10=>k_is)
  (case z11=>k_is)
  (case z12=>k_is)
  (case z13=>k_is)
  (case z14=>k_is)
  (case z15=>k_is)
  (case z16=>k_is)
  (case z17=>k_is)
  (case z18=>k_is)
  (case z19=>k_is)
  (case yTooMany=>k_is)
  (case xTooMany=>k_exc)
  (case yBadWord=>k_is)
  (case xBadWord=>k_exc)
  (case yBadCount=>k_is)
  (case xBadCount=>k_exc)
