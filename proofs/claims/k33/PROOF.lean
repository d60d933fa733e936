import PyProof.Rows.All
import Wide.All
import OpenK.AllK
import Wide.FinOn
import Lean
import PyProof.EqAt
import PyProof.EqKinds
import PyProof.TupleCall
import PyProof.ListRange
import PyProof.TupleOfSeq
import PyProof.ConsumeWalk
import PyProof.WalksMore
import PyProof.Draws
import PyProof.EnumMake
import PyProof.ZipIter
import PyProof.Rows.EnumRows
import PyProof.Rows.FactsT2
import PyProof.MeetsSeq3
import PyProof.DictRoadsH
import PyProof.Rows.TupTab
import PyProof.Rows.SortWalk
import PyProof.Rows.SeqCalls
import PyProof.ListMulRoad
import KE.KDictLaws
import OpenK.KRaise
import KE.KLam
import KE.KNestM
import PyProof.Rows.SortRuns
import PyProof.Rows.SetFrom
import KE.KDictList
import PyProof.IsRules
import PyProof.DictCompW
import KE.KSortKey
import KE.KSortTup
import PySem.Challenge.RW_guisery_k33_whole_sections_joined
set_option Elab.async false
set_option linter.all false
set_option maxRecDepth 100000
set_option maxHeartbeats 4000000
def y00:=@List.getElem?_eq_getElem
def y01:=@List.length_map
def y02:=@List.getD_eq_getElem?_getD
def y03:=@PySem.wpAny_bind
def y04:=@List.getElem?_map
def y05:=@List.getElem?_eq_some_iff
def y06:=@PySem.Heap.get?_push_of_some
def y07:=@Option.some.inj
def y08:=@List.mem_singleton
def y09:=@List.mem_cons_of_mem
def y0a:=@List.length_append
def y0b:=@List.mem_map
def y0c:=@List.getElem_mem
def y0d:=@Bool.false_eq_true
def y0e:=@List.map_append
def y0f:=@Nat.le_refl
def y0g:=@PySem.wpAny_pure
def y0h:=@PySem.Heap.lt_size
def y0i:=@Array.getElem?_eq_getElem
def y0j:=@List.mem_append_right
def y0k:=@PySem.Heap.get?_push_size
def y0l:=@List.map_cons
def y0m:=@List.mem_cons_self
def y0n:=@List.getElem?_eq_none
def y0o:=@PyProof.Rows.wpS_bind
def y0p:=@List.append_assoc
def y0q:=@List.mem_append
def y0r:=@Nat.le_trans
def y0s:=@List.length_take
def y0t:=@List.mem_append_left
def y0u:=@Nat.lt_of_lt_of_le
def y0v:=@List.take_add_one
def y0w:=@PyProof.Rows.wpS_pure
def y0x:=@List.mem_cons
def y0y:=@Nat.zero_le
def y0z:=@List.mem_of_getElem?
def y0A:=@List.take_length
def y0B:=@Array.getElem?_toList
def y0C:=@Nat.ne_of_lt
def y0D:=@List.size_toArray
def y0E:=@Int.toNat_natCast
def y0F:=@PyProof.Rows.boot_tuple
def y0G:=@PySem.boot_len
def y0H:=@List.map_congr_left
def y0I:=@PySem.PassesOwn.never
def y0J:=@PySem.F.plainAttrs_list
def y0K:=@Array.length_toList
def y0L:=@List.map_map
def y0M:=@List.take_of_length_le
def y0N:=@PySem.F.slot_list_append
def y0O:=@PySem.F.type_list_append
def y0P:=@List.idxOf_lt_length_of_mem
def y0Q:=@Int.le_refl
def y0R:=@Bool.false_ne_true
def y0S:=@List.map_nil
def y0T:=@List.take_append_drop
def y0U:=@PySem.W.mg_none_of
def y0V:=@List.mem_iff_getElem
def y0W:=@List.pairwise_append
def y0X:=@List.length_cons
def y0Y:=@PySem.wpAny_mono
def y0Z:=@PySem.W.hideAll_none
def y10:=@List.mem_of_mem_take
def y11:=@List.getElem?_append_left
def y12:=@List.getElem?_zip_eq_some
def y13:=@List.getElem?_append_right
def y14:=@of_decide_eq_true
def y15:=@PySem.mem_of_lookup
def y16:=@Array.toList_append
def y17:=@List.lookup_cons
def y18:=@List.getElem_map
def y19:=@List.drop_eq_getElem_cons
def y1a:=@Option.map_eq_some_iff
def y1b:=@List.nodup_iff_pairwise_ne
def y1c:=@List.replicate_succ
def y1d:=@List.mem_range
def y1e:=@PySem.wpAny_newObj_type
def y1f:=@List.ext_getElem?
def y1g:=@Bool.eq_false_iff
def y1h:=@List.pairwise_iff_getElem
def y1i:=@Nat.mul_le_mul
def y1j:=@PyProof.Rows.wpS_forRange
def y1k:=@Ne.symm
def y1l:=@List.drop_of_length_le
def y1m:=@if_false
def y1n:=@of_decide_eq_false
def y1o:=@decide_eq_false
def y1p:=@List.append_nil
def y1q:=@List.getElem_of_mem
def y1r:=@PySem.Heap.SameBut.update
def y1s:=@List.flatten_cons
def y1t:=@PySem.wpAny_callSpecial?_slot
def y1u:=@List.pairwise_map
def y1v:=@Array.toList_push
def y1w:=@List.reverse_reverse
def y1x:=@List.getElem_idxOf
def y1y:=@List.nodup_cons
def y1z:=@List.nil_append
def y1A:=@PySem.wpAny_call_entry
def y1B:=@List.perm_append_comm
def y1C:=@PyProof.Rows.callWith_type1
def y1D:=@List.getElem?_of_mem
def y1E:=@PySem.wpAny_truthy_bool
def y1F:=@List.take_sublist
def y1G:=@List.length_range
def y1H:=@Nat.lt_irrefl
def y1I:=@PySem.wpAny_holding
def y1J:=@decide_eq_true
def y1K:=@PySem.Heap.size_push
def y1L:=@List.getElem?_eq_none_iff
def y1M:=@Classical.byContradiction
def y1N:=@List.foldl_cons
def y1O:=@List.Perm.append_left
def y1P:=@Array.size_push
def y1Q:=@List.getElem?_take_of_lt
def y1R:=@List.Pairwise.imp_of_mem
def y1S:=@List.any_eq_true
def y1T:=@PySem.wpAny_field
def y1U:=@List.ext_getElem
def y1V:=@List.eq_nil_of_length_eq_zero
def y1W:=@List.mem_of_mem_drop
def y1X:=@List.pairwise_singleton
def y1Y:=@PySem.W.mg_of
def y1Z:=@List.getElem_take
def y20:=@Bool.eq_iff_iff
def y21:=@List.find?_cons
def y22:=@List.idxOf_cons
def y23:=@List.length_zip
def y24:=@Int.add_mul_emod_self_right
def y25:=@List.Perm.append_right
def y26:=@PySem.F.slot_tuple_iterator_next
def y27:=@Nat.le_of_lt
def y28:=@congrArg
def y29:=@PySem.wpAny_Call_Name_kw
def y2a:=@List.map_singleton
def y2b:=@if_true
def y2c:=@PySem.wpAny_seqItems
def y2d:=@List.extract_eq_take_drop
def y2e:=@PyProof.Rows.wpS_mono
def y2f:=@PySem.wpAny_passesOwn
def y2g:=@Option.isSome_map
def y2h:=@PySem.wpAny_comprehension_free
def y2i:=@PySem.wpAny_rule
def y2j:=@List.reverse_cons
def y2k:=@List.filterMap_cons
def y2l:=@PySem.W.codeHd_of_K
def y2m:=@Nat.add_sub_cancel_left
def y2n:=@Int.toNat_of_nonneg
def y2o:=@List.take_append_of_le_length
def y2p:=@PySem.wpAny_typeNameOfWhole_keyiter
def y2q:=@List.getElem?_set_self
def y2r:=@List.length_pos_of_mem
def y2s:=@Int.add_mul_ediv_right
def y2t:=@Int.ediv_eq_zero_of_lt
def y2u:=@PySem.W.of_hideAll
def y2v:=@PySem.wpAny_pyIter_tuple
def y2w:=@Int.emod_lt_of_pos
def y2x:=@Prod.ext
def y2y:=@List.getElem?_drop
def y2z:=@PySem.wpAny_setField_rec
def y2A:=@PySem.F.slot_dict_keyiterator_next
def y2B:=@Nat.ne_of_gt
def y2C:=@List.of_mem_zip
def y2D:=@List.length_replicate
def y2E:=@Nat.lt_or_ge
def y2F:=@Nat.zero_add
def y2G:=@Int.add_comm
def y2H:=@PySem.wpAny_standAt
def y2I:=@True.intro
def y2J:=@decide_eq_true_eq
def y2K:=@Nat.add_assoc
def y2L:=@List.foldl_append
def y2M:=@PyProof.Rows.listUpdate_at
def y2N:=@List.length_eraseIdx_of_lt
def y2O:=@PySem.F.excBase_ValueError
def y2P:=@PySem.wpAny_newFunctionEnv
def y2Q:=@PySem.Around.under_plainId
def y2R:=@Array.toList_extract
def y2S:=@List.nodup_nil
def y2T:=@beq_eq_false_iff_ne
def y2U:=@Nat.add_eq_zero_iff
def y2V:=@PySem.codeAny_mono
def y2W:=@PySem.wpAny_typeNameOf_keyiter
def y2X:=@PySem.wpAny_execs_nil
def y2Y:=@List.mem_filterMap
def y2Z:=@PySem.Calls.spliced_cons
def y30:=@List.getElem?_replicate
def y31:=@List.length_nil
def y32:=@PySem.tupleKind_room_in1
def y33:=@Nat.lt_of_le_of_lt
def y34:=@PySem.Obj.data_mapFields
def y35:=@PySem.wpAny_attempt
def y36:=@Int.emod_nonneg
def y37:=@Bool.not_true
def y38:=@Nat.min_eq_left
def y39:=@List.mem_replicate
def y3a:=@List.range_succ
def y3b:=@decide_eq_false_iff_not
def y3c:=@List.Pairwise.nil
def y3d:=@beq_iff_eq
def y3e:=@Nat.lt_succ_of_lt
def y3f:=@PySem.F.plain_list_iadd
def y3g:=@PySem.F.slot_tuple_hash
def y3h:=@List.nodup_append
def y3i:=@Int.emod_eq_of_lt
def y3j:=@List.drop_sublist
def y3k:=@PySem.PassesOwn.leaving
def y3l:=@PySem.Heap.get?_update_self
def y3m:=@List.length_singleton
def y3n:=@Nat.add_zero
def y3o:=@List.eq_replicate_iff
def y3p:=@List.singleton_append
def y3q:=@List.getElem_inj
def y3r:=@List.length_drop
def y3s:=@Bool.and_eq_true
def y3t:=@PySem.wpAny_isInstance
def y3u:=@PySem.wpAny_pyIter_zip
def y3v:=@List.cons_append
def y3w:=@PySem.Heap.get?_none_of_le
def y3x:=@List.getElem?_set_ne
def y3y:=@PySem.Calls.evalArgs_plain
def y3z:=@Array.toList_reverse
def y3A:=@PySem.Paired.length
def y3B:=@Sum.inl.inj
def y3C:=@List.mem_filter
def y3D:=@PySem.wpAny_specialOf
def y3E:=@List.forIn_cons
def y3F:=@PySem.codeAny_builtin
def y3G:=@Nat.one_ne_zero
def y3H:=@Nat.not_lt_zero
def y3I:=@Option.map_some
def y3J:=@PySem.F.slot_zip_next
def y3K:=@List.cons.injEq
def y3L:=@Nat.lt_trans
def y3M:=@Nat.sub_self
def y3N:=@PyProof.Rows.wpS_modify
def y3O:=@PyProof.Rows.wpS_get
abbrev yyF:=PySem.W.Frag
abbrev yyP:=List (PySem.Addr × PySem.Obj)
abbrev yyE:=PySem.Value->PySem.Shared->Prop
abbrev yyS:=PySem.Str->Option PySem.Value
namespace L2
open PySem PySem.Spec PyProof.Rows
abbrev Key:=Sum Int Str
def zad:Key->Value->Bool
 |.inl k,v=>Value.isInt k v
 |.inr x,v=>Value.isStrOf x v
def zio(w:World):Key->Int
 |.inl k=>hashInt k
 |.inr x=>hashStr w x
def z0X:∀{k:Key}{v:Value},zad k v=true->(∃i t,k=Sum.inl i/\v=Value.int i t)\/(∃x t,k=Sum.inr x/\v=Value.str x t)
 |.inl i,v,h=>by
  obtain⟨t,e⟩:=Value.isInt_shape (k:=i) (v:=v) h;exact .inl ⟨i,t,rfl,e⟩
 |.inr x,v,h=>by obtain⟨t,e⟩:=Value.isStrOf_shape (x:=x) (v:=v) h;exact .inr ⟨x,t,rfl,e⟩
def zcq(i:Int)(t:Tok):zad (.inl i) (.int i t)=true:=by simp[zad,Value.isInt]
def zbH(x:Str)(t:Tok):zad (.inr x) (.str x t)=true:=by simp[zad,Value.isStrOf]
def zg9(a b:Int):decide ((Sum.inl a:Key)=Sum.inl b)=(a==b):=by
 by_cases e:a=b
 .subst e;simp
 .have h:¬(Sum.inl a:Key)=Sum.inl b:=fun q=>e (y3B q);rw[y1o h];exact(y2T.mpr e).symm
def zfO(a b:Str):decide ((Sum.inr a:Key)=Sum.inr b)=decide (a=b):=by
 by_cases e:a=b
 .subst e;simp
 .have h:¬(Sum.inr a:Key)=Sum.inr b:=fun q=>e (Sum.inr.inj q);rw[y1o h,y1o e]
def zgq(a:Int)(b:Str):decide ((Sum.inl a:Key)=Sum.inr b)=false:=y1o (fun q=>nomatch q)
def zfu(a:Str)(b:Int):decide ((Sum.inr a:Key)=Sum.inl b)=false:=y1o (fun q=>nomatch q)
def z1o(prog:Program)(w:World):PySem.KeyKind prog w Key where
 is:=zad
 hash:=zio w
 inj:=fun v a b ha hb=>by
  rcases z0X ha with⟨i,t,rfl,rfl⟩|⟨x,t,rfl,rfl⟩
  .rcases z0X hb with⟨j,u,rfl,e⟩|⟨y,u,rfl,e⟩
   .injection e with e1 _;rw[e1]
   .exact nomatch e
  .rcases z0X hb with⟨j,u,rfl,e⟩|⟨y,u,rfl,e⟩
   .exact nomatch e
   .injection e with e1 _;rw[e1]
 byValue:=fun k v h=>by rcases z0X h with⟨i,t,rfl,rfl⟩|⟨x,t,rfl,rfl⟩<;>rfl
 pyHash:=fun hv h=>by
  rcases z0X hv with⟨i,t,rfl,rfl⟩|⟨x,t,rfl,rfl⟩
  .exact wpAny_pyHash_int h
  .exact wpAny_pyHash_str h
 eqBool:=fun hu hv h=>by
  rcases z0X hu with⟨i,t,rfl,rfl⟩|⟨x,t,rfl,rfl⟩
  .rcases z0X hv with⟨j,u,rfl,rfl⟩|⟨y,u,rfl,rfl⟩
   .rw[zg9]at h;exact wpAny_eqBool_int h
   .rw[zgq]at h;exact SeqAt.EqAt.int_str i t y u _ _ _ _ h
  .rcases z0X hv with⟨j,u,rfl,rfl⟩|⟨y,u,rfl,rfl⟩
   .rw[zfu]at h;exact SeqAt.EqAt.str_int x t j u _ _ _ _ h
   .rw[zfO]at h;exact wpAny_eqBool_str h
 «strs»:=fun k x t v h=>by
  rcases z0X h with⟨i,u,rfl,e⟩|⟨y,u,rfl,e⟩
  .exact nomatch e
  .injection e with e1 _;subst e1;cases v<;>rfl
def z8U(prog:Program)(w:World)(i:Int)(t:Tok):(z1o prog w).is (.inl i) (.int i t)=true:=zcq i t
def z8Q(prog:Program)(w:World)(x:Str)(t:Tok):(z1o prog w).is (.inr x) (.str x t)=true:=zbH x t
inductive V where
 |non|bl (b:Bool)|int (i:Int)|str (x:Str)|byt (b:Array UInt8)|flt (b:UInt64)|ref (a:Addr)|ty (n:String)
 deriving DecidableEq
def z0Z:V->Value->Prop
 |.non,u=>u=Value.none
 |.bl b,u=>u=Value.bool b
 |.int i,u=>∃t,u=Value.int i t
 |.str x,u=>∃t,u=Value.str x t
 |.byt b,u=>∃t,u=Value.bytes b t
 |.flt b,u=>∃t,u=Value.float b t
 |.ref a,u=>u=Value.ref a
 |.ty n,u=>u=Value.type n
abbrev z1h:List V->List Value->Prop:=Paired z0Z
theorem z1h.length{xs:List V}{us:List Value}(r:z1h xs us):xs.length=us.length:=y3A r
theorem z1h.get:∀{xs:List V}{us:List Value}{i:Nat}{x:V},z1h xs us->xs[i]?=some x->∃u,us[i]?=some u/\z0Z x u
 |_,_,_,_,.nil,e=>by simp at e
 |_,_,0,_,.cons r _,e=>by simp at e;subst e;exact⟨_,rfl,r⟩
 |_,_,i+1,x,.cons _ t,e=>by obtain⟨u,h1,h2⟩:=z1h.get (i:=i) (x:=x) t (by simpa using e);exact⟨u,by simpa using h1,h2⟩
theorem z1h.set{x:V}{u:Value}(r:z0Z x u):∀{xs:List V}{us:List Value}(i:Nat),z1h xs us->z1h (xs.set i x) (us.set i u)
 |_,_,_,.nil=>.nil
 |_,_,0,.cons _ t=>.cons r t
 |_,_,i+1,.cons q t=>.cons q (z1h.set r i t)
theorem z1h.append:∀{xs ys:List V}{us ws:List Value},z1h xs us->z1h ys ws->z1h (xs++ys) (us++ws)
 |_,_,_,_,.nil,s=>s
 |_,_,_,_,.cons r t,s=>.cons r (z1h.append t s)
theorem z1h.take:∀{xs:List V}{us:List Value}(n:Nat),z1h xs us->z1h (xs.take n) (us.take n)
 |_,_,0,_=>.nil
 |_,_,_+1,.nil=>.nil
 |_,_,n+1,.cons r t=>.cons r (z1h.take n t)
theorem z1h.drop:∀{xs:List V}{us:List Value}(n:Nat),z1h xs us->z1h (xs.drop n) (us.drop n)
 |_,_,0,r=>r
 |_,_,_+1,.nil=>.nil
 |_,_,n+1,.cons _ t=>z1h.drop n t
def z9n:Option V->Option Value->Prop
 |some v,some u=>z0Z v u
 |none,none=>True
 |_,_=>False
def KV{κ:Type}:List (κ × V)->List (κ × Value)->Prop:=Paired fun(p:κ × V)(q:κ × Value)=>p.1=q.1/\z0Z p.2 q.2
def kV:Key->V
 |.inl i=>.int i
 |.inr x=>.str x
inductive HO where
  |lst (xs:List V)
  |tup (xs:List V)
  |dK (kvs:List (Key × V))|dT (kvs:List (List Key × V))
  |set (S:Int->Bool) (n:Nat)
  |ins (C dx:Addr) (fs:List (Str × V))
  |own (x:Addr)
  |xd (fs:List (Str × V))
  |met (f x:Addr)
  |rng (lo hi:Int)
  |frz (o:Obj) (u:HO)
  |tbl (ps:Array Value)
  |ext (φ:Heap->Prop)
abbrev Hp:=Addr->Option HO
def upd(H:Hp)(a:Addr)(o:HO):Hp:=fun b=>if b=a then some o else H b
def z01{H:Hp}{a:Addr}{o:HO}:upd H a o a=some o:=by unfold upd;rw[if_pos rfl]
def z06{H:Hp}{a b:Addr}{o:HO}(h:b≠a):upd H a o b=H b:=by unfold upd;rw[if_neg h]
def z47{H:Hp}{a b:Addr}{o u:HO}(h:H a=some o)(h':H b=some u)(d:o≠u):a≠b:=by intro e;subst e;rw[h]at h';exact d (y07 h')
def z0f{H:Hp}{a b:Addr}{o:HO}(h:H a=some o)(h':H b=none):a≠b:=by intro e;subst e;rw[h]at h';cases h'
section
variable(P:Program)(w:World)
def z1V(H:Hp)(h:Heap)(a:Addr):HO->Prop
 |.lst xs=>xs.length<=sizeLine/\∃(its:List Value) (n:Nat),z1h xs its/\h.get? a=some { cls:=.type "list",data:=.seq its.toArray n }
 |.tup xs=>xs.length<=sizeLine/\∃(its:List Value) (n:Nat),z1h xs its/\h.get? a=some { cls:=.type "tuple",data:=.seq its.toArray n }
 |.dK kvs=>kvs.length<=sizeLine/\(a==sysModules)=false/\∃vs,KV kvs vs/\h.DictOf (z1o P w) a vs
 |.dT kvs=>kvs.length<=sizeLine/\(a==sysModules)=false/\∃xs:List (List Key × Addr × Value),
   Paired (fun(p:List Key × V)(q:List Key × Addr × Value)=>p.1=q.1/\H q.2.1=some (.tup (p.1.map kV))/\z0Z p.2 q.2.2) kvs xs /\
   ∃o es ep,h.get? a=some o/\o.ExactDict/\o.data=.dict es ep/\es.toList=xs.map (entryOfKey (tupleKind (z1o P w)))/\(xs.map (·.1)).Nodup
 |.set S n=>h.SetOf (intKind P w) a S n
 |.ins C dx fs=>H dx=some (.own a)/\fs.length<=1000/\dx≠a/\h.get? a=some (PySem.W.instObj C dx) /\
   ∃mA,h.Ns1 dx mA/\(∀f,z9n (fs.lookup f) (mA f))/\PySem.Within mA (fs.map (·.1))
 |.own _=>∃o,h.get? a=some o
 |.xd fs=>∃mA,h.Ns1 a mA/\∀f,z9n (fs.lookup f) (mA f)
 |.rng lo hi=>∃t u v,h.get? a=some { cls:=.type "range",data:=.fields #[.int lo t,.int hi u,.int 1 v] }
 |.frz o u=>h.get? a=some o/\z1V H h a u
 |.tbl ps=>h.get? a=some { cls:=.none,data:=.fields ps }
 |.met f x=>h.get? a=some (PySem.W.methodObj (.ref f) (.ref x))
 |.ext φ=>φ h/\(∃o,h.get? a=some o)/\∀h1 h2:Heap,φ h1->(∀o,h1.get? a=some o->h2.get? a=some o)->φ h2
def HOk(H:Hp)(h:Heap):Prop:=∀a o,H a=some o->z1V P w H h a o
end
section
variable{P:Program}{w:World}{H H':Hp}{h h':Heap}{a:Addr}{o:HO}
def z1V.lt(x:z1V P w H h a o):a<h.objs.size:=by
 cases o with
 |lst xs=>obtain⟨_,_,_,_,e⟩:=x;exact y0h e
 |tup xs=>obtain⟨_,_,_,_,e⟩:=x;exact y0h e
 |dK kvs=>obtain⟨_,_,_,_,o,_,_,e,_⟩:=x;exact y0h e
 |dT kvs=>obtain⟨_,_,_,_,o,_,_,e,_⟩:=x;exact y0h e
 |set S n=>obtain⟨o,_,_,_,e,_⟩:=x;exact y0h e
 |ins C dx fs=>obtain⟨_,_,_,e,_⟩:=x;exact y0h e
 |own y=>obtain⟨_,e⟩:=x;exact y0h e
 |xd fs=>obtain⟨_,⟨_,_,_,e,_⟩,_⟩:=x;exact y0h e
 |rng lo hi=>obtain⟨_,_,_,e⟩:=x;exact y0h e
 |frz ob u=>obtain⟨e,_⟩:=x;exact y0h e
 |tbl ps=>exact y0h (show h.get? a=some _ from x)
 |met f y=>exact y0h (show h.get? a=some _ from x)
 |ext φ=>obtain⟨_,⟨_,e⟩,_⟩:=x;exact y0h e
theorem Paired.mapP{α β:Type}{F G:α->β->Prop}:∀{l₁:List α}{l₂:List β},Paired F l₁ l₂->(∀a b,F a b->G a b)->Paired G l₁ l₂
 |_,_,.nil,_=>.nil
 |_,_,.cons r t,f=>.cons (f _ _ r) (Paired.mapP t f)
def z1V.stay(x:z1V P w H h a o)(k:∀b u,(b=a\/H b=some (.own a))->h.get? b=some u->h'.get? b=some u)(ho:∀b,H b=some (.own a)->H' b=some (.own a))(ht:∀b xs,H b=some (.tup xs)->H' b=some (.tup xs)):z1V P w H' h' a o:=by
 induction o with
 |lst xs=>obtain⟨z,its,n,r,e⟩:=x;exact⟨z,its,n,r,k _ _ (.inl rfl) e⟩
 |tup xs=>obtain⟨z,its,n,r,e⟩:=x;exact⟨z,its,n,r,k _ _ (.inl rfl) e⟩
 |dK kvs=>obtain⟨z,y,vs,r,ob,es,ep,e,c⟩:=x;exact⟨z,y,vs,r,ob,es,ep,k _ _ (.inl rfl) e,c⟩
 |dT kvs =>
  obtain⟨z,y,xs,r,ob,es,ep,e,c⟩:=x;exact⟨z,y,xs,Paired.mapP r fun p q z=>⟨z.1,ht _ _ z.2.1,z.2.2⟩,ob,es,ep,k _ _ (.inl rfl) e,c⟩
 |set S n=>obtain⟨ob,es,ep,t,e,c⟩:=x;exact⟨ob,es,ep,t,k _ _ (.inl rfl) e,c⟩
 |ins C dx fs =>
  obtain⟨d,z,ne,e,mA,⟨od,es,ep,e2,c⟩,r⟩:=x;exact⟨ho _ d,z,ne,k _ _ (.inl rfl) e,mA,⟨od,es,ep,k _ _ (.inr d) e2,c⟩,r⟩
 |own y=>obtain⟨ob,e⟩:=x;exact⟨ob,k _ _ (.inl rfl) e⟩
 |xd fs=>obtain⟨mA,⟨od,es,ep,e,c⟩,r⟩:=x;exact⟨mA,⟨od,es,ep,k _ _ (.inl rfl) e,c⟩,r⟩
 |rng lo hi=>obtain⟨t,u,v,e⟩:=x;exact⟨t,u,v,k _ _ (.inl rfl) e⟩
 |frz ob u ih=>obtain⟨e,q⟩:=x;exact⟨k _ _ (.inl rfl) e,ih q⟩
 |tbl ps =>
  have e:h.get? a=some { cls:=.none,data:=.fields ps }:=x;show h'.get? a=some { cls:=.none,data:=.fields ps };exact k a _ (.inl rfl) e
 |met f y =>
  have e:h.get? a=some (PySem.W.methodObj (.ref f) (.ref y)):=x;show h'.get? a=some (PySem.W.methodObj (.ref f) (.ref y));exact k a _ (.inl rfl) e
 |ext φ=>obtain⟨p,⟨o,e⟩,st⟩:=x;exact⟨st _ _ p fun o q=>k _ _ (.inl rfl) q,⟨o,k _ _ (.inl rfl) e⟩,st⟩
theorem HOk.lt(x:HOk P w H h)(e:H a=some o):a<h.objs.size:=(x a o e).lt
def HOk.fresh(x:HOk P w H h)(e:h.objs.size<=a):H a=none:=by
 cases q:H a with
 |none=>rfl
 |some u=>exact absurd (y0u (x.lt q) e) (y1H _)
def HOk.kept(x:HOk P w H h)(k:∀b u,h.get? b=some u->h'.get? b=some u):HOk P w H h':=fun a o e =>
 (x a o e).stay (fun b u _ q=>k b u q) (fun _ q=>q) fun _ _ q=>q
def HOk.laid(x:HOk P w H h)(k:∀b u,h.get? b=some u->h'.get? b=some u)(hp:h.objs.size<=a)(new:z1V P w (upd H a o) h' a o):HOk P w (upd H a o) h':=fun b u e=>by
 have hn:=x.fresh hp;by_cases hb:b=a
 .subst hb;rw[z01]at e;cases e;exact new
 .rw[z06 hb]at e;exact(x b u e).stay (fun c v _ q=>k c v q) (fun c q=>by rw[z06 (z0f q hn)];exact q) fun c xs q=>by rw[z06 (z0f q hn)];exact q
end
def Rd(H:Hp)(a:Addr)(u:HO):Prop:=H a=some u\/∃o,H a=some (.frz o u)
def Rd.ok{P:Program}{w:World}{H:Hp}{h:Heap}{a:Addr}{u:HO}(r:Rd H a u)(x:HOk P w H h):z1V P w H h a u:=by
 rcases r with r|⟨o,r⟩
 .exact x a u r
 .obtain⟨_,q⟩:=x a _ r;exact q
def Mut:Option HO->Prop
 |some (.lst _)=>True
 |some (.dK _)=>True
 |some (.dT _)=>True
 |some (.set _ _)=>True
 |some (.ins _ _ _)=>True
 |some (.ext _)=>True
 |_=>False
section
variable{P:Program}{w:World}{H:Hp}{h h':Heap}{x e:Addr}{o':HO}
def HOk.write(ok:HOk P w H h)(mu:Mut (H x))(he:e=x\/H e=some (.own x))(k:∀b u,b≠e->h.get? b=some u->h'.get? b=some u)(heo:∃u,h'.get? e=some u)(new:z1V P w (upd H x o') h' x o'):HOk P w (upd H x o') h':=fun b u q=>by
 have nown:∀c y,H c=some (.own y)->c≠x:=fun c y r z=>by subst z;rw[r]at mu;exact mu
 have ntup:∀c xs,H c=some (.tup xs)->c≠x:=fun c xs r z=>by subst z;rw[r]at mu;exact mu
 by_cases hb:b=x
 .subst hb;rw[z01]at q;cases q;exact new
 .rw[z06 hb]at q;by_cases hbe:b=e
  .have q':H b=some (.own x):=by
    rcases he with z|z
    .exact absurd (hbe.trans z) hb
    .rw[hbe];exact z
   rw[q]at q';cases q';obtain⟨v,hv⟩:=heo;exact⟨v,by rw[hbe];exact hv⟩
  .refine(ok b u q).stay (fun c v hc r=>k c v ?_ r) (fun c r=>by rw[z06 (nown c b r)];exact r) fun c xs r=>by rw[z06 (ntup c xs r)];exact r
   rcases hc with rfl|hc
   .exact hbe
   .rintro rfl;rcases he with z|z
    .exact nown c b hc z
    .rw[hc]at z;cases z;exact hb rfl
end
structure Un(fs ex:List Addr)(H H':Hp)(h h':Heap):Prop where
 keep:∀b o,h.get? b=some o->H b=none->b∉fs->b∉ex->h'.get? b=some o
 slot:∀b o,h.get? b=some o->H b=none->b∈fs->b∉ex->∃sl,h'.get? b=some { o with slots:=sl }
 free:∀b o,h.get? b=some o->H b=none->b∉ex->H' b=none
 there:∀b o,h.get? b=some o->b∉ex->∃o',h'.get? b=some o'
 tups:∀b xs,H b=some (.tup xs)->H' b=some (.tup xs)
 frzs:∀b o u,H b=some (.frz o u)->H' b=some (.frz o u)
 tbls:∀b ps,H b=some (.tbl ps)->∃more,H' b=some (.tbl (ps++more))
section
variable{fs fs' ex ex':List Addr}{H H1 H2:Hp}{h h1 h2 h':Heap}{a x e:Addr}{o:HO}
def Un.any(u:Un fs ex H H1 h h1){b:Addr}{ob:Obj}(q:h.get? b=some ob)(n:H b=none)(hx:b∉ex):∃sl,h1.get? b=some { ob with slots:=sl }:=by
 by_cases hb:b∈fs
 .exact u.slot b ob q n hb hx
 .exact⟨ob.slots,u.keep b ob q n hb hx⟩
def Un.kept(k:∀b u,h.get? b=some u->h'.get? b=some u):Un fs ex H H h h' :=
 ⟨fun b ob q _ _ _=>k b ob q,fun b ob q _ _ _=>⟨ob.slots,k b ob q⟩,fun _ _ _ n _=>n,fun b ob q _=>⟨ob,k b ob q⟩,fun _ _ q=>q,fun _ _ _ q=>q,fun _ ps q=>⟨#[],by rw[q];simp⟩⟩
def Un.refl:Un fs ex H H h h:=Un.kept fun _ _ q=>q
def Un.laid(k:∀b u,h.get? b=some u->h'.get? b=some u)(hp:h.objs.size<=a)(hn:H a=none):Un fs ex H (upd H a o) h h' where
 keep:=fun b u q _ _ _=>k b u q
 slot:=fun b u q _ _ _=>⟨u.slots,k b u q⟩
 free:=fun b u q n _=>by rw[z06 (y0C (y0u (y0h q) hp))];exact n
 there:=fun b u q _=>⟨u,k b u q⟩
 tups:=fun b xs q=>by rw[z06 (z0f q hn)];exact q
 frzs:=fun b u xs q=>by rw[z06 (z0f q hn)];exact q
 tbls:=fun b ps q=>⟨#[],by rw[z06 (z0f q hn),q];simp⟩
def Un.write(mu:Mut (H x))(he:e=x\/H e=some (.own x))(k:∀b u,b≠e->h.get? b=some u->h'.get? b=some u)(heo:∃u,h'.get? e=some u):Un fs ex H (upd H x o) h h':=by
 have hx:∀b,H b=none->b≠x:=fun b n z=>by subst z;rw[n]at mu;exact mu
 have hb:∀b,H b=none->b≠e:=fun b n z=>by
  subst z;rcases he with r|r
  .exact hx b n r
  .rw[n]at r;cases r
 have hm:∀b u,H b=some u->¬Mut (some u)->b≠x:=fun b u q nm z=>by subst z;rw[q]at mu;exact nm mu
 refine⟨fun b u q n _ _=>k b u (hb b n) q,fun b u q n _ _=>⟨u.slots,k b u (hb b n) q⟩,fun b u q n _=>by rw[z06 (hx b n)];exact n,fun b u q _=>?_,
  fun b xs q=>by rw[z06 (hm b _ q fun z=>z)];exact q,fun b u xs q=>by rw[z06 (hm b _ q fun z=>z)];exact q,fun b ps q=>⟨#[],by rw[z06 (hm b _ q fun z=>z),q];simp⟩⟩
 by_cases hbe:b=e
 .subst hbe;exact heo
 .exact⟨u,k b u hbe q⟩
end
def trk(h:Heap)(H:Hp):List Addr:=(List.range h.objs.size).filter fun a=>(H a).isSome
def zcC(h:Heap)(H:Hp):Heap:=PySem.W.hideAll h (trk h H)
def zcs(h:Heap)(H:Hp):(zcC h H).objs.size=h.objs.size:=PySem.W.hideAll_size _ _
def zcQ{h:Heap}{H:Hp}{b:Addr}{o:Obj}(e:h.get? b=some o)(n:H b=none):(zcC h H).get? b=some o :=
 PySem.W.hideAll_get _ e fun hm=>by have q:(H b).isSome=true:=(y3C.mp hm).2;rw[n]at q;simp at q
def zfb{h:Heap}{H:Hp}{b:Addr}{o:Obj}(e:(zcC h H).get? b=some o):h.get? b=some o/\H b=none:=by
 have e':h.get? b=some o:=y2u (trk h H) e;refine⟨e',?_⟩;cases q:H b with
 |none=>rfl
 |some x =>
  have hm:b∈trk h H:=y3C.mpr ⟨y1d.mpr (y0h e'),by simp[q]⟩;have z:(zcC h H).get? b=none:=y0Z (trk h H) hm;rw[z]at e;cases e
def zeX(g h:Heap)(L:Addr):yyP:=(List.range h.objs.size).filterMap fun a=>if a=L\/(g.get? a).isSome=true then none else(h.get? a).map fun o=>(a,o)
def z1T(g h:Heap)(L d:Addr):yyP:=(zeX g h L).filter fun p=>decide (p.1≠d)
structure Mod(K:yyF)(mg:yyS)(base:Heap):Prop where
 kin:K.In base
 glob:base.Ns mainGlobals mg
 blt:∃mb,base.Ns builtinsNs mb/\∀x:Str,x≠"__name__"->mb x=bootBuiltins x
 nolimit:base.NoLimit
structure Cx where
 prog:Program
 w:World
 K:yyF
 mg:yyS
 base:Heap
 A:Around
 N:List Str
 s₀:Shared
 H₀:Hp
 env:Env
 outer:List Env
 stack:List Env
 ex:List Addr
 fn:Str->Bool
 calm:Bool
 pn:yyP
 xe:yyE
def frs(l:List Env):List Addr:=l.filterMap (·.frame)
abbrev Cx.fs(X:Cx):List Addr:=frs X.outer
def Vis(sc:Scope)(x:Str):Prop:=sc.names.lookup x=some .local\/sc.names.lookup x=some .cell\/sc.names.lookup x=some .free
def Loc(sc:Scope)(x:Str):Prop:=sc.names.lookup x=some .local\/sc.names.lookup x=some .cell
def zi3(env:Env)(h:Heap)(m:yyS)(x:Str)(u:Value):Prop :=
 (env.kindOf x=some .local/\m x=some u)\/((env.kindOf x=some .cell\/env.kindOf x=some .free)/\∃c,env.cells.lookup x=some c/\h.IsCell c (some u))
structure Cx.Ok(X:Cx):Prop where
 mod:Mod X.K X.mg X.base
 kind:X.env.scope.kind=.function
 glob:X.env.globals=mainGlobals
 blt:X.env.builtins=builtinsNs
 above:X.s₀.heap.objs.size<=X.env.locals
 inj:∀x y c,X.env.cells.lookup x=some c->X.env.cells.lookup y=some c->x=y
 has:∀x,(X.env.kindOf x=some .cell\/X.env.kindOf x=some .free)->∃c,X.env.cells.lookup x=some c
 cab:∀x c,X.fn x=true->X.env.cells.lookup x=some c->X.s₀.heap.objs.size<=c
 hd:X.calm=true->X.A.handled=none
 frames:X.A.frames=some X.stack
 stk:X.stack=X.outer\/(X.stack=X.env::X.outer/\X.env.frame=some X.env.locals)
 exf:∀b∈X.ex,b≠X.env.locals/\∀x c,X.env.cells.lookup x=some c->c≠b
 bs:∀b o,X.base.get? b=some o->X.s₀.heap.get? b=some o/\X.H₀ b=none
 bsz:X.base.objs.size<=X.s₀.heap.objs.size
 noex:∀b o,X.base.get? b=some o->b∉X.ex
 exfs:∀b∈X.ex,b∉X.fs
 funs:X.s₀.heap.FunFrames X.base X.outer
 frf:∀b∈X.fs,X.H₀ b=none
structure Inv(X:Cx)(pins:yyP)(σ:List (Option V))(H:Hp)(s:Shared):Prop where
 ok:X.Ok
 os:s.os=X.s₀.os
 bare:AllBare s.gens
 base:Un X.fs X.ex X.H₀ H X.s₀.heap s.heap
 loc:∃m,s.heap.Ns X.env.locals m/\∀(i:Nat)(x:Str)(v:V),X.N[i]?=some x->σ[i]?=some (some v)->Vis X.env.scope x->∃u,z0Z v u/\zi3 X.env s.heap m x u
 cell:∀x c,X.env.cells.lookup x=some c->∃v,s.heap.IsCell c v
 free:H X.env.locals=none
 freeC:∀x c,X.env.cells.lookup x=some c->H c=none
 pin:∀p∈X.pn++pins,s.heap.get? p.1=some p.2/\H p.1=none/\p.1≠X.env.locals/\p.1∉X.fs/\∀v,p.2.data≠.cell v
 hok:HOk X.prog X.w H s.heap
 len:σ.length=X.N.length
section
variable{X:Cx}{pins:yyP}{σ:List (Option V)}{H H':Hp}{s:Shared}{h':Heap}
def Cx.Ok.nofr(ok:X.Ok){b:Addr}{o:Obj}(e:X.base.get? b=some o):b∉X.fs:=fun hb=>by have:=(ok.funs.mem hb).1;rw[e]at this;cases this
theorem Inv.bs(I:Inv X pins σ H s):∀b o,X.base.get? b=some o->s.heap.get? b=some o/\H b=none:=fun b o e =>
 ⟨I.base.keep b o (I.ok.bs b o e).1 (I.ok.bs b o e).2 (I.ok.nofr e) (I.ok.noex b o e),I.base.free b o (I.ok.bs b o e).1 (I.ok.bs b o e).2 (I.ok.noex b o e)⟩
def Inv.bk(I:Inv X pins σ H s):∀b o,X.base.get? b=some o->s.heap.get? b=some o:=fun b o e=>(I.bs b o e).1
theorem Inv.mod(I:Inv X pins σ H s):Mod X.K X.mg X.base:=I.ok.mod
def Inv.kIn(I:Inv X pins σ H s):X.K.In s.heap:=I.ok.mod.kin.keeps I.bk
theorem Inv.lt(I:Inv X pins σ H s):X.env.locals<s.heap.objs.size:=let⟨_,hn,_⟩:=I.loc;hn.lt
def Inv.sz(I:Inv X pins σ H s):X.s₀.heap.objs.size<=s.heap.objs.size:=y0r I.ok.above (y27 I.lt)
def Inv.nofs(I:Inv X pins σ H s){a:Addr}(h:s.heap.objs.size<=a):a∉X.fs:=fun hb=>by obtain⟨_,o,ho,_⟩:=I.ok.funs.mem hb;exact absurd (y0u (y0h ho) (y0r I.sz h)) (y1H _)
def Inv.cne(I:Inv X pins σ H s):∀x c,X.env.cells.lookup x=some c->c≠X.env.locals:=fun x c e z=>by obtain⟨v,o,ho,hd⟩:=I.cell x c e;obtain⟨m,⟨o',es,ep,ho',hd',_⟩,_⟩:=I.loc;rw[z,ho']at ho;cases ho;rw[hd']at hd;cases hd
theorem Inv.funs(I:Inv X pins σ H s):s.heap.FunFrames X.base X.outer:=by
 have all:∀(l:List Env),(∀b∈frs l,b∈X.fs)->X.s₀.heap.FunFrames X.base l->s.heap.FunFrames X.base l:=by
  intro l;induction l with
  |nil=>intro _ _;trivial
  |cons env r ih =>
   intro hs hl;obtain⟨hk,⟨L,o,hf,hn,ho,hd⟩,hr⟩:=hl;have hL:L∈X.fs:=hs L (by unfold frs;rw[y2k,hf];exact y0m);obtain⟨sl,e⟩:=I.base.slot L o ho (I.ok.frf L hL) hL fun z=>I.ok.exfs L z hL;exact⟨hk,⟨L,_,hf,hn,e,hd⟩,ih (fun b hb=>hs b (by unfold frs;rw[y2k,hf];exact y09 _ hb)) hr⟩
 exact all X.outer (fun _ hb=>hb) I.ok.funs
theorem Inv.stack(I:Inv X pins σ H s):s.heap.FunFrames X.base X.stack:=by
 rcases I.ok.stk with e|⟨e,hf⟩
 .rw[e];exact I.funs
 .rw[e];obtain⟨m,hn,_⟩:=I.loc;refine .cons (by rw[I.ok.kind];decide) hf hn ?_ I.funs;exact y3w (y0r I.ok.bsz I.ok.above)
def Inv.stkSub(I:Inv X pins σ H s):∀b∈frs X.stack,b∈X.env.locals::X.fs:=fun b hb=>by
 rcases I.ok.stk with e|⟨e,hf⟩
 .rw[e]at hb;exact y09 _ hb
 .rw[e]at hb;unfold frs at hb;rw[y2k,hf]at hb;exact hb
def Inv.stkFree(I:Inv X pins σ H s):∀b∈frs X.stack,H b=none:=fun b hb=>by
 rcases y0x.mp (I.stkSub b hb)with e|hb
 .rw[e];exact I.free
 .obtain⟨_,o,ho,_⟩:=I.ok.funs.mem hb;exact I.base.free b o ho (I.ok.frf b hb) fun z=>I.ok.exfs b z hb
def Inv.step{g':Array GenState}{t':Nat}{d':Drawn}{ch:List Addr}(I:Inv X pins σ H s)(hch:∀b∈ch,(b∈X.ex\/X.s₀.heap.objs.size<=b)/\b≠X.env.locals/\(∀x c,X.env.cells.lookup x=some c->c≠b)/\∀p∈X.pn++pins,p.1≠b)(keep:∀b o,b≠X.env.locals->b∉X.fs->b∉ch->s.heap.get? b=some o->H b=none->h'.get? b=some o)(slot:∀b o,b≠X.env.locals->b∈X.fs->b∉ch->s.heap.get? b=some o->H b=none->∃sl,h'.get? b=some { o with slots:=sl })(free:∀b o,b∉ch->s.heap.get? b=some o->H b=none->H' b=none)(there:∀b o,b∉ch->s.heap.get? b=some o->∃o',h'.get? b=some o')(tups:∀b xs,H b=some (.tup xs)->H' b=some (.tup xs))(frzs:∀b o u,H b=some (.frz o u)->H' b=some (.frz o u))(tbls:∀b ps,H b=some (.tbl ps)->∃more,H' b=some (.tbl (ps++more)))(ns:∀m,s.heap.Ns X.env.locals m->h'.Ns X.env.locals m)(hok:HOk X.prog X.w H' h')(hg:AllBare g') : Inv X pins σ H' { s with heap:=h',gens:=g',drawn:=d',toks:=t' }:=by
 have neL:∀b o,X.s₀.heap.get? b=some o->b≠X.env.locals:=fun b o e=>y0C (y0u (y0h e) I.ok.above);have neC:∀b o,X.s₀.heap.get? b=some o->b∉X.ex->b∉ch:=fun b o e hx hb=>by
  rcases(hch b hb).1 with z|z
  .exact hx z
  .exact absurd (y0u (y0h e) z) (y1H _)
 have cellK:∀x c,X.env.cells.lookup x=some c->∀v,s.heap.IsCell c v->h'.IsCell c v:=fun x c e v ⟨o,ho,hd⟩=>by
  have nch:c∉ch:=fun z=>(hch c z).2.2.1 x c e rfl;by_cases hc:c∈X.fs
  .obtain⟨sl,q⟩:=slot c o (I.cne x c e) hc nch ho (I.freeC x c e);exact⟨_,q,hd⟩
  .exact⟨o,keep c o (I.cne x c e) hc nch ho (I.freeC x c e),hd⟩
 refine⟨I.ok,I.os,hg,⟨fun b o e n hb hx=>?_,fun b o e n hb hx=>?_,fun b o e n hx=>?_,fun b o e hx=>?_,fun b xs e=>tups b xs (I.base.tups b xs e),fun b o xs e=>frzs b o xs (I.base.frzs b o xs e),fun b ps e=>?_⟩,?_,fun x c e=>?_,?_,fun x c e=>?_,fun p hp=>?_,hok,I.len⟩
 .exact keep b o (neL b o e) hb (neC b o e hx) (I.base.keep b o e n hb hx) (I.base.free b o e n hx)
 .obtain⟨sl,e1⟩:=I.base.slot b o e n hb hx;obtain⟨sl',e2⟩:=slot b _ (neL b o e) hb (neC b o e hx) e1 (I.base.free b o e n hx);exact⟨sl',e2⟩
 .obtain⟨o',e1⟩:=I.base.there b o e hx;exact free b o' (neC b o e hx) e1 (I.base.free b o e n hx)
 .obtain⟨o',e1⟩:=I.base.there b o e hx;exact there b o' (neC b o e hx) e1
 .obtain⟨m1,e1⟩:=I.base.tbls b ps e;obtain⟨m2,e2⟩:=tbls b _ e1;exact⟨m1++m2,by rw[e2,Array.append_assoc]⟩
 .obtain⟨m,hn,hl⟩:=I.loc;refine⟨m,ns m hn,fun i x v e1 e2 e3=>?_⟩;obtain⟨u,r,l⟩:=hl i x v e1 e2 e3;refine⟨u,r,?_⟩;rcases l with l|⟨k,c,e,z⟩
  .exact .inl l
  .exact .inr ⟨k,c,e,cellK x c e _ z⟩
 .obtain⟨v,z⟩:=I.cell x c e;exact⟨v,cellK x c e v z⟩
 .obtain⟨m,⟨o,_,_,ho,_⟩,_⟩:=I.loc;exact free _ o (fun z=>(hch _ z).2.1 rfl) ho I.free
 .obtain⟨v,o,ho,hd⟩:=I.cell x c e;exact free c o (fun z=>(hch c z).2.2.1 x c e rfl) ho (I.freeC x c e)
 .obtain⟨e,n,ne,nf,d⟩:=I.pin p hp;have nch:p.1∉ch:=fun z=>(hch p.1 z).2.2.2 p hp rfl;exact⟨keep p.1 p.2 ne nf nch e n,free p.1 p.2 nch e n,ne,nf,d⟩
def Inv.un{t':Nat}(I:Inv X pins σ H s)(u:Un X.fs [] H H' s.heap h')(hok:HOk X.prog X.w H' h'):Inv X pins σ H' { s with heap:=h',toks:=t' }:=by
 obtain⟨m,⟨o,es,ep,ho,r⟩,_⟩:=id I.loc;obtain⟨sl,hL⟩:=u.any ho I.free (by simp);exact I.step (g':=s.gens) (d':=s.drawn) (ch:=[]) (fun _ z=>nomatch z) (fun b o _ hb _ e n=>u.keep b o e n hb (by simp)) (fun b o _ hb _ e n=>u.slot b o e n hb (by simp)) (fun b o _ e n=>u.free b o e n (by simp)) (fun b o _ e=>u.there b o e (by simp)) u.tups u.frzs u.tbls (fun m' hm=>by obtain⟨o',es',ep',ho',r'⟩:=hm;rw[ho]at ho';cases ho';exact⟨_,es',ep',hL,r'⟩) hok I.bare
def Inv.call{g':Array GenState}{t':Nat}{d':Drawn}{ch:List Addr}(I:Inv X pins σ H s)(u:Un (frs X.stack) ch H H' s.heap h')(hok:HOk X.prog X.w H' h')(hg:AllBare g')(hch:∀b∈ch,(b∈X.ex\/X.s₀.heap.objs.size<=b)/\b≠X.env.locals/\(∀x c,X.env.cells.lookup x=some c->c≠b)/\∀p∈X.pn++pins,p.1≠b) : Inv X pins σ H' { s with heap:=h',gens:=g',drawn:=d',toks:=t' }:=by
 obtain⟨m,⟨o,es,ep,ho,r⟩,_⟩:=id I.loc;obtain⟨sl,hL⟩:=u.any ho I.free fun z=>(hch _ z).2.1 rfl;exact I.step (ch:=ch) hch (fun b o hL hb hc e n=>u.keep b o e n (fun z=>(y0x.mp (I.stkSub b z)).elim hL hb) hc) (fun b o _ _ hc e n=>u.any e n hc) (fun b o hc e n=>u.free b o e n hc) (fun b o hc e=>u.there b o e hc) u.tups u.frzs u.tbls (fun m' hm=>by obtain⟨o',es',ep',ho',r'⟩:=hm;rw[ho]at ho';cases ho';exact⟨_,es',ep',hL,r'⟩) hok hg
def Inv.turned{t':Nat}{it:Addr}(I:Inv X pins σ H s)(k:∀b o,b≠it->s.heap.get? b=some o->h'.get? b=some o)(hn:H it=none)(hL:it≠X.env.locals)(h1:it∈X.ex\/X.s₀.heap.objs.size<=it)(h2:∀x c,X.env.cells.lookup x=some c->c≠it)(h3:∀p∈X.pn++pins,p.1≠it):Inv X pins σ H { s with heap:=h',toks:=t' }:=by
 have nit:∀b u,H b=some u->b≠it:=fun b u e z=>by rw[z,hn]at e;cases e
 refine I.step (g':=s.gens) (d':=s.drawn) (ch:=[it]) (fun b hb=>?_) (fun b o _ _ hc e _=>k b o (fun z=>hc (by simp[z])) e) (fun b o _ _ hc e _=>⟨o.slots,k b o (fun z=>hc (by simp[z])) e⟩) (fun _ _ _ _ n=>n)
  (fun b o hc e=>⟨o,k b o (fun z=>hc (by simp[z])) e⟩) (fun _ _ e=>e) (fun _ _ _ e=>e) (fun b ps e=>⟨#[],by rw[e];simp⟩) (fun m hm=>?_) (fun b u e=>?_) I.bare
 .have e:b=it:=by simpa using hb
  subst e;exact⟨h1,hL,h2,h3⟩
 .obtain⟨o,es,ep,ho,r⟩:=hm;exact⟨o,es,ep,k _ o (y1k hL) ho,r⟩
 .refine(I.hok b u e).stay (fun c v hc q=>k c v ?_ q) (fun _ q=>q) fun _ _ q=>q;rcases hc with z|z
  .rw[z];exact nit b u e
  .exact nit c _ z
def Inv.tok(I:Inv X pins σ H s)(t:Nat):Inv X pins σ H { s with toks:=t }:=I.un (h':=s.heap) (t':=t) Un.refl I.hok
theorem Inv.kept{t':Nat}(I:Inv X pins σ H s)(k:∀b u,s.heap.get? b=some u->h'.get? b=some u):Inv X pins σ H { s with heap:=h',toks:=t' }:=I.un (Un.kept k) (I.hok.kept k)
theorem Inv.laid{a:Addr}{o:HO}{t':Nat}(I:Inv X pins σ H s)(k:∀b u,s.heap.get? b=some u->h'.get? b=some u)(hp:s.heap.objs.size<=a)(new:z1V X.prog X.w (upd H a o) h' a o) : Inv X pins σ (upd H a o) { s with heap:=h',toks:=t' }:=I.un (Un.laid k hp (I.hok.fresh hp)) (I.hok.laid k hp new)
theorem Inv.write{x e:Addr}{o:HO}{t':Nat}(I:Inv X pins σ H s)(mu:Mut (H x))(he:e=x\/H e=some (.own x))(k:∀b u,b≠e->s.heap.get? b=some u->h'.get? b=some u)(heo:∃u,h'.get? e=some u)(new:z1V X.prog X.w (upd H x o) h' x o):Inv X pins σ (upd H x o) { s with heap:=h',toks:=t' }:=I.un (Un.write mu he k heo) (I.hok.write mu he k heo new)
def Inv.pins_of{pins':yyP}(I:Inv X pins σ H s)(h:∀p∈pins',s.heap.get? p.1=some p.2/\H p.1=none/\p.1≠X.env.locals/\p.1∉X.fs/\∀v,p.2.data≠.cell v):Inv X pins' σ H s :=
 ⟨I.ok,I.os,I.bare,I.base,I.loc,I.cell,I.free,I.freeC,fun p hp=>(y0q.mp hp).elim (fun z=>I.pin p (y0t _ z)) (h p),I.hok,I.len⟩
def z7b{N:List Str}(hN:N.Nodup){i j:Nat}{x:Str}(a:N[i]?=some x)(b:N[j]?=some x):i=j:=by obtain⟨h1,e1⟩:=y05.mp a;obtain⟨h2,e2⟩:=y05.mp b;exact(y3q hN).mp (e1.trans e2.symm)
def z4T{M:Model}{A:Around}{E:yyE}{i:Nat}{x:Str}{v:V}{u:Value}{Q:Unit->Shared->Prop}(I:Inv X pins σ H s)(hN:X.N.Nodup)(hi:X.N[i]?=some x)(hx:Loc X.env.scope x)(r:z0Z v u)(h:∀s',Inv X pins (σ.set i (some v)) H s'->(∃a,Heap.SameBut a s.heap s'.heap/\(a=X.env.locals\/X.env.cells.lookup x=some a))->Q () s')(hf:X.fn x=true\/X.env.scope.names.lookup x=some .local:=by first|exact .inl rfl|exact .inr rfl|assumption):wpAny M A (storeName X.env x u) Q E s:=by
 obtain⟨m,hn,hl⟩:=id I.loc;have hcls:(X.env.scope.kind == .class||(X.env.scope.kind == .module&&X.env.locals != X.env.globals))=false:=by rw[I.ok.kind];rfl
 have hiσ:i<σ.length:=by rw[I.len];exact(y05.mp hi).1
 have cne:=I.cne;have tracked:∀{a:Addr}{h':Heap},(∃o,s.heap.get? a=some o/\H a=none)->Heap.SameBut a s.heap h'->HOk X.prog X.w H h':=fun{a h'} ha hs b ob e=>by
  obtain⟨_,_,hfree⟩:=ha;refine(I.hok b ob e).stay (fun c w' hc q=>(hs.2 c ?_).trans q) (fun _ q=>q) fun _ _ q=>q;rintro rfl;rcases hc with rfl|hc
  .rw[hfree]at e;cases e
  .rw[hfree]at hc;cases hc
 rcases hx with hk|hk
 .refine wpAny_storeName_local hk hn (fun h' hn' hs=>?_) hcls;obtain⟨oL,_,_,hoL,_⟩:=id hn;refine h _ ⟨I.ok,I.os,I.bare,⟨fun b o e n hb hx=>?_,fun b o e n hb hx=>?_,I.base.free,fun b o e hx=>?_,I.base.tups,I.base.frzs,I.base.tbls⟩,⟨_,hn',fun j y v' e1 e2 e3=>?_⟩,fun y c e=>?_,I.free,I.freeC,fun p hp=>?_,tracked ⟨oL,hoL,I.free⟩ hs,by simpa using I.len⟩ ⟨_,hs,.inl rfl⟩
  .exact(hs.2 b (y0C (y0u (y0h e) I.ok.above))).trans (I.base.keep b o e n hb hx)
  .obtain⟨sl,e1⟩:=I.base.slot b o e n hb hx;exact⟨sl,(hs.2 b (y0C (y0u (y0h e) I.ok.above))).trans e1⟩
  .obtain⟨o',e1⟩:=I.base.there b o e hx;exact⟨o',(hs.2 b (y0C (y0u (y0h e) I.ok.above))).trans e1⟩
  .by_cases hj:j=i
   .subst hj;rw[hi]at e1;cases e1;rw[y2q hiσ]at e2;cases e2;exact⟨u,r,.inl ⟨hk,by simp⟩⟩
   .rw[y3x (y1k hj)]at e2;obtain⟨u',r',q⟩:=hl j y v' e1 e2 e3;refine⟨u',r',?_⟩;rcases q with⟨k,e⟩|⟨k,c,e,z⟩
    .refine .inl ⟨k,?_⟩;have:y≠x:=fun e=>hj (z7b hN e1 (e▸hi));simp[this,e]
    .exact .inr ⟨k,c,e,z.sameBut hs (cne y c e)⟩
  .obtain⟨w',z⟩:=I.cell y c e;exact⟨w',z.sameBut hs (cne y c e)⟩
  .obtain⟨e,n,ne,nf,d⟩:=I.pin p hp;exact⟨(hs.2 p.1 ne).trans e,n,ne,nf,d⟩
 .have hfn:X.fn x=true:=by
   rcases hf with z|z
   .exact z
   .rw[z]at hk;cases hk
  obtain⟨c,hc⟩:=I.ok.has x (.inl hk);obtain⟨w',z⟩:=I.cell x c hc;refine wpAny_storeName_cell I.ok.kind hk hc z (fun h' hc' hs=>?_);obtain⟨oc,hoc,hocd⟩:=id z;refine h { s with heap:=h' } ⟨I.ok,I.os,I.bare,⟨fun b o e n hb hx=>?_,fun b o e n hb hx=>?_,I.base.free,fun b o e hx=>?_,I.base.tups,I.base.frzs,I.base.tbls⟩,⟨m,hn.sameBut hs (y1k (cne x c hc)),fun j y v' e1 e2 e3=>?_⟩,fun y c' e=>?_,I.free,I.freeC,fun p hp=>?_,tracked ⟨oc,hoc,I.freeC x c hc⟩ hs,by simpa using I.len⟩ ⟨c,hs,.inr hc⟩
  .exact(hs.2 b (y0C (y0u (y0h e) (I.ok.cab x c hfn hc)))).trans (I.base.keep b o e n hb hx)
  .obtain⟨sl,e1⟩:=I.base.slot b o e n hb hx;exact⟨sl,(hs.2 b (y0C (y0u (y0h e) (I.ok.cab x c hfn hc)))).trans e1⟩
  .obtain⟨o',e1⟩:=I.base.there b o e hx;exact⟨o',(hs.2 b (y0C (y0u (y0h e) (I.ok.cab x c hfn hc)))).trans e1⟩
  .by_cases hj:j=i
   .subst hj;rw[hi]at e1;cases e1;rw[y2q hiσ]at e2;cases e2;exact⟨u,r,.inr ⟨.inl hk,c,hc,hc'⟩⟩
   .rw[y3x (y1k hj)]at e2;obtain⟨u',r',q⟩:=hl j y v' e1 e2 e3;refine⟨u',r',?_⟩;rcases q with q|⟨k,c',e,z'⟩
    .exact .inl q
    .refine .inr ⟨k,c',e,z'.sameBut hs ?_⟩;rintro rfl;exact hj (z7b hN e1 (I.ok.inj _ _ _ e hc▸hi))
  .by_cases hcc:c'=c
   .subst hcc;exact⟨_,hc'⟩
   .obtain⟨w2,z2⟩:=I.cell y c' e;exact⟨w2,z2.sameBut hs hcc⟩
  .obtain⟨e,n,ne,nf,d⟩:=I.pin p hp;refine⟨(hs.2 p.1 ?_).trans e,n,ne,nf,d⟩;intro q;rw[q,hoc]at e;have q':oc=p.2:=y07 e;exact d w' (by rw[<-q'];exact hocd)
def z6J{M:Model}{A:Around}{E:yyE}{i:Nat}{x:Str}{v:V}{u:Value}{Q:Unit->Shared->Prop}(I:Inv X pins σ H s)(hN:X.N.Nodup)(hi:X.N[i]?=some x)(hx:Loc X.env.scope x)(r:z0Z v u)(h:∀s',Inv X pins (σ.set i (some v)) H s'->Q () s')(hf:X.fn x=true\/X.env.scope.names.lookup x=some .local:=by first|exact .inl rfl|exact .inr rfl|assumption):wpAny M A (storeName X.env x u) Q E s :=
 z4T I hN hi hx r (fun s' I' _=>h s' I') hf
def Inv.call'{s':Shared}{ch:List Addr}(I:Inv X pins σ H s)(ho:s'.os=s.os)(u:Un (frs X.stack) ch H H' s.heap s'.heap)(hok:HOk X.prog X.w H' s'.heap)(hg:AllBare s'.gens)(hch:∀b∈ch,(b∈X.ex\/X.s₀.heap.objs.size<=b)/\b≠X.env.locals/\(∀x c,X.env.cells.lookup x=some c->c≠b)/\∀p∈X.pn++pins,p.1≠b):Inv X pins σ H' s':=by obtain⟨h',g',d',t',o'⟩:=s';have e:o'=s.os:=ho;subst e;exact I.call (g':=g') (t':=t') (d':=d') u hok hg hch
end
abbrev XK:=Value->Option Addr->Hp->Prop
abbrev St:=List (Option V)
abbrev VK:=V->Hp->Prop
abbrev TE:=St->Hp->VK->Prop
abbrev TT:=St->Hp->(Bool->Hp->Prop)->Prop
abbrev TA:=St->Hp->(List V->Hp->Prop)->Prop
structure z3Q where
 nx:St->Hp->Prop
 rt:VK
 bk:St->Hp->Prop:=fun _ _=>False
 ct:St->Hp->Prop:=fun _ _=>False
abbrev TS:=z3Q->St->Hp->Prop
def EP(X:Cx)(pins:yyP)(σ:St)(Q:VK)(u:Value)(s':Shared):Prop:=∃v H',Inv X pins σ H' s'/\z0Z v u/\Q v H'
def TP(X:Cx)(pins:yyP)(σ:St)(Q:Bool->Hp->Prop)(b:Bool)(s':Shared):Prop:=∃H',Inv X pins σ H' s'/\Q b H'
def AP(X:Cx)(pins:yyP)(σ:St)(Q:List V->Hp->Prop)(us:List Value)(s':Shared):Prop:=∃vs H',Inv X pins σ H' s'/\z1h vs us/\Q vs H'
def SP(X:Cx)(pins:yyP)(D:z3Q)(f:Flow)(s':Shared):Prop :=
 match f with
 |.next=>∃σ' H',Inv X pins σ' H' s'/\D.nx σ' H'
 |.brk=>∃σ' H',Inv X pins σ' H' s'/\D.bk σ' H'
 |.cont=>∃σ' H',Inv X pins σ' H' s'/\D.ct σ' H'
 |.ret u=>∃v σ' H',Inv X pins σ' H' s'/\z0Z v u/\D.rt v H'
def PE(X:Cx)(e:Expr)(t:TE):Prop :=
 ∀(pins:yyP)(s:Shared)(σ:St)(H:Hp)(Q:VK),Inv X pins σ H s->t σ H Q->wpAny (model X.prog X.w) X.A (eval e X.env) (EP X pins σ Q) X.xe s
def PT(X:Cx)(e:Expr)(t:TT):Prop :=
 ∀(pins:yyP)(s:Shared)(σ:St)(H:Hp)(Q:Bool->Hp->Prop),Inv X pins σ H s->t σ H Q->wpAny (model X.prog X.w) X.A (isTrue e X.env (eval e X.env)) (TP X pins σ Q) X.xe s
def PW(X:Cx)(e:Expr)(t:TT):Prop :=
 ∀(whole:Sem Value)(pins:yyP)(s:Shared)(σ:St)(H:Hp)(Q:Bool->Hp->Prop),Inv X pins σ H s->t σ H Q->wpAny (model X.prog X.w) X.A (isTrue e X.env whole) (TP X pins σ Q) X.xe s
def PW.pt{X:Cx}{e:Expr}{t:TT}(h:PW X e t):PT X e t:=h _
def PA(X:Cx)(es:List Expr)(t:TA):Prop :=
 ∀(pos:Pos)(pins:yyP)(s:Shared)(σ:St)(H:Hp)(Q:List V->Hp->Prop),Inv X pins σ H s->t σ H Q->wpAny (model X.prog X.w) X.A (spliced (backTo pos (starEach es X.env))) (AP X pins σ Q) X.xe s
def PS(X:Cx)(st:Stmt)(t:TS):Prop :=
 ∀(pins:yyP)(s:Shared)(σ:St)(H:Hp)(D:z3Q),Inv X pins σ H s->t D σ H->wpAny (model X.prog X.w) X.A (exec st X.env) (SP X pins D) X.xe s
def PSs(X:Cx)(st:List Stmt)(t:TS):Prop :=
 ∀(pins:yyP)(s:Shared)(σ:St)(H:Hp)(D:z3Q),Inv X pins σ H s->t D σ H->wpAny (model X.prog X.w) X.A (execs st X.env) (SP X pins D) X.xe s
def thn{α:Type}{t:Sem α}{Q Q':α->Shared->Prop}{M:Model}{A:Around}{E:yyE}{s:Shared}(h:wpAny M A t Q E s)(hQ:∀a s,Q a s->Q' a s):wpAny M A t Q' E s:=y0Y h hQ fun _ _ x=>x
def exA{α:Sort _}{f g:α->Prop}{a:α}(h:f a)(k:g a):∃x,f x/\g x:=⟨a,h,k⟩
def exB{α β:Sort _}{f g:α->β->Prop}{a:α}{b:β}(h:f a b)(k:g a b):∃x y,f x y/\g x y:=⟨a,b,h,k⟩
def exC{α β:Sort _}{f f' g:α->β->Prop}{a:α}{b:β}(h:f a b)(h':f' a b)(k:g a b):∃x y,f x y/\f' x y/\g x y:=⟨a,b,h,h',k⟩
def exD{α β γ δ:Sort _}{f1 f2 f3 f4 g:α->β->γ->δ->Prop}(a:α)(b:β)(c:γ)(d:δ)(h1:f1 a b c d)(h2:f2 a b c d)(h3:f3 a b c d)(h4:f4 a b c d)(k:g a b c d):∃x y z w,f1 x y z w/\f2 x y z w/\f3 x y z w/\f4 x y z w/\g x y z w:=⟨a,b,c,d,h1,h2,h3,h4,k⟩
def exF{α β:Sort _}{f1 f2 f3 g:α->β->Prop}(a:α){b:β}(h1:f1 a b)(h2:f2 a b)(h3:f3 a b)(k:g a b):∃x y,f1 x y/\f2 x y/\f3 x y/\g x y:=⟨a,b,h1,h2,h3,k⟩
def exG{α β:Sort _}{f1 f2 g:α->β->Prop}(a:α){b:β}(h1:f1 a b)(h2:f2 a b)(k:g a b):∃x y,f1 x y/\f2 x y/\g x y:=⟨a,b,h1,h2,k⟩
def z1Y{X:Cx}{pins:yyP}{σ:St}{Q:VK}{t:Sem Value}{R:yyE}{s:Shared}(h:wpAny (model X.prog X.w) X.A t (EP X pins σ Q) X.xe s)(k:∀u s1 x H1,Inv X pins σ H1 s1->z0Z x u->Q x H1->R u s1):wpAny (model X.prog X.w) X.A t R X.xe s:=thn h fun u s1 z=>by obtain⟨x,H1,I1,r,q⟩:=z;exact k u s1 x H1 I1 r q
section
variable{X:Cx}
def bin{a b:Expr}{ta tb:TE}(ha:PE X a ta)(hb:PE X b tb){pins:yyP}{s:Shared}{σ:St}{H:Hp}{R:V->V->Hp->Prop}(I:Inv X pins σ H s)(h:ta σ H fun x H1=>tb σ H1 fun y H2=>R x y H2){α:Type}{Q:α->Shared->Prop}{f:Value->Value->Sem α}(hf:∀v u s2 x y H2,Inv X pins σ H2 s2->z0Z x v->z0Z y u->R x y H2->wpAny (model X.prog X.w) X.A (f v u) Q X.xe s2) : wpAny (model X.prog X.w) X.A (eval a X.env) (fun v s₁=>wpAny (model X.prog X.w) X.A (eval b X.env) (fun u s₂=>wpAny (model X.prog X.w) X.A (f v u) Q X.xe s₂) X.xe s₁) X.xe s:=by refine z1Y (ha pins s σ H _ I h) fun v s1 x H1 I1 r1 q1=>?_;refine z1Y (hb pins s1 σ H1 _ I1 q1) fun u s2 y H2 I2 r2 q2=>?_;exact hf v u s2 x y H2 I2 r1 r2 q2
def zhT(i:Nat):TE:=fun σ H Q=>∃v,σ[i]?=some (some v)/\Q v H
def tC(v:V):TE:=fun _ H Q=>Q v H
def ze1{i:Nat}{x:Str}{pos:Pos}(hN:X.N[i]?=some x)(hv:Vis X.env.scope x)(hd:(x==("__debug__":Str))=false:=by decide)(hcd:(x==("__classdict__":Str))=false:=by decide):PE X (.Name x pos) (zhT i):=by
 intro pins s σ H Q I h;obtain⟨v,e,h⟩:=h;obtain⟨m,hn,hl⟩:=I.loc;obtain⟨u,r,l⟩:=hl i x v hN e hv;have fin:EP X pins σ Q u s:=⟨v,H,I,r,h⟩;rcases l with⟨hk,hm⟩|⟨hk,c,hc,hcell⟩
 .exact wpAny_Name (wpAny_loadName_local I.ok.kind hk hn hm fin) hd
 .rcases hk with hk|hk
  .exact wpAny_Name (wpAny_loadName_cell I.ok.kind hk hc hcell fin) hd
  .exact wpAny_Name (wpAny_loadName_free I.ok.kind hk hc hcell fin hcd) hd
def z0h{i j pos}:PE X (.Constant (.int i) j pos) (tC (.int i)):=fun _ _ _ H _ I h=>wpAny_Constant_int ⟨.int i,H,I.tok _,⟨_,rfl⟩,h⟩
def z5f{b j pos}:PE X (.Constant (.bool b) j pos) (tC (.bl b)):=fun _ _ _ H _ I h=>Constant_bool ⟨.bl b,H,I,rfl,h⟩
def zc3{j pos}:PE X (.Constant .none j pos) (tC .non):=fun _ _ _ H _ I h=>Constant_none ⟨.non,H,I,rfl,h⟩
def zdZ{x j pos}:PE X (.Constant (.str x) j pos) (tC (.str x)):=fun _ _ _ H _ I h=>Calls.Constant_str ⟨.str x,H,I.tok _,⟨_,rfl⟩,h⟩
def Gl(X:Cx)(x:Str):Prop:=X.env.kindOf x=some .globalImplicit
def z5b{E:yyE}{pins:yyP}{s:Shared}{σ:St}{H:Hp}{x:Str}{u:Value}{pos:Pos}{Q:yyE}(I:Inv X pins σ H s)(hg:Gl X x)(hm:X.mg x=some u)(h:Q u s)(hd:(x==("__debug__":Str))=false:=by decide):wpAny (model X.prog X.w) X.A (eval (.Name x pos) X.env) Q E s :=
 Calls.Name_function_global I.ok.kind hg (Calls.loadGlobal_global (by rw[I.ok.glob];exact I.mod.glob.keeps I.bk) hm h) hd
def z4Z{E:yyE}{pins:yyP}{s:Shared}{σ:St}{H:Hp}{x:Str}{u:Value}{pos:Pos}{Q:yyE}(I:Inv X pins σ H s)(hg:Gl X x)(hm:X.mg x=none)(hv:bootBuiltins x=some u)(h:Q u s)(hn:x≠"__name__":=by decide)(hd:(x==("__debug__":Str))=false:=by decide):wpAny (model X.prog X.w) X.A (eval (.Name x pos) X.env) Q E s:=by obtain⟨mb,h1,h2⟩:=I.mod.blt;exact Calls.Name_function_global I.ok.kind hg (Calls.loadGlobal_builtin (by rw[I.ok.glob];exact I.mod.glob.keeps I.bk) hm (by rw[I.ok.blt];exact h1.keeps I.bk) ((h2 x hn).trans hv) h) hd
def zfn{x:Str}{v:V}{u:Value}{pos:Pos}(hg:Gl X x)(hm:X.mg x=some u)(r:z0Z v u)(hd:(x==("__debug__":Str))=false:=by decide):PE X (.Name x pos) (tC v) :=
 fun _ _ _ H _ I h=>z5b I hg hm ⟨v,H,I,r,h⟩ hd
def t2I(ta tb:TE)(k:Int->Int->Hp->Prop):St->Hp->Prop:=fun σ H=>ta σ H fun x H1=>tb σ H1 fun y H2=>∃i j,x=.int i/\y=.int j/\k i j H2
variable{a b:Expr}{ta tb:TE}{pos:Pos}
def PC(X:Cx)(op:CmpOp)(a b:Expr)(t:TE):Prop :=
 ∀(pins:yyP)(s:Shared)(σ:St)(H:Hp)(Q:VK),Inv X pins σ H s->t σ H Q ->
  wpAny (model X.prog X.w) X.A (eval a X.env) (fun v s₁=>wpAny (model X.prog X.w) X.A (eval b X.env) (fun u s₂=>wpAny (model X.prog X.w) X.A (compareOp op v u) (EP X pins σ Q) X.xe s₂) X.xe s₁) X.xe s
def z9F(b:Expr){op:CmpOp}(h:op≠.In)(h2:op≠.NotIn):behindInMarks op b=false:=by
 have e1:(op==CmpOp.In)=false:=by cases op<;>first|rfl|exact absurd rfl h
 have e2:(op==CmpOp.NotIn)=false:=by cases op<;>first|rfl|exact absurd rfl h2
 cases b<;>simp[behindInMarks,e1,e2]
def zhE(p:Int->Int->Bool)(ta tb:TE):TE:=fun σ H Q=>t2I ta tb (fun i j H2=>Q (.bl (p i j)) H2) σ H
abbrev zi4:TE->TE->TE:=zhE fun i j=>decide (i=j)
def zg7{op:CmpOp}{p:Int->Int->Bool}(ha:PE X a ta)(hb:PE X b tb)(rule:∀(i j:Int)(t u:Tok)(Q:yyE)(s:Shared),Q (.bool (p i j)) s->wpAny (model X.prog X.w) X.A (compareOp op (.int i t) (.int j u)) Q X.xe s):PC X op a b (zhE p ta tb):=by intro pins s σ H Q I h;refine bin ha hb I h fun v u s2 x y H2 I2 rx ry q=>?_;obtain⟨i,j,rfl,rfl,q⟩:=q;obtain⟨t,rfl⟩:=rx;obtain⟨t',rfl⟩:=ry;exact rule i j t t' _ s2 ⟨.bl _,H2,I2,rfl,q⟩
def z4j(ha:PE X a ta)(hb:PE X b tb):PC X .Eq a b (zi4 ta tb):=zg7 ha hb fun _ _ _ _ _ _ h=>eq_int (by rw[Bool.beq_eq_decide_eq];exact h)
def tB(t:TE):TT:=fun σ H Q=>t σ H fun x H1=>∃c,x=.bl c/\Q c H1
def zgh{op:CmpOp}{t:TE}(h:PC X op a b t)(h1:behindInMarks op b=false:=by first|exact z9F _ (by decide) (by decide)|rfl):PE X (.Compare a [op] [b] pos) t:=fun pins s σ H Q I hw=>wpAny_Compare1 (h pins s σ H Q I hw) h1
def z2e{op:CmpOp}{t:TE}(h:PC X op a b t)(h1:behindInMarks op b=false:=by first|exact z9F _ (by decide) (by decide)|rfl):PT X (.Compare a [op] [b] pos) (tB t):=by intro pins s σ H Q I hw;refine wpAny_isTrue_Compare1 (thn (h pins s σ H _ I hw) fun v s1 h1=>thn h1 fun u s2 h2=>thn h2 fun c s3 hz8=>?_) h1;obtain⟨x,H1,I1,r1,q1⟩:=hz8;obtain⟨d,rfl,q⟩:=q1;cases r1;exact y1E ⟨H1,I1,q⟩
def zbv{e:Expr}{t:TE}(h:PE X e t)(he:∀whole,isTrue e X.env whole=(do let v <-whole;standAt e.pos;holding [v] (truthy v)):=by intro _;rfl):PT X e (tB t):=by intro pins s σ H Q I hw;refine isTrue_plain (z1Y (h pins s σ H _ I hw) fun v s1 x H1 I1 r1 q1=>?_) (he _);obtain⟨d,rfl,q⟩:=q1;cases r1;exact y1E ⟨H1,I1,q⟩
variable{tA tB':TT}{z1T:List Expr}
def zib(t u:TT):TT:=fun σ H Q=>t σ H fun c H1=>if c=true then u σ H1 Q else Q false H1
def tOr(t u:TT):TT:=fun σ H Q=>t σ H fun c H1=>if c=true then Q true H1 else u σ H1 Q
def z6R(ha:PT X a tA):PW X (.BoolOp .And [a] pos) tA:=by
 intro wh pins s σ H Q I h;refine isTrue_and (thn (ha pins s σ H Q I h) fun c s1 e=>?_);cases c with
 |true=>exact isTrue_and_nil e
 |false=>exact e
def zfM(ha:PT X a tA):PW X (.BoolOp .Or [a] pos) tA:=by
 intro wh pins s σ H Q I h;refine isTrue_or (thn (ha pins s σ H Q I h) fun c s1 e=>?_);cases c with
 |false=>exact isTrue_or_nil e
 |true=>exact e
def z9G(ha:PT X a tA)(hb:PW X (.BoolOp .And (b::z1T) pos) tB'):PW X (.BoolOp .And (a::b::z1T) pos) (zib tA tB'):=by
 intro wh pins s σ H Q I h;refine isTrue_and (thn (ha pins s σ H _ I h) fun c s1 hz8=>?_);obtain⟨H1,I1,q1⟩:=hz8;cases c with
 |true=>exact hb wh pins s1 σ H1 Q I1 q1
 |false=>exact⟨H1,I1,q1⟩
def zhb(ha:PT X a tA)(hb:PW X (.BoolOp .Or (b::z1T) pos) tB'):PW X (.BoolOp .Or (a::b::z1T) pos) (tOr tA tB'):=by
 intro wh pins s σ H Q I h;refine isTrue_or (thn (ha pins s σ H _ I h) fun c s1 hz8=>?_);obtain⟨H1,I1,q1⟩:=hz8;cases c with
 |true=>exact⟨H1,I1,q1⟩
 |false=>exact hb wh pins s1 σ H1 Q I1 q1
def zgS(ta:TE):TE:=fun σ H Q=>ta σ H fun x H1=>∃c,x=.bl c/\Q (.bl (!c)) H1
def zgb(ha:PE X a ta):PE X (.UnaryOp .Not a pos) (zgS ta):=by intro pins s σ H Q I h;refine UnaryOp_ (z1Y (ha pins s σ H _ I h) fun v s1 x H1 I1 r1 q1=>?_);obtain⟨c,rfl,q1⟩:=q1;cases r1;exact not_of (y1E ⟨.bl (!c),H1,I1,rfl,q1⟩)
def tIf(t:TT)(ta tb:TE):TE:=fun σ H Q=>t σ H fun c H1=>if c=true then ta σ H1 Q else tb σ H1 Q
def zd6{c:Expr}(hc:PT X c tA)(ha:PE X a ta)(hb:PE X b tb):PE X (.IfExp c a b pos) (tIf tA ta tb):=by
 intro pins s σ H Q I h;refine wpAny_IfExp (thn (hc pins s σ H _ I h) fun d s1 hz8=>?_);obtain⟨H1,I1,q1⟩:=hz8;cases d with
 |true=>exact ha pins s1 σ H1 Q I1 q1
 |false=>exact hb pins s1 σ H1 Q I1 q1
end
def SqL(K:yyF)(H:Hp)(a:Addr)(xs:List V):Prop :=
 Rd H a (.lst xs) \/
  ∃(o:Obj) (its:Array Value) (n:Nat),K.lookup a=some o/\o.cls=.type "list"/\o.dict=none/\o.data=.seq its n/\its.size<=sizeLine/\z1h xs its.toList
def SqT(K:yyF)(H:Hp)(a:Addr)(xs:List V):Prop :=
 Rd H a (.tup xs) \/
  ∃(o:Obj) (its:Array Value) (n:Nat),K.lookup a=some o/\o.cls=.type "tuple"/\o.data=.seq its n/\its.size<=sizeLine/\z1h xs its.toList
def zii:Value->Option V
 |.none=>some .non
 |.bool b=>some (.bl b)
 |.int i _=>some (.int i)
 |.str x _=>some (.str x)
 |.bytes b _=>some (.byt b)
 |.float b _=>some (.flt b)
 |.ref a=>some (.ref a)
 |.type n=>some (.ty n)
 |_=>none
def z0Z.abs{x:V}{u:Value}(r:z0Z x u):zii u=some x:=by
 cases x with
 |non=>cases r;rfl
 |bl _=>cases r;rfl
 |int _=>obtain⟨t,rfl⟩:=r;rfl
 |str _=>obtain⟨t,rfl⟩:=r;rfl
 |byt _=>obtain⟨t,rfl⟩:=r;rfl
 |flt _=>obtain⟨t,rfl⟩:=r;rfl
 |ref _=>cases r;rfl
 |ty _=>cases r;rfl
def z0Z.inj{x y:V}{u:Value}(r:z0Z x u)(q:z0Z y u):x=y:=y07 (r.abs.symm.trans q.abs)
theorem z1h.inj:∀{xs ys:List V}{us:List Value},z1h xs us->z1h ys us->xs=ys
 |_,_,_,.nil,.nil=>rfl
 |_,_,_,.cons r t,.cons r' t'=>by rw[r.inj r',z1h.inj t t']
section
variable{X:Cx}{pins:yyP}{σ:St}{H:Hp}{s:Shared}{a:Addr}{xs ys:List V}
def SqL.of{K:yyF}(h:H a=some (.lst xs)):SqL K H a xs:=.inl (.inl h)
def SqT.of{K:yyF}(h:H a=some (.tup xs)):SqT K H a xs:=.inl (.inl h)
def Inv.list(I:Inv X pins σ H s)(h:SqL X.K H a xs):∃its:List Value,z1h xs its/\PlainL s.heap a its.toArray/\xs.length<=sizeLine:=by
 rcases h with h|⟨o,its,n,hk,hc,hd,hs,hz,r⟩
 .obtain⟨z,its,n,r,e⟩:=h.ok I.hok;exact⟨its,r,⟨_,n,e,rfl,rfl,rfl⟩,z⟩
 .refine⟨its.toList,r,⟨o,n,I.kIn a o hk,hc,hd,by simpa using hs⟩,?_⟩;have e:=r.length;simp only[y0K]at e;lia
def Inv.tuple(I:Inv X pins σ H s)(h:SqT X.K H a xs):∃its:List Value,z1h xs its/\IsTup s.heap a its.toArray/\xs.length<=sizeLine:=by
 rcases h with h|⟨o,its,n,hk,hc,hs,hz,r⟩
 .obtain⟨z,its,n,r,e⟩:=h.ok I.hok;exact⟨its,r,⟨_,e,rfl,n,rfl⟩,z⟩
 .refine⟨its.toList,r,⟨o,I.kIn a o hk,hc,n,by simpa using hs⟩,?_⟩;have e:=r.length;simp only[y0K]at e;lia
def Inv.list_inj(I:Inv X pins σ H s)(h:SqL X.K H a xs)(h':SqL X.K H a ys):xs=ys:=by
 obtain⟨its,r,⟨o,n,e,_,_,d⟩,_⟩:=I.list h;obtain⟨its',r',⟨o',n',e',_,_,d'⟩,_⟩:=I.list h';rw[e]at e';cases e';rw[d]at d';injection d' with d1 _;have:its=its':=by simpa using y28 Array.toList d1
 subst this;exact r.inj r'
def Inv.tuple_inj(I:Inv X pins σ H s)(h:SqT X.K H a xs)(h':SqT X.K H a ys):xs=ys:=by
 obtain⟨its,r,⟨o,e,_,n,d⟩,_⟩:=I.tuple h;obtain⟨its',r',⟨o',e',_,n',d'⟩,_⟩:=I.tuple h';rw[e]at e';cases e';rw[d]at d';injection d' with d1 _;have:its=its':=by simpa using y28 Array.toList d1
 subst this;exact r.inj r'
end
abbrev Cx.wish(X:Cx)(E:yyE):Cx:={ X with xe:=E }
abbrev Cx.nox(X:Cx):Cx:=X.wish fun _ _=>False
theorem Cx.Ok.wish{X:Cx}(ok:X.Ok)(E:yyE):(X.wish E).Ok :=
 ⟨ok.mod,ok.kind,ok.glob,ok.blt,ok.above,ok.inj,ok.has,ok.cab,ok.hd,ok.frames,ok.stk,ok.exf,ok.bs,ok.bsz,ok.noex,ok.exfs,ok.funs,ok.frf⟩
def Cx.Ok.unwish{X:Cx}{E:yyE}(ok:(X.wish E).Ok):X.Ok :=
 ⟨ok.mod,ok.kind,ok.glob,ok.blt,ok.above,ok.inj,ok.has,ok.cab,ok.hd,ok.frames,ok.stk,ok.exf,ok.bs,ok.bsz,ok.noex,ok.exfs,ok.funs,ok.frf⟩
section
variable{X:Cx}{pins:yyP}{σ:St}{H:Hp}{s:Shared}{E:yyE}
theorem Inv.wish(I:Inv X pins σ H s)(E:yyE):Inv (X.wish E) pins σ H s:=⟨I.ok.wish E,I.os,I.bare,I.base,I.loc,I.cell,I.free,I.freeC,I.pin,I.hok,I.len⟩
theorem Inv.unwish(I:Inv (X.wish E) pins σ H s):Inv X pins σ H s:=⟨I.ok.unwish,I.os,I.bare,I.base,I.loc,I.cell,I.free,I.freeC,I.pin,I.hok,I.len⟩
theorem SP.unwish{D:z3Q}{f:Flow}{s':Shared}(h:SP (X.wish E) pins D f s'):SP X pins D f s':=by
 cases f with
 |next=>obtain⟨σ',H',I,q⟩:=h;exact⟨σ',H',I.unwish,q⟩
 |brk=>obtain⟨σ',H',I,q⟩:=h;exact⟨σ',H',I.unwish,q⟩
 |cont=>obtain⟨σ',H',I,q⟩:=h;exact⟨σ',H',I.unwish,q⟩
 |ret u=>obtain⟨v,σ',H',I,r,q⟩:=h;exact⟨v,σ',H',I.unwish,r,q⟩
theorem PSs.nox{st:List Stmt}{t:TS}(h:PSs X.nox st t):PSs X st t:=fun pins s σ H D I hw =>
 y0Y (h pins s σ H D (I.wish _) hw) (fun _ _ q=>q.unwish) fun _ _ z=>False.elim z
end
section
variable{X:Cx}{st:Stmt}{z1T:List Stmt}{t u:TS}{e:Expr}{te:TE}{pos:Pos}
def zh3:TS:=fun D σ H=>D.nx σ H
def zgy(t u:TS):TS:=fun D σ H=>t { D with nx:=u D } σ H
def z1a:PSs X [] zh3:=fun _ _ σ H _ I h=>y2X ⟨σ,H,I,h⟩
def z02(h1:PS X st t)(h2:PSs X z1T u):PSs X (st::z1T) (zgy t u):=by
 intro pins s σ H D I h;refine wpAny_execs_cons (thn (h1 pins s σ H { D with nx:=u D } I h) fun f s1 q=>?_);cases f with
 |next =>
  obtain⟨σ',H',I',q⟩:=q;exact h2 pins s1 σ' H' D I' q
 |ret v=>exact q
 |brk=>exact q
 |cont=>exact q
def z07(h1:PS X st t):PSs X [st] t:=by
 intro pins s σ H D I h;refine wpAny_execs_cons (thn (h1 pins s σ H D I h) fun f s1 q=>?_);cases f with
 |next=>exact y2X q
 |ret v=>exact q
 |brk=>exact q
 |cont=>exact q
def Inv.quiet{pins:yyP}{σ:St}{H:Hp}{s:Shared}(I:Inv X pins σ H s):interactive X.env=false:=by simp[interactive,I.ok.kind]
def zho(te:TE):TS:=fun D σ H=>te σ H fun _ H1=>D.nx σ H1
def z1x(he:PE X e te)(hs:swapsWith e none pos.line X.env=pure false:=by rfl):PS X (.Expr e pos) (zho te):=by intro pins s σ H D I h;exact wpAny_Expr_any (z1Y (he pins s σ H _ I h) fun v s1 x H1 I1 r1 q1=>⟨σ,H1,I1,q1⟩) I.quiet hs
def zhZ(te:TE):TS:=fun D σ H=>te σ H D.rt
def z0D(he:PE X e te):PS X (.Return (some e) pos) (zhZ te):=by intro pins s σ H D I h;exact wpAny_Return_some (z1Y (he pins s σ H _ I h) fun v s1 x H1 I1 r1 q1=>⟨x,σ,H1,I1,r1,q1⟩)
def zhW(c:TT)(t u:TS):TS:=fun D σ H=>c σ H fun b H1=>if b=true then t D σ H1 else u D σ H1
def z2x{c:Expr}{a b:List Stmt}{tc:TT}(hc:PT X c tc)(ha:PSs X a t)(hb:PSs X b u):PS X (.If c a b pos) (zhW tc t u):=by
 intro pins s σ H D I h;refine wpAny_If (thn (hc pins s σ H _ I h) fun d s1 hz8=>?_);obtain⟨H1,I1,q1⟩:=hz8;cases d with
 |true=>exact ha pins s1 σ H1 D I1 q1
 |false=>exact hb pins s1 σ H1 D I1 q1
end
abbrev TG:=V->St->Hp->(St->Hp->Prop)->Prop
abbrev TGs:=List V->St->Hp->(St->Hp->Prop)->Prop
def PG(X:Cx)(target:Expr)(t:TG):Prop :=
 ∀(pins:yyP)(s:Shared)(σ:St)(H:Hp)(v:V)(u:Value)(Q:St->Hp->Prop),Inv X pins σ H s->z0Z v u->t v σ H Q ->
  wpAny (model X.prog X.w) X.A (assign target X.env u) (fun _ s'=>∃σ' H',Inv X pins σ' H' s'/\Q σ' H') X.xe s
def PGs(X:Cx)(ts:List Expr)(t:TGs):Prop :=
 ∀(pins:yyP)(s:Shared)(σ:St)(H:Hp)(vs:List V)(us:List Value)(Q:St->Hp->Prop),Inv X pins σ H s->z1h vs us->t vs σ H Q ->
  wpAny (model X.prog X.w) X.A (assignInOrder ((assignEach ts X.env).map (·.2)) us) (fun _ s'=>∃σ' H',Inv X pins σ' H' s'/\Q σ' H') X.xe s
abbrev zgU:=V->V->V->Hp->(Hp->Prop)->Prop
def zhH(X:Cx)(t:zgU):Prop :=
 ∀(pins:yyP)(s:Shared)(σ:St)(H:Hp)(o i v:V)(ov iv u:Value)(Q:Hp->Prop),Inv X pins σ H s->z0Z o ov->z0Z i iv->z0Z v u->t o i v H Q ->
  wpAny (model X.prog X.w) X.A (setItem ov iv u) (fun _ s'=>∃H',Inv X pins σ H' s'/\Q H') X.xe s
abbrev TIp:=V->V->Hp->VK->Prop
def PIp(X:Cx)(op:Operator)(t:TIp):Prop :=
 ∀(pins:yyP)(s:Shared)(σ:St)(H:Hp)(x y:V)(v u:Value)(Q:VK),Inv X pins σ H s->z0Z x v->z0Z y u->t x y H Q ->
  wpAny (model X.prog X.w) X.A (inplaceOp op v u) (EP X pins σ Q) X.xe s
section
variable{X:Cx}{pos:Pos}
def zcx(i:Nat):TG:=fun v σ H Q=>Q (σ.set i (some v)) H
def z09{i:Nat}{x:Str}(hN:X.N.Nodup)(hi:X.N[i]?=some x)(hx:Loc X.env.scope x)(hf:X.fn x=true\/X.env.scope.names.lookup x=some .local:=by first|exact .inl rfl|exact .inr rfl|assumption):PG X (.Name x pos) (zcx i):=by intro pins s σ H v u Q I r h;exact wpAny_assign_Name (z6J I hN hi hx r (fun s' I'=>⟨_,H,I',h⟩) hf)
def zhX:TGs:=fun vs σ H Q=>vs=[]/\Q σ H
def zhd(t:TG)(u:TGs):TGs:=fun vs σ H Q=>∃v r,vs=v::r/\t v σ H fun σ' H'=>u r σ' H' Q
def z1b:PGs X [] zhX:=by intro pins s σ H vs us Q I r h;obtain⟨e,h⟩:=h;subst e;cases r;exact assignInOrder_nil ⟨σ,H,I,h⟩
def z0l{e:Expr}{es:List Expr}{t:TG}{u:TGs}(h1:PG X e t)(h2:PGs X es u)(hs:(assignEach (e::es) X.env).map (·.2)=assign e X.env::(assignEach es X.env).map (·.2):=by rfl):PGs X (e::es) (zhd t u):=by
 intro pins s σ H vs us Q I r h;obtain⟨v,vr,e1,h⟩:=h;subst e1;cases r with
 |cons r rr =>
  rw[hs];refine assignInOrder_cons (thn (h1 pins s σ H _ _ _ I r h) fun _ s1 hz8=>?_);obtain⟨σ1,H1,I1,q1⟩:=hz8;exact h2 pins s1 σ1 H1 _ _ Q I1 rr q1
def zhu(K:yyF)(n:Nat)(t:TGs):TG:=fun v σ H Q=>∃a xs,v=.ref a/\SqT K H a xs/\xs.length=n/\t xs σ H Q
def z2l{es:List Expr}{k:Nat}{t:TGs}{n:Nat}(hc:X.calm=true)(h:PGs X es t)(hn:(assignEach es X.env).length=n:=by rfl)(hst:(assignEach es X.env).findIdx? (·.1)=none:=by rfl):PG X (.Tuple es k pos) (zhu X.K n t):=by intro pins s σ H v u Q I r hw;obtain⟨a,xs,e1,hq,hl,hw⟩:=hw;subst e1;cases r;obtain⟨its,rv,ht,hz⟩:=I.tuple hq;refine assign_Tuple_tuple (I.ok.hd hc) ht (by simp[hn,<-hl,rv.length]) hst fun h' hx=>?_;have I1:Inv X pins σ H { s with heap:=h' }:=I.kept (t':=s.toks) fun b o e=>hx b o (y0C (y0h e)) e;exact h pins _ σ H xs _ Q I1 (by simpa using rv) hw
def zij(to ti:TE)(t:zgU):TG:=fun v σ H Q=>to σ H fun o H1=>ti σ H1 fun i H2=>t o i v H2 fun H3=>Q σ H3
def zg3{o i:Expr}{to ti:TE}{t:zgU}(ho:PE X o to)(hi:PE X i ti)(hs:zhH X t)
  (ha:∀v,assign (.Subscript o i pos) X.env v=(do
   let ov <-holding [v] (eval o X.env);let iv <-holding [v,ov] (eval i X.env)
   standAt pos
   holding [v,ov,iv] (setItem ov iv v)
   release [v,ov,iv] []):=by intro _;rfl):PG X (.Subscript o i pos) (zij to ti t):=by
 intro pins s σ H v u Q I r h;rw[ha];refine y03 (y1I (z1Y (ho pins s σ H _ I h) fun ov s1 x H1 I1 r1 q1=>?_));refine y03 (y1I (z1Y (hi pins s1 σ H1 _ I1 q1) fun iv s2 y H2 I2 r2 q2=>?_));refine y03 (y2H (y03 (y1I (thn (hs pins s2 σ H2 x y v ov iv u _ I2 r1 r2 r q2) fun _ s3 hz8=>?_))));obtain⟨H3,I3,q3⟩:=hz8;exact wpAny_release ⟨σ,H3,I3,q3⟩
def zgB(te:TE)(g:TG):TS:=fun D σ H=>te σ H fun x H1=>g x σ H1 D.nx
def z2U{tg e:Expr}{te:TE}{g:TG}(he:PE X e te)(hg:PG X tg g)(hs:swapsWithSole [tg] e pos.line X.env=pure false:=by rfl)(hw:swappedStores [tg] e X.env=pure none:=by rfl)(h1:(assignEach [tg] X.env).map (·.2)=[assign tg X.env]:=by rfl):PS X (.Assign [tg] e pos) (zgB te g):=by intro pins s σ H D I h;refine wpAny_Assign_stores (z1Y (he pins s σ H _ I h) fun v s1 x H1 I1 r1 q1=>?_) hs hw;rw[h1];exact thn (hg pins s1 σ H1 x v _ I1 r1 q1) fun _ s2 q=>q
def z0k{i:Nat}{x:Str}{e:Expr}{te:TE}{pos':Pos}(hN:X.N.Nodup)(hi:X.N[i]?=some x)(hx:Loc X.env.scope x)(he:PE X e te)(hs:swapsWith e (some (.Name x pos')) pos.line X.env=pure false:=by rfl)(hf:X.fn x=true\/X.env.scope.names.lookup x=some .local:=by first|exact .inl rfl|exact .inr rfl|assumption) : PS X (.Assign [.Name x pos'] e pos) (zgB te (zcx i)):=by intro pins s σ H D I h;refine wpAny_Assign_Name (z1Y (he pins s σ H _ I h) fun v s1 y H1 I1 r1 q1=>?_) hs;exact z6J I1 hN hi hx r1 (fun s2 I2=>⟨_,H1,I2,q1⟩) hf
def zil(i:Nat)(te:TE)(ti:TIp):TS:=fun D σ H=>∃x,σ[i]?=some (some x)/\te σ H fun y H1=>ti x y H1 fun z H2=>D.nx (σ.set i (some z)) H2
def zdN{i:Nat}{x:Str}{e:Expr}{te:TE}{op:Operator}{ti:TIp}{pos':Pos}(hN:X.N.Nodup)(hi:X.N[i]?=some x)(hx:Loc X.env.scope x)(he:PE X e te)(ho:PIp X op ti)(hf:X.fn x=true\/X.env.scope.names.lookup x=some .local:=by first|exact .inl rfl|exact .inr rfl|assumption) : PS X (.AugAssign (.Name x pos') op e pos) (zil i te ti):=by
 intro pins s σ H D I h;obtain⟨v,e1,h⟩:=h;obtain⟨m,hn,hl⟩:=I.loc;have vis:Vis X.env.scope x:=by rcases hx with k|k;exact .inl k;exact .inr (.inl k)
 obtain⟨u,r,l⟩:=hl i x v hi e1 vis;refine wpAny_AugAssign_Name ?_;have go:wpAny (model X.prog X.w) X.A (eval e X.env) (fun w s₂=>wpAny (model X.prog X.w) X.A (inplaceOp op u w) (fun r s₃=>wpAny (model X.prog X.w) X.A (storeName X.env x r) (fun _=>SP X pins D .next) X.xe s₃) X.xe s₂) X.xe s:=by refine z1Y (he pins s σ H _ I h) fun w s1 y H1 I1 r1 q1=>?_;refine z1Y (ho pins s1 σ H1 v y u w _ I1 r r1 q1) fun z s2 zv H2 I2 r2 q2=>?_;exact z6J I2 hN hi hx r2 (fun s3 I3=>⟨_,H2,I3,q2⟩) hf
 rcases l with⟨hk,hm⟩|⟨hk,c,hc,hcell⟩
 .exact wpAny_loadName_local I.ok.kind hk hn hm go
 .rcases hk with hk|hk
  .exact wpAny_loadName_cell I.ok.kind hk hc hcell go
  .rcases hx with k|k
   .have:X.env.scope.names.lookup x=some .free:=hk;rw[k]at this;cases this
   .have:X.env.scope.names.lookup x=some .free:=hk;rw[k]at this;cases this
def ipI(f:Int->Int->Int):TIp:=fun x y H Q=>∃i j,x=.int i/\y=.int j/\Q (.int (f i j)) H
def ze3:PIp X .Add (ipI fun i j=>i+j):=by intro pins s σ H x y v u Q I r1 r2 h;obtain⟨i,j,e1,e2,q⟩:=h;subst e1;subst e2;obtain⟨t,rfl⟩:=r1;obtain⟨t',rfl⟩:=r2;exact iadd_int ⟨.int _,H,I.tok _,⟨_,rfl⟩,q⟩
end
section
variable{X:Cx}{pos:Pos}
def z7A(c:TT)(tb:TS):TS:=fun D σ H=>∃W:Nat->St->Hp->Prop,(∃m,W m σ H)/\∀m σ H,W m σ H ->
 c σ H fun b H1=>if b=true then ∃N:St->Hp->Prop,(∀σ' H',N σ' H'->∃m',m'<m/\W m' σ' H')/\tb { D with nx:=N,ct:=N,bk:=D.nx } σ H1 else D.nx σ H1
def z2f{c:Expr}{body:List Stmt}{tc:TT}{tb:TS}(hp:PassesOwn (model X.prog X.w) X.A X.env X.xe)(hc:PT X c tc)(hb:PSs X body tb):PS X (.While c body [] pos) (z7A tc tb):=by
 intro pins s σ H D I h;obtain⟨W,⟨m0,w0⟩,z3u⟩:=h;refine wpAny_While (codeAny_whileLoop (fun n s'=>∃σ' H',Inv X pins σ' H' s'/\W n σ' H') ?_ m0 ⟨σ,H,I,w0⟩);rintro n s1 ⟨σ1,H1,I1,w1⟩;refine y2f hp (thn (hc pins s1 σ1 H1 _ I1 (z3u n σ1 H1 w1)) fun b s2 hz8=>?_);obtain⟨H2,I2,q2⟩:=hz8;cases b with
 |true =>
  obtain⟨N,hN,q2⟩:=q2;rw[if_pos rfl];refine y2f hp (thn (hb pins s2 σ1 H2 _ I2 q2) fun f s3 q3=>?_);cases f with
  |next =>
   obtain⟨σ3,H3,I3,n3⟩:=q3;obtain⟨m',hm,w3⟩:=hN σ3 H3 n3;exact⟨m',hm,σ3,H3,I3,w3⟩
  |cont =>
   obtain⟨σ3,H3,I3,n3⟩:=q3;obtain⟨m',hm,w3⟩:=hN σ3 H3 n3;exact⟨m',hm,σ3,H3,I3,w3⟩
  |brk=>exact q3
  |ret v=>exact q3
 |false =>
  rw[if_neg y0R];exact y2X ⟨σ1,H2,I2,q2⟩
end
structure It where
 go:Nat->Hp->Prop
 yld:Nat->Hp->V->Hp->Prop
 stop:Nat->Hp->Prop
def z3O(X:Cx)(pins:yyP)(H:Hp)(b:Addr):Prop :=
 H b=none/\b≠X.env.locals/\b∉X.fs/\(b∈X.ex\/X.s₀.heap.objs.size<=b)/\(∀x c,X.env.cells.lookup x=some c->c≠b)/\∀p∈X.pn++pins,p.1≠b
def Inv.fpOk{X:Cx}{pins:yyP}{σ:St}{H H':Hp}{s:Shared}{b:Addr}(I:Inv X pins σ H s)(hb:s.heap.objs.size<=b)(hn:H' b=none):z3O X pins H' b:=by
 refine⟨hn,y2B (y0u I.lt hb),I.nofs hb,.inr (y0r I.sz hb),fun x c e z=>?_,fun p hp z=>?_⟩
 .obtain⟨v,q⟩:=I.cell x c e;exact absurd (y0u q.lt (by rw[z];exact hb)) (y1H _)
 .exact absurd (y0u (y0h (I.pin p hp).1) (by rw[z];exact hb)) (y1H _)
structure zcE(P:Program)(w:World)(K:yyF)(tg:Expr)(J:It)(fp:List Addr)(it:Addr)(tn:Nat->Heap->Prop):Prop where
 mem:it∈fp
 obj:∀i h,tn i h->∀b∈fp,∃o,h.get? b=some o/\∀v,o.data≠.cell v
 keep:∀i h h',tn i h->(∀b∈fp,∀o,h.get? b=some o->h'.get? b=some o)->tn i h'
 item:∀(X:Cx),X.prog=P->X.w=w->X.K=K->X.calm=true->∀(i:Nat)(pins:yyP)(s:Shared)(σ:St)(H:Hp)(E:yyE),Inv X pins σ H s->(∀b∈fp,z3O X pins H b)->tn i s.heap->J.go i H ->
  wpAny (model P w) X.A (pyNext (.ref it)) (fun r s1=>∃u,r=some u /\
   wpAny (model P w) X.A (letOwnedTupleGo tg (.ref it) u) (fun _ s2=>∃x H',Inv X pins σ H' s2/\z0Z x u/\J.yld i H x H'/\tn (i+1) s2.heap/\∀b∈fp,H' b=none) E s1) E s
 done:∀(X:Cx),X.prog=P->X.w=w->X.K=K->X.calm=true->∀(i:Nat)(pins:yyP)(s:Shared)(σ:St)(H:Hp)(E:yyE),Inv X pins σ H s->(∀b∈fp,z3O X pins H b)->tn i s.heap->J.stop i H ->
  wpAny (model P w) X.A (pyNext (.ref it)) (fun r s1=>r=none/\Inv X pins σ H s1) E s
 self:∀(A:Around)(i:Nat)(s:Shared)(Q:yyE)(E:yyE),tn i s.heap->Q (.ref it) s->wpAny (model P w) A (pyIter (.ref it)) Q E s
abbrev TI:=St->Hp->(It->Hp->Prop)->Prop
def PIE(X:Cx)(pins:yyP)(σ:St)(tg:Expr)(R:It->Hp->Prop)(itv:Value)(s2:Shared):Prop :=
 ∃(it:Addr)(fp:List Addr)(tn:Nat->Heap->Prop)(J:It)(H':Hp),itv=.ref it/\Inv X pins σ H' s2/\zcE X.prog X.w X.K tg J fp it tn/\tn 0 s2.heap/\(∀b∈fp,z3O X pins H' b)/\R J H'
def PI(X:Cx)(tg iter:Expr)(wi:TI):Prop :=
 ∀(pins:yyP)(s:Shared)(σ:St)(H:Hp)(R:It->Hp->Prop),Inv X pins σ H s->wi σ H R ->
  wpAny (model X.prog X.w) X.A (eval iter X.env) (fun v s1=>wpAny (model X.prog X.w) X.A (pyIter v) (PIE X pins σ tg R) X.xe s1) X.xe s
def zeD{M:Model}{A:Around}{E:yyE}{s:Shared}{tg:Expr}{it:Addr}{u:Value}{o:Obj}{n:String}{vs:Array Value}{Q:Unit->Shared->Prop}(ho:s.heap.get? it=some o)(hc:o.cls=.type n)(hd:o.data=.fields vs)(hn:["enumerate","zip","dict_itemiterator","dict_reverseitemiterator","odict_iterator","itertools.zip_longest","itertools.pairwise"].contains n=false)(hQ:Q () s):wpAny M A (letOwnedTupleGo tg (.ref it) u) Q E s:=by
 unfold letOwnedTupleGo;cases tg<;>first
  |exact y0g hQ
  | (cases u<;>first
    |exact y0g hQ
    | (refine y03 (wpAny_load ho ?_)
       rw[hc,hd];show wpAny M A (if(["enumerate","zip","dict_itemiterator","dict_reverseitemiterator","odict_iterator","itertools.zip_longest","itertools.pairwise"].contains n&&vs[0]?==some (rawInt _))=true then _ else _) Q E s;rw[if_neg (by intro h;rw[hn,Bool.false_and]at h;cases h)];exact y0g hQ))
def Itl(K:yyF)(a:Addr):It :=
 ⟨fun i H=>∃xs x,SqL K H a xs/\xs[i]?=some x,fun i H x H'=>H'=H/\∀xs,SqL K H a xs->xs[i]?=some x,fun i H=>∃xs,SqL K H a xs/\xs.length<=i⟩
def Itt(K:yyF)(a:Addr):It :=
 ⟨fun i H=>∃xs x,SqT K H a xs/\xs[i]?=some x,fun i H x H'=>H'=H/\∀xs,SqT K H a xs->xs[i]?=some x,fun i H=>∃xs,SqT K H a xs/\xs.length<=i⟩
def Itr(lo:Int)(n:Nat):It:=⟨fun i _=>i<n,fun i H x H'=>H'=H/\x=.int (lo+i),fun i _=>n<=i⟩
def zb7{P:Program}{w:World}{K:yyF}{tg:Expr}(a it:Addr):zcE P w K tg (Itl K a) [it] it (fun i h=>h.IsListIter it a i) where
 mem:=by simp
 obj:=fun i h st b hb=>by
  have e:b=it:=by simpa using hb
  subst e;obtain⟨o,e,c,d⟩:=st;exact⟨o,e,fun v z=>by rw[d]at z;cases z⟩
 keep:=fun i h h' st k=>st.at fun o e=>k it (by simp) o e
 item:=by intro X hP hw hK hc i pins s σ H E I hf st hg;subst hP hw hK;obtain⟨xs,x,hq,hx⟩:=hg;obtain⟨its,rv,p,hz⟩:=I.list hq;obtain⟨u,hu,ru⟩:=rv.get hx;obtain⟨f0,f1,f2,f3,f4,f5⟩:=hf it (by simp);refine wpAny_pyNext_list_item st p.isList (x:=u) (by simpa using hu) fun h' st' sb=>?_;have I1:Inv X pins σ H { s with heap:=h' }:=I.turned (t':=s.toks) (fun b o hb e=>(sb.2 b hb).trans e) f0 f1 f3 f4 f5;obtain⟨o,e,c,d⟩:=id st';exact⟨u,rfl,zeD (s:={ s with heap:=h' }) e c d (by decide) ⟨x,H,I1,ru,⟨rfl,fun ys hy=>by rw[I.list_inj hy hq];exact hx⟩,st',fun b hb=>(hf b hb).1⟩⟩
 done:=by intro X hP hw hK hc i pins s σ H E I hf st hg;subst hP hw hK;obtain⟨xs,hq,hx⟩:=hg;obtain⟨its,rv,p,hz⟩:=I.list hq;obtain⟨f0,f1,f2,f3,f4,f5⟩:=hf it (by simp);have hl:=rv.length;exact wpAny_pyNext_list_end (I.ok.hd hc) st p.isList (by simp;lia) fun h' eb=>⟨rfl,I.turned (t':=s.toks) (fun b o hb e=>eb b o hb e) f0 f1 f3 f4 f5⟩
 self:=fun _ _ _ _ _ st h=>wpAny_pyIter_listiter st h
def z9Y{P:Program}{w:World}{K:yyF}{tg:Expr}(a it:Addr):zcE P w K tg (Itt K a) [it] it (fun i h=>h.IsTupleIter it a i) where
 mem:=by simp
 obj:=fun i h st b hb=>by
  have e:b=it:=by simpa using hb
  subst e;obtain⟨o,e,c,d⟩:=st;exact⟨o,e,fun v z=>by rw[d]at z;cases z⟩
 keep:=fun i h h' st k=>st.at fun o e=>k it (by simp) o e
 item:=by intro X hP hw hK hc i pins s σ H E I hf st hg;subst hP hw hK;obtain⟨xs,x,hq,hx⟩:=hg;obtain⟨its,rv,p,hz⟩:=I.tuple hq;obtain⟨u,hu,ru⟩:=rv.get hx;obtain⟨f0,f1,f2,f3,f4,f5⟩:=hf it (by simp);refine wpAny_pyNext_tuple_item st (show s.heap.IsTuple a its.toArray from p) (x:=u) (by simpa using hu) fun h' st' sb=>?_;have I1:Inv X pins σ H { s with heap:=h' }:=I.turned (t':=s.toks) (fun b o hb e=>(sb.2 b hb).trans e) f0 f1 f3 f4 f5;obtain⟨o,e,c,d⟩:=id st';exact⟨u,rfl,zeD (s:={ s with heap:=h' }) e c d (by decide) ⟨x,H,I1,ru,⟨rfl,fun ys hy=>by rw[I.tuple_inj hy hq];exact hx⟩,st',fun b hb=>(hf b hb).1⟩⟩
 done:=by intro X hP hw hK hc i pins s σ H E I hf st hg;subst hP hw hK;obtain⟨xs,hq,hx⟩:=hg;obtain⟨its,rv,p,hz⟩:=I.tuple hq;obtain⟨f0,f1,f2,f3,f4,f5⟩:=hf it (by simp);have hl:=rv.length;exact wpAny_pyNext_tuple_end (I.ok.hd hc) st (show s.heap.IsTuple a its.toArray from p) (by simp;lia) fun h' eb=>⟨rfl,I.turned (t':=s.toks) (fun b o hb e=>eb b o hb e) f0 f1 f3 f4 f5⟩
 self:=fun _ _ _ _ _ st h=>wpAny_pyIter_tupleiter st h
def zam{P:Program}{w:World}{K:yyF}{tg:Expr}(it:Addr)(lo:Int)(n:Nat):zcE P w K tg (Itr lo n) [it] it (fun i h=>IsRangeIter h it (lo+(i:Nat)*1) ((n:Int)-(i:Nat)) 1) where
 mem:=by simp
 obj:=fun i h st b hb=>by
  have e:b=it:=by simpa using hb
  subst e;exact⟨_,st,fun v z=>by have z':Data.fields _=Data.cell v:=z;cases z'⟩
 keep:=fun i h h' st k=>k it (by simp) _ st
 item:=by intro X hP hw hK hc i pins s σ H E I hf st hg;subst hP hw hK;obtain⟨f0,f1,f2,f3,f4,f5⟩:=hf it (by simp);have W:=Walks.range (prog:=X.prog) (w:=X.w) (I.ok.hd hc) it lo 1 n;refine W.item i s _ _ hg st fun v h' tk hv st' kk=>?_;obtain⟨t,rfl⟩:=hv;have I1:Inv X pins σ H { s with heap:=h',toks:=tk }:=I.turned (fun b o hb e=>kk b o (by simpa using hb) e) f0 f1 f3 f4 f5;refine⟨_,rfl,zeD (s:={ s with heap:=h',toks:=tk }) (n:="range_iterator") st' rfl rfl (by decide) ⟨.int (lo+i),H,I1,⟨t,?_⟩,⟨rfl,rfl⟩,st',fun b hb=>(hf b hb).1⟩⟩;rw[Int.mul_one]
 done:=by intro X hP hw hK hc i pins s σ H E I hf st hg;subst hP hw hK;obtain⟨f0,f1,f2,f3,f4,f5⟩:=hf it (by simp);exact wpAny_pyNext_range_end (I.ok.hd hc) st (by have:n<=i:=hg;lia) fun h' eb=>⟨rfl,I.turned (t':=s.toks) (fun b o hb e=>eb b o hb e) f0 f1 f3 f4 f5⟩
 self:=fun _ _ _ _ _ st h=>wpAny_pyIter_rangeiter st h
section
variable{X:Cx}{tg:Expr}
def zh6(K:yyF)(tl:TE):TI:=fun σ H R=>tl σ H fun x H1=>∃a,x=.ref a/\(∃xs,SqL K H1 a xs)/\R (Itl K a) H1
def zhs(K:yyF)(tl:TE):TI:=fun σ H R=>tl σ H fun x H1=>∃a,x=.ref a/\(∃xs,SqT K H1 a xs)/\R (Itt K a) H1
def z0Y{l:Expr}{tl:TE}(hl:PE X l tl):PI X tg l (zh6 X.K tl):=by
 intro pins s σ H R I h;refine z1Y (hl pins s σ H _ I h) fun v s1 x H1 I1 r1 q1=>?_;obtain⟨a,e,⟨xs,hq⟩,q⟩:=q1;subst e;cases r1;obtain⟨its,rv,p,hz⟩:=I1.list hq;refine wpAny_pyIter_list p.isList ?_;refine⟨s1.heap.objs.size,[s1.heap.objs.size],_,_,H1,rfl,I1.kept (t':=s1.toks) fun b o e=>y06 _ e,zb7 a _,⟨_,y0k _ rfl,rfl,rfl⟩,fun b hb=>?_,q⟩;have e:b=s1.heap.objs.size:=by simpa using hb
 subst e;exact I1.fpOk (y0f _) (I1.hok.fresh (y0f _))
def z2y{l:Expr}{tl:TE}(hl:PE X l tl):PI X tg l (zhs X.K tl):=by
 intro pins s σ H R I h;refine z1Y (hl pins s σ H _ I h) fun v s1 x H1 I1 r1 q1=>?_;obtain⟨a,e,⟨xs,hq⟩,q⟩:=q1;subst e;cases r1;obtain⟨its,rv,p,hz⟩:=I1.tuple hq;refine y2v (show s1.heap.IsTuple a its.toArray from p) ?_;refine⟨s1.heap.objs.size,[s1.heap.objs.size],_,_,H1,rfl,I1.kept (t':=s1.toks) fun b o e=>y06 _ e,z9Y a _,⟨_,y0k _ rfl,rfl,rfl⟩,fun b hb=>?_,q⟩;have e:b=s1.heap.objs.size:=by simpa using hb
 subst e;exact I1.fpOk (y0f _) (I1.hok.fresh (y0f _))
def zd0{pins:yyP}{σ:St}{H:Hp}{s:Shared}{R:It->Hp->Prop}{E:yyE}{lo hi:Int}{t u v:Tok}{tk:Nat}(I:Inv X pins σ H s)(h1:-(2^62)<=lo)(h2:lo<2^62)(h3:-(2^62)<=hi)(h4:hi<2^62)(q:R (Itr lo (hi-lo).toNat) H):wpAny (model X.prog X.w) X.A (pyIter (.ref s.heap.objs.size)) (PIE X pins σ tg R) E { s with heap:=s.heap.push { cls:=.type "range",data:=.fields #[.int lo t,.int hi u,.int 1 v] },toks:=tk }:=by
 refine wpAny_pyIter_range (IsRange.new ..) (small_one h1 h2 h3 h4) ?_;have I1:Inv X pins σ H { s with heap:=s.heap.push { cls:=.type "range",data:=.fields #[.int lo t,.int hi u,.int 1 v] },toks:=tk }:=I.kept fun b o e=>y06 _ e;refine⟨(s.heap.push { cls:=.type "range",data:=.fields #[.int lo t,.int hi u,.int 1 v] }).objs.size,[(s.heap.push { cls:=.type "range",data:=.fields #[.int lo t,.int hi u,.int 1 v] }).objs.size],_,_,H,rfl,
  I1.kept (t':=tk) fun b o e=>y06 _ e,zam _ lo (hi-lo).toNat,?_,fun b hb=>?_,q⟩
 .have e1:lo+((0:Nat):Int)*1=lo:=by simp
  have e2:(((hi-lo).toNat:Nat):Int)-((0:Nat):Int)=Builtin.Range.rangeSize lo hi 1:=by rw[rangeSize_one];split<;>lia
  show IsRangeIter _ _ (lo+((0:Nat):Int)*1) ((((hi-lo).toNat:Nat):Int)-((0:Nat):Int)) 1;rw[e1,e2];exact y0k _ rfl
 .have e:b=(s.heap.push { cls:=.type "range",data:=.fields #[.int lo t,.int hi u,.int 1 v] }).objs.size:=by simpa using hb
  subst e;exact I1.fpOk (y0f _) (I1.hok.fresh (y0f _))
def zhp(ta:TA):TI:=fun σ H R=>ta σ H fun vs H1=>∃j:Int,vs=[.int j]/\-(2^62)<=j/\j<2^62/\R (Itr 0 j.toNat) H1
def z2a{a:Expr}{ta:TA}{p pos:Pos}(hg:Gl X "range")(hm:X.mg "range"=none)(ha:PA X [a] ta)(hs:starEach [a] X.env=[(false,eval a X.env)]:=by rfl):PI X tg (.Call (.Name "range" p) [a] [] pos) (zhp ta):=by
 intro pins s σ H R I h;refine Call_ (z4Z I hg hm boot_range (y1C (thn (ha pos pins s σ H _ I h) fun us s1 hz8=>?_) hs rfl));obtain⟨vs,H1,I1,r1,q1⟩:=hz8;obtain⟨j,e,q1,q2,q⟩:=q1;subst e;cases r1 with
 |cons r rr =>
  cases rr;obtain⟨t,rfl⟩:=r;exact call_range_1 (zd0 I1 (by lia) (by lia) q1 q2 (by simpa using q))
def zic(wi:TI)(g:TG)(tb:TS):TS:=fun D σ H=>wi σ H fun J H1=>∃W:Nat->Nat->St->Hp->Prop,(∃m,W 0 m σ H1)/\∀i m σ H,W i m σ H ->
 (J.stop i H/\D.nx σ H)\/(J.go i H/\∃N:St->Hp->Prop,(∀σ' H',N σ' H'->∃m',m'<m/\W (i+1) m' σ' H')/\∀x H',J.yld i H x H'->g x σ H' fun σ2 H2=>tb { D with nx:=N,ct:=N,bk:=D.nx } σ2 H2)
def z9r(fp:List Addr)(h:Heap):yyP:=fp.filterMap fun b=>(h.get? b).map fun o=>(b,o)
def z1i{fp:List Addr}{h:Heap}{b:Addr}{o:Obj}(hb:b∈fp)(e:h.get? b=some o):(b,o)∈z9r fp h:=y2Y.mpr ⟨b,hb,by rw[e];rfl⟩
def zaT{fp:List Addr}{h:Heap}{p:Addr × Obj}(hp:p∈z9r fp h):p.1∈fp/\h.get? p.1=some p.2:=by
 obtain⟨b,hb,e⟩:=y2Y.mp hp;cases q:h.get? b with
 |none=>rw[q]at e;cases e
 |some o =>
  rw[q]at e;have e':(b,o)=p:=y07 e;subst e';exact⟨hb,q⟩
def Inv.pinned{pins:yyP}{σ:St}{H:Hp}{s:Shared}{fp:List Addr}(I:Inv X pins σ H s)(hf:∀b∈fp,z3O X pins H b)(ho:∀b∈fp,∃o,s.heap.get? b=some o/\∀v,o.data≠.cell v):Inv X (pins++z9r fp s.heap) σ H s :=
 I.pins_of fun p hp=>(y0q.mp hp).elim (fun z=>I.pin p (y0j _ z)) fun z=>by obtain⟨hb,e⟩:=zaT z;obtain⟨f0,f1,f2,_⟩:=hf p.1 hb;obtain⟨o,e',d⟩:=ho p.1 hb;rw[e]at e';cases e';exact⟨e,f0,f1,f2,d⟩
def Inv.unpinned{pins pl:yyP}{σ:St}{H:Hp}{s:Shared}(I:Inv X (pins++pl) σ H s):Inv X pins σ H s:=I.pins_of fun p hp=>I.pin p (y0j _ (y0t _ hp))
def z1r{iter:Expr}{body:List Stmt}{wi:TI}{g:TG}{tb:TS}{pos:Pos}(hp:PassesOwn (model X.prog X.w) X.A X.env X.xe)(hc:X.calm=true)(hi:PI X tg iter wi)(hg:PG X tg g)(hb:PSs X body tb)(hs:∀x,foldedSetIterable iter X.env x=pure x:=by intro _;rfl):PS X (.For tg iter body [] pos) (zic wi g tb):=by
 intro pins s σ H D I h;refine wpAny_For (thn (hi pins s σ H _ I h) fun v s1 h1=>thn h1 fun itv s2 h2=>?_) hs;obtain⟨it,fp,tn,J,H2,e,I2,T,st2,f2,W,⟨m0,w0⟩,z3u⟩:=h2;subst e;have stat:∀{H':Hp},(∀b∈fp,H' b=none)->∀b∈fp,z3O X pins H' b:=fun hn b hb=>⟨hn b hb,(f2 b hb).2⟩;refine codeAny_forLoop_any (fun n s'=>∃i σ' H',Inv X pins σ' H' s'/\tn i s'.heap/\(∀b∈fp,H' b=none)/\W i n σ' H') ?_ m0 ⟨0,σ,H2,I2,st2,fun b hb=>(f2 b hb).1,w0⟩;rintro n s3 ⟨i,σ3,H3,I3,st3,fr3,w3⟩;rcases z3u i n σ3 H3 w3 with⟨stop,qn⟩|⟨go,N,hN,step⟩
 .refine y2f hp (thn (T.done X rfl rfl rfl hc i pins s3 σ3 H3 X.xe I3 (stat fr3) st3 stop) fun r s4 hz8=>?_);obtain⟨hr,I4⟩:=hz8;subst hr;exact y2X ⟨σ3,H3,I4,qn⟩
 .refine y2f hp (thn (T.item X rfl rfl rfl hc i pins s3 σ3 H3 X.xe I3 (stat fr3) st3 go) fun r s4 hz8=>?_);obtain⟨u,hr,h4⟩:=hz8;subst hr;refine y2f hp (thn h4 fun _ s5 hz8=>?_);obtain⟨x,H5,I5,r5,y5,st5,fr5⟩:=hz8;have I5':=I5.pinned (stat fr5) (T.obj _ _ st5);refine y2f hp (thn (hg _ s5 σ3 H5 x u _ I5' r5 (step x H5 y5)) fun _ s6 hz8=>?_);obtain⟨σ6,H6,I6,q6⟩:=hz8;refine y2f hp (thn (hb _ s6 σ6 H6 _ I6 q6) fun f s7 q7=>?_);have again:∀{σ7:St}{H7:Hp},Inv X (pins++z9r fp s5.heap) σ7 H7 s7->N σ7 H7->∃m,m<n/\∃i σ' H',Inv X pins σ' H' s7/\tn i s7.heap/\(∀b∈fp,H' b=none)/\W i m σ' H':=fun{σ7 H7} I7 n7=>by
   obtain⟨m',hm,w7⟩:=hN σ7 H7 n7;refine⟨m',hm,i+1,σ7,H7,I7.unpinned,T.keep _ _ _ st5 fun b hb o e=>(I7.pin (b,o) (y0j _ (y0j _ (z1i hb e)))).1,fun b hb=>?_,w7⟩;obtain⟨o,e,d⟩:=T.obj _ _ st5 b hb;exact(I7.pin (b,o) (y0j _ (y0j _ (z1i hb e)))).2.1
  cases f with
  |next=>obtain⟨σ7,H7,I7,n7⟩:=q7;exact again I7 n7
  |cont=>obtain⟨σ7,H7,I7,n7⟩:=q7;exact again I7 n7
  |brk=>obtain⟨σ7,H7,I7,q7⟩:=q7;exact⟨σ7,H7,I7.unpinned,q7⟩
  |ret v=>obtain⟨x7,σ7,H7,I7,r7,q7⟩:=q7;exact⟨x7,σ7,H7,I7.unpinned,r7,q7⟩
end
def zdz{K:yyF}{a:Addr}{xs:List V}{g:TG}{tb:TS}{D:z3Q}{σ:St}{H:Hp}(Pv:Nat->St->Hp->Prop)(h0:Pv 0 σ H)(hl:∀i σ H,i<=xs.length->Pv i σ H->SqL K H a xs)(hs:∀i x σ H,xs[i]?=some x->Pv i σ H->g x σ H fun σ2 H2=>tb { D with nx:=Pv (i+1),ct:=Pv (i+1),bk:=D.nx } σ2 H2)(hd:∀σ H,Pv xs.length σ H->D.nx σ H) : ∃W:Nat->Nat->St->Hp->Prop,(∃m,W 0 m σ H)/\∀i m σ H,W i m σ H -> ((Itl K a).stop i H/\D.nx σ H)\/((Itl K a).go i H/\∃N:St->Hp->Prop,(∀σ' H',N σ' H'->∃m',m'<m/\W (i+1) m' σ' H')/\∀x H',(Itl K a).yld i H x H'->g x σ H' fun σ2 H2=>tb { D with nx:=N,ct:=N,bk:=D.nx } σ2 H2):=by
 refine⟨fun i m σ H=>m=xs.length-i/\i<=xs.length/\Pv i σ H,⟨xs.length,by simp,y0y _,h0⟩,?_⟩;rintro i m σ H ⟨rfl,hi,p⟩;have q:=hl i σ H hi p;by_cases hlt:i<xs.length
 .refine .inr ⟨⟨xs,xs[i],q,by simp[hlt]⟩,Pv (i+1),fun σ' H' p'=>⟨xs.length-(i+1),by lia,rfl,hlt,p'⟩,fun x H' y=>?_⟩;obtain⟨e,y⟩:=y;subst e;exact hs i x σ _ (y xs q) p
 .have e:i=xs.length:=by lia
  subst e;exact .inl ⟨⟨xs,q,y0f _⟩,hd σ H p⟩
def zaU{K:yyF}{a:Addr}{xs:List V}{g:TG}{tb:TS}{D:z3Q}{σ:St}{H:Hp}(Pv:Nat->St->Hp->Prop)(h0:Pv 0 σ H)(hl:∀i σ H,i<=xs.length->Pv i σ H->SqT K H a xs)(hs:∀i x σ H,xs[i]?=some x->Pv i σ H->g x σ H fun σ2 H2=>tb { D with nx:=Pv (i+1),ct:=Pv (i+1),bk:=D.nx } σ2 H2)(hd:∀σ H,Pv xs.length σ H->D.nx σ H) : ∃W:Nat->Nat->St->Hp->Prop,(∃m,W 0 m σ H)/\∀i m σ H,W i m σ H -> ((Itt K a).stop i H/\D.nx σ H)\/((Itt K a).go i H/\∃N:St->Hp->Prop,(∀σ' H',N σ' H'->∃m',m'<m/\W (i+1) m' σ' H')/\∀x H',(Itt K a).yld i H x H'->g x σ H' fun σ2 H2=>tb { D with nx:=N,ct:=N,bk:=D.nx } σ2 H2):=by
 refine⟨fun i m σ H=>m=xs.length-i/\i<=xs.length/\Pv i σ H,⟨xs.length,by simp,y0y _,h0⟩,?_⟩;rintro i m σ H ⟨rfl,hi,p⟩;have q:=hl i σ H hi p;by_cases hlt:i<xs.length
 .refine .inr ⟨⟨xs,xs[i],q,by simp[hlt]⟩,Pv (i+1),fun σ' H' p'=>⟨xs.length-(i+1),by lia,rfl,hlt,p'⟩,fun x H' y=>?_⟩;obtain⟨e,y⟩:=y;subst e;exact hs i x σ _ (y xs q) p
 .have e:i=xs.length:=by lia
  subst e;exact .inl ⟨⟨xs,q,y0f _⟩,hd σ H p⟩
def zch{lo:Int}{n:Nat}{g:TG}{tb:TS}{D:z3Q}{σ:St}{H:Hp}(Pv:Nat->St->Hp->Prop)(h0:Pv 0 σ H)(hs:∀i σ H,i<n->Pv i σ H->g (.int (lo+i)) σ H fun σ2 H2=>tb { D with nx:=Pv (i+1),ct:=Pv (i+1),bk:=D.nx } σ2 H2)(hd:∀σ H,Pv n σ H->D.nx σ H) : ∃W:Nat->Nat->St->Hp->Prop,(∃m,W 0 m σ H)/\∀i m σ H,W i m σ H -> ((Itr lo n).stop i H/\D.nx σ H)\/((Itr lo n).go i H/\∃N:St->Hp->Prop,(∀σ' H',N σ' H'->∃m',m'<m/\W (i+1) m' σ' H')/\∀x H',(Itr lo n).yld i H x H'->g x σ H' fun σ2 H2=>tb { D with nx:=N,ct:=N,bk:=D.nx } σ2 H2):=by
 refine⟨fun i m σ H=>m=n-i/\i<=n/\Pv i σ H,⟨n,by simp,y0y _,h0⟩,?_⟩;rintro i m σ H ⟨rfl,hi,p⟩;by_cases hlt:i<n
 .refine .inr ⟨hlt,Pv (i+1),fun σ' H' p'=>⟨n-(i+1),by lia,rfl,hlt,p'⟩,fun x H' y=>?_⟩;obtain⟨e,y⟩:=y;subst e y;exact hs i σ _ hlt p
 .have e:i=n:=by lia
  subst e;exact .inl ⟨y0f _,hd σ H p⟩
abbrev R2:=V->V->Hp->VK->Prop
def OpR(X:Cx)(f:Value->Value->Sem Value)(r:R2):Prop :=
 ∀(pins:yyP)(s:Shared)(σ:St)(H:Hp)(x y:V)(v u:Value)(Q:VK),Inv X pins σ H s->z0Z x v->z0Z y u->r x y H Q ->
  wpAny (model X.prog X.w) X.A (f v u) (EP X pins σ Q) X.xe s
def z3j(X:Cx)(f:Value)(r:List V->Hp->VK->Prop):Prop :=
 ∀(pins:yyP)(s:Shared)(σ:St)(H:Hp)(xs:List V)(us:List Value)(Q:VK),Inv X pins σ H s->z1h xs us->r xs H Q ->
  wpAny (model X.prog X.w) X.A (call f us) (EP X pins σ Q) X.xe s
def tOp(r:R2)(ta tb:TE):TE:=fun σ H Q=>ta σ H fun x H1=>tb σ H1 fun y H2=>r x y H2 Q
def rI(C:Int->Int->Prop)(g:Int->Int->V):R2:=fun x y H Q=>∃i j,x=.int i/\y=.int j/\C i j/\Q (g i j) H
def rI0(g:Int->Int->V):R2:=fun x y H Q=>∃i j,x=.int i/\y=.int j/\Q (g i j) H
section
variable{X:Cx}{a b c:Expr}{ta tb tc:TE}{pos:Pos}
def zgV(ha:PE X a ta)(hb:PE X b tb){pins:yyP}{s:Shared}{σ:St}{H:Hp}{R:V->V->Hp->Prop}(I:Inv X pins σ H s)(h:ta σ H fun x H1=>tb σ H1 fun y H2=>R x y H2){Q:yyE}{f:Value->Value->Sem Value}(hf:∀v u s2 x y H2,Inv X pins σ H2 s2->z0Z x v->z0Z y u->R x y H2->wpAny (model X.prog X.w) X.A (f v u) Q X.xe s2) : wpAny (model X.prog X.w) X.A (eval a X.env) (fun v s₁=>wpAny (model X.prog X.w) X.A (eval b X.env) (fun u s₂=>wpAny (model X.prog X.w) X.A (f v u) Q X.xe s₂) X.xe s₁) X.xe s:=by refine z1Y (ha pins s σ H _ I h) fun v s1 x H1 I1 r1 q1=>?_;refine z1Y (hb pins s1 σ H1 _ I1 q1) fun u s2 y H2 I2 r2 q2=>?_;exact hf v u s2 x y H2 I2 r1 r2 q2
def z0S{op:Operator}{r:R2}(ho:OpR X (binaryOp op) r)(ha:PE X a ta)(hb:PE X b tb):PE X (.BinOp a op b pos) (tOp r ta tb):=by intro pins s σ H Q I h;exact wpAny_BinOp (zgV ha hb I h fun v u s2 x y H2 I2 rx ry q=>ho pins s2 σ H2 x y v u Q I2 rx ry q)
def opI{f:Value->Value->Sem Value}{C:Int->Int->Prop}{g:Int->Int->Int}(rule:∀(i j:Int)(t u:Tok)(s:Shared)(Q:yyE)(E:yyE),C i j->Q (.int (g i j) s.toks) { s with toks:=s.toks+1 }->wpAny (model X.prog X.w) X.A (f (.int i t) (.int j u)) Q E s) : OpR X f (rI C fun i j=>.int (g i j)):=by intro pins s σ H x y v u Q I rx ry h;obtain⟨i,j,rfl,rfl,hc,q⟩:=h;obtain⟨t,rfl⟩:=rx;obtain⟨t',rfl⟩:=ry;exact rule i j t t' s _ _ hc ⟨.int (g i j),H,I.tok _,⟨_,rfl⟩,q⟩
def zhA{f:Value->Value->Sem Value}{g:Int->Int->Int}(rule:∀(i j:Int)(t u:Tok)(s:Shared)(Q:yyE)(E:yyE),Q (.int (g i j) s.toks) { s with toks:=s.toks+1 }->wpAny (model X.prog X.w) X.A (f (.int i t) (.int j u)) Q E s) : OpR X f (rI0 fun i j=>.int (g i j)):=by intro pins s σ H x y v u Q I rx ry h;obtain⟨i,j,rfl,rfl,q⟩:=h;obtain⟨t,rfl⟩:=rx;obtain⟨t',rfl⟩:=ry;exact rule i j t t' s _ _ ⟨.int (g i j),H,I.tok _,⟨_,rfl⟩,q⟩
def zha{f:Value->Value->Sem Value}{g:Int->Int->Bool}(rule:∀(i j:Int)(t u:Tok)(s:Shared)(Q:yyE)(E:yyE),Q (.bool (g i j)) s->wpAny (model X.prog X.w) X.A (f (.int i t) (.int j u)) Q E s) : OpR X f (rI0 fun i j=>.bl (g i j)):=by intro pins s σ H x y v u Q I rx ry h;obtain⟨i,j,rfl,rfl,q⟩:=h;obtain⟨t,rfl⟩:=rx;obtain⟨t',rfl⟩:=ry;exact rule i j t t' s _ _ ⟨.bl (g i j),H,I,rfl,q⟩
def zif(i j:Int):Prop:=0<j/\j<1073741824
def zi1(i j:Int):Prop:=0<=j/\j<=1000000/\i.natAbs<2^64
def zgH(i j:Int):Prop:=(-(2^64)<i/\i<2^64)\/(-(2^64)<j/\j<2^64)
def zgH.ok{i j:Int}(h:zgH i j):IntMulOk i j:=by
 rcases h with⟨h1,h2⟩|⟨h1,h2⟩
 .exact .of_left (intBits_le_64 h1 h2)
 .exact .of_right (intBits_le_64 h1 h2)
def z2w:OpR X (binaryOp .Add) (rI0 fun i j=>.int (i+j)):=zhA fun _ _ _ _ _ _ _ q=>add_int q
def z7v:OpR X (binaryOp .Sub) (rI0 fun i j=>.int (i-j)):=zhA fun _ _ _ _ _ _ _ q=>sub_int q
def z5I:OpR X (binaryOp .Mult) (rI zgH fun i j=>.int (i*j)):=opI fun _ _ _ _ _ _ _ hc q=>mul_int q hc.ok
def z73:OpR X (binaryOp .FloorDiv) (rI zif fun i j=>.int (i/j)):=opI fun i j _ _ _ _ _ hc q=>by have h1:(0:Int)<j:=hc.1;have h2:j<1073741824:=hc.2;exact floordiv_int (by lia) (by rw[Int.fdiv_eq_ediv_of_nonneg i (by lia)];exact q) (.inl (PyProof.noPylong_small (by lia)))
def z2h:OpR X (binaryOp .Mod) (rI (fun _ j=>0<j) fun i j=>.int (i%j)):=opI fun i j _ _ _ _ _ hc q=>by have h1:(0:Int)<j:=hc;exact mod_int' (by lia) (by rw[Int.fmod_eq_emod_of_nonneg i (by lia)];exact q)
def zfK:OpR X (binaryOp .Pow) (rI zi1 fun i j=>.int (i^j.toNat)):=opI fun _ _ _ _ _ _ _ hc q=>pow_int_small hc.1 hc.2.1 hc.2.2 q
end
def zi5:V->V->Bool
 |.non,.non=>true|.non,.int _=>true|.int _,.non=>true|.non,.bl _=>true|.bl _,.non=>true|.non,.str _=>true|.str _,.non=>true
 |.int _,.int _=>true|.bl _,.bl _=>true|.str _,.str _=>true|.byt _,.byt _=>true
 |.int _,.str _=>true|.str _,.int _=>true|.bl _,.str _=>true|.str _,.bl _=>true
 |_,_=>false
def rEq:R2:=fun x y H Q=>zi5 x y=true/\Q (.bl (decide (x=y))) H
def zer{i j:Int}:decide (V.int i=V.int j)=(i==j):=by rw[y20];simp
def zfP{i j:Bool}:decide (V.bl i=V.bl j)=(i==j):=by rw[y20];simp
def zeU{i j:Str}:decide (V.str i=V.str j)=(i==j):=by rw[y20];simp
def zeK{i j:Array UInt8}:decide (V.byt i=V.byt j)=(i.toList==j.toList):=by rw[y20];cases i;cases j;simp
section
variable{X:Cx}{a b c:Expr}{ta tb tc:TE}{pos:Pos}
def z1X{pins:yyP}{σ:St}{H:Hp}{s:Shared}{Q:VK}{k k':Bool}(I:Inv X pins σ H s)(q:Q (.bl k) H)(e:k=k'):EP X pins σ Q (.bool k') s:=by subst e;exact⟨.bl k,H,I,rfl,q⟩
def zgM:OpR X (compareOp .Eq) rEq:=by
 intro pins s σ H x y v u Q I rx ry h;obtain⟨hs,q⟩:=h;cases x with
 |non =>
  cases rx;cases y with
  |non=>cases ry;exact PySem.EqNone.eq_none_none (z1X I q (by simp))
  |bl j=>cases ry;exact PySem.EqNone.eq_none_bool (z1X I q (by simp))
  |int j=>obtain⟨t',rfl⟩:=ry;exact PySem.EqNone.eq_none_int (z1X I q (by simp))
  |str j=>obtain⟨t',rfl⟩:=ry;exact PySem.EqNone.eq_none_str (z1X I q (by simp))
  |_=>exact absurd (show false=true from hs) y0R
 |bl i =>
  cases rx;cases y with
  |non=>cases ry;exact PySem.EqNone.eq_bool_none (z1X I q (by simp))
  |bl j=>cases ry;exact eq_bool (z1X I q zfP)
  |str j=>obtain⟨t',rfl⟩:=ry;exact PySem.EqMixed.eq_bool_str (z1X I q (by simp))
  |_=>exact absurd (show false=true from hs) y0R
 |int i =>
  obtain⟨t,rfl⟩:=rx;cases y with
  |non=>cases ry;exact PySem.EqNone.eq_int_none (z1X I q (by simp))
  |int j=>obtain⟨t',rfl⟩:=ry;exact eq_int (z1X I q zer)
  |str j=>obtain⟨t',rfl⟩:=ry;exact PySem.EqMixed.eq_int_str (z1X I q (by simp))
  |_=>exact absurd (show false=true from hs) y0R
 |str i =>
  obtain⟨t,rfl⟩:=rx;cases y with
  |non=>cases ry;exact PySem.EqNone.eq_str_none (z1X I q (by simp))
  |bl j=>cases ry;exact PySem.EqMixed.eq_str_bool (z1X I q (by simp))
  |int j=>obtain⟨t',rfl⟩:=ry;exact PySem.EqMixed.eq_str_int (z1X I q (by simp))
  |str j=>obtain⟨t',rfl⟩:=ry;exact eq_str (z1X I q zeU)
  |_=>exact absurd (show false=true from hs) y0R
 |byt i =>
  obtain⟨t,rfl⟩:=rx;cases y with
  |byt j=>obtain⟨t',rfl⟩:=ry;exact PySem.W.eq_bytes (z1X I q zeK)
  |_=>exact absurd (show false=true from hs) y0R
 |_=>cases y<;>exact absurd (show false=true from hs) y0R
def z6t:OpR X (compareOp .Lt) (rI0 fun i j=>.bl (decide (i<j))):=zha fun _ _ _ _ _ _ _ q=>lt_int q
def zaF:OpR X (compareOp .LtE) (rI0 fun i j=>.bl (decide (i<=j))):=zha fun _ _ _ _ _ _ _ q=>le_int q
def zeg:OpR X (compareOp .Gt) (rI0 fun i j=>.bl (decide (j<i))):=zha fun _ _ _ _ _ _ _ q=>gt_int q
def zfx:OpR X (compareOp .Is) (fun x y H Q=>y=.non/\Q (.bl (decide (x=.non))) H):=by
 intro pins s σ H x y v u Q I rx ry h;obtain⟨rfl,q⟩:=h;cases ry;refine is_none_gen (z1X I q ?_);cases x<;>first
  | (cases rx;rfl)
  | (obtain⟨t,rfl⟩:=rx;rfl)
def z2g(b:Expr){op:CmpOp}(h:op≠.In:=by decide)(h2:op≠.NotIn:=by decide):behindInMarks op b=false:=by
 have e1:(op==CmpOp.In)=false:=by cases op<;>first|rfl|exact absurd rfl h
 have e2:(op==CmpOp.NotIn)=false:=by cases op<;>first|rfl|exact absurd rfl h2
 cases b<;>simp[behindInMarks,e1,e2]
def zeh{op:CmpOp}{r:R2}(ho:OpR X (compareOp op) r)(ha:PE X a ta)(hb:PE X b tb)(hm:behindInMarks op b=false):PE X (.Compare a [op] [b] pos) (tOp r ta tb):=by intro pins s σ H Q I h;exact wpAny_Compare1 (zgV ha hb I h fun v u s2 x y H2 I2 rx ry q=>ho pins s2 σ H2 x y v u Q I2 rx ry q) hm
def zg8(t:TE):TT:=fun σ H Q=>t σ H fun x H'=>∃k,x=.bl k/\Q k H'
def z1n{op:CmpOp}{r:R2}(ho:OpR X (compareOp op) r)(ha:PE X a ta)(hb:PE X b tb)(hm:behindInMarks op b=false):PT X (.Compare a [op] [b] pos) (zg8 (tOp r ta tb)):=by
 intro pins s σ H Q I h;refine wpAny_isTrue_Compare1 (z1Y (ha pins s σ H _ I h) fun v s1 x H1 I1 r1 q1=>z1Y (hb pins s1 σ H1 _ I1 q1) fun u s2 y H2 I2 r2 q2 =>
  thn (ho pins s2 σ H2 x y v u _ I2 r1 r2 q2) fun c s3 ⟨z,H3,I3,r3,k,e,q3⟩=>?_) hm
 subst e;cases r3;exact y1E ⟨H3,I3,q3⟩
def zdO(r r':R2)(ta tb tc:TE):TE:=fun σ H Q=>ta σ H fun x H1=>tb σ H1 fun y H2=>r x y H2 fun z H3=>∃k,z=.bl k /\
 (if k=true then tc σ H3 fun w' H4=>r' y w' H4 Q else Q (.bl false) H3)
def zd8{op op':CmpOp}{r r':R2}(ho:OpR X (compareOp op) r)(ho':OpR X (compareOp op') r')(ha:PE X a ta)(hb:PE X b tb)(hc:PE X c tc)(hm:lastMarks [op,op'] [b,c]=false:=by with_unfolding_all rfl):PE X (.Compare a [op,op'] [b,c] pos) (zdO r r' ta tb tc):=by
 intro pins s σ H Q I h;refine Compare_chain (z1Y (ha pins s σ H _ I h) fun v s1 x H1 I1 r1 q1=>chain_link (z1Y (hb pins s1 σ H1 _ I1 q1) fun u s2 y H2 I2 r2 q2 =>
  thn (ho pins s2 σ H2 x y v u _ I2 r1 r2 q2) fun d s3 ⟨z,H3,I3,r3,k,e,q3⟩=>?_)) hm
 subst e;cases r3;refine y1E ?_;cases k with
 |false=>exact ite_ff ⟨.bl false,H3,I3,rfl,q3⟩
 |true=>exact ite_tt (chain_last (thn (hc pins s3 σ H3 _ I3 q3) fun w' s4 ⟨z',H4,I4,r4,q4⟩=>ho' pins s4 σ H4 y z' u w' Q I4 r2 r4 q4))
def z9c{op op':CmpOp}{r r':R2}(ho:OpR X (compareOp op) r)(ho':OpR X (compareOp op') r')(ha:PE X a ta)(hb:PE X b tb)(hc:PE X c tc)(hm:lastMarks [op,op'] [b,c]=false:=by with_unfolding_all rfl):PT X (.Compare a [op,op'] [b,c] pos) (zg8 (zdO r r' ta tb tc)):=by
 intro pins s σ H Q I h;refine isTrue_chain (z1Y (ha pins s σ H _ I h) fun v s1 x H1 I1 r1 q1=>test_link (z1Y (hb pins s1 σ H1 _ I1 q1) fun u s2 y H2 I2 r2 q2 =>
  thn (ho pins s2 σ H2 x y v u _ I2 r1 r2 q2) fun d s3 ⟨z,H3,I3,r3,k,e,q3⟩=>?_)) hm
 subst e;cases r3;refine y1E ?_;cases k with
 |false =>
  obtain⟨k',e',q'⟩:=q3;cases e';exact ite_ff ⟨H3,I3,q'⟩
 |true =>
  refine ite_tt (test_last (z1Y (hc pins s3 σ H3 _ I3 q3) fun w' s4 z' H4 I4 r4 q4=>z1Y (ho' pins s4 σ H4 y z' u w' _ I4 r2 r4 q4) fun d' s5 z2 H5 I5 r5 hz9=>?_));obtain⟨k2,e2,q5⟩:=hz9;subst e2;cases r5;exact y1E ⟨H5,I5,q5⟩
def z7T:(sizeLine:Nat)<2^63:=by rw[sizeLine_eq];decide
def z4r{x:V}{us:List Value}(r:z1h [x] us):∃u,us=[u]/\z0Z x u:=by
 cases r with
 |cons r1 r2=>cases r2;exact⟨_,rfl,r1⟩
def zdH{x y:V}{us:List Value}(r:z1h [x,y] us):∃u w',us=[u,w']/\z0Z x u/\z0Z y w':=by
 cases r with
 |cons r1 r2 =>
  cases r2 with
  |cons r3 r4=>cases r4;exact⟨_,_,rfl,r1,r3⟩
def zbE(hc:X.calm=true):z3j X (.builtin "min") (fun xs H Q=>∃i j,xs=[.int i,.int j]/\Q (.int (if j<i then j else i)) H):=by
 intro pins s σ H xs us Q I r h;obtain⟨i,j,rfl,q⟩:=h;obtain⟨u,w',rfl,⟨t,rfl⟩,⟨t',rfl⟩⟩:=zdH r;refine min_two_ints (I.ok.hd hc) fun h' tk k=>⟨_,H,I.kept k,?_,q⟩;by_cases hj:j<i
 .rw[if_pos hj,if_pos hj];exact⟨_,rfl⟩
 .rw[if_neg hj,if_neg hj];exact⟨_,rfl⟩
end
section
variable{prog:Program}{w:World}{A:Around}{E:yyE}{s:Shared}{K:yyF}{x dx C f:Addr}{mA:yyS}{name:Str}{v:Value}
end
def z9n.some_of{v:V}{o:Option Value}(r:z9n (some v) o):∃u,o=some u/\z0Z v u:=by
 cases o with
 |none=>exact(show False from r).elim
 |some u=>exact⟨u,rfl,r⟩
section
variable{P:Program}{w:World}{H H':Hp}{h h':Heap}{a C dx:Addr}{fs fs':List (Str × V)}
end
section
variable{X:Cx}{pins:yyP}{σ:St}{H:Hp}{s:Shared}{a C dx:Addr}{fs:List (Str × V)}{f:Str}{v:V}{A:Around}{E:yyE}
end
section
variable{X:Cx}{o e value:Expr}{f:Str}{pos pos' tpos:Pos}{ta tv:TE}
end
section
variable{X:Cx}{pins:yyP}{σ:St}{H:Hp}{s:Shared}{A:Around}{E:yyE}{Q:yyE}{c:Value}{b:Bool}
end
structure z38(k:Nat)(A:Around):Prop where
 hd:A.handled=none
 dp:A.depth+3*k+5<recursionLimit
 un:A.units+16*k+200<cLine
def z38.mono{j k:Nat}{A:Around}(r:z38 k A)(h:j<=k):z38 j A:=⟨r.hd,by have:=r.dp;lia,by have:=r.un;lia⟩
theorem z38.deeper{k:Nat}{A:Around}(r:z38 (k+1) A)(env:Env):z38 k (A.deeper env) :=
 ⟨r.hd,by have:=r.dp;show A.depth+1+3*k+5<_;lia,by have:=r.un;show A.units+3+16*k+200<_;lia⟩
theorem z38.in1{k:Nat}{A:Around}(r:z38 (k+1) A):z38 k A.in1 :=
 ⟨r.hd,by have:=r.dp;show A.depth+3*k+5<_;lia,by have:=r.un;show A.units+1+16*k+200<_;lia⟩
theorem z38.depth{k:Nat}{A:Around}(r:z38 k A):A.depth<recursionLimit:=by have:=r.dp;lia
theorem z38.units{k:Nat}{A:Around}(r:z38 k A):A.units+64<cLine:=by have:=r.un;lia
def zhL:TA:=fun _ H Q=>Q [] H
def zeP(ta:TE)(tr:TA):TA:=fun σ H Q=>ta σ H fun x H1=>tr σ H1 fun xs H2=>Q (x::xs) H2
section
variable{X:Cx}{e:Expr}{es:List Expr}{te:TE}{t:TA}{pos:Pos}
def z03:PA X [] zhL:=fun _ _ _ _ H Q I h=>Calls.spliced_nil ⟨[],H,I,.nil,h⟩
def z00(ha:PE X e te)(hr:PA X es t)(hs:starEach (e::es) X.env=(false,eval e X.env)::starEach es X.env:=by rfl):PA X (e::es) (zeP te t):=by intro pos pins s σ H Q I h;rw[hs];show wpAny _ _ (spliced ((false,eval e X.env)::backTo pos (starEach es X.env))) _ _ s;refine y2Z (z1Y (ha pins s σ H _ I h) fun u s1 x H1 I1 r1 q1=>?_);exact thn (hr pos pins s1 σ H1 _ I1 q1) fun us s2 ⟨xs,H2,I2,r2,q2⟩=>⟨x::xs,H2,I2,.cons r1 r2,q2⟩
def zi9(t:TA):TE:=fun σ H Q=>t σ H fun xs H1=>xs.length<=sizeLine/\∀p,H1 p=none->Q (.ref p) (upd H1 p (.tup xs))
def zit(t:TA):TE:=fun σ H Q=>t σ H fun xs H1=>xs.length<=sizeLine/\∀p,H1 p=none->Q (.ref p) (upd H1 p (.lst xs))
def z1Z{x1}(h:PA X es t):PE X (.Tuple es x1 pos) (zi9 t):=by intro pins s σ H Q I hq;refine wpAny_Tuple_spliced (thn (h pos pins s σ H _ I hq) fun us s1 ⟨xs,H1,I1,r,z,q⟩=>⟨by rw[<-r.length];exact z,?_⟩);have hf:H1 s1.heap.objs.size=none:=I1.hok.fresh (y0f _);refine⟨.ref s1.heap.objs.size,upd H1 s1.heap.objs.size (.tup xs),I1.laid (t':=s1.toks) (fun b u e=>y06 _ e) (y0f _) ?_,rfl,q _ hf⟩;exact⟨z,us,0,r,y0k _ rfl⟩
def z1B(h:PA X es t):PE X (.List es pos) (zit t):=by intro pins s σ H Q I hq;refine wpAny_List_spliced (thn (h pos pins s σ H _ I hq) fun us s1 ⟨xs,H1,I1,r,z,q⟩=>⟨by rw[<-r.length];exact z,?_⟩);have hf:H1 s1.heap.objs.size=none:=I1.hok.fresh (y0f _);refine⟨.ref s1.heap.objs.size,upd H1 s1.heap.objs.size (.lst xs),I1.laid (t':=s1.toks) (fun b u e=>y06 _ e) (y0f _) ?_,rfl,q _ hf⟩;exact⟨z,us,0,r,y0k _ rfl⟩
end
abbrev Sp:=List V->Hp->VK->XK->Prop
abbrev CXT:=List Env->Hp->Shared->XK->yyE
structure zaz(P:Program)(w:World)(K:yyF)(mg:yyS)(base:Heap)(A:Around)(outer:List Env)(s:Shared)(H:Hp):Prop where
 frames:A.frames=some outer
 mod:Mod K mg base
 bs:∀b o,base.get? b=some o->s.heap.get? b=some o/\H b=none
 bsz:base.objs.size<=s.heap.objs.size
 funs:s.heap.FunFrames base outer
 frf:∀b∈frs outer,H b=none
 hok:HOk P w H s.heap
 bare:AllBare s.gens
def CE(outer:List Env)(P:Program)(w:World)(H:Hp)(s:Shared)(Q:VK)(u:Value)(s':Shared):Prop :=
 ∃v H',s'.os=s.os/\AllBare s'.gens/\Un (frs outer) [] H H' s.heap s'.heap/\HOk P w H' s'.heap/\z0Z v u/\Q v H'
def CR(CX:CXT)(outer:List Env)(P:Program)(w:World)(H:Hp)(s:Shared)(Q:VK)(E:XK)(r:Result)(s':Shared):Prop :=
 match r with
 |.ok (.ret u)=>CE outer P w H s Q u s'
 |.ok _=>False
 |.error e=>CX outer H s E e s'
structure z0C(P:Program)(w:World)(K:yyF)(mg:yyS)(base:Heap)(CX:CXT)(k:Nat)(f:Addr)(fd:FuncData)(ps:List Str)(sp:Sp):Prop where
 len:∀vs H Q E,sp vs H Q E->vs.length=ps.length
 run:∀(A:Around)(outer:List Env)(s:Shared)(H:Hp)(args:Args)(us:List Value)(vs:List V)(Q:VK)(E:XK),z38 k A->zaz P w K mg base A outer s H->BindsTo s fd args (ps.zip us)->z1h vs us->sp vs H Q E ->
  codeAny (model P w) A (.call (.ref f) args) (CR CX outer P w H s Q E) s
theorem z0C.mono{P:Program}{w:World}{K:yyF}{mg:yyS}{base:Heap}{CX:CXT}{j k:Nat}{f:Addr}{fd:FuncData}{ps:List Str}{sp:Sp}(F:z0C P w K mg base CX j f fd ps sp)(h:j<=k) : z0C P w K mg base CX k f fd ps sp:=⟨F.len,fun A outer s H args us vs Q E hr=>F.run A outer s H args us vs Q E (hr.mono h)⟩
theorem zaz.in1{P:Program}{w:World}{K:yyF}{mg:yyS}{base:Heap}{A:Around}{outer:List Env}{s:Shared}{H:Hp}(e:zaz P w K mg base A outer s H) : zaz P w K mg base A.in1 outer s H:=⟨e.frames,e.mod,e.bs,e.bsz,e.funs,e.frf,e.hok,e.bare⟩
section
variable{X:Cx}{pins:yyP}{σ:St}{H:Hp}{s s':Shared}
def Inv.env0(I:Inv X pins σ H s):zaz X.prog X.w X.K X.mg X.base X.A X.stack s H :=
 ⟨I.ok.frames,I.ok.mod,I.bs,y0r I.ok.bsz I.sz,I.stack,I.stkFree,I.hok,I.bare⟩
def Inv.after{Q:VK}{u:Value}(I:Inv X pins σ H s)(h:CE X.stack X.prog X.w H s Q u s'):EP X pins σ Q u s':=by obtain⟨v,H',os,bare,un,hok,r,q⟩:=h;obtain⟨hh,g,d,t,os'⟩:=s';obtain rfl:os'=s.os:=os;exact⟨v,H',I.call (h':=hh) (g':=g) (d':=d) (t':=t) (ch:=[]) un hok bare (fun b z=>absurd z (by simp)),r,q⟩
end
def zhl(sp:Sp)(dvs:List V)(E:XK)(t:TA):TE:=fun σ H Q=>t σ H fun vs H1=>sp (vs++dvs) H1 Q E
def z0t(K:yyF)(fd:FuncData)(ps:List Str)(ds:List Value):Prop :=
 ∀(s:Shared)(us:List Value),K.In s.heap->(us++ds).length=ps.length->BindsTo s fd ⟨us,[]⟩ (ps.zip (us++ds))
def z0t.all{K:yyF}{fd:FuncData}{ps:List Str}(h:∀us:List Value,us.length=ps.length->bindArgs fd ⟨us,[]⟩=pure (ps.zip us)):z0t K fd ps []:=fun s us _ hl=>by rw[y1p]at hl⊢;exact .of_eq (h us hl)
def z5l(CX:CXT)(X:Cx)(E:XK):Prop:=∀(pins:yyP)(σ:St)(H:Hp)(s:Shared)(e:Value)(s':Shared),Inv X pins σ H s->CX X.stack H s E e s'->X.xe e s'
section
variable{X:Cx}{CX:CXT}{k:Nat}{f C:Addr}{fd:FuncData}{ps:List Str}{sp:Sp}{dvs:List V}{ds:List Value}{E:XK}{x m:Str}{p pos apos:Pos}{e o:Expr}{es:List Expr}{ta:TE}{t:TA}
def zgn{pins:yyP}{σ:St}{H:Hp}{s:Shared}{Q:VK}{us:List Value}{vs:List V}(F:z0C X.prog X.w X.K X.mg X.base CX k f fd ps sp)(hr:z38 k X.A)(hb:z0t X.K fd ps ds)(hd:z1h dvs ds)(hx:z5l CX X E)(I:Inv X pins σ H s)(r:z1h vs us)(h:sp (vs++dvs) H Q E):wpAny (model X.prog X.w) X.A (call (.ref f) us) (EP X pins σ Q) X.xe s:=by
 have r2:z1h (vs++dvs) (us++ds):=r.append hd;have hl:(us++ds).length=ps.length:=by rw[<-r2.length];exact F.len _ _ _ _ h
 refine wpAny_call (y2V (F.run X.A X.stack s H ⟨us,[]⟩ (us++ds) (vs++dvs) Q E hr I.env0 (hb s us I.kIn hl) r2 h) fun r s' hq=>?_);cases r with
 |error e=>exact hx pins σ H s e s' I hq
 |ok fl =>
  cases fl with
  |ret u=>exact I.after hq
  |next=>exact False.elim hq
  |brk=>exact False.elim hq
  |cont=>exact False.elim hq
def z0j(F:z0C X.prog X.w X.K X.mg X.base CX k f fd ps sp)(hr:z38 k X.A)(hg:Gl X x)(hm:X.mg x=some (.ref f))(hk:PySem.W.keepIn X.K (.ref f)=true)(hb:z0t X.K fd ps ds)(hd:z1h dvs ds)(hx:z5l CX X E)(ha:PA X (e::es) t)(hdb:(x==("__debug__":Str))=false:=by decide)(he:starEach (e::es) X.env=(false,eval e X.env)::starEach es X.env:=by rfl)(hpl:(backTo pos (starEach es X.env)).any (·.1)=false:=by rfl) : PE X (.Call (.Name x p) (e::es) [] pos) (zhl sp dvs E t):=by intro pins s σ H Q I h;refine y29 (z5b I hg hm ?_ hdb);refine PySem.W.callWith_K (h₀:=X.base) I.ok.mod.kin hk (thn (ha pos pins s σ H _ I h) fun us s1 ⟨vs,H1,I1,r,q⟩=>⟨I1.kIn,?_⟩) he hpl;exact zgn F hr hb hd hx I1 r q
end
section
variable{X:Cx}{CX:CXT}{k:Nat}{f C:Addr}{fd:FuncData}{ps ks:List Str}{sp:Sp}{E:XK}{x m:Str}{p pos apos kpos:Pos}{e o:Expr}{es:List Expr}{kws:List Keyword}{te ta:TE}{t tk:TA}{nm:Option Str}
variable{g:List Value->List Value->List Value}{gV:List V->List V->List V}
end
structure z0q(N P:List Str)(sc:Scope):Prop where
 kind:sc.kind=.function:=by rfl
 co:sc.isCoroutine=false:=by rfl
 gen:sc.isGenerator=false:=by rfl
 nd:N.Nodup:=by decide +kernel
 pre:N.take P.length=P:=by rfl
 par:∀x∈P,sc.names.lookup x=some .local\/sc.names.lookup x=some .cell:=by decide +kernel
 nofree:∀y∈sc.names,y.2≠.free:=by decide +kernel
theorem z7J{kindOf:Str->Option NameKind}{x:Str}:∀{binds:List (Str × Value)}{m:yyS},(∀v,(x,v)∉binds)->bindL kindOf binds m x=m x
 |[],_,_=>rfl
 | (n,v)::r,m,h=>by
  unfold bindL;rw[z7J fun w hw=>h w (y09 _ hw)];split
  .have:x≠n:=by rintro rfl;exact h v y0m
   simp[this]
  .rfl
theorem z7B{kindOf:Str->Option NameKind}{x:Str}:∀{binds:List (Str × Value)}{m:yyS},(∀v,(x,v)∉binds)->bindC kindOf binds m x=m x
 |[],_,_=>rfl
 | (n,v)::r,m,h=>by
  unfold bindC;rw[z7B fun w hw=>h w (y09 _ hw)];split
  .rfl
  .have:x≠n:=by rintro rfl;exact h v y0m
   simp[this]
theorem z88{kindOf:Str->Option NameKind}{x:Str}{v:Value}:∀{P:List Str}{vs:List Value}{i:Nat}{m:yyS},P.Nodup->P[i]?=some x->vs[i]?=some v->kindOf x=some .local ->
  bindL kindOf (P.zip vs) m x=some v
 |[],_,_,_,_,h,_,_=>by simp at h
 |_::_,[],_,_,_,_,h,_=>by simp at h
 |p::P,w::vs,0,m,nd,h1,h2,hk=>by
  simp at h1 h2;subst h1;subst h2;show bindL kindOf ((p,w)::P.zip vs) m p=_;unfold bindL;rw[z7J fun v hv=>(y1y.mp nd).1 (y2C hv).1,if_pos hk];simp
 |p::P,w::vs,i+1,m,nd,h1,h2,hk=>by show bindL kindOf ((p,w)::P.zip vs) m x=_;unfold bindL;exact z88 (i:=i) (y1y.mp nd).2 (by simpa using h1) (by simpa using h2) hk
theorem z7x{kindOf:Str->Option NameKind}{x:Str}{v:Value}:∀{P:List Str}{vs:List Value}{i:Nat}{m:yyS},P.Nodup->P[i]?=some x->vs[i]?=some v->kindOf x≠some .local ->
  bindC kindOf (P.zip vs) m x=some v
 |[],_,_,_,_,h,_,_=>by simp at h
 |_::_,[],_,_,_,_,h,_=>by simp at h
 |p::P,w::vs,0,m,nd,h1,h2,hk=>by
  simp at h1 h2;subst h1;subst h2;show bindC kindOf ((p,w)::P.zip vs) m p=_;unfold bindC;rw[z7B fun v hv=>(y1y.mp nd).1 (y2C hv).1,if_neg hk];simp
 |p::P,w::vs,i+1,m,nd,h1,h2,hk=>by show bindC kindOf ((p,w)::P.zip vs) m x=_;unfold bindC;exact z7x (i:=i) (y1y.mp nd).2 (by simpa using h1) (by simpa using h2) hk
def z5z(N:List Str)(vs:List V):St:=vs.map some++List.replicate (N.length-vs.length) none
def z7e(CX:CXT)(P:Program)(w:World)(K:yyF)(mg:yyS)(base:Heap)(N:List Str)(qual:Str)(scope:Scope)(f:Addr)(cd:Value)(A:Around)(outer:List Env)(s:Shared)(H:Hp)(E:XK):Cx where
 prog:=P
 w:=w
 K:=K
 mg:=mg
 base:=base
 A:=A.deeper (envOfC qual scope s.heap.objs.size f cd)
 N:=N
 s₀:=s
 H₀:=H
 env:=envOfC qual scope s.heap.objs.size f cd
 outer:=outer
 stack:=envOfC qual scope s.heap.objs.size f cd::outer
 ex:=[]
 calm:=true
 fn:=fun _=>true
 pn:=[]
 xe:=fun e s'=>wpAny (model P w) (A.deeper (envOfC qual scope s.heap.objs.size f cd)) (leaving (envOfC qual scope s.heap.objs.size f cd) e) (fun _ s''=>CX outer H s E e s'') (fun e' s''=>CX outer H s E e' s'') s'
def z9o{sc:Scope}{n:Nat}{x:Str}(h:sc.names.lookup x=some .cell):∃c,(cellsFrom n sc.names []).lookup x=some c:=by have q:=PySem.W.cellsFrom_some sc.names n [] (.inl h);exact Option.isSome_iff_exists.mp q
def zbg{CX:CXT}{P:Program}{w:World}{K:yyF}{mg:yyS}{base:Heap}{N ps:List Str}{qual:Str}{scope:Scope}{f:Addr}{cd:Value}{A:Around}{outer:List Env}{s s1:Shared}{H:Hp}{E:XK}{us:List Value}{vs:List V}(S:z0q N ps scope)(hd:A.handled=none)(e0:zaz P w K mg base A outer s H)(hl:vs.length=ps.length)(r:z1h vs us)(x:InCallC s s.heap.objs.size (bindL (envOfC qual scope s.heap.objs.size f cd).kindOf (ps.zip us) fun _=>none) (cellsFrom (s.heap.objs.size+1) scope.names []) (bindC (envOfC qual scope s.heap.objs.size f cd).kindOf (ps.zip us) fun _=>none) s1) : Inv (z7e CX P w K mg base N qual scope f cd A outer s H E) [] (z5z N vs) H s1:=by
 have hpl:ps.length<=N.length:=by have:=y28 List.length S.pre;rw[y0s]at this;lia
 obtain⟨h1,tk,rfl,hk⟩:=x.done;have noA:∀b:Addr,b∉(z7e CX P w K mg base N qual scope f cd A outer s H E).ex:=fun b z=>absurd (show b∈([]:List Addr)from z) (by simp);refine⟨⟨e0.mod,S.kind,rfl,rfl,y0f _,fun y z c h1 h2=>?_,fun y hy=>?_,fun y c _ h=>?_,fun _=>hd,Around.frames_deeper e0.frames,.inr ⟨rfl,rfl⟩,fun b z=>absurd z (noA b),e0.bs,e0.bsz,fun b _ _=>noA b,fun b z=>absurd z (noA b),e0.funs,e0.frf⟩,
  rfl,e0.bare,Un.kept hk,⟨_,x.toInCall.ns,fun i y v h1 h2 h3=>?_⟩,fun y c h=>⟨_,x.cell y c h⟩,e0.hok.fresh (y0f _),fun y c h=>?_,fun p hp=>absurd (show p∈([]:yyP)from hp) (by simp),e0.hok.kept hk,?_⟩
 .exact name_of_addr x.apart (y15 h1) (y15 h2)
 .have hy:scope.names.lookup y=some .cell\/scope.names.lookup y=some .free:=hy;rcases hy with hy|hy
  .exact z9o hy
  .exact absurd rfl (S.nofree _ (y15 hy))
 .exact y27 (x.above y c (y15 h))
 .have hi:i<vs.length:=by
   unfold z5z at h2;by_cases hi:i<vs.length
   .exact hi
   .rw[y13 (by simpa using hi)]at h2;rw[y30]at h2;split at h2<;>cases h2
  have ha:vs[i]?=some v:=by
   unfold z5z at h2;rw[y11 (by simpa using hi),y04]at h2;cases e:vs[i]? with
   |none=>rw[e]at h2;cases h2
   |some a=>rw[e]at h2;cases h2;rfl
  obtain⟨u,hu,rv⟩:=r.get ha;have hp:ps[i]?=some y:=by rw[<-S.pre,y1Q (by lia)];exact h1
  have ndP:ps.Nodup:=by rw[<-S.pre];exact S.nd.sublist (y1F _ _)
  refine⟨u,rv,?_⟩;rcases S.par y (y0z hp)with k|k
  .exact .inl ⟨k,z88 ndP hp hu k⟩
  .obtain⟨c,e⟩:=z9o (n:=s.heap.objs.size+1) k;refine .inr ⟨.inl k,c,e,?_⟩;have q:=x.cell y c e;rw[z7x ndP hp hu (by show scope.names.lookup y≠_;rw[k];decide)]at q;exact q
 .exact e0.hok.fresh (y27 (x.above y c (y15 h)))
 .unfold z5z;show _=N.length;rw[y0a,y01,y2D];lia
def zf2{CX:CXT}{P:Program}{w:World}{K:yyF}{mg:yyS}{base:Heap}{k:Nat}{f:Addr}{name qual:Str}{params:Arguments}{body:List Stmt}{scope:Scope}{dV kV doc pm cdv ct oc:Value}{an od:Option Addr}{osl:Array (Option Value)}{N ps:List Str}{sp:Sp}(lk:K.lookup f=some ⟨oc,od,.func (PySem.W.fnOf name qual params body scope dV kV doc pm an cdv ct),osl⟩)(hcd:PySem.W.codeIn K cdv qual=true)(S:z0q N ps scope)(len:∀vs H Q E,sp vs H Q E->vs.length=ps.length)(hbody:∀(A:Around)(outer:List Env)(s:Shared)(H:Hp)(vs:List V)(Q:VK)(E:XK),z38 k (A.deeper (envOfC qual scope s.heap.objs.size f cdv))->sp vs H Q E -> ∃t,PSs (z7e CX P w K mg base N qual scope f cdv A outer s H E) body t/\t { nx:=fun _ H'=>Q .non H',rt:=Q } (z5z N vs) H) : z0C P w K mg base CX (k+1) f (PySem.W.fnOf name qual params body scope dV kV doc pm an cdv ct) ps sp:=by
 refine⟨len,fun A outer s H args us vs Q E hr e0 hb r hsp=>?_⟩;have hl:=len _ _ _ _ hsp;have KX:K.In s.heap:=e0.mod.kin.keeps fun b o e=>(e0.bs b o e).1;have lim:s.heap.NoLimit:=e0.mod.nolimit.keeps fun b o e=>(e0.bs b o e).1;have hkind:∀y∈ps.zip us,scope.names.lookup y.1=some .local\/(scope.names.lookup y.1=some .cell/\((cellsFrom (s.heap.objs.size+1) scope.names []).lookup y.1).isSome=true):=fun⟨n,v⟩ hy=>by
  rcases S.par n (y2C hy).1 with q|q
  .exact .inl q
  .exact .inr ⟨q,PySem.W.cellsFrom_some _ _ _ (.inl q)⟩
 refine codeAny_call_function hr.depth (KX _ _ lk) rfl S.co S.gen rfl (PySem.W.codeRec_of KX hcd) (hb _ _ _ _ ?_);refine wpAny_newFunctionEnv_cells S.kind hkind fun env he s1 x=>?_;subst he;refine⟨lim.keeps x.toInCall.keep,codeAny_func ?_⟩;obtain⟨t,ht,hq⟩:=hbody A outer s H vs Q E (hr.deeper _) hsp;have I:Inv (z7e CX P w K mg base N qual scope f cdv A outer s H E) [] (z5z N vs) H s1:=zbg S hr.hd e0 hl r x;refine y0Y (ht [] s1 (z5z N vs) H _ I hq) (fun fl s' hs=>?_) fun e s' hs=>hs;have fin:∀{σ':St}{H':Hp}{v:V}{u:Value},Inv (z7e CX P w K mg base N qual scope f cdv A outer s H E) [] σ' H' s'->z0Z v u->Q v H'->CE outer P w H s Q u s' :=
  fun{σ' H' v u} J rv q=>⟨v,H',J.os,J.bare,J.base,J.hok,rv,q⟩
 cases fl with
 |ret u =>
  obtain⟨v,σ',H',J,rv,q⟩:=hs;exact fin J rv q
 |next =>
  obtain⟨σ',H',J,q⟩:=hs;exact fin (v:=V.non) (u:=Value.none) J rfl q
 |brk =>
  obtain⟨_,_,_,q⟩:=hs;exact False.elim q
 |cont =>
  obtain⟨_,_,_,q⟩:=hs;exact False.elim q
section
variable{X:Cx}{x:Str}{p pos:Pos}{e:Expr}{es:List Expr}{t:TA}{id T:String}{r:List V->Hp->VK->Prop}
def tCB(r:List V->Hp->VK->Prop)(t:TA):TE:=fun σ H Q=>t σ H fun vs H1=>r vs H1 Q
def z0n(hc:z3j X (.builtin id) r)(hg:Gl X x)(hm:X.mg x=none)(hv:bootBuiltins x=some (.builtin id))(ha:PA X (e::es) t)(hn:x≠"__name__":=by decide)(hdb:(x==("__debug__":Str))=false:=by decide)(he:starEach (e::es) X.env=(false,eval e X.env)::starEach es X.env:=by rfl)(hpl:(backTo pos (starEach es X.env)).any (·.1)=false:=by rfl):PE X (.Call (.Name x p) (e::es) [] pos) (tCB r t):=by intro pins s σ H Q I h;refine y29 (z4Z I hg hm hv ?_ hn hdb);exact PyProof.Rows.callWith_builtin1 (thn (ha pos pins s σ H _ I h) fun us s1 ⟨vs,H1,I1,r1,q1⟩=>hc pins s1 σ H1 vs us Q I1 r1 q1) he hpl
def z0B(hc:z3j X (.type T) r)(hg:Gl X x)(hm:X.mg x=none)(hv:bootBuiltins x=some (.type T))(ha:PA X (e::es) t)(hn:x≠"__name__":=by decide)(hdb:(x==("__debug__":Str))=false:=by decide)(he:starEach (e::es) X.env=(false,eval e X.env)::starEach es X.env:=by rfl)(hpl:(backTo pos (starEach es X.env)).any (·.1)=false:=by rfl):PE X (.Call (.Name x p) (e::es) [] pos) (tCB r t):=by intro pins s σ H Q I h;refine y29 (z4Z I hg hm hv ?_ hn hdb);exact y1C (thn (ha pos pins s σ H _ I h) fun us s1 ⟨vs,H1,I1,r1,q1⟩=>hc pins s1 σ H1 vs us Q I1 r1 q1) he hpl
end
end L2
namespace HT
open PySem PyProof.Rows
section
open PySem.SeqAt
open PySem.AutoSeq1 (wpAny_loadPart')
open PySem.MeetsSeq PySem.MeetsSeq2 PySem.MeetsSeq3
end
section
variable{prog:Program}{w:World}{A:Around}{E:yyE}{s:Shared}
def sIx(n d:Nat):Option Int->Nat
 |none=>d
 |some v=>if v<0 then(v+(n:Int)).toNat else min v.toNat n
def sIx_nat(n d k:Nat):sIx n d (some (k:Int))=min k n:=by show(if(k:Int)<0 then((k:Int)+(n:Int)).toNat else min (k:Int).toNat n)=min k n;rw[if_neg (by lia),y0E]
end
end HT
namespace L2
open PySem PySem.Spec PyProof.Rows
abbrev TO:=St->Hp->(Option Int->Hp->Prop)->Prop
def PO(X:Cx)(e:Option Expr)(t:TO):Prop :=
 ∀(pins:yyP)(s:Shared)(σ:St)(H:Hp)(Q:Option Int->Hp->Prop),Inv X pins σ H s->t σ H Q ->
  wpAny (model X.prog X.w) X.A (evalPart e X.env) (fun u s'=>∃o H',Inv X pins σ H' s'/\IsPart u o/\Q o H') X.xe s
def zhj(t:TE):TO:=fun σ H Q=>t σ H fun x H1=>∃i,x=.int i/\Q (some i) H1
section
variable{X:Cx}{e:Expr}{te:TE}{lo hi:Option Expr}{tl th:TO}{pos p2:Pos}
def zc5(h:PE X e te):PO X (some e) (zhj te):=by intro pins s σ H Q I hw;rw[evalPart_some];refine z1Y (h pins s σ H _ I hw) fun u s1 x H1 I1 r1 q1=>?_;obtain⟨i,rfl,q⟩:=q1;obtain⟨t,rfl⟩:=r1;exact⟨some i,H1,I1,.int i t,q⟩
def SlR(X:Cx)(r:V->Option Int->Option Int->Hp->VK->Prop):Prop :=
 ∀(pins:yyP)(s:Shared)(σ:St)(H:Hp)(x:V)(v vl vu:Value)(lo hi:Option Int)(sl:Addr)(Q:VK),Inv X pins σ H s->z0Z x v->s.heap.IsSliceOf sl vl vu .none->IsPart vl lo->IsPart vu hi->r x lo hi H Q ->
  ∃T id,typeLookup (.type T) "__getitem__"=pure (some (.builtin id))/\s.TypeIs v T/\wpAny (model X.prog X.w) X.A (getItem v (.ref sl)) (EP X pins σ Q) X.xe s
def tSl(r:V->Option Int->Option Int->Hp->VK->Prop)(te:TE)(tl th:TO):TE:=fun σ H Q=>te σ H fun x H1=>tl σ H1 fun l H2=>th σ H2 fun u H3=>r x l u H3 Q
def zdd{r:V->Option Int->Option Int->Hp->VK->Prop}(hr:SlR X r)(he:PE X e te)(hl:PO X lo tl)(hu:PO X hi th):PE X (.Subscript e (.Slice lo hi none p2) pos) (tSl r te tl th):=by intro pins s σ H Q I h;refine Subscript_ (z1Y (he pins s σ H _ I h) fun v s1 x H1 I1 r1 q1=>?_);refine wpAny_Slice (thn (hl pins s1 σ H1 _ I1 q1) fun vl s2 ⟨l,H2,I2,pl,q2⟩=>thn (hu pins s2 σ H2 _ I2 q2) fun vu s3 hz8=>?_);obtain⟨u,H3,I3,pu,q3⟩:=hz8;rw[evalPart_none];refine y0g ?_;have I4:Inv X pins σ H3 { s3 with heap:=s3.heap.push { cls:=.type "slice",data:=.fields #[vl,vu,.none] } }:=I3.kept (t':=s3.toks) fun b ob q=>y06 _ q;obtain⟨T,id,hT,ht,hg⟩:=hr pins { s3 with heap:=s3.heap.push { cls:=.type "slice",data:=.fields #[vl,vu,.none] } } σ H3 x v vl vu l u s3.heap.objs.size Q I4 r1 (Heap.IsSliceOf.new ..) pl pu q3;show wpAny (model X.prog X.w) X.A (subscriptTail e (.Slice lo hi none p2) v (.ref s3.heap.objs.size)) (EP X pins σ Q) X.xe { s3 with heap:=s3.heap.push { cls:=.type "slice",data:=.fields #[vl,vu,.none] } };exact tail_any (ops:=[.ref s3.heap.objs.size,v]) ht hT hg (by with_unfolding_all rfl)
def zfr(xs:List V)(lo hi:Option Int):List V:=(xs.drop (HT.sIx xs.length 0 lo)).take (HT.sIx xs.length xs.length hi-HT.sIx xs.length 0 lo)
def z8Y(xs:List V)(lo hi:Option Int):(zfr xs lo hi).length<=xs.length:=by unfold zfr;rw[y0s,y3r];lia
end
def ixN(n:Nat)(i:Int):Option Nat:=if 0<=i then(if i<n then some i.toNat else none)else if -(n:Int)<=i then some (i+n).toNat else none
def atI{α:Type}(xs:List α)(i:Int):Option α:=(ixN xs.length i).bind fun j=>xs[j]?
def zbn{n:Nat}{i:Int}{j:Nat}(h:ixN n i=some j):seqIndex? i n=some j/\j<n/\-(n:Int)<=i/\i<n:=by
 unfold ixN at h;by_cases h0:0<=i
 .rw[if_pos h0]at h;by_cases h1:i<n
  .rw[if_pos h1]at h;have e:i.toNat=j:=y07 h;exact⟨by rw[seqIndex_of h0 h1,e],by lia,by lia,h1⟩
  .rw[if_neg h1]at h;cases h
 .rw[if_neg h0]at h;by_cases h1:-(n:Int)<=i
  .rw[if_pos h1]at h;have e:(i+n).toNat=j:=y07 h;exact⟨by rw[seqIndex_neg (by lia) h1,e],by lia,h1,by lia⟩
  .rw[if_neg h1]at h;cases h
def zc7{α:Type}{xs:List α}{i:Int}{v:α}(h:atI xs i=some v):∃j,seqIndex? i xs.length=some j/\xs[j]?=some v/\j<xs.length/\-(xs.length:Int)<=i/\i<xs.length:=by
 unfold atI at h;cases e:ixN xs.length i with
 |none=>rw[e]at h;cases h
 |some j =>
  rw[e]at h;obtain⟨h1,h2,h3,h4⟩:=zbn e;exact⟨j,h1,h,h2,h3,h4⟩
def z0L{α:Type}{xs:List α}{j:Nat}{v:α}(h:xs[j]?=some v):atI xs (j:Int)=some v:=by
 have hj:j<xs.length:=(y05.mp h).1;have e:ixN xs.length (j:Int)=some j:=by unfold ixN;rw[if_pos (by lia),if_pos (by lia)];simp
 unfold atI;rw[e];exact h
def zeO(b:Expr):Prop:=∀o i,subscripted b false o i=operate [o,i] (getItem o i)
def IxR(X:Cx)(r:R2):Prop :=
 ∀(value slice:Expr)(pins:yyP)(s:Shared)(σ:St)(H:Hp)(x y:V)(v u:Value)(Q:VK),Inv X pins σ H s->z0Z x v->z0Z y u->r x y H Q ->
  subscripted slice false v u=operate [v,u] (getItem v u)->wpAny (model X.prog X.w) X.A (subscriptTail value slice v u) (EP X pins σ Q) X.xe s
def MtR(X:Cx)(id:String)(r:V->List V->Hp->VK->Prop):Prop :=
 ∀(pins:yyP)(s:Shared)(σ:St)(H:Hp)(x:V)(xs:List V)(v:Value)(us:List Value)(Q:VK),Inv X pins σ H s->z0Z x v->z1h xs us->r x xs H Q ->
  wpAny (model X.prog X.w) X.A (call (.builtin id) (v::us)) (EP X pins σ Q) X.xe s
section
variable{X:Cx}{a b:Expr}{ta tb:TE}{pos:Pos}
def z1c{r:R2}(hr:IxR X r)(ha:PE X a ta)(hb:PE X b tb)(hs:zeO b):PE X (.Subscript a b pos) (tOp r ta tb):=by intro pins s σ H Q I h;exact Subscript_ (zgV ha hb I h fun v u s2 x y H2 I2 rx ry q=>hr a b pins s2 σ H2 x y v u Q I2 rx ry q (hs _ _))
def zhC(K:yyF):R2:=fun x y H Q=>∃p xs i v,x=.ref p/\y=.int i/\SqL K H p xs/\atI xs i=some v/\Q v H
def zhP(K:yyF):R2:=fun x y H Q=>∃p xs i v,x=.ref p/\y=.int i/\SqT K H p xs/\atI xs i=some v/\Q v H
def z1U:IxR X (zhC X.K):=by
 intro value slice pins s σ H x y v u Q I rx ry h hs;obtain⟨p,xs,i,z,rfl,rfl,hq,he,q⟩:=h;cases rx;obtain⟨t,rfl⟩:=ry;obtain⟨its,r,pl,hz⟩:=I.list hq;obtain⟨j,h1,h2,h3,h4,h5⟩:=zc7 he;obtain⟨w,ew,rw'⟩:=r.get h2;have hl:=r.length;have hn:=z7T;have fin:EP X pins σ Q w s:=⟨z,H,I,rw',q⟩;by_cases h0:0<=i
 .have hj:i.toNat=j:=by
   rw[seqIndex_of h0 h5]at h1;exact y07 h1
  exact item_listR pl.isList h0 (by lia) (by rw[hj];simpa using ew) fin hs
 .have hj:(i+(its.toArray.size:Int)).toNat=j:=by
   rw[seqIndex_neg (by lia) h4]at h1;rw[y0D,<-hl];exact y07 h1
  exact subscriptTail_builtinR (x:=w) pl.isList.typeIs slot_list_getitem.lookup
   (wpAny_getItem_list_neg (Q:=fun r s'=>r=w/\EP X pins σ Q r s') pl.isList (by lia) (by rw[y0D]<;>lia) (by lia) (by rw[hj];simpa using ew) ⟨rfl,fin⟩) hs
def z24:IxR X (zhP X.K):=by
 intro value slice pins s σ H x y v u Q I rx ry h hs;obtain⟨p,xs,i,z,rfl,rfl,hq,he,q⟩:=h;cases rx;obtain⟨t,rfl⟩:=ry;obtain⟨its,r,pl,hz⟩:=I.tuple hq;obtain⟨j,h1,h2,h3,h4,h5⟩:=zc7 he;obtain⟨w,ew,rw'⟩:=r.get h2;have hl:=r.length;have hn:=z7T;have fin:EP X pins σ Q w s:=⟨z,H,I,rw',q⟩;exact subscriptTail_builtinR (x:=w) pl.typeIs slot_tuple_getitem.lookup
  (getItem_tuple (j:=j) (Q:=fun r s'=>r=w/\EP X pins σ Q r s') pl (by lia) (by lia) (by rw[y0D,<-hl];exact h1) (by simpa using ew) ⟨rfl,fin⟩) hs
def za5(its:List Value)(n j:Nat)(u:Value):Obj.mapSeq (·.setIfInBounds j u) { cls:=.type "list",data:=.seq its.toArray n }={ cls:=.type "list",data:=.seq (its.set j u).toArray n }:=by simp[Obj.mapSeq]
theorem Inv.lst{pins:yyP}{σ:St}{H:Hp}{s:Shared}{p:Addr}{xs:List V}(I:Inv X pins σ H s)(h:H p=some (.lst xs)) : ∃(its:List Value) (n:Nat),z1h xs its/\s.heap.get? p=some { cls:=.type "list",data:=.seq its.toArray n }/\xs.length<=sizeLine:=by obtain⟨z,its,n,r,e⟩:=I.hok p _ h;exact⟨its,n,r,e,z⟩
def Inv.lstUpd{pins:yyP}{σ:St}{H:Hp}{s:Shared}{p:Addr}{xs ys:List V}{its its':List Value}{n n':Nat}{f:Obj->Obj}(I:Inv X pins σ H s)(h:H p=some (.lst xs))(ho:s.heap.get? p=some { cls:=.type "list",data:=.seq its.toArray n })(hf:f { cls:=.type "list",data:=.seq its.toArray n }={ cls:=.type "list",data:=.seq its'.toArray n' })(r:z1h ys its')(hz:ys.length<=sizeLine)(t:Nat) : Inv X pins σ (upd H p (.lst ys)) { s with heap:=s.heap.update p f,toks:=t }:=by
 have e:(s.heap.update p f).get? p=some { cls:=.type "list",data:=.seq its'.toArray n' }:=by rw[y3l f ho (by rw[hf]<;>rfl),hf]
 refine I.write (x:=p) (e:=p) (by rw[h];trivial) (.inl rfl) (fun b u hb q=>(Heap.get?_update_other _ _ (y1k hb)).trans q) ⟨_,e⟩ ?_;exact⟨hz,its',n',r,e⟩
def zh8:V->V->V->Hp->(Hp->Prop)->Prop:=fun o i v H Q=>∃p xs k j,o=.ref p/\i=.int k/\H p=some (.lst xs)/\ixN xs.length k=some j/\Q (upd H p (.lst (xs.set j v)))
def zdB:zhH X zh8:=by
 intro pins s σ H o i v ov iv u Q I ro ri rv h;obtain⟨p,xs,k,j,rfl,rfl,hp,hj,q⟩:=h;cases ro;obtain⟨t,rfl⟩:=ri;obtain⟨its,n,r,ho,hz⟩:=I.lst hp;obtain⟨h1,h2,h3,h4⟩:=zbn hj;have hl:=r.length;have hn:=z7T;have I':Inv X pins σ (upd H p (.lst (xs.set j v))) { s with heap:=s.heap.update p (Obj.mapSeq (·.setIfInBounds j u)) } :=
  I.lstUpd hp ho (za5 its n j u) (r.set rv j) (by rw[List.length_set];exact hz) s.toks
 by_cases h0:0<=k
 .have hk:k.toNat=j:=by
   rw[seqIndex_of h0 h4]at h1;exact y07 h1
  exact PySem.W.ki_setAt ho h0 (by lia) (by rw[y0D,<-hl];exact h4) (by rw[hk];exact⟨_,I',q⟩)
 .have hk:(k+(its.toArray.size:Int)).toNat=j:=by
   rw[seqIndex_neg (by lia) h3]at h1;rw[y0D,<-hl];exact y07 h1
  exact PySem.W.ki_setBack ho (by lia) (by rw[y0D,<-hl];exact h3) (by lia) (by rw[hk];exact⟨_,I',q⟩)
def z87(lo hi:Option Int)(n:Nat):(sliceBounds lo hi none n).1=((HT.sIx n 0 lo:Nat):Int)/\(sliceBounds lo hi none n).2.1=((HT.sIx n n hi:Nat):Int)/\(sliceBounds lo hi none n).2.2=1:=by
 refine⟨?_,?_,rfl⟩
 .cases lo with
  |none=>simp[sliceBounds,HT.sIx]
  |some i =>
   simp only[sliceBounds,HT.sIx,Option.getD_none,show(1:Int)>0 by decide,y2b];by_cases h:i<0
   .simp only[h,y2b]<;>lia
   .simp only[h,y1m]<;>lia
 .cases hi with
  |none=>simp[sliceBounds,HT.sIx]
  |some i =>
   simp only[sliceBounds,HT.sIx,Option.getD_none,show(1:Int)>0 by decide,y2b];by_cases h:i<0
   .simp only[h,y2b]<;>lia
   .simp only[h,y1m]<;>lia
def z6r(its:List Value)(lo hi:Option Int):slicePick its.toArray lo hi none=((its.drop (HT.sIx its.length 0 lo)).take (HT.sIx its.length its.length hi-HT.sIx its.length 0 lo)).toArray:=by obtain⟨h1,h2,h3⟩:=z87 lo hi its.toArray.size;unfold slicePick;rw[h1,h2,h3];simp only[sliceRange_one,pick_run,y0D]<;>rfl
def zik(K:yyF):V->Option Int->Option Int->Hp->VK->Prop:=fun x lo hi H Q=>∃a xs,x=.ref a/\SqL K H a xs/\∀p,H p=none->Q (.ref p) (upd H p (.lst (zfr xs lo hi)))
def zf5:SlR X (zik X.K):=by intro pins s σ H x v vl vu lo hi sl Q I rx hs pl pu h;obtain⟨a,xs,rfl,hx,q⟩:=h;cases rx;obtain⟨its,r,ht,hz⟩:=I.list hx;have hlen:=r.length;refine⟨"list",_,slot_list_getitem.lookup,ht.isList.typeIs,?_⟩;refine wpAny_getItem_list_slice ht.isList hs pl pu .none (by simp) ?_ (by rw[y0D]<;>lia);rw[z6r,<-hlen];refine⟨.ref s.heap.objs.size,_,I.laid (t':=s.toks) (o:=.lst (zfr xs lo hi)) (fun b ob q=>y06 _ q) (y0f _) ?_,rfl,q _ (I.hok.fresh (y0f _))⟩;exact⟨y0r (z8Y xs lo hi) hz,_,0,(r.drop (HT.sIx xs.length 0 lo)).take (HT.sIx xs.length xs.length hi-HT.sIx xs.length 0 lo),y0k _ rfl⟩
def z0g:z3j X (.builtin "len") (fun xs H Q=>∃p ys,xs=[.ref p]/\(SqL X.K H p ys\/SqT X.K H p ys)/\Q (.int ys.length) H):=by
 intro pins s σ H xs us Q I r h;obtain⟨p,ys,rfl,hq,q⟩:=h;obtain⟨u,rfl,rx⟩:=z4r r;cases rx;have hn:=z7T;rcases hq with hq|hq
 .obtain⟨its,r',pl,hz⟩:=I.list hq;have hlen:=r'.length;exact Calls.call_len_list pl.isList (by simp only[y0D]<;>lia) ⟨.int ys.length,H,I.tok _,⟨s.toks+1,by rw[y0D,hlen]⟩,q⟩
 .obtain⟨its,r',pl,hz⟩:=I.tuple hq;have hlen:=r'.length;exact len_tuple pl (by simp only[y0D]<;>lia) ⟨.int ys.length,H,I.tok _,⟨s.toks+1,by rw[y0D,hlen]⟩,q⟩
def z0s:z3j X (.type "tuple") (fun xs H Q=>∃p ys,xs=[.ref p]/\((SqL X.K H p ys/\∀l,H l=none->Q (.ref l) (upd H l (.tup ys)))\/(SqT X.K H p ys/\Q (.ref p) H))):=by
 intro pins s σ H xs us Q I r h;obtain⟨p,ys,rfl,h⟩:=h;obtain⟨u,rfl,rx⟩:=z4r r;cases rx;rcases h with⟨hq,q⟩|⟨hq,q⟩
 .obtain⟨its,r',pl,hz⟩:=I.list hq;have hlen:=r'.length;refine call_tuple_list pl.isList (fun h' kp=>?_) (by simp only[y0D]<;>lia);have I1:Inv X pins σ H { s with heap:=h' }:=I.kept (t':=s.toks) kp;have I2:Inv X pins σ (upd H h'.objs.size (.tup ys)) { s with heap:=h'.push { cls:=.type "tuple",data:=.seq its.toArray } } :=
   I1.laid (t':=s.toks) (fun b o e=>y06 _ e) (y0f _) (show z1V X.prog X.w _ _ _ (.tup ys)from⟨hz,its,0,r',y0k _ rfl⟩)
  exact⟨.ref h'.objs.size,_,I2,rfl,q _ (I1.hok.fresh (y0f _))⟩
 .obtain⟨its,r',pl,hz⟩:=I.tuple hq;exact call_tuple_same pl ⟨.ref p,H,I,rfl,q⟩
def tyV(K:yyF)(T:String)(x:V)(H:Hp):Prop:=match x with
 |.str _=>T="str"
 |.int _=>T="int"
 |.ref p=>(T="list"/\∃xs,SqL K H p xs)\/(T="tuple"/\((∃o,K.lookup p=some o/\o.cls=.type "tuple"/\o.dict=none)\/∃xs,H p=some (.tup xs))) \/
   (T="dict"/\((∃kvs,H p=some (.dK kvs))\/∃kvs,H p=some (.dT kvs)))\/(T="set"/\∃S n,H p=some (.set S n))
 |_=>False
def zfF{pins:yyP}{σ:St}{H:Hp}{s:Shared}{T:String}{x:V}{v:Value}(I:Inv X pins σ H s)(r:z0Z x v)(ty:tyV X.K T x H) : s.TypeIs v T/\∀a,v=.ref a->∃ob,s.heap.get? a=some ob/\ob.dict=none:=by
 cases x with
 |str z =>
  obtain⟨t,rfl⟩:=r;cases(show T="str" from ty);exact⟨typeIs_str s z t,fun _ e=>nomatch e⟩
 |int i =>
  obtain⟨t,rfl⟩:=r;cases(show T="int" from ty);exact⟨typeIs_int s i t,fun _ e=>nomatch e⟩
 |ref p =>
  cases r;rcases ty with⟨rfl,xs,hq⟩|⟨rfl,⟨o,hk,hc,hd⟩|⟨xs,hq⟩⟩|⟨rfl,hk⟩|⟨rfl,S,n,hk⟩
  .obtain⟨its,_,pl,_⟩:=I.list hq;refine⟨pl.isList.typeIs,fun a e=>?_⟩;cases e;obtain⟨o,n,e,c,hd,_⟩:=pl;exact⟨o,e,hd⟩
  .refine⟨⟨o,I.kIn p o hk,hc⟩,fun a e=>?_⟩;cases e;exact⟨o,I.kIn _ o hk,hd⟩
  .obtain⟨_,its,n,_,h1⟩:=(show z1V X.prog X.w H s.heap p (.tup xs)from I.hok p _ hq);refine⟨⟨_,h1,rfl⟩,fun a e=>?_⟩;cases e;exact⟨_,h1,rfl⟩
  .have z:∃o,s.heap.get? p=some o/\o.ExactDict:=by
    rcases hk with⟨kvs,hk⟩|⟨kvs,hk⟩
    .obtain⟨_,_,_,_,o,_,_,e,ex,_⟩:=I.hok p _ hk;exact⟨o,e,ex⟩
    .obtain⟨_,_,_,_,o,_,_,e,ex,_⟩:=I.hok p _ hk;exact⟨o,e,ex⟩
   obtain⟨o,e,ex⟩:=z;refine⟨⟨o,e,ex.1⟩,fun a e2=>?_⟩;cases e2;exact⟨o,e,ex.2.1⟩
  .obtain⟨o,_,_,_,e,ex,_⟩:=I.hok p _ hk;refine⟨⟨o,e,ex.1⟩,fun a e2=>?_⟩;cases e2;exact⟨o,e,ex.2.1⟩
 |_=>exact False.elim ty
def tBM(K:yyF)(T:String)(r:V->List V->Hp->VK->Prop)(to:TE)(t:TA):TE:=fun σ H Q=>to σ H fun x H1=>tyV K T x H1/\t σ H1 fun xs H2=>r x xs H2 Q
variable{o e:Expr}{es:List Expr}{to:TE}{t:TA}{name:Str}{apos cpos:Pos}{T id:String}{r:V->List V->Hp->VK->Prop}
def z3o(pa:PlainAttrs T)(slot:Slot T name id)(hty:typeOf (.builtin id)=pure (.type "method_descriptor"))(hm:MtR X id r)(ho:PE X o to)(ha:PA X (e::es) t)(hbase:attributeBase o name X.env (eval o X.env)=eval o X.env:=by rfl)(hfew:((backTo cpos (starEach (e::es) X.env)).all (fun x=>!x.1)&&(backToKw cpos (keywordEach [] X.env)).all (fun x=>x.1.isSome)&&decide ((e::es).length+([]:List Keyword).length+(if([]:List Keyword).isEmpty then 0 else 1)<30))=true:=by rfl)(hline:(apos.endLine==cpos.line)=true:=by rfl)(hs:starEach (e::es) X.env=(false,eval e X.env)::starEach es X.env:=by rfl)(hplain:(backTo cpos (starEach es X.env)).any (·.1)=false:=by rfl) : PE X (.Call (.Attribute o name apos) (e::es) [] cpos) (tBM X.K T r to t):=by intro pins s σ H Q I h;refine wpAny_Call_method_late hbase hfew hline rfl (z1Y (ho pins s σ H _ I h) fun v s1 x H1 I1 r1 hz9=>?_);obtain⟨ty,q1⟩:=hz9;obtain⟨h1,h2⟩:=zfF I1 r1 ty;refine⟨T,id,pa,slot,hty,h1,h2,?_⟩;have hA:=ha cpos pins s1 σ H1 _ I1 q1;rw[hs]at hA⊢;refine Calls.callWith_builtin (by show(false||(backTo cpos (starEach es X.env)).any (·.1))=false;rw[hplain]<;>rfl) (y3y ?_);exact thn hA fun us s2 ⟨vs,H2,I2,r2,q2⟩=>hm pins s2 σ H2 x vs v us Q I2 r1 r2 q2
end
def MtM(X:Cx)(id:String)(r:V->List V->Hp->VK->Prop):Prop :=
 ∀(pins:yyP)(s:Shared)(σ:St)(H:Hp)(x:V)(xs:List V)(v:Value)(us:List Value)(Q:VK),Inv X pins σ H s->z0Z x v->z1h xs us->r x xs H Q ->
  wpAny (model X.prog X.w) X.A (call (.builtin id) (v::us)) (EP X pins σ Q) X.xe s
def z1h.one:∀{x:V}{us:List Value},z1h [x] us->∃u,us=[u]/\z0Z x u
 |_,_,.cons r .nil=>⟨_,rfl,r⟩
theorem z1h.eraseIdx:∀{xs:List V}{us:List Value}(i:Nat),z1h xs us->z1h (xs.eraseIdx i) (us.eraseIdx i)
 |_,_,_,.nil=>.nil
 |_,_,0,.cons _ t=>t
 |_,_,i+1,.cons r t=>.cons r (z1h.eraseIdx i t)
theorem z1h.rep{xs:List V}{us:List Value}(h:z1h xs us):∀k:Nat,z1h (List.replicate k xs).flatten (List.replicate k us).flatten
 |0=>.nil
 |k+1=>by rw[y1c,y1c,y1s,y1s];exact z1h.append h (z1h.rep h k)
theorem z8a{α:Type}:∀(l:List α)(i:Nat),(l.eraseIdx i).length<=l.length
 |[],_=>y0f _
 |_::_,0=>Nat.le_succ _
 |_::r,i+1=>Nat.succ_le_succ (z8a r i)
theorem z86(its:List Value):∀(k:Nat)(acc:List Value),
  List.foldl (fun x1 x2=>x1++x2) acc.toArray (List.replicate k its.toArray)=(acc++(List.replicate k its).flatten).toArray
 |0,acc=>by simp
 |k+1,acc=>by
  have e:acc.toArray++its.toArray=(acc++its).toArray:=by simp
  have e2:(acc++its)++(List.replicate k its).flatten=acc++(List.replicate (k+1) its).flatten:=by rw[y1c,y1s,y0p]
  rw[<-e2,<-z86 its k (acc++its),<-e,y1c,y1N]
section
variable{X:Cx}{pins:yyP}{σ:St}{H:Hp}{s:Shared}{l b:Addr}{xs ys zs:List V}
def Inv.lset{its its':List Value}{n:Nat}{f:Array Value->Array Value}{t':Nat}(I:Inv X pins σ H s)(hH:H l=some (.lst xs))(e:s.heap.get? l=some { cls:=.type "list",data:=.seq its.toArray n })(hf:f its.toArray=its'.toArray)(hv:z1h ys its')(hz:ys.length<=sizeLine) : Inv X pins σ (upd H l (.lst ys)) { s with heap:=s.heap.update l (Obj.mapSeq f),toks:=t' }:=by have q:=PySem.IsL.update e f;rw[hf]at q;refine I.write (x:=l) (e:=l) (by rw[hH];exact trivial) (.inl rfl) (fun b' u hb hu=>(Heap.get?_update_other s.heap (Obj.mapSeq f) (y1k hb)).trans hu) ⟨_,q⟩ ?_;exact⟨hz,its',_,hv,q⟩
def Inv.lnew{its:List Value}{t':Nat}(I:Inv X pins σ H s)(hv:z1h ys its)(hz:ys.length<=sizeLine) : Inv X pins σ (upd H s.heap.objs.size (.lst ys)) { s with heap:=s.heap.push { cls:=.type "list",data:=.seq its.toArray },toks:=t' } :=
 I.laid (fun _ _ q=>y06 _ q) (y0f _) ⟨hz,its,0,hv,y0k _ rfl⟩
theorem Inv.fresh(I:Inv X pins σ H s):H s.heap.objs.size=none:=I.hok.fresh (y0f _)
def Inv.lstM(I:Inv X pins σ H s)(hH:H l=some (.lst xs)):xs.length<=sizeLine/\∃(its:List Value) (n:Nat),z1h xs its/\xs.length=its.length/\s.heap.get? l=some { cls:=.type "list",data:=.seq its.toArray n }:=by obtain⟨z,its,n,r,e⟩:=I.hok l _ hH;exact⟨z,its,n,r,r.length,e⟩
def z9m{n:Nat}(h:n<=sizeLine):Builtin.List.listTooLong n=false:=by unfold Builtin.List.listTooLong;exact y1o (by lia)
end
section
variable{X:Cx}
def zeq:V->List V->Hp->VK->Prop:=fun x vs H Q=>∃l xs y,x=.ref l/\vs=[y]/\H l=some (.lst xs)/\xs.length<sizeLine/\Q .non (upd H l (.lst (xs++[y])))
def z0R:MtM X "list.append" zeq:=by intro pins s σ H x vs v us Q I rx rv h;obtain⟨l,xs,y,rfl,rfl,hH,hz,q⟩:=h;cases rx;obtain⟨u,rfl,ru⟩:=rv.one;obtain⟨z,its,n,r,hl,e⟩:=I.lstM hH;refine call_meets F.slot_list_append ⟨_,e,rfl⟩ F.entry_list_append (F.args_list_append_2 _ _) (PySem.list_append l its.toArray n u (by rw[y0D];lia)) ⟨e,?_⟩;refine⟨.non,_,I.lset (its':=its++[u]) hH e (by simp) (r.append (.cons ru .nil)) ?_,rfl,q⟩;rw[y0a,y3m];lia
def zeF:V->List V->Hp->VK->Prop:=fun x vs H Q=>∃l b xs zs,x=.ref l/\vs=[.ref b]/\H l=some (.lst xs)/\H b=some (.lst zs)/\xs.length+zs.length<=sizeLine/\Q .non (upd H l (.lst (xs++zs)))
def zbU:MtM X "list.extend" zeF:=by
 intro pins s σ H x vs v us Q I rx rv h;obtain⟨l,b,xs,zs,rfl,rfl,hH,hB,hz,q⟩:=h;cases rx;obtain⟨u,rfl,ru⟩:=rv.one;cases ru;obtain⟨z,its,n,r,hl,e⟩:=I.lstM hH;obtain⟨z2,its2,n2,r2,hl2,e2⟩:=I.lstM hB;have hsz:its.toArray.size+its2.toArray.size<=sizeLine:=by rw[y0D,y0D];lia
 have hlong:¬(!its.toArray.isEmpty&&Builtin.List.listTooLong (its.toArray.size+its2.toArray.size))=true:=by rw[z9m hsz,Bool.and_false];exact y0R
 refine call_meets F.slot_list_extend ⟨_,e,rfl⟩ F.entry_list_extend (F.args_list_extend_2 _ _)
  (AutoSeq1.list_extend_list_list_0 l its.toArray n b its2.toArray n2 hlong (by rw[y0D];lia) (by lia)) ⟨e,e2,?_⟩
 refine⟨.non,_,I.lset (its':=its++its2) hH e (by simp) (r.append r2) ?_,rfl,q⟩;rw[y0a];lia
def zgj:V->List V->Hp->VK->Prop:=fun x vs H Q=>∃l xs i k y,x=.ref l/\vs=[.int i]/\H l=some (.lst xs)/\-(2^63)<=i/\i<2^63/\seqIndex? i xs.length=some k/\xs[k]?=some y/\Q y (upd H l (.lst (xs.eraseIdx k)))
def zdC:MtM X "list.pop" zgj:=by
 intro pins s σ H x vs v us Q I rx rv h;obtain⟨l,xs,i,k,y,rfl,rfl,hH,h1,h2,hk,hy,q⟩:=h;cases rx;obtain⟨u,rfl,ru⟩:=rv.one;obtain⟨t,rfl⟩:=ru;obtain⟨z,its,n,r,hl,e⟩:=I.lstM hH;obtain⟨w,hw,rw'⟩:=r.get hy;refine call_meets F.slot_list_pop ⟨_,e,rfl⟩ F.entry_list_pop (F.args_list_pop_2 _ _)
  (MeetsSeq.list_pop_at l its.toArray n i t k w (fitsIndex_both h1 h2) (by rw[y0D,<-hl];exact hk) (by rw[<-y0B];exact hw) (by rw[y0D];lia)) ⟨e,?_⟩
 refine⟨y,_,I.lset (its':=its.eraseIdx k) hH e ?_ (r.eraseIdx k) ?_,rw',q⟩
 .show its.toArray.eraseIdxIfInBounds k=(its.eraseIdx k).toArray;rw[List.eraseIdxIfInBounds_toArray]
 .have:=z8a xs k;lia
def zie:R2:=fun x y H Q=>∃l k xs,x=.ref l/\y=.int k/\H l=some (.lst xs)/\-(2^63)<=k/\k<2^63/\xs.length*k.toNat<=sizeLine /\
 ∀p,H p=none->Q (.ref p) (upd H p (.lst (List.replicate k.toNat xs).flatten))
def zeN{α:Type}(xs:List α)(k:Nat):(List.replicate k xs).flatten.length=k*xs.length:=by
 induction k with
 |zero=>simp
 |succ k ih=>rw[y1c,y1s,y0a,ih,Nat.succ_mul,Nat.add_comm]
def zdX:OpR X (binaryOp .Mult) zie:=by
 intro pins s σ H x y v u Q I rx ry h;obtain⟨l,k,xs,rfl,rfl,hH,h1,h2,hz,q⟩:=h;cases rx;obtain⟨t,rfl⟩:=ry;obtain⟨z,its,n,r,hl,e⟩:=I.lstM hH;have hlen:its.toArray.size*k.toNat<=sizeLine:=by rw[y0D,<-hl];exact hz
 have hcap:¬its.toArray.size*k.toNat>(2^63-1)/8:=by
  have:(sizeLine:Nat)<=(2^63-1)/8:=by decide
  lia
 have hfit:¬(!Builtin.List.listFitsIndex k)=true:=by rw[fitsIndex_both h1 h2];exact y0R
 have hlong:¬Builtin.List.listTooLong (its.toArray.size*k.toNat)=true:=by rw[z9m hlen];exact y0R
 have hnew:List.foldl (fun x1 x2=>x1++x2) #[] (List.replicate (if its.toArray.isEmpty=true then 0 else k.toNat) its.toArray)=(List.replicate k.toNat its).flatten.toArray:=by
  have f0:∀m:Nat,List.foldl (fun x1 x2=>x1++x2) #[] (List.replicate m its.toArray)=(List.replicate m its).flatten.toArray:=fun m=>by have:=z86 its m [];rw[y1z]at this;exact this
  rw[f0];cases its with
  |nil=>simp
  |cons a r'=>rw[if_neg (by simp)]
 refine wpAny_binaryOp_repeat_ref (T:="list") (U:="int") (by decide) ⟨_,e,rfl⟩ (fun s'=>typeIs_int s' k t) noFill_list_mul F.fills_int_mul F.slot_int_rmul repeat_list F.slot_int_index.lookup
  (call_meets F.slot_int_rmul (typeIs_int s k t) F.entry_int_rmul (F.args_int_rmul_2 _ _) (int___rmul___int_list k t l its.toArray n)
   ⟨e,rfl,⟨_,e,rfl⟩,call_meets F.slot_list_mul ⟨_,e,rfl⟩ F.entry_list_mul (F.args_list_mul_2 _ _) (AutoListH.list___mul___list_int_3 l its.toArray n k t hfit hcap hlong) ⟨e,?_⟩⟩)
 rw[hnew];exact⟨.ref _,_,I.lnew (t':=s.toks) (r.rep k.toNat) (by rw[zeN,Nat.mul_comm];exact hz),rfl,q _ I.fresh⟩
end
section
variable{prog:Program}{w:World}{A:Around}{E:yyE}{s:Shared}
end
section
variable{X:Cx}
end
section
variable{κ:Type}[DecidableEq κ]
def z2N(kvs:List (κ × V))(k:κ):Option V:=(kvs.find? fun kv=>decide (kv.1=k)).map (·.2)
def z2c(kvs:List (κ × V))(k:κ)(v:V):List (κ × V) :=
 if(kvs.any fun kv=>decide (kv.1=k))=true then kvs.map (fun kv=>if kv.1=k then(kv.1,v)else kv)else kvs++[(k,v)]
def z3e{p:κ × V}{r:List (κ × V)}{k:κ}(e:p.1=k):z2N (p::r) k=some p.2:=by simp[z2N,y21,e]
def z2K{p:κ × V}{r:List (κ × V)}{k:κ}(e:¬p.1=k):z2N (p::r) k=z2N r k:=by simp[z2N,y21,e]
theorem z3i(k:κ):∀kvs:List (κ × V),(kvs.any fun kv=>decide (kv.1=k))=(z2N kvs k).isSome
 |[]=>rfl
 |p::r=>by
  rw[List.any_cons];by_cases e:p.1=k
  .simp only[z3e e,y1J e,Bool.true_or,Option.isSome_some]
  .rw[z2K e,y1o e,Bool.false_or];exact z3i k r
def z1L(kvs:List (κ × V))(k:κ)(v:V):(z2c kvs k v).length<=kvs.length+1:=by
 unfold z2c;split
 .rw[y01];lia
 .rw[y0a,y0X,y31];lia
def z6B{kvs:List (κ × V)}{k:κ}(v:V)(h:z2N kvs k=none):z2c kvs k v=kvs++[(k,v)]:=by unfold z2c;rw[z3i,h];exact if_neg (by decide)
def z9n.isSome_eq{o:Option V}{u:Option Value}(r:z9n o u):o.isSome=u.isSome:=by
 cases o with
 |none=>cases u with
  |none=>rfl
  |some _=>exact(show False from r).elim
 |some _=>cases u with
  |none=>exact(show False from r).elim
  |some _=>rfl
theorem z9n.getD{o:Option V}{u:Option Value}{d:V}{d':Value}(r:z9n o u)(rd:z0Z d d'):z0Z (o.getD d) (u.getD d'):=by
 cases o with
 |none=>cases u with
  |none=>exact rd
  |some _=>exact(show False from r).elim
 |some _=>cases u with
  |none=>exact(show False from r).elim
  |some _=>exact r
def KV.val{kvs:List (κ × V)}{vs:List (κ × Value)}(r:KV kvs vs)(k:κ):z9n (z2N kvs k) (valueAt vs k):=by
 unfold KV at r;induction r with
 |nil=>exact y2I
 |@cons p q ps qs h t ih =>
  obtain⟨h1,h2⟩:=h;by_cases e:p.1=k
  .have e':q.1=k:=h1.symm.trans e;have b:valueAt (q::qs) k=some q.2:=by simp[valueAt,y21,e']
   rw[z3e e,b];exact h2
  .have e':¬q.1=k:=fun z=>e (h1.trans z);have b:valueAt (q::qs) k=valueAt qs k:=by simp[valueAt,y21,e']
   rw[z2K e,b];exact ih
theorem KV.any{kvs:List (κ × V)}{vs:List (κ × Value)}(r:KV kvs vs)(k:κ):(kvs.any fun kv=>decide (kv.1=k))=vs.any fun kv=>decide (kv.1=k):=by
 unfold KV at r;induction r with
 |nil=>rfl
 |cons h t ih=>rw[List.any_cons,List.any_cons,ih,h.1]
def KV.repl{kvs:List (κ × V)}{vs:List (κ × Value)}(r:KV kvs vs)(k:κ){y:V}{u:Value}(ry:z0Z y u) : KV (kvs.map fun kv=>if kv.1=k then(kv.1,y)else kv) (vs.map fun kv=>if kv.1=k then(kv.1,u)else kv):=by
 unfold KV at r⊢;induction r with
 |nil=>exact .nil
 |@cons p q ps qs h t ih =>
  rw[y0l,y0l];refine .cons ?_ ih;obtain⟨h1,h2⟩:=h;by_cases e:p.1=k
  .rw[if_pos e,if_pos (h1.symm.trans e)];exact⟨h1,ry⟩
  .rw[if_neg e,if_neg (fun z=>e (h1.trans z))];exact⟨h1,h2⟩
def KV.put{kvs:List (κ × V)}{vs:List (κ × Value)}(r:KV kvs vs)(k:κ){y:V}{u:Value}(ry:z0Z y u):KV (z2c kvs k y) (stored vs k u):=by
 unfold z2c stored;rw[r.any k];by_cases e:(vs.any fun kv=>decide (kv.1=k))=true
 .rw[if_pos e,if_pos e];exact r.repl k ry
 .rw[if_neg e,if_neg e];exact Paired.snoc r ⟨rfl,ry⟩
theorem KV.length{kvs:List (κ × V)}{vs:List (κ × Value)}(r:KV kvs vs):kvs.length=vs.length:=y3A r
end
def z94{P:Program}{w:World}{k:Key}{u:Value}(r:z0Z (kV k) u):(z1o P w).is k u=true:=by
 cases k with
 |inl i=>obtain⟨t,e⟩:=(show ∃t,u=Value.int i t from r);subst e;exact z8U P w i t
 |inr x=>obtain⟨t,e⟩:=(show ∃t,u=Value.str x t from r);subst e;exact z8Q P w x t
theorem z82{P:Program}{w:World}:∀{ks:List Key}{us:List Value},z1h (ks.map kV) us->ItemsAre (z1o P w) ks us
 |[],_,r=>by rw[y0S]at r;cases r;exact .nil
 |k::ks,_,r=>by
  rw[y0l]at r;cases r with
  |cons h t=>exact .cons (z94 h) (z82 t)
abbrev KT(H:Hp):List (List Key × V)->List (List Key × Addr × Value)->Prop:=Paired fun p q=>p.1=q.1/\H q.2.1=some (.tup (p.1.map kV))/\z0Z p.2 q.2.2
def KT.val{H:Hp}{kvs:List (List Key × V)}{xs:List (List Key × Addr × Value)}(r:KT H kvs xs)(k:List Key):z9n (z2N kvs k) ((atKey xs k).map (·.2)):=by
 induction r with
 |nil=>exact y2I
 |@cons p q ps qs h t ih =>
  obtain⟨h1,_,h2⟩:=h;by_cases e:p.1=k
  .have e':q.1=k:=h1.symm.trans e;have b:atKey (q::qs) k=some q.2:=by simp[atKey,y21,e']
   rw[z3e e,b];exact h2
  .have e':¬q.1=k:=fun z=>e (h1.trans z);have b:atKey (q::qs) k=atKey qs k:=by simp[atKey,y21,e']
   rw[z2K e,b];exact ih
def KT.repl{H:Hp}{kvs:List (List Key × V)}{xs:List (List Key × Addr × Value)}(r:KT H kvs xs)(k:List Key){y:V}{u:Value}(ry:z0Z y u) : KT H (kvs.map fun kv=>if kv.1=k then(kv.1,y)else kv) (xs.map (putAt k u)):=by
 induction r with
 |nil=>exact .nil
 |@cons p q ps qs h t ih =>
  rw[y0l,y0l];refine .cons ?_ ih;obtain⟨h1,h2,h3⟩:=h;unfold putAt;by_cases e:p.1=k
  .rw[if_pos e,if_pos (h1.symm.trans e)];exact⟨h1,h2,ry⟩
  .rw[if_neg e,if_neg (fun z=>e (h1.trans z))];exact⟨h1,h2,h3⟩
def KT.put{H:Hp}{kvs:List (List Key × V)}{xs:List (List Key × Addr × Value)}(r:KT H kvs xs)(k:List Key){b:Addr}{y:V}{u:Value}(hb:H b=some (.tup (k.map kV)))(ry:z0Z y u) : KT H (z2c kvs k y) (storedH xs k b u):=by
 have e:(kvs.any fun kv=>decide (kv.1=k))=(atKey xs k).isSome:=by rw[z3i,(r.val k).isSome_eq,y2g]
 unfold z2c storedH;rw[e];by_cases q:(atKey xs k).isSome=true
 .rw[if_pos q,if_pos q];exact r.repl k ry
 .rw[if_neg q,if_neg q];exact Paired.snoc r ⟨rfl,hb,ry⟩
def KT.keeps{H H':Hp}{kvs:List (List Key × V)}{xs:List (List Key × Addr × Value)}(r:KT H kvs xs)(ht:∀b ys,H b=some (.tup ys)->H' b=some (.tup ys)):KT H' kvs xs :=
 Paired.mapP r fun _ _ z=>⟨z.1,ht _ _ z.2.1,z.2.2⟩
section
variable{P:Program}{w:World}{H:Hp}{h:Heap}{a:Addr}
def zfR{u:HO}(ok:HOk P w H h)(e:Rd H a u):z1V P w H h a u:=e.ok ok
def zbO{kvs:List (Key × V)}(ok:HOk P w H h)(e:Rd H a (.dK kvs)):kvs.length<=sizeLine/\(a==sysModules)=false/\∃vs,KV kvs vs/\h.DictOf (z1o P w) a vs :=
 show z1V P w H h a (.dK kvs)from zfR ok e
def zeL{kvs:List (Key × V)}(ok:HOk P w H h)(e:H a=some (.dK kvs)):kvs.length<=sizeLine/\(a==sysModules)=false/\∃vs,KV kvs vs/\h.DictOf (z1o P w) a vs:=zbO ok (.inl e)
def z7C{ks:List Key}(ok:HOk P w H h)(e:H a=some (.tup (ks.map kV))):(tupleKind (z1o P w)).is h ks a:=by obtain⟨_,its,n,r,h1⟩:=(show z1V P w H h a (.tup (ks.map kV))from ok a _ e);exact⟨_,its.toArray,n,h1,rfl,rfl,by simpa using z82 r⟩
def zbR{kvs:List (List Key × V)}(ok:HOk P w H h)(e:Rd H a (.dT kvs)):kvs.length<=sizeLine/\(a==sysModules)=false /\ ∃xs,KT H kvs xs/\h.DictOfH (tupleKind (z1o P w)) a xs:=by
 obtain⟨z,y,xs,r,o,es,ep,h1,h2,h3,h4,h5⟩:=(show z1V P w H h a (.dT kvs)from zfR ok e);refine⟨z,y,xs,r,o,es,ep,h1,h2,h3,h4,fun x hx=>?_,h5⟩;have all:∀{l:List (List Key × V)}{m:List (List Key × Addr × Value)},KT H l m->∀x∈m,(tupleKind (z1o P w)).is h x.1 x.2.1:=by
  intro l m q;induction q with
  |nil=>intro x hx;exact nomatch hx
  |@cons p q ps qs hq t ih =>
   intro x hx;rcases y0x.mp hx with e|hx
   .subst e;exact z7C ok (by rw[<-hq.1];exact hq.2.1)
   .exact ih x hx
 exact all r x hx
def zgY{kvs:List (List Key × V)}(ok:HOk P w H h)(e:H a=some (.dT kvs)):kvs.length<=sizeLine/\(a==sysModules)=false /\ ∃xs,KT H kvs xs/\h.DictOfH (tupleKind (z1o P w)) a xs:=zbR ok (.inl e)
end
def z4F(H:Hp)(a:Addr)(y:V)(r:Option V):Prop :=
 (∃kvs k,Rd H a (.dK kvs)/\y=kV k/\r=z2N kvs k)\/∃kvs k b,Rd H a (.dT kvs)/\y=.ref b/\H b=some (.tup (k.map kV))/\r=z2N kvs k
def zcB(H:Hp)(a:Addr)(y v:V)(H':Hp):Prop :=
 (∃kvs k,H a=some (.dK kvs)/\y=kV k/\kvs.length<sizeLine/\H'=upd H a (.dK (z2c kvs k v))) \/
 ∃kvs k b,H a=some (.dT kvs)/\y=.ref b/\H b=some (.tup (k.map kV))/\kvs.length<sizeLine/\H'=upd H a (.dT (z2c kvs k v))
theorem z4F.k{H:Hp}{a:Addr}{kvs:List (Key × V)}{k:Key}(e:H a=some (.dK kvs)):z4F H a (kV k) (z2N kvs k):=.inl ⟨kvs,k,.inl e,rfl,rfl⟩
theorem zcB.k{H:Hp}{a:Addr}{kvs:List (Key × V)}{k:Key}{v:V}(e:H a=some (.dK kvs))(hl:kvs.length<sizeLine):zcB H a (kV k) v (upd H a (.dK (z2c kvs k v))):=.inl ⟨kvs,k,e,rfl,hl,rfl⟩
section
variable{X:Cx}{pins:yyP}{σ:St}{H:Hp}{s:Shared}{a:Addr}{y v:V}{u r:Value}{o:Option V}{A:Around}{E:yyE}
def Inv.big(I:Inv X pins σ H s):sysModules<s.heap.objs.size:=by have h:mainGlobals<s.heap.objs.size:=(I.mod.glob.keeps I.bk).lt;exact y3L (by decide) h
def zbF{Q:yyE}(hu:A.units+1<cLine)(I:Inv X pins σ H s)(g:z4F H a y (some v))(ry:z0Z y u)(h:∀w' s',Inv X pins σ H s'->z0Z v w'->Q w' s') : wpAny (model X.prog X.w) A (getItem (.ref a) u) Q E s:=by
 rcases g with⟨kvs,k,e,ey,l⟩|⟨kvs,k,b,e,ey,eb,l⟩
 .subst ey;obtain⟨z,hd,vs,rel,dd⟩:=zbO I.hok e;obtain⟨w',hw,rw'⟩:=z9n.some_of (v:=v) (o:=valueAt vs k) (by rw[l];exact rel.val k);exact wpAny_getItem_of (z94 ry) dd.mapOf hw (h w' _ (I.tok _) rw')
 .subst ey;cases(show u=Value.ref b from ry);obtain⟨z,hd,xs,rel,dd⟩:=zbR I.hok e;obtain⟨w',hw,rw'⟩:=z9n.some_of (v:=v) (o:=(atKey xs k).map (·.2)) (by rw[l];exact rel.val k);obtain⟨p,hp,hp2⟩:=y1a.mp hw;refine wpAny_getItem_heap (y32 hu) (z7C I.hok eb) dd hp ?_;rw[hp2];exact h w' _ (I.tok _) rw'
def zi8{Q:yyE}(hu:A.units+1<cLine)(I:Inv X pins σ H s)(g:z4F H a y o)(ry:z0Z y u)(h:∀s',Inv X pins σ H s'->Q (.bool o.isSome) s') : wpAny (model X.prog X.w) A (compareOp .In u (.ref a)) Q E s:=by
 rcases g with⟨kvs,k,e,ey,l⟩|⟨kvs,k,b,e,ey,eb,l⟩
 .subst ey;obtain⟨z,hd,vs,rel,dd⟩:=zbO I.hok e;refine wpAny_in_of (z94 ry) hd dd.mapOf ?_;rw[<-(rel.val k).isSome_eq,<-l];exact h _ (I.tok _)
 .subst ey;cases(show u=Value.ref b from ry);obtain⟨z,hd,xs,rel,dd⟩:=zbR I.hok e;refine wpAny_in_heap (y32 hu) (z7C I.hok eb) hd dd ?_;have q:=(rel.val k).isSome_eq;rw[y2g]at q;rw[<-q,<-l];exact h _ (I.tok _)
def zff{Q:yyE}(hu:A.units+1<cLine)(I:Inv X pins σ H s)(g:z4F H a y o)(ry:z0Z y u)(h:∀s',Inv X pins σ H s'->Q (.bool (!o.isSome)) s') : wpAny (model X.prog X.w) A (compareOp .NotIn u (.ref a)) Q E s:=by
 rcases g with⟨kvs,k,e,ey,l⟩|⟨kvs,k,b,e,ey,eb,l⟩
 .subst ey;obtain⟨z,hd,vs,rel,dd⟩:=zbO I.hok e;refine wpAny_notIn_of (z94 ry) hd dd.mapOf ?_;rw[<-(rel.val k).isSome_eq,<-l];exact h _ (I.tok _)
 .subst ey;cases(show u=Value.ref b from ry);obtain⟨z,hd,xs,rel,dd⟩:=zbR I.hok e;refine wpAny_notIn_heap (y32 hu) (z7C I.hok eb) hd dd ?_;have q:=(rel.val k).isSome_eq;rw[y2g]at q;rw[<-q,<-l];exact h _ (I.tok _)
def z4c{h':Heap}{t':Nat}{ob:HO}(I:Inv X pins σ H s)(mu:Mut (H a))(hs:Heap.SameBut a s.heap h')(he:∃q,h'.get? a=some q)(new:z1V X.prog X.w (upd H a ob) h' a ob) : Inv X pins σ (upd H a ob) { s with heap:=h',toks:=t' } :=
 I.write (x:=a) (e:=a) mu (.inl rfl) (fun b q hb z=>(hs.2 b hb).trans z) he new
def zcn{P:Program}{w:World}{H':Hp}{h':Heap}{kvs:List (Key × V)}{vs:List (Key × Value)}(z:kvs.length<=sizeLine)(hd:(a==sysModules)=false)(rel:KV kvs vs)(dd:h'.DictOf (z1o P w) a vs) : z1V P w H' h' a (.dK kvs):=⟨z,hd,vs,rel,dd⟩
def zb8{H':Hp}{Q:Unit->Shared->Prop}(hu:A.units+1<cLine)(I:Inv X pins σ H s)(g:zcB H a y v H')(ry:z0Z y u)(rv:z0Z v r)(h:∀s',Inv X pins σ H' s'->Q () s') : wpAny (model X.prog X.w) A (setItem (.ref a) u r) Q E s:=by
 rcases g with⟨kvs,k,e,ey,l,eH⟩|⟨kvs,k,b,e,ey,eb,l,eH⟩
 .subst ey eH;obtain⟨z,hd,vs,rel,dd⟩:=zeL I.hok e;have hz:vs.length<=sizeLine:=by rw[<-rel.length];exact z
  have hl:(z2c kvs k v).length<=sizeLine:=by have:=z1L kvs k v;lia
  refine wpAny_setItem_pairs (hsz:=hz) (z94 ry) dd fun h' dd' hs=>h _ ?_;have he:∃q,h'.get? a=some q:=let⟨q,_,_,hq,_⟩:=dd';⟨q,hq⟩;exact z4c I (by rw[e];exact y2I) hs he (zcn hl hd (rel.put k rv) dd')
 .subst ey eH;cases(show u=Value.ref b from ry);obtain⟨z,hd,xs,rel,dd⟩:=zgY I.hok e;have hz:xs.length<=sizeLine:=by rw[<-y3A rel];exact z
  have hl:(z2c kvs k v).length<=sizeLine:=by have:=z1L kvs k v;lia
  refine wpAny_setItem_heap (hsz:=hz) (y32 hu) (z7C I.hok eb) dd fun h' dd' hs=>h _ ?_;obtain⟨q,es,ep,hq,h2,h3,h4,_,h5⟩:=dd';refine z4c I (by rw[e];exact y2I) hs ⟨q,hq⟩ ⟨hl,hd,_,(rel.put k eb rv).keeps fun c ys ec=>?_,q,es,ep,hq,h2,h3,h4,h5⟩;rw[z06 (z47 ec e (fun z=>nomatch z))];exact ec
end
section
variable{X:Cx}{pins:yyP}{σ:St}{H:Hp}{s:Shared}{a:Addr}{kvs:List (Key × V)}{k:Key}{u:Value}{A:Around}{E:yyE}
end
def zgD(i:Expr):Prop:=∀ov iv,subscripted i false ov iv=operate [ov,iv] (getItem ov iv)
def zbB{prog:Program}{w:World}{A:Around}{E:yyE}{s:Shared}{env:Env}{value slice:Expr}{pos:Pos}{T id:String}{Q:yyE}(hl:typeLookup (.type T) "__getitem__"=pure (some (.builtin id)))(hs:zgD slice)(h:wpAny (model prog w) A (eval value env) (fun o s₁=>wpAny (model prog w) A (eval slice env) (fun i s₂=>s₂.TypeIs o T/\wpAny (model prog w) A (getItem o i) Q E s₂) E s₁) E s) : wpAny (model prog w) A (eval (.Subscript value slice pos) env) Q E s:=by
 refine Subscript_ (y0Y h (fun o s₁ h₁=>y0Y h₁ (fun i s₂ h₂=>?_) fun _ _ x=>x) fun _ _ x=>x);obtain⟨hT,h₂⟩:=h₂;unfold subscriptTail;refine y03 ?_;rw[getitemInPython_of_ne hT.not_modules];refine y03 (y3D hT hl ?_);have fin:wpAny (model prog w) A (subscripted slice false o i) (fun r s₃=>wpAny (model prog w) A (letTemporaryGo value o r>>=fun _=>pure r) Q E s₃) E s₂:=by rw[hs o i];exact wpAny_operating (y0Y h₂ (fun r s₃ h₃=>y03 (wpAny_letTemporaryGo (y0g h₃))) fun _ _ x=>x)
 first
  |exact y0g (y03 fin)
  |exact y03 (y0g (y03 fin))
  |exact y03 fin
def z8D{X:Cx}{pins:yyP}{σ:St}{H:Hp}{s:Shared}{a:Addr}{y:V}{o:Option V}(I:Inv X pins σ H s)(g:z4F H a y o):s.TypeIs (.ref a) "dict":=by
 rcases g with⟨kvs,k,e,_,_⟩|⟨kvs,k,b,e,_,_,_⟩
 .obtain⟨_,_,vs,_,dd⟩:=zbO I.hok e;exact dd.typeIs
 .obtain⟨_,_,xs,_,dd⟩:=zbR I.hok e;exact dd.typeIs
def zgN(td ty:TE):TE:=fun σ H Q=>td σ H fun x H1=>ty σ H1 fun y H2=>∃a v,x=.ref a/\z4F H2 a y (some v)/\Q v H2
def zin(ty td:TE):TE:=fun σ H Q=>ty σ H fun y H1=>td σ H1 fun x H2=>∃a o,x=.ref a/\z4F H2 a y o/\Q (.bl o.isSome) H2
def zeY(ty td:TE):TE:=fun σ H Q=>ty σ H fun y H1=>td σ H1 fun x H2=>∃a o,x=.ref a/\z4F H2 a y o/\Q (.bl (!o.isSome)) H2
def zhk(td ty tv:TE):TS:=fun D σ H=>tv σ H fun v H1=>td σ H1 fun x H2=>ty σ H2 fun y H3=>∃a H4,x=.ref a/\zcB H3 a y v H4/\D.nx σ H4
section
variable{X:Cx}{o i e value:Expr}{pos pos' tpos:Pos}{td ty tv:TE}
def z3q(hu:X.A.units+1<cLine)(ho:PE X o td)(hi:PE X i ty)(hs:zgD i):PE X (.Subscript o i pos) (zgN td ty):=by intro pins s σ H Q I h;refine zbB PySem.F.slot_dict_getitem.lookup hs (z1Y (ho pins s σ H _ I h) fun u s1 x H1 I1 rx q1=>z1Y (hi pins s1 σ H1 _ I1 q1) fun iv s2 y H2 I2 ry hz9=>?_);obtain⟨a,v,ex,g,q2⟩:=hz9;subst ex;obtain rfl:u=Value.ref a:=rx;exact⟨z8D I2 g,zbF hu I2 g ry fun w' s3 I3 rw'=>⟨v,H2,I3,rw',q2⟩⟩
def zfE(hu:X.A.units+1<cLine)(hi:PE X i ty)(ho:PE X o td):PC X .In i o (zin ty td):=by intro pins s σ H Q I h;refine z1Y (hi pins s σ H _ I h) fun iv s1 y H1 I1 ry q1=>z1Y (ho pins s1 σ H1 _ I1 q1) fun u s2 x H2 I2 rx hz9=>?_;obtain⟨a,ov,ex,g,q2⟩:=hz9;subst ex;obtain rfl:u=Value.ref a:=rx;exact zi8 hu I2 g ry fun s3 I3=>⟨.bl ov.isSome,H2,I3,rfl,q2⟩
def z3I(hu:X.A.units+1<cLine)(hi:PE X i ty)(ho:PE X o td):PC X .NotIn i o (zeY ty td):=by intro pins s σ H Q I h;refine z1Y (hi pins s σ H _ I h) fun iv s1 y H1 I1 ry q1=>z1Y (ho pins s1 σ H1 _ I1 q1) fun u s2 x H2 I2 rx hz9=>?_;obtain⟨a,ov,ex,g,q2⟩:=hz9;subst ex;obtain rfl:u=Value.ref a:=rx;exact zff hu I2 g ry fun s3 I3=>⟨.bl (!ov.isSome),H2,I3,rfl,q2⟩
def z42(hu:X.A.units+1<cLine)(ho:PE X o td)(hi:PE X i ty)(hv:PE X value tv)(hs:swapsWith value (some (.Subscript o i pos')) pos.line X.env=pure false) : PS X (.Assign [.Subscript o i pos'] value pos) (zhk td ty tv):=by intro pins s σ H D I h;refine wpAny_Assign_Subscript (z1Y (hv pins s σ H _ I h) fun r s1 v H1 I1 rv q1=>z1Y (ho pins s1 σ H1 _ I1 q1) fun u s2 x H2 I2 rx q2=>z1Y (hi pins s2 σ H2 _ I2 q2) fun iv s3 y H3 I3 ry hz9=>?_) hs;obtain⟨a,H4,ex,g,q3⟩:=hz9;subst ex;obtain rfl:u=Value.ref a:=rx;exact zb8 hu I3 g ry rv fun s4 I4=>⟨σ,H4,I4,q3⟩
end
def z6j{P:Program}{w:World}{H:Hp}(h:Heap)(hb:sysModules<h.objs.size):z1V P w H (h.push { cls:=.type "dict",data:=.dict #[] }) h.objs.size (.dK []) :=
 ⟨y0y _,y2T.mpr (y1k (y0C hb)),[],.nil,Heap.DictOf.new h⟩
def zfz:TE:=fun _ H Q=>∀p,H p=none->Q (.ref p) (upd H p (.dK []))
section
variable{X:Cx}{pos:Pos}
def z6V:PE X (.Dict [] [] pos) zfz:=fun pins s σ H Q I h =>
 wpAny_Dict_empty ⟨.ref s.heap.objs.size,_,I.laid (a:=s.heap.objs.size) (o:=.dK []) (t':=s.toks) (fun _ _ q=>y06 _ q) (y0f _) (z6j s.heap I.big),rfl,h _ (I.hok.fresh (y0f _))⟩
end
def zcd:List (TE × TE)->St->Hp->(List (V × V)->Hp->Prop)->Prop
 |[],_,H,Q=>Q [] H
 | (tk,tv)::r,σ,H,Q=>tk σ H fun x H1=>tv σ H1 fun y H2=>zcd r σ H2 fun ps H3=>Q ((x,y)::ps) H3
abbrev VV:List (V × V)->List (Value × Value)->Prop:=Paired fun p q=>z0Z p.1 q.1/\z0Z p.2 q.2
def PPs(X:Cx)(pos:Pos)(keys:List (Option Expr))(values:List Expr)(trs:List (TE × TE)):Prop :=
 ∀(pins:yyP)(s:Shared)(σ:St)(H:Hp)(Q:List (V × V)->Hp->Prop),Inv X pins σ H s->zcd trs σ H Q ->
  wpAny (model X.prog X.w) X.A (evalPairs (pairTrees keys values X.env pos)) (fun vs s'=>∃ps H',Inv X pins σ H' s'/\VV ps vs/\Q ps H') X.xe s
def z8N{X:Cx}{pos:Pos}:PPs X pos [] [] []:=fun pins s σ H Q I h=>pairTrees_nil_walk ⟨[],H,I,.nil,h⟩
def z74{X:Cx}{pos:Pos}{k v:Expr}{ks:List (Option Expr)}{vs:List Expr}{tk tv:TE}{trs:List (TE × TE)}(hk:PE X k tk)(hv:PE X v tv)(hr:PPs X pos ks vs trs) : PPs X pos (some k::ks) (v::vs) ((tk,tv)::trs):=fun pins s σ H Q I h =>
 pairTrees_cons_walk (thn (hk pins s σ H _ I h) fun u s1 ⟨x,H1,I1,rx,q1⟩=>thn (hv pins s1 σ H1 _ I1 q1) fun w2 s2 ⟨y,H2,I2,ry,q2⟩ =>
  thn (hr pins s2 σ H2 _ I2 q2) fun ws s3 ⟨ps,H3,I3,rel,q3⟩=>⟨(x,y)::ps,H3,I3,.cons ⟨rx,ry⟩ rel,q3⟩)
def z4k(kvs more:List (Key × V)):List (Key × V):=more.foldl (fun acc kv=>z2c acc kv.1 kv.2) kvs
def KV.merge:∀{more:List (Key × V)}{rs:List (Key × Value)}{kvs:List (Key × V)}{vs:List (Key × Value)},KV more rs->KV kvs vs->KV (z4k kvs more) (merged vs rs):=by
 intro more rs kvs vs r;unfold KV at r;induction r generalizing kvs vs with
 |nil=>intro q;exact q
 |@cons p q ps qs h t ih =>
  intro r0;have e:KV (z2c kvs p.1 p.2) (stored vs q.1 q.2):=by have:=r0.put p.1 h.2;rw[<-h.1];exact this
  exact ih e
theorem z3N:∀(more kvs:List (Key × V)),(z4k kvs more).length<=kvs.length+more.length
 |[],kvs=>by show kvs.length<=kvs.length+0;lia
 |p::r,kvs=>by have h1:=z3N r (z2c kvs p.1 p.2);have h2:=z1L kvs p.1 p.2;show(z4k (z2c kvs p.1 p.2) r).length<=_;rw[y0X];lia
theorem z5O{P:Program}{w:World}:∀{kvs:List (Key × V)}{ws:List (Value × Value)},VV (kvs.map fun kv=>(kV kv.1,kv.2)) ws->∃rs,Carries (z1o P w) ws rs/\KV kvs rs
 |[],_,r=>by rw[y0S]at r;cases r;exact⟨[],y2I,.nil⟩
 |p::kvs,_,r=>by
  rw[y0l]at r;cases r with
  |@cons a b as bs h t =>
   obtain⟨rs,c,q⟩:=z5O (P:=P) (w:=w) t;obtain⟨b1,b2⟩:=b;exact⟨(p.1,b2)::rs,⟨z94 h.1,rfl,c⟩,.cons ⟨rfl,h.2⟩ q⟩
def zgL(trs:List (TE × TE)):TE:=fun σ H Q=>∀p,H p=none->zcd trs σ (upd H p (.dK [])) fun ps H2=>H2 p=some (.dK [])/\∃kvs:List (Key × V),ps=kvs.map (fun kv=>(kV kv.1,kv.2))/\kvs.length<=15/\Q (.ref p) (upd H2 p (.dK (z4k [] kvs)))
def zaI{X:Cx}{pos:Pos}{keys:List (Option Expr)}{values:List Expr}{trs:List (TE × TE)}(h:PPs X pos keys values trs)(hall:keys.all (·.isSome)=true)(hl:keys.length=values.length)(h0:keys≠[])(h15:keys.length<=15):PE X (.Dict keys values pos) (zgL trs):=by
 intro pins s σ H Q I q;have hn:=I.hok.fresh (y0f s.heap.objs.size);have I1:=I.laid (a:=s.heap.objs.size) (o:=.dK []) (h':=s.heap.push { cls:=.type "dict",data:=.dict #[] }) (t':=s.toks) (fun _ _ q=>y06 _ q) (y0f _) (z6j s.heap I.big);refine wpAny_Dict_walk (knd:=z1o X.prog X.w) hall hl h0 h15 (thn (h pins _ σ _ _ I1 (q _ hn)) fun ws s2 hz8=>?_);obtain⟨ps,H2,I2,rel,e,kvs,ep,lk,q2⟩:=hz8;subst ep;obtain⟨rs,c,rk⟩:=z5O (P:=X.prog) (w:=X.w) rel;obtain⟨z,hd,vs0,r0,dd⟩:=zeL I2.hok e;cases r0;refine⟨rs,c,dd,fun h' dd' hs=>⟨.ref s.heap.objs.size,_,?_,rfl,q2⟩⟩;have hz:(z4k [] kvs).length<=sizeLine:=by have h1:=z3N kvs [];rw[y31]at h1;rw[sizeLine_eq];lia
 have he:∃q,h'.get? s.heap.objs.size=some q:=let⟨q,_,_,hq,_⟩:=dd';⟨q,hq⟩;exact z4c I2 (by rw[e];exact y2I) hs he (zcn hz hd (rk.merge .nil) dd')
structure M1(X:Cx)(o:Expr)(m:Str)(apos:Pos)(e:Expr)(cpos:Pos):Prop where
 base:attributeBase o m X.env (eval o X.env)=eval o X.env
 few:((backTo cpos (starEach [e] X.env)).all (fun x=>!x.1)&&(backToKw cpos (keywordEach [] X.env)).all (fun x=>x.1.isSome)
  && decide (([e]:List Expr).length+([]:List Keyword).length+(if([]:List Keyword).isEmpty then 0 else 1)<30))=true
 line:(apos.endLine==cpos.line)=true
 trees:backTo cpos (starEach [e] X.env)=[(false,eval e X.env)]
structure M2(X:Cx)(o:Expr)(m:Str)(apos:Pos)(e f:Expr)(cpos:Pos):Prop where
 base:attributeBase o m X.env (eval o X.env)=eval o X.env
 few:((backTo cpos (starEach [e,f] X.env)).all (fun x=>!x.1)&&(backToKw cpos (keywordEach [] X.env)).all (fun x=>x.1.isSome)
  && decide (([e,f]:List Expr).length+([]:List Keyword).length+(if([]:List Keyword).isEmpty then 0 else 1)<30))=true
 line:(apos.endLine==cpos.line)=true
 trees:backTo cpos (starEach [e,f] X.env)=[(false,eval e X.env),(false,eval f X.env)]
section
variable{X:Cx}{pins:yyP}{σ:St}{H:Hp}{s:Shared}{a:Addr}{y d:V}{u r:Value}{o:Option V}{A:Around}{E:yyE}
end
section
variable{X:Cx}{o e f:Expr}{apos cpos:Pos}{td ty tx:TE}
end
section
variable{X:Cx}{pins:yyP}{σ:St}{H:Hp}{s:Shared}{a:Addr}{kvs:List (Key × V)}{A:Around}{E:yyE}
end
section
variable{X:Cx}{pins:yyP}{σ:St}{H:Hp}{s:Shared}{a:Addr}{y:V}{u:Value}{A:Around}{E:yyE}
end
end L2
namespace Att
open PySem PySem.W PySem.Calls PyProof.Rows
def z5j{P:Params}{h:Heap}:∀(ns:List Int)(vs:List Value),WellAll P h vs (ns.map WData.int)->IntsAre vs ns:=by
 intro ns;induction ns with
 |nil =>
  intro vs w;rw[y0S]at w;cases w;exact .nil
 |cons n ns ih =>
  intro vs w;rw[y0l]at w;cases w with
  |cons a b =>
   cases a;exact .cons _ _ (ih _ b)
def zaC{l:OpenLaw}{n:Nat}(hn:l.most=some n){P:Params}{h:Heap}{args:List WData}{vals:List Value}(hpre:l.row.toRowW.claim.pre args=true)(hwl:WellAll P h vals args) : ∃a vs ns,vals=[Value.ref a]/\args=[WData.list (ns.map WData.int)]/\h.get? a=some { cls:=.type "list",data:=.seq vs.toArray }/\IntsAre vs ns/\ns.length<=n:=by
 have hsh:WShape.hasAll [] args [.list .int]=true:=(pre_splitW hpre).1;have hc:l.pre.holds [] { args:=args }=true:=(pre_splitW hpre).2;obtain⟨d,r,rfl,h1,h2⟩:=hasAllW_cons hsh;obtain rfl:=hasAllW_nil h2;obtain⟨xs,rfl,h3⟩:=hasW_list h1;obtain⟨ns,rfl⟩:=items_int h3;have hlen:ns.length<=n:=by
  unfold OpenLaw.pre at hc;have h4:(WTm.not (.lt (.lit (.int (n:Int))) (.len (.arg 0)))).holds [] { args:=[.list (ns.map .int)] }=true:=by have h4:=(holds_andW hc).1;rw[hn]at h4;exact h4
  have h5:=condW_of h4 (w_not (w_lt w_lit (w_len_list (w_arg rfl))));rw[y01]at h5;refine Nat.le_of_not_lt fun q=>?_;have q':(n:Int)<((ns.length:Nat):Int):=by lia
  first
   | (rw[y1J q']at h5;exact absurd h5 (by decide))
   | (simp at h5;lia)
 cases hwl with
 |cons w1 w2 =>
  cases w2;cases w1 with
  |list ho hall=>exact⟨_,_,ns,rfl,rfl,ho,z5j ns _ hall,hlen⟩
def zaK(l:OpenLaw)(args:List WData):l.row.toRowW.claim.post args (.bool true) args=true :=
 postW_of (r:=l.row.toRowW) (X:=(true==true))
  (show WShape.has [] (.bool true) .bool=true by first|rfl|decide|simp[WShape.has,WShape.arms,WShape.armsAll])
  (show(WTm.eq .res (.lit (.bool true))).value [] { args:=args,res:=some (.bool true),after:=args }=some (.bool (true==true))from w_eq_bool (w_res rfl) w_lit) rfl
def attach_call{l:OpenLaw}{n:Nat}{q:Program}{loose:List Str}{XP:(yyS)->Heap->Prop}{YP:World->Heap->Prop}{d:DefRec}(hn:l.most=some n)(hdf:d.params.defaults=[])(call:∀(w:World) (s₀ s₁:Shared) (mg mb:yyS) (fa:Addr) (o:Obj) (pm cd doc:Value) (a:Addr) (vs:List Value) (ns:List Int), Ground q loose [] XP w s₀ mg mb s₁.heap->YP w s₁.heap -> s₁.heap.get? fa=some o->o.data=.func (docDef d.name d.params d.body d.scope pm cd doc)->s₁.heap.CodeRec cd d.name->mg d.name=some (.ref fa) -> s₁.heap.get? a=some { cls:=.type "list",data:=.seq vs.toArray }->IntsAre vs ns->ns.length<=n->s₁.gens=#[] -> codeAny (model l.prog w) callerA (.call (.ref fa) ⟨[.ref a],[]⟩) (fun r s'=>r=.ok (.ret (.bool true))/\OldK s₁.heap s'.heap/\s'.os=s₁.os/\AllBare s'.gens) s₁) : WalkO q loose XP YP l.row.toRowW d [] (fun f vs=>PySem.call f vs):=by intro w s₀ s₁ mg mb G Y fa o pm cd doc dV kV ho hd hcd hD hmg hg args vals as hpre hlay hrd hwl hlo;obtain rfl:dV=.none:=Dflts.none hD hdf;obtain rfl:kV=.none:=Dflts.noKw hD;obtain⟨a,vs,ns,rfl,rfl,hobj,hints,hlen⟩:=zaC hn hpre hwl;refine enter_call (y2V (call w s₀ s₁ mg mb fa o pm cd doc a vs ns G Y ho (fd_plain hd) hcd hmg hobj hints hlen hg) fun r s' hq=>?_);obtain⟨rfl,h2,h3,h4⟩:=hq;exact⟨.inl ⟨.bool true,.bool true,[],rfl,fun _=>rfl,.bool true,zaK l _,fun _=>⟨y3c,fun _ hm=>(nomatch hm)⟩⟩,h2,h3,h4⟩
section
variable{prog:Program}{w:World}{A:Around}{E:yyE}{s:Shared}{K:Frag}
def zhG(h:Heap)(L d:Addr):yyP:=(List.range h.objs.size).filterMap fun a=>if a=L\/a=d then none else(h.get? a).map fun o=>(a,o)
end
end Att
namespace L2
open PySem PySem.Spec PyProof.Rows
theorem z7M:∀{vs:List Value}{ns:List Int},IntsAre vs ns->z1h (ns.map V.int) vs
 |_,_,.nil=>.nil
 |_,_,.cons n t h=>.cons ⟨t,rfl⟩ (z7M h)
def z1D(s:Stmt):Arguments:=match s with
 |.FunctionDef _ a _ _ _ _ _ _ _ _=>a
 |_=>{ posonlyargs:=[],args:=[],vararg:=none,kwonlyargs:=[],kw_defaults:=[],kwarg:=none,defaults:=[] }
def z0M(s:Stmt):List Stmt:=match s with
 |.FunctionDef _ _ b _ _ _ _ _ _ _=>b
 |_=>[]
def z05(s:Stmt):Scope:=match s with
 |.FunctionDef _ _ _ _ _ _ sc _ _ _=>sc
 |_=>{ kind:=.function,names:=[],isGenerator:=false,isCoroutine:=false }
abbrev E0:XK:=fun _ _ _=>False
structure Fun(K:yyF)(x qual:Str)(st:Stmt)(f:Addr)(fd:FuncData):Prop where
 ex:∃(oc:Value)(od:Option Addr)(kV doc pm:Value)(an:Option Addr)(cdv ct:Value)(osl:Array (Option Value)),
  fd=PySem.W.fnOf x qual (z1D st) (z0M st) (z05 st) .none kV doc pm an cdv ct/\K.lookup f=some ⟨oc,od,.func fd,osl⟩/\PySem.W.codeIn K cdv qual=true
 kp:PySem.W.keepIn K (.ref f)=true
section
variable{P:Program}{w:World}{K:yyF}{mg:yyS}{base:Heap}
def Fun.binds{x qual:Str}{st:Stmt}{f:Addr}{fd:FuncData}{ps:List Str}(F:Fun K x qual st f fd)(h:∀(kV doc pm:Value)(an:Option Addr)(cdv ct:Value)(us:List Value),us.length=ps.length->bindArgs (PySem.W.fnOf x qual (z1D st) (z0M st) (z05 st) .none kV doc pm an cdv ct) ⟨us,[]⟩=pure (ps.zip us)):z0t K fd ps []:=by obtain⟨oc,od,kV,doc,pm,an,cdv,ct,osl,rfl,lk,hcd⟩:=F.ex;exact .all (h kV doc pm an cdv ct)
def z68{x qual:Str}{st:Stmt}{f:Addr}{oc:Value}{od an:Option Addr}{osl:Array (Option Value)}{kV doc pm cdv ct:Value}(l:K.lookup f=some ⟨oc,od,.func (PySem.W.fnOf x qual (z1D st) (z0M st) (z05 st) .none kV doc pm an cdv ct),osl⟩)(c:PySem.W.codeIn K cdv qual=true)(k:PySem.W.keepIn K (.ref f)=true):Fun K x qual st f (PySem.W.fnOf x qual (z1D st) (z0M st) (z05 st) .none kV doc pm an cdv ct):=⟨⟨oc,od,kV,doc,pm,an,cdv,ct,osl,rfl,l,c⟩,k⟩
end
def zan{A:Around}{k:Nat}(hr:z38 k A):A.units+1<cLine:=y33 (Nat.add_le_add_left (by decide:1<=64) _) hr.units
def z3J{n:Nat}(h:n<=1000):n<sizeLine:=y33 h (by decide)
section
variable{X:Cx}
def pv(i:Nat){x:Str}{pos:Pos}(hN:X.N[i]?=some x:=by rfl)(hv:Vis X.env.scope x:=by first|exact Or.inl rfl|exact Or.inr (Or.inl rfl)|exact Or.inr (Or.inr rfl))(hd:(x==("__debug__":Str))=false:=by decide)(hcd:(x==("__classdict__":Str))=false:=by decide):PE X (.Name x pos) (zhT i):=ze1 hN hv hd hcd
end
def z8e{A B:Prop}(h:B):if false=true then A else B:=by rw[if_neg y0R];exact h
def zez{A B:Prop}(h:A):if true=true then A else B:=by rw[if_pos rfl];exact h
def z4h{c A B:Prop}[Decidable c](h1:c->A)(h2:¬c->B):if c then A else B:=by
 by_cases h:c
 .rw[if_pos h];exact h1 h
 .rw[if_neg h];exact h2 h
def z0d(H H':Hp):Prop:=∀b o,H b=some o->H' b=some o
def z0d.refl(H:Hp):z0d H H:=fun _ _ h=>h
def z0d.trans{H H1 H2:Hp}(a:z0d H H1)(b:z0d H1 H2):z0d H H2:=fun c o h=>b c o (a c o h)
def z0d.free{H H':Hp}(e:z0d H H'){l:Addr}(h:H' l=Option.none):H l=Option.none:=by
 cases q:H l with
 |none=>rfl
 |some o =>
  rw[e l o q]at h;cases h
def z0d.seq{K:yyF}{H H':Hp}{a:Addr}{xs:List V}(e:z0d H H')(h:SqL K H a xs):SqL K H' a xs:=by
 rcases h with(h|⟨o,h⟩)|h
 .exact .inl (.inl (e _ _ h))
 .exact .inl (.inr ⟨o,e _ _ h⟩)
 .exact .inr h
section
variable{κ:Type}[DecidableEq κ]
def zfh{kvs:List (κ × V)}{k:κ}{v:V}(h:z2N kvs k=some v):k∈kvs.map (·.1):=by
 have q:(kvs.any fun kv=>decide (kv.1=k))=true:=by rw[z3i,h];all_goals rfl
 obtain⟨p,hp,e⟩:=y1S.mp q;exact y0b.mpr ⟨p,hp,y14 e⟩
theorem zce:∀{l:List κ}{k:κ},l.Nodup->¬k∈l->(l++[k]).Nodup
 |[],k,_,_=>by simp
 |a::r,k,h,hk=>by
  obtain⟨h1,h2⟩:=y1y.mp h;show(a::(r++[k])).Nodup;refine y1y.mpr ⟨fun m=>?_,zce h2 fun m=>hk (y0x.mpr (Or.inr m))⟩;rcases y0q.mp m with q|q
  .exact h1 q
  .exact hk (y0x.mpr (Or.inl (y08.mp q).symm))
end
end L2
namespace Gu
open PySem L2
def top(i:Nat):Stmt:=PySem.Challenge.pw_guisery_k33_whole_sections_joined.main.body.getD i (.Pass ⟨0,0,0,0⟩)
abbrev z4M:Stmt:=top 5
abbrev z6s:Stmt:=top 6
abbrev z4u:Stmt:=top 9
abbrev z5B:Stmt:=top 10
abbrev z9I:Stmt:=top 11
abbrev z9x:Stmt:=top 12
abbrev z6K:Stmt:=top 13
abbrev z61:Stmt:=top 14
abbrev zaL:Stmt:=top 15
abbrev z2t:Stmt:=top 16
abbrev z4K:Stmt:=top 18
abbrev z2n:Stmt:=top 20
abbrev z2q:Stmt:=top 21
abbrev z5D:Stmt:=top 22
abbrev z3z:Stmt:=top 23
abbrev z70:Stmt:=top 24
abbrev z2X:Stmt:=top 26
abbrev z3M:Stmt:=top 27
abbrev z4N:Stmt:=top 28
abbrev z7c:Stmt:=top 29
abbrev z5E:Stmt:=top 30
abbrev zdj:Stmt:=top 32
abbrev z4C:Stmt:=top 33
abbrev z5n:Stmt:=top 34
abbrev z45:Stmt:=top 35
abbrev z4x:Stmt:=top 36
abbrev zdx:Stmt:=top 37
abbrev z91:Stmt:=top 38
abbrev z9A:Stmt:=top 39
abbrev z3w:Stmt:=top 40
abbrev zcO:Stmt:=top 41
abbrev zab:Stmt:=top 42
open PySem.W PyProof.Rows
section
variable(tb:String->Option Builtin)(p:Program)(w:World)(m:Nat)(an:Option Value)
def zgr:Nat->SharedT->Thread->Option SharedT
 |0,_,_=>none
 |n+1,x,y=>match through y,stepOk m an y with
  |true,_=>some x
  |false,false=>none
  |false,true=>match stepT (denote tb) p w x y with
   |some z=>zgr n z.1 z.2
   |none=>none
end
section
variable{tb:String->Option Builtin}{p:Program}{w:World}{m:Nat}{an:Option Value}
theorem zbV:∀(n:Nat)(x r:SharedT)(y:Thread),zgr tb p w m an n x y=some r->topRun tb p w m an n x.abs y=some r.abs
 |0,_,_,_,h=>by cases h
 |n+1,x,r,y,h=>by
  unfold zgr at h;unfold topRun;cases ht:through y<;>cases hk:stepOk m an y<;>rw[ht,hk]at h<;>dsimp only at h⊢
  .cases h
  .cases hs:stepT (denote tb) p w x y with
   |none=>rw[hs]at h;cases h
   |some z =>
    rw[hs]at h;rw[stepT_spec (s':=z.1) (t':=z.2) hs];exact zbV n _ _ _ h
  .cases h;rfl
  .cases h;rfl
end
noncomputable def zex(P:Params):BT:=(.node (boot_o_0 P) (.node (boot_o_1 P) (.node (boot_o_3 P) (.node (boot_o_7 P) .nil .nil) .nil) (.node (boot_o_5 P) (.node (boot_o_9 P) .nil .nil) .nil)) (.node (boot_o_2 P) (.node (boot_o_4 P) (.node (boot_o_8 P) .nil .nil) .nil) (.node (boot_o_6 P) (.node (boot_o_10 P) .nil .nil) .nil)))
noncomputable def z46(w:World)(os:OsState):SharedT:=⟨zex w.params,11,(boot_heap w.params).life,Array.mk [],boot_drawn,boot_toks,os⟩
def zdG(P:Params):absHeap (zex P) 11 (boot_heap P).life=boot_heap P:=by kernel_rfl
def zeM{p q:Program}{Xt:Shared->Bool}{α:Type}{Yf:Shared->α}{Ya:World->α}{N:Nat}(e:opening p=plainProg p.main.scope.names)(hN:Nat.ble 600 N=true)(f:∀s,fenceModules? p s=some s)
  (h:∀w os,(zgr treeTable p w 11 (some (.ref 6)) N (z46 w os) (topStub p)).bind (fun r=>match staticsOk (importedModules p.main.body) (z46 w os).abs.heap r.abs.heap&&namesBound p r.abs.heap&&gensDone r.abs&&laidKept (z46 w os).abs.heap r.abs.heap with
   |true=>some (openSeen q [] (importedModules p.main.body) Xt true r.abs,Yf r.abs)
   |false=>none)=some (openGood q [],Ya w)):LeftO p q [] Xt Yf Ya N:=fun w=>by
 obtain⟨s,hs,hv⟩:=y1a.mp (boot_open e hN f w);have es:s=(z46 w s.os).abs:=by
  obtain⟨h1,g1,d1,t1,o1⟩:=s;obtain⟨a,b,c,d⟩:h1=boot_heap w.params/\g1=Array.mk []/\d1=boot_drawn/\t1=boot_toks:=by simpa[Prod.ext_iff]using hv
  subst a b c d;show _=(⟨absHeap (zex w.params) 11 (boot_heap w.params).life,_,_,_,_⟩:Shared);rw[zdG];rfl
 have k:=h w s.os;obtain⟨r,hr,k⟩:=Option.bind_eq_some_iff.mp k;unfold openEnds;rw[hs];show(topFrom treeTable p w N s).map _=_;unfold topFrom;rw[es];have z1:((z46 w s.os).abs.heap.isNs mainGlobals&&(z46 w s.os).abs.gens.size==0)=true:=by kernel_rfl
 have z2:(z46 w s.os).abs.heap.objs.size=11:=by kernel_rfl
 have z3:(z46 w s.os).abs.heap.nsMap mainGlobals "__annotations__"=some (.ref 6):=by kernel_rfl
 rw[z1,z2,z3];dsimp only;rw[zbV _ _ _ _ hr];show Option.map _ (match _ with|true=>_|false=>_)=_
 cases c:staticsOk (importedModules p.main.body) (z46 w s.os).abs.heap r.abs.heap&&namesBound p r.abs.heap&&gensDone r.abs&&laidKept (z46 w s.os).abs.heap r.abs.heap with
 |false=>rw[c]at k;cases k
 |true =>
  rw[c]at k;exact k
def kE(P:Params)(x:Str)(t:Tok)(v:Value):DictEntry:={ hash:=PyData.keyHash P x,key:=Value.str x t,val:=v }
def kF(s:Stmt)(x:Str)(kV dc pm:Value)(an:Option Addr)(cd ct:Value):Obj:=⟨.type "function",none,.func (PySem.W.fnOf x x (z1D s) (z0M s) (z05 s) .none kV dc pm an cd ct),#[]⟩
abbrev vN:Value:=.none
abbrev vR(a:Addr):Value:=.ref a
def kR(P:Params)(x:Str)(t:Tok)(a:Addr):DictEntry:=kE P x t (.ref a)
def kG(s:Stmt)(x m:Str)(t:Tok)(c:Addr):Obj:=kF s x .none .none (.str m t) none (.ref c) .none
def kC(x:Str)(a b c d:Tok)(vs:Array Value):Obj:={ cls:=.type "code",data:=.fields (#[Value.str x a,Value.str x b,Value.str "/claim/cut.py" c]++vs++#[Value.str "/claim/cut.py" d]) }
def kD(x:Str)(a b c d:Tok)(ln ar:Int)(A:Addr)(fl:Int)(B:Addr)(X Y Z:Value)(u:Int):Obj:=kC x a b c d #[.int ln 0,.int ar 0,.int 0 0,.int 0 0,.int 3 0,.ref A,.bool true,.int fl 0,.ref B,.none,X,Y,Z,.int u 0,.int ln 0]
def KH(P:Params):PySem.W.Frag:=(nat_lit 2,{ cls:=Value.none,data:=Data.dict #[] }) ::
 (nat_lit 3,{ cls:=Value.type "dict",data:=Data.dict #[kE P "__name__" 165 (Value.str "law_guisery_k33_whole_sections_joined" 424),kE P "__doc__" 166 (Value.none),kE P "__package__" 167 (Value.none),kE P "__loader__" 168 (Value.builtin "__main__.__loader__#opaque"),kE P "__spec__" 169 (Value.none),kR P "__annotations__" 170 6,kR P "__builtins__" 171 4,kE P "__file__" 173 (Value.str "/claim/cut.py" 172),kE P "__cached__" 174 (Value.none),kR P "GuiseError" 206 24,kR P "BadWord" 222 37,kR P "TooMany" 238 49,kR P "turned" 246 56,kR P "undone" 256 63,kE P "MOST_FORM_ROWS" 260 (Value.int 60 259),kR P "breadth" 269 70,kR P "section_at" 278 77,kR P "read_from" 292 84,kR P "least_form" 306 91,kR P "rows_come_to" 312 96,kR P "kinds_of_rows" 318 101,kR P "kinds_gone_to" 324 106,kR P "numbered" 330 111,kR P "check_word" 338 116,kR P "joined" 350 123,kR P "joined_row" 356 128,kR P "back" 364 135,kR P "row_back" 370 140,kR P "behind" 380 147,kR P "sections" 388 152,kR P "lasting" 394 157,kR P "comes_again" 400 162,kR P "gone_to" 413 169,kR P "crew" 423 176,kR P "_law_cell" 433 183,kR P "_law_letters" 441 190,kR P "_law_in_line" 447 195,kR P "_law_shrunk" 453 200,kR P "_law_numbers" 464 207,kR P "_law_rearranged" 476 214,kR P "_law_rows" 482 219,kR P "_law_guise" 490 226,kR P "_law_each_two" 496 231,kR P "_law_both" 505 238,kR P "law" 511 243] 45 }) ::
 (nat_lit 23,{ cls:=Value.type "dict",data:=Data.dict #[kE P "__module__" 196 (Value.str "guisery.errors" 187),kE P "__firstlineno__" 200 (Value.int 2 199),kR P "__static_attributes__" 201 22,kR P "__weakref__" 203 25,kE P "__doc__" 204 (Value.none)] 3 }) ::
 (nat_lit 24,{ cls:=Value.type "type",data:=Data.cls { name:="GuiseError",bases:=[Value.type "ValueError"],mro:=[Value.ref 24,Value.type "ValueError",Value.type "Exception",Value.type "BaseException",Value.type "object"],ns:=23,qualname:="GuiseError",subclasses:=[Value.ref 37,Value.ref 49] },slots:=#[some (Value.ref 15),none,some (Value.str "GuiseError" 189),some (Value.str "GuiseError" 197),some (Value.builtin "ValueError.__new__"),some (Value.bool true)] }) ::
 (nat_lit 25,{ cls:=Value.type "getset_descriptor",data:=Data.fields #[Value.str "__weakref__" 202,Value.ref 24,Value.builtin "ExceptionGroup.__weakref__",Value.none] }) ::
 (nat_lit 36,{ cls:=Value.type "dict",data:=Data.dict #[kE P "__module__" 214 (Value.str "guisery.errors" 187),kE P "__firstlineno__" 218 (Value.int 4 217),kR P "__static_attributes__" 219 35,kE P "__doc__" 220 (Value.none)] 2 }) ::
 (nat_lit 37,{ cls:=Value.type "type",data:=Data.cls { name:="BadWord",bases:=[Value.ref 24],mro:=[Value.ref 37,Value.ref 24,Value.type "ValueError",Value.type "Exception",Value.type "BaseException",Value.type "object"],ns:=36,qualname:="BadWord" },slots:=#[some (Value.ref 28),none,some (Value.str "BadWord" 207),some (Value.str "BadWord" 215),some (Value.builtin "ValueError.__new__"),some (Value.bool true)] }) ::
 (nat_lit 48,{ cls:=Value.type "dict",data:=Data.dict #[kE P "__module__" 230 (Value.str "guisery.errors" 187),kE P "__firstlineno__" 234 (Value.int 6 233),kR P "__static_attributes__" 235 47,kE P "__doc__" 236 (Value.none)] 2 }) ::
 (nat_lit 49,{ cls:=Value.type "type",data:=Data.cls { name:="TooMany",bases:=[Value.ref 24],mro:=[Value.ref 49,Value.ref 24,Value.type "ValueError",Value.type "Exception",Value.type "BaseException",Value.type "object"],ns:=48,qualname:="TooMany" },slots:=#[some (Value.ref 40),none,some (Value.str "TooMany" 223),some (Value.str "TooMany" 231),some (Value.builtin "ValueError.__new__"),some (Value.bool true)] }) ::
 (nat_lit 55,kD "turned" 241 242 243 245 9 2 52 181 53 vN vN (vR 54) 244) ::
 (nat_lit 56,kG z4M "turned" "guisery.letters" 239 55) ::
 (nat_lit 62,kD "undone" 247 248 249 255 11 1 57 181 58 (vR 59) (vR 60) (vR 61) 254) ::
 (nat_lit 63,kG z6s "undone" "guisery.letters" 239 62) ::
 (nat_lit 69,kD "breadth" 261 262 263 268 18 1 64 181 65 (vR 66) (vR 67) (vR 68) 267) ::
 (nat_lit 70,kG z4u "breadth" "guisery.machines" 257 69) ::
 (nat_lit 76,kD "section_at" 270 271 272 277 21 2 71 181 72 (vR 73) (vR 74) (vR 75) 276) ::
 (nat_lit 77,kG z5B "section_at" "guisery.machines" 257 76) ::
 (nat_lit 83,kD "read_from" 279 280 281 291 23 3 78 181 79 (vR 80) (vR 81) (vR 82) 290) ::
 (nat_lit 84,kG z9I "read_from" "guisery.machines" 257 83) ::
 (nat_lit 90,kD "least_form" 293 294 295 305 31 2 85 181 86 (vR 87) (vR 88) (vR 89) 304) ::
 (nat_lit 91,kG z9x "least_form" "guisery.machines" 257 90) ::
 (nat_lit 95,kD "rows_come_to" 307 308 309 311 39 2 92 181 93 vN vN (vR 94) 310) ::
 (nat_lit 96,kG z6K "rows_come_to" "guisery.machines" 257 95) ::
 (nat_lit 100,kD "kinds_of_rows" 313 314 315 317 51 1 97 181 98 vN vN (vR 99) 316) ::
 (nat_lit 101,kG z61 "kinds_of_rows" "guisery.machines" 257 100) ::
 (nat_lit 105,kD "kinds_gone_to" 319 320 321 323 60 2 102 181 103 vN vN (vR 104) 322) ::
 (nat_lit 106,kG zaL "kinds_gone_to" "guisery.machines" 257 105) ::
 (nat_lit 110,kD "numbered" 325 326 327 329 62 1 107 181 108 vN vN (vR 109) 328) ::
 (nat_lit 111,kG z2t "numbered" "guisery.machines" 257 110) ::
 (nat_lit 115,kD "check_word" 333 334 335 337 69 2 112 181 113 vN vN (vR 114) 336) ::
 (nat_lit 116,kG z4K "check_word" "guisery.words" 331 115) ::
 (nat_lit 122,kD "joined" 341 342 343 349 73 2 117 181 118 (vR 119) (vR 120) (vR 121) 348) ::
 (nat_lit 123,kG z2n "joined" "guisery.joining" 339 122) ::
 (nat_lit 127,kD "joined_row" 351 352 353 355 75 3 124 181 125 vN vN (vR 126) 354) ::
 (nat_lit 128,kG z2q "joined_row" "guisery.joining" 339 127) ::
 (nat_lit 134,kD "back" 357 358 359 363 81 1 129 181 130 (vR 131) (vR 132) (vR 133) 362) ::
 (nat_lit 135,kG z5D "back" "guisery.joining" 339 134) ::
 (nat_lit 139,kD "row_back" 365 366 367 369 83 1 136 181 137 vN vN (vR 138) 368) ::
 (nat_lit 140,kG z3z "row_back" "guisery.joining" 339 139) ::
 (nat_lit 146,kD "behind" 371 372 373 379 87 2 141 181 142 (vR 143) (vR 144) (vR 145) 378) ::
 (nat_lit 147,kG z70 "behind" "guisery.joining" 339 146) ::
 (nat_lit 151,kD "sections" 383 384 385 387 92 1 148 181 149 vN vN (vR 150) 386) ::
 (nat_lit 152,kG z2X "sections" "guisery.crews" 381 151) ::
 (nat_lit 156,kD "lasting" 389 390 391 393 94 1 153 181 154 vN vN (vR 155) 392) ::
 (nat_lit 157,kG z3M "lasting" "guisery.crews" 381 156) ::
 (nat_lit 161,kD "comes_again" 395 396 397 399 96 2 158 181 159 vN vN (vR 160) 398) ::
 (nat_lit 162,kG z4N "comes_again" "guisery.crews" 381 161) ::
 (nat_lit 168,kD "gone_to" 401 402 403 412 107 2 163 181 164 (vR 165) (vR 166) (vR 167) 411) ::
 (nat_lit 169,kG z7c "gone_to" "guisery.crews" 381 168) ::
 (nat_lit 175,kD "crew" 414 415 416 422 114 1 170 181 171 (vR 172) (vR 173) (vR 174) 421) ::
 (nat_lit 176,kG z5E "crew" "guisery.crews" 381 175) ::
 (nat_lit 182,kD "_law_cell" 426 427 428 432 121 2 177 181 178 (vR 179) (vR 180) (vR 181) 431) ::
 (nat_lit 183,kG zdj "_law_cell" "law_guisery_k33_whole_sections_joined" 424 182) ::
 (nat_lit 189,kD "_law_letters" 434 435 436 440 127 2 184 181 185 (vR 186) (vR 187) (vR 188) 439) ::
 (nat_lit 190,kG z4C "_law_letters" "law_guisery_k33_whole_sections_joined" 424 189) ::
 (nat_lit 194,kD "_law_in_line" 442 443 444 446 129 3 191 181 192 vN vN (vR 193) 445) ::
 (nat_lit 195,kG z5n "_law_in_line" "law_guisery_k33_whole_sections_joined" 424 194) ::
 (nat_lit 199,kD "_law_shrunk" 448 449 450 452 137 2 196 181 197 vN vN (vR 198) 451) ::
 (nat_lit 200,kG z45 "_law_shrunk" "law_guisery_k33_whole_sections_joined" 424 199) ::
 (nat_lit 206,kD "_law_numbers" 454 455 456 463 160 2 201 181 202 (vR 203) (vR 204) (vR 205) 462) ::
 (nat_lit 207,kG z4x "_law_numbers" "law_guisery_k33_whole_sections_joined" 424 206) ::
 (nat_lit 213,kD "_law_rearranged" 465 466 467 475 171 2 208 181 209 (vR 210) (vR 211) (vR 212) 474) ::
 (nat_lit 214,kG zdx "_law_rearranged" "law_guisery_k33_whole_sections_joined" 424 213) ::
 (nat_lit 218,kD "_law_rows" 477 478 479 481 179 2 215 181 216 vN vN (vR 217) 480) ::
 (nat_lit 219,kG z91 "_law_rows" "law_guisery_k33_whole_sections_joined" 424 218) ::
 (nat_lit 225,kD "_law_guise" 483 484 485 489 198 2 220 181 221 (vR 222) (vR 223) (vR 224) 488) ::
 (nat_lit 226,kG z9A "_law_guise" "law_guisery_k33_whole_sections_joined" 424 225) ::
 (nat_lit 230,kD "_law_each_two" 491 492 493 495 200 2 227 181 228 vN vN (vR 229) 494) ::
 (nat_lit 231,kG z3w "_law_each_two" "law_guisery_k33_whole_sections_joined" 424 230) ::
 (nat_lit 237,kD "_law_both" 497 498 499 504 205 2 232 181 233 (vR 234) (vR 235) (vR 236) 503) ::
 (nat_lit 238,kG zcO "_law_both" "law_guisery_k33_whole_sections_joined" 424 237) ::
 (nat_lit 242,kD "law" 506 507 508 510 212 1 239 181 240 vN vN (vR 241) 509) ::
 (nat_lit 243,kG zab "law" "law_guisery_k33_whole_sections_joined" 424 242)::[]
def KA:List Addr:=nat_lit 2::nat_lit 3::nat_lit 23::nat_lit 24::nat_lit 25::nat_lit 36::nat_lit 37::nat_lit 48::nat_lit 49::nat_lit 55::nat_lit 56::nat_lit 62::nat_lit 63::nat_lit 69::nat_lit 70::nat_lit 76::nat_lit 77::nat_lit 83::nat_lit 84::nat_lit 90::nat_lit 91::nat_lit 95::nat_lit 96::nat_lit 100::nat_lit 101::nat_lit 105::nat_lit 106::nat_lit 110::nat_lit 111::nat_lit 115::nat_lit 116::nat_lit 122::nat_lit 123::nat_lit 127::nat_lit 128::nat_lit 134::nat_lit 135::nat_lit 139::nat_lit 140::nat_lit 146::nat_lit 147::nat_lit 151::nat_lit 152::nat_lit 156::nat_lit 157::nat_lit 161::nat_lit 162::nat_lit 168::nat_lit 169::nat_lit 175::nat_lit 176::nat_lit 182::nat_lit 183::nat_lit 189::nat_lit 190::nat_lit 194::nat_lit 195::nat_lit 199::nat_lit 200::nat_lit 206::nat_lit 207::nat_lit 213::nat_lit 214::nat_lit 218::nat_lit 219::nat_lit 225::nat_lit 226::nat_lit 230::nat_lit 231::nat_lit 237::nat_lit 238::nat_lit 242::nat_lit 243::[]
end Gu
lay_quick PySem.Challenge.pw_guisery_k33_whole_sections_joined
namespace Gu
open PySem PySem.W PyProof.Rows PySem.W.Fast
noncomputable abbrev pY:Program:=PySem.Challenge.pw_guisery_k33_whole_sections_joined
noncomputable abbrev pQ:Program:=tw8434187590843373464
noncomputable abbrev rY:OpenRow:=PySem.Challenge.rw_guisery_k33_whole_sections_joined.row
noncomputable def viewOf(p:Program):Program:={ p with main:={ p.main with body:=[1,2,3,5,6,8,9,10,11,12,13,14,15,16,18,20,21,22,23,24,26,27,28,29,30,32,33,34,35,36,37,38,39,40,41,42].map fun i=>p.main.body.getD i (.Pass ⟨0,0,0,0⟩) } }
noncomputable abbrev HK:Hook:=PySem.W.kmHook Gu.KH Gu.KA (fun _=>by kernel_rfl) [72,171,130,118]
def pqe:pY=pQ:=te8434187590843373464
set_option maxHeartbeats 0 in
def zgQ:∀w os,(zgr tw14364793385576792824 pQ w 11 (some (.ref 6)) 3356 (z46 w os) (topStub pQ)).bind (fun r=>match staticsOk (tw5923862056798008813 pQ.main.body) (z46 w os).abs.heap r.abs.heap&&namesBound pQ r.abs.heap&&gensDone r.abs&&laidKept (z46 w os).abs.heap r.abs.heap with
 |true=>some (tw4187177175401517315 (viewOf pQ) [] (tw5923862056798008813 pQ.main.body) (fun s=>xlAt (viewOf pQ) [] s&&recOk [] s) true r.abs,HK.obs r.abs)
 |false=>none)=some (openGood (viewOf pQ) [],HK.val w):=fun w os=>by kernel_rfl
def left:LeftO rY.prog (viewOf pY) [] (fun s=>xlAt (viewOf pY) [] s&&recOk (RowW.records rY.toRowW) s) HK.obs HK.val 3356:=by have h:=zgQ;rw[<-te14364793385576792824,<-te4187177175401517315,<-te5923862056798008813,<-pqe]at h;exact zeM (by kernel_rfl) (by rfl) (fun _=>rfl) h
end Gu
namespace L2
open PySem PySem.Spec PyProof.Rows
def z0r(cells:List (Str × Addr)):List (Str × NameKind)->List (Str × Addr)->List (Str × Addr)
 |[],cs=>cs
 | (n,k)::r,cs=>z0r cells r (if k=.free then(n,(cells.lookup n).getD 0)::cs else cs)
theorem z28{cells:List (Str × Addr)}:∀(l:List (Str × NameKind))(cs:List (Str × Addr))(x:Str),(∀y,(y,NameKind.free)∈l->∃c,cells.lookup y=some c)->((x,NameKind.free)∈l\/cs.lookup x=cells.lookup x)->(z0r cells l cs).lookup x=cells.lookup x
 |[],cs,x,_,h=>by
  rcases h with h|h
  .cases h
  .exact h
 | (n,k)::r,cs,x,hc,h=>by
  refine z28 r _ x (fun y hy=>hc y (y09 _ hy)) ?_;by_cases hk:k=.free
  .subst hk;rw[if_pos rfl];by_cases e:x=n
   .subst e;obtain⟨c,hcx⟩:=hc x y0m;right;rw[y17,hcx];simp
   .rcases h with h|h
    .rcases y0x.mp h with h|h
     .exact absurd (y28 Prod.fst h) e
     .exact .inl h
    .right;have:(x==n)=false:=by simpa using e
     rw[y17,this];exact h
  .rw[if_neg hk];rcases h with h|h
   .rcases y0x.mp h with h|h
    .exact absurd (y28 Prod.snd h).symm hk
    .exact .inl h
   .exact .inr h
theorem z3f{cells:List (Str × Addr)}:∀(l:List (Str × NameKind))(cs:List (Str × Addr))(x:Str),(x,NameKind.free)∉l->(z0r cells l cs).lookup x=cs.lookup x
 |[],cs,x,_=>rfl
 | (n,k)::r,cs,x,h=>by
  refine(z3f r _ x (fun hy=>h (y09 _ hy))).trans ?_;by_cases hk:k=.free
  .subst hk;rw[if_pos rfl];have e:x≠n:=fun e=>h (by subst e;exact y0m);have:(x==n)=false:=by simpa using e
   rw[y17,this]
  .rw[if_neg hk]
def z1s{scope:Scope}{env:Env}(h:∀y,(y,NameKind.free)∈scope.names->∃c,env.cells.lookup y=some c):closureFor scope env=pure (z0r env.cells scope.names []):=by
 have key:∀(l:List (Str × NameKind))(cs:List (Str × Addr)),(∀y,(y,NameKind.free)∈l->∃c,env.cells.lookup y=some c) ->
   (forIn l cs (fun(x:Str × NameKind)(r:List (Str × Addr))=>if(x.2==NameKind.free)=true then(do let c <-cellOf env x.1;pure (ForInStep.yield ((x.1,c)::r)):Sem _)else pure (ForInStep.yield r)):Sem (List (Str × Addr)))=pure (z0r env.cells l cs):=by
  intro l;induction l with
  |nil=>intro cs _;rfl
  |cons x r ih =>
   intro cs hc;obtain⟨n,k⟩:=x;rw[y3E];by_cases hk:k=.free
   .subst hk;obtain⟨c,e⟩:=hc n y0m;have e1:cellOf env n=pure c:=by unfold cellOf;rw[e]
    have e2:z0r env.cells ((n,NameKind.free)::r) cs=z0r env.cells r ((n,c)::cs):=by show z0r env.cells r (if NameKind.free=NameKind.free then(n,(env.cells.lookup n).getD 0)::cs else cs)=_;rw[if_pos rfl,e];all_goals rfl
    rw[e2,<-ih _ (fun y hy=>hc y (y09 _ hy))];simp only[beq_self_eq_true,y2b,e1];rfl
   .have hb:(k==NameKind.free)=false:=by simpa using hk
    have e2:z0r env.cells ((n,k)::r) cs=z0r env.cells r cs:=by show z0r env.cells r (if k=NameKind.free then _ else cs)=_;rw[if_neg hk]
    rw[e2,<-ih _ (fun y hy=>hc y (y09 _ hy))];simp only[hb,y0d,y1m];rfl
 have:=key scope.names [] h;unfold closureFor;simp only[]at this⊢;exact(y28 (fun m=>m>>=pure) this).trans rfl
def noE:yyE:=fun _ _=>False
section
variable{prog:Program}{w:World}{A:Around}{R:Result->Shared->Prop}{s:Shared}
def zaw{elt tg iter:Expr}{scope:Scope}{pos:Pos}{it acc:Value}{env:Env}(I:Nat->Shared->Prop)
  (z3u:∀n s,I n s->wpAny (model prog w) A (pyNext it) (fun r s1=>match r with
   |none=>R (.ok .next) s1
   |some v=>wpAny (model prog w) A (letOwnedTupleGo tg it v) (fun _ s2=>wpAny (model prog w) A (assign tg env v) (fun _ s3=>wpAny (model prog w) A (eval elt env) (fun x s4 =>
     wpAny (model prog w) A (call (.builtin "list.append") [acc,x]) (fun _ s5=>∃m,m<n/\I m s5) noE s4) noE s3) noE s2) noE s1) noE s)
  (n:Nat) (h:I n s):codeAny (model prog w) A (.compLoop (.ListComp elt [⟨tg,iter,[],0⟩] scope pos) 0 it acc env) R s:=by
 have no:∀(P:yyE)(a:Value)(b:Shared),noE a b->P a b:=fun _ _ _ z=>False.elim z;refine codeAny_loop rfl I (fun n s hI=>?_) n h;show wpAny _ _ ((compTurn (.ListComp elt [⟨tg,iter,[],0⟩] scope pos) 0 it acc env).onRaise
  (fun x=>do noteFrame x env;theTreesLotGoes x)) _ _ s
 refine wpAny_noted ?_;rw[compTurn_list1];refine y03 (y2H (y03 (y0Y (z3u n s hI) (fun r s1 h1=>?_) (no _))));cases r with
 |none=>exact y0g h1
 |some v =>
  refine y03 (y0Y h1 (fun _ s2 h2=>?_) (no _));refine y03 (y0Y h2 (fun _ s3 h3=>?_) (no _));refine y03 (y03 (y0Y h3 (fun x s4 h4=>?_) (no _)));exact y03 (y0Y h4 (fun _ s5 h5=>y0g (y0g ⟨rfl,h5⟩)) (no _))
end
def zfp(env:Env)(p:Str × NameKind):Str × NameKind:=if(p.2==NameKind.free&&env.scope.kind == .function&&env.kindOf p.1==some .cell)=true then(p.1,NameKind.cell)else p
def z9K{env:Env}{p:Str × NameKind}(h:(p.2==NameKind.free&&env.scope.kind == .function&&env.kindOf p.1==some .cell)=true):zfp env p=(p.1,NameKind.cell):=if_pos h
def z9g{env:Env}{p:Str × NameKind}(h:¬(p.2==NameKind.free&&env.scope.kind == .function&&env.kindOf p.1==some .cell)=true):zfp env p=p:=if_neg h
theorem z2k{env:Env}{x:Str}:∀{l:List (Str × NameKind)},l.lookup x=some .free->(l.map (zfp env)).lookup x=some .cell\/(l.map (zfp env)).lookup x=some .free
 |[],h=>by simp at h
 | (n,k)::r,h=>by
  rw[y0l];by_cases hc:(k==NameKind.free&&env.scope.kind == .function&&env.kindOf n==some .cell)=true
  .rw[z9K (p:=(n,k)) hc];cases hx:x==n with
   |true=>left;rw[y17,hx]
   |false =>
    rw[y17,hx]at h;rw[y17,hx];exact z2k h
  .rw[z9g (p:=(n,k)) hc];cases hx:x==n with
   |true=>right;rw[y17,hx]at h;rw[y17,hx];exact h
   |false =>
    rw[y17,hx]at h;rw[y17,hx];exact z2k h
theorem z2V{env:Env}{x:Str}{kd:NameKind}(hkd:kd=.cell\/kd=.free):∀{l:List (Str × NameKind)},(∀y∈l,y.2≠.cell)->(l.map (zfp env)).lookup x=some kd->(x,NameKind.free)∈l
 |[],_,h=>by simp at h
 | (n,k)::r,hn,h=>by
  rw[y0l]at h;have hk:k≠.cell:=hn (n,k) y0m;have up:(r.map (zfp env)).lookup x=some kd->(x,NameKind.free)∈(n,k)::r:=fun h2=>y09 _ (z2V hkd (fun y hy=>hn y (y09 _ hy)) h2);by_cases hc:(k==NameKind.free&&env.scope.kind == .function&&env.kindOf n==some .cell)=true
  .rw[z9K (p:=(n,k)) hc]at h;cases hx:x==n with
   |true =>
    have hxn:x=n:=by simpa using hx
    subst hxn;have z:=hc;simp only[y3s,y3d]at z;rw[z.1.1];exact y0m
   |false=>rw[y17,hx]at h;exact up h
  .rw[z9g (p:=(n,k)) hc]at h;cases hx:x==n with
   |true =>
    have hxn:x=n:=by simpa using hx
    subst hxn;rw[y17,hx]at h;have e:k=kd:=y07 h;rcases hkd with z|z
    .exact absurd (e.trans z) hk
    .rw[e,z];exact y0m
   |false=>rw[y17,hx]at h;exact up h
def z0E(X:Cx)(N:List Str)(scope:Scope)(cl:List (Str × Addr))(C:Addr)(ex:List Addr)(s:Shared)(H:Hp):Cx where
 prog:=X.prog
 w:=X.w
 K:=X.K
 mg:=X.mg
 base:=X.base
 A:=X.A
 N:=N
 s₀:=s
 H₀:=H
 env:=compEnvC scope cl C X.env
 outer:=X.stack
 stack:=X.stack
 ex:=ex
 fn:=fun _=>false
 calm:=X.calm
 pn:=[]
 xe:=noE
structure z0W(XN:List Str)(xsc:Scope)(N:List Str)(ix:List (Option Nat))(scope:Scope):Prop where
 kind:scope.kind=.function:=by rfl
 nocell:∀y∈scope.names,y.2≠.cell:=by decide +kernel
 names:∀y∈scope.names,y.2=.local->scope.names.lookup y.1=some .local:=by decide +kernel
 frees:∀y∈scope.names,y.2=.free->xsc.names.lookup y.1=some .cell\/xsc.names.lookup y.1=some .free:=by decide +kernel
 len:ix.length=N.length:=by rfl
 has:((ix.zip N).all fun p=>match p.1 with|none=>true|some j=>XN[j]?==some p.2&&scope.names.lookup p.2==some .free)=true:=by decide +kernel
 nd:N.Nodup:=by decide +kernel
def z0T(ix:List (Option Nat))(σ:St):St:=ix.map fun o=>o.bind fun j=>(σ[j]?).join
def z0W.at_{XN:List Str}{xsc:Scope}{N:List Str}{ix:List (Option Nat)}{scope:Scope}(S:z0W XN xsc N ix scope){i:Nat}{x:Str}{v:V}{σ:St}(hi:N[i]?=some x)(hv:(z0T ix σ)[i]?=some (some v)) : ∃j:Nat,XN[j]?=some x/\scope.names.lookup x=some .free/\σ[j]?=some (some v):=by
 unfold z0T at hv;rw[y04]at hv;cases e:ix[i]? with
 |none=>rw[e]at hv;cases hv
 |some o =>
  rw[e]at hv;cases o with
  |none=>cases hv
  |some j =>
   have hv':(σ[j]?).join=some v:=y07 hv;have hm:((some j:Option Nat),x)∈ix.zip N:=by
    have:(ix.zip N)[i]?=some (some j,x):=by rw[y12];exact⟨e,hi⟩
    exact y0z this
   have q:=List.all_eq_true.mp S.has _ hm;simp only[y3s,y3d]at q;refine⟨j,q.1,q.2,?_⟩;cases z:σ[j]? with
   |none=>rw[z]at hv';cases hv'
   |some u=>rw[z]at hv';exact y28 some hv'
section
variable{X:Cx}{pins:yyP}{σ:St}{H:Hp}{s s1:Shared}{N:List Str}{ix:List (Option Nat)}{scope:Scope}{fp:List Addr}{C:Addr}
def z0P(I:Inv X pins σ H s)(S:z0W X.N X.env.scope N ix scope):∀y,(y,NameKind.free)∈scope.names->∃c,X.env.cells.lookup y=some c:=fun y hy=>I.ok.has y (S.frees _ hy rfl)
def z1C(I:Inv X pins σ H s)(S:z0W X.N X.env.scope N ix scope){x:Str}{c:Addr}(h:(z0r X.env.cells scope.names []).lookup x=some c):X.env.cells.lookup x=some c:=by
 by_cases hm:(x,NameKind.free)∈scope.names
 .rw[<-z28 scope.names [] x (z0P I S) (.inl hm)];exact h
 .rw[z3f scope.names [] x hm]at h;cases h
def z6Y(I:Inv X pins σ H s)(S:z0W X.N X.env.scope N ix scope)(hC:C=s.heap.objs.size)(hf:∀b∈fp,z3O X pins H b)(hfl:∀b∈fp,b<s.heap.objs.size){h1:Heap}{m:yyS}{tk:Nat}(hn:h1.Ns C m)(hk:∀b o,s.heap.get? b=some o->h1.get? b=some o) : Inv (z0E X N scope (z0r X.env.cells scope.names []) C fp s H) [] (z0T ix σ) H { s with heap:=h1,toks:=tk }:=by
 have hne:∀{b:Addr}{o:Obj},X.base.get? b=some o->b∉fp:=fun{b o} e hb=>by
  obtain⟨_,_,_,hx,_⟩:=hf b hb;rcases hx with hx|hx
  .exact I.ok.noex b o e hx
  .exact absurd (y0u (y0h (I.ok.bs b o e).1) hx) (y1H _)
 refine⟨⟨I.ok.mod,S.kind,I.ok.glob,I.ok.blt,Nat.le_of_eq hC.symm,?_,?_,?_,I.ok.hd,I.ok.frames,.inl rfl,?_,I.bs,y0r I.ok.bsz I.sz,fun b o e=>hne e,?_,I.stack,I.stkFree⟩,
  rfl,I.bare,Un.kept hk,⟨m,hn,?_⟩,?_,I.hok.fresh (Nat.le_of_eq hC.symm),?_,fun p hp=>absurd (show p∈([]:yyP)from hp) (by simp),I.hok.kept hk,?_⟩
 .intro x y c h1 h2;exact I.ok.inj x y c (z1C I S h1) (z1C I S h2)
 .intro x hx;have hm:(x,NameKind.free)∈scope.names:=by
   rcases hx with hx|hx
   .exact z2V (.inl rfl) S.nocell hx
   .exact z2V (.inr rfl) S.nocell hx
  obtain⟨c,e⟩:=z0P I S x hm;exact⟨c,(z28 scope.names [] x (z0P I S) (.inl hm)).trans e⟩
 .intro x c hx;cases hx
 .intro b hb;obtain⟨_,_,_,_,f4,_⟩:=hf b hb;refine⟨fun e=>?_,fun x c e=>f4 x c (z1C I S e)⟩;have z:=hfl b hb;have e':b=C:=e;rw[e',hC]at z;exact y1H _ z
 .intro b hb hb2;obtain⟨_,f1,f2,_⟩:=hf b hb;exact(y0x.mp (I.stkSub b hb2)).elim f1 f2
 .intro i x v e1 e2 e3;obtain⟨j,g1,g2,g3⟩:=S.at_ e1 e2;have hm:(x,NameKind.free)∈scope.names:=y15 g2;have hk2:=S.frees _ hm rfl;obtain⟨m0,hn0,hl0⟩:=id I.loc;obtain⟨u,r,l⟩:=hl0 j x v g1 g3 (hk2.elim (fun z=>.inr (.inl z)) (fun z=>.inr (.inr z)));refine⟨u,r,.inr ⟨z2k g2,?_⟩⟩;rcases l with⟨k,_⟩|⟨k,c,e,z⟩
  .have k':X.env.scope.names.lookup x=some .local:=k;rcases hk2 with z|z<;>(rw[k']at z;cases z)
  .refine⟨c,(z28 scope.names [] x (z0P I S) (.inl hm)).trans e,?_⟩;obtain⟨o,ho,hd⟩:=z;exact⟨o,hk _ _ ho,hd⟩
 .intro x c e;obtain⟨v,o,ho,hd⟩:=I.cell x c (z1C I S e);exact⟨v,o,hk _ _ ho,hd⟩
 .intro x c e;exact I.freeC x c (z1C I S e)
 .unfold z0T;rw[y01];exact S.len
end
def z7K(ix:List (Option Nat))(J:It)(g:TG)(te:TE)(σ:St)(l:Addr)(H0:Hp)(Qe:Hp->Prop):Prop :=
 ∃W:Nat->Nat->List V->Hp->Prop,(∃m,W 0 m [] H0)/\∀i m ys H,W i m ys H->H l=some (.lst ys) ->
  (J.stop i H/\Qe H)\/(J.go i H/\ys.length<sizeLine/\∃N:List V->Hp->Prop,(∀zs H',N zs H'->∃m',m'<m/\W (i+1) m' zs H')/\∀x H',J.yld i H x H'->g x (z0T ix σ) H' fun σ2 H2=>te σ2 H2 fun v H3 =>
   H3 l=some (.lst ys)/\N (ys++[v]) (upd H3 l (.lst (ys++[v]))))
def zg0(ix:List (Option Nat))(wi:TI)(g:TG)(te:TE):TE:=fun σ H Q=>wi σ H fun J H1=>∀l,H1 l=none->z7K ix J g te σ l (upd H1 l (.lst [])) fun H'=>Q (.ref l) H'
section
variable{X:Cx}{pins:yyP}{σ:St}{H:Hp}{s:Shared}{N:List Str}{ix:List (Option Nat)}{scope:Scope}{elt iter tg:Expr}{pos:Pos}{g:TG}{te:TE}{E:yyE}
def z3a{C:Addr}{fp:List Addr}{pins':yyP}{σ':St}{Hc:Hp}{s':Shared}(I:Inv X pins σ H s)(S:z0W X.N X.env.scope N ix scope)(J:Inv (z0E X N scope (z0r X.env.cells scope.names []) C fp s H) pins' σ' Hc s'):Inv (z0E X N scope (z0r X.env.cells scope.names []) C fp s H) [] (z0T ix σ) Hc s':=by
 obtain⟨m,hn,_⟩:=J.loc;refine⟨J.ok,J.os,J.bare,J.base,⟨m,hn,?_⟩,J.cell,J.free,J.freeC,fun p hp=>absurd (show p∈([]:yyP)from hp) (by simp),J.hok,?_⟩
 .intro i x v e1 e2 e3;obtain⟨j,g1,g2,g3⟩:=S.at_ e1 e2;have hm:(x,NameKind.free)∈scope.names:=y15 g2;have hk2:=S.frees _ hm rfl;obtain⟨m0,hn0,hl0⟩:=id I.loc;obtain⟨u,r,l⟩:=hl0 j x v g1 g3 (hk2.elim (fun z=>.inr (.inl z)) (fun z=>.inr (.inr z)));refine⟨u,r,.inr ⟨z2k g2,?_⟩⟩;rcases l with⟨k,_⟩|⟨k,c,e,z⟩
  .have k':X.env.scope.names.lookup x=some .local:=k;rcases hk2 with z|z<;>(rw[k']at z;cases z)
  .have ec:(z0r X.env.cells scope.names []).lookup x=some c:=(z28 scope.names [] x (z0P I S) (.inl hm)).trans e;refine⟨c,ec,?_⟩;obtain⟨o,ho,hd⟩:=z;obtain⟨sl,q⟩:=J.base.any ho (I.freeC x c e) (fun hx=>(J.ok.exf c hx).2 x c ec rfl);exact⟨_,q,hd⟩
 .unfold z0T;rw[y01];exact S.len
def z5S{it:Addr}{fp:List Addr}{tn:Nat->Heap->Prop}{J:It}{Qe:Addr->Hp->Prop}{RR:Value->Addr->Result->Shared->Prop}(hc:X.calm=true)(S:z0W X.N X.env.scope N ix scope)(hg:∀cl C ex s H,PG (z0E X N scope cl C ex s H) tg g)(he:∀cl C ex s H,PE (z0E X N scope cl C ex s H) elt te)(I:Inv X pins σ H s)(T:zcE X.prog X.w X.K tg J fp it tn)(st:tn 0 s.heap)(hf:∀b∈fp,z3O X pins H b)(hw:∀l,H l=none->z7K ix J g te σ l (upd H l (.lst [])) (Qe l))(hRR:∀l C s' H' m,s'.heap.Ns C m->Inv X pins σ H' s'->z3O X pins H' C->Qe l H'->RR (.ref l) C (.ok .next) s') : wpAny (model X.prog X.w) X.A (newList []) (fun acc s3=>wpAny (model X.prog X.w) X.A (newFunctionEnv scope X.env.globals (z0r X.env.cells scope.names []) [] X.env.qual none .none (some X.env)) (fun cenv s4 => codeAny (model X.prog X.w) X.A (.compStart (.ListComp elt [⟨tg,iter,[],0⟩] scope pos) 0 (.ref it) acc { cenv with scope:=relabel scope X.env }) (RR acc cenv.locals) s4) E s3) E s:=by
 have hlt:∀b∈fp,b<s.heap.objs.size:=fun b hb=>by obtain⟨o,e,_⟩:=T.obj 0 s.heap st b hb;exact y0h e
 have hl0:H s.heap.objs.size=none:=I.fresh;obtain⟨W,⟨m0,w0⟩,z3u⟩:=hw s.heap.objs.size hl0;refine y1e ?_;generalize hs3:({ s with heap:=s.heap.push { cls:=.type "list",dict:=none,data:=.seq ([]:List Value).toArray } }:Shared)=s3;have I3:Inv X pins σ (upd H s.heap.objs.size (.lst [])) s3:=by rw[<-hs3];exact I.lnew (its:=[]) (t':=s.toks) .nil (y0y _)
 have k3:∀b o,s.heap.get? b=some o->s3.heap.get? b=some o:=fun b o e=>by rw[<-hs3];exact y06 _ e
 have sz3:s3.heap.objs.size=s.heap.objs.size+1:=by rw[<-hs3];exact y1K ..
 have lnfp:s.heap.objs.size∉fp:=fun hb=>y1H _ (hlt _ hb);have st3:tn 0 s3.heap:=T.keep 0 _ _ st fun b _ o e=>k3 b o e;have hf3:∀b∈fp,z3O X pins (upd H s.heap.objs.size (.lst [])) b:=fun b hb=>by obtain⟨f0,f⟩:=hf b hb;have nb:b≠s.heap.objs.size:=fun e=>lnfp (by rw[<-e];exact hb);exact⟨by rw[z06 nb];exact f0,f⟩
 have hlt3:∀b∈fp,b<s3.heap.objs.size:=fun b hb=>by rw[sz3];exact y3e (hlt b hb)
 clear hs3;refine y2P S.nocell (by intro y hy;simp at hy) (fun h1 hn1 hb1=>?_) S.kind;have hk1:∀b o,s3.heap.get? b=some o->h1.get? b=some o:=fun b o e =>
  (hb1.2 b (y0C (y0h e))).trans (y06 _ e)
 have J0:Inv (z0E X N scope (z0r X.env.cells scope.names []) s3.heap.objs.size fp s3 (upd H s.heap.objs.size (.lst []))) [] (z0T ix σ) (upd H s.heap.objs.size (.lst [])) { s3 with heap:=h1,toks:=s3.toks+([]:List (Str × Value)).length } :=
  z6Y I3 S rfl hf3 hlt3 hn1 hk1
 have st1:tn 0 h1:=T.keep 0 _ _ st3 fun b _ o e=>hk1 b o e;have fpY:∀{Hc:Hp},(∀b∈fp,Hc b=none)->∀b∈fp,z3O (z0E X N scope (z0r X.env.cells scope.names []) s3.heap.objs.size fp s3 (upd H s.heap.objs.size (.lst []))) [] Hc b:=fun{Hc} hn b hb=>by obtain⟨_,f1,f2,_,f4,_⟩:=hf3 b hb;refine⟨hn b hb,y0C (hlt3 b hb),fun hb2=>(y0x.mp (I3.stkSub b hb2)).elim f1 f2,.inl hb,fun x c e=>f4 x c (z1C I3 S e),fun p hp=>absurd (show p∈([]:yyP)from hp) (by simp)⟩
 have loop:∀s4:Shared,s4=({ s3 with heap:=h1,toks:=s3.toks+([]:List (Str × Value)).length }:Shared)->codeAny (model X.prog X.w) X.A (.compLoop (.ListComp elt [⟨tg,iter,[],0⟩] scope pos) 0 (.ref it) (.ref s.heap.objs.size)
   (compEnvC scope (z0r X.env.cells scope.names []) s3.heap.objs.size X.env)) (RR (.ref s.heap.objs.size) s3.heap.objs.size) s4:=by
  intro s4 hs4;subst hs4;refine zaw (fun n s'=>∃i ys Hc,Inv (z0E X N scope (z0r X.env.cells scope.names []) s3.heap.objs.size fp s3 (upd H s.heap.objs.size (.lst []))) [] (z0T ix σ) Hc s'/\tn i s'.heap/\(∀b∈fp,Hc b=none)/\Hc s.heap.objs.size=some (.lst ys)/\W i n ys Hc) ?_ m0 ⟨0,[],_,J0,st1,fun b hb=>(hf3 b hb).1,z01,w0⟩;rintro n s5 ⟨i,ys,Hc,J5,st5,fr5,hl5,w5⟩;rcases z3u i n ys Hc w5 hl5 with⟨stop,qe⟩|⟨go,hz,NN,hNN,step⟩
  .refine thn (T.done (z0E X N scope (z0r X.env.cells scope.names []) s3.heap.objs.size fp s3 (upd H s.heap.objs.size (.lst []))) rfl rfl rfl hc i [] s5 _ Hc noE J5 (fpY fr5) st5 stop) fun r s6 hz8=>?_;obtain⟨hr,J6⟩:=hz8;subst hr;have I6:Inv X pins σ Hc s6:=I3.call' (ch:=fp) J6.os J6.base J6.hok J6.bare fun b hb=>by
    obtain⟨_,f1,f2,f3,f4,f5⟩:=hf3 b hb;exact⟨f3,f1,f4,f5⟩
   obtain⟨m6,hn6,_⟩:=J6.loc;exact hRR _ _ s6 Hc m6 hn6 I6 (I3.fpOk (y0f _) J6.free) qe
  .refine thn (T.item (z0E X N scope (z0r X.env.cells scope.names []) s3.heap.objs.size fp s3 (upd H s.heap.objs.size (.lst []))) rfl rfl rfl hc i [] s5 _ Hc noE J5 (fpY fr5) st5 go) fun r s6 hz8=>?_;obtain⟨u,hr,h6⟩:=hz8;subst hr;refine thn h6 fun _ s7 hz8=>?_;obtain⟨x,H7,J7,r7,y7,st7,fr7⟩:=hz8;have J7':=J7.pinned (fpY fr7) (T.obj _ _ st7);refine thn (hg _ _ _ _ _ _ s7 _ H7 x u _ J7' r7 (step x H7 y7)) fun _ s8 hz8=>?_;obtain⟨σ8,H8,J8,q8⟩:=hz8;refine z1Y (he _ _ _ _ _ _ s8 σ8 H8 _ J8 q8) fun y s9 v H9 J9 r9 hz9=>?_;obtain⟨hl9,n9⟩:=hz9;obtain⟨m',hm',w9⟩:=hNN _ _ n9;refine thn (z0R (X:=z0E X N scope (z0r X.env.cells scope.names []) s3.heap.objs.size fp s3 (upd H s.heap.objs.size (.lst []))) _ s9 σ8 H9 (.ref s.heap.objs.size) [v] (.ref s.heap.objs.size) [y]
    (fun z Hz=>z=.non/\Hz=upd H9 s.heap.objs.size (.lst (ys++[v]))) J9 rfl (.cons r9 .nil) ⟨_,ys,v,rfl,rfl,hl9,hz,rfl,rfl⟩) fun _ s10 ⟨_,H10,J10,_,_,e10⟩=>?_
   subst e10;have len8:(z0T ix σ).length=σ8.length:=by rw[J10.len];unfold z0T;rw[y01];exact S.len
   refine⟨m',hm',i+1,ys++[v],_,?_,T.keep _ _ _ st7 fun b hb o e=>(J10.pin (b,o) (y0j _ (y0j _ (z1i hb e)))).1,fun b hb=>?_,z01,w9⟩
   .exact z3a I3 S J10
   .obtain⟨o,e,d⟩:=T.obj _ _ st7 b hb;exact(J10.pin (b,o) (y0j _ (y0j _ (z1i hb e)))).2.1
 exact codeAny_compStart_list (loop _ rfl) (T.self _ 0 _ _ _ st1 (loop _ rfl))
def z1e{wi:TI}(hc:X.calm=true)(S:z0W X.N X.env.scope N ix scope)(hi:PI X tg iter wi)(hg:∀cl C ex s H,PG (z0E X N scope cl C ex s H) tg g)(he:∀cl C ex s H,PE (z0E X N scope cl C ex s H) elt te)(hs:∀x,foldedSetIterable iter X.env x=pure x:=by intro _;rfl):PE X (.ListComp elt [⟨tg,iter,[],0⟩] scope pos) (zg0 ix wi g te):=by intro pins s σ H Q I h;rw[eval_ListComp];refine y2h (use:=none) rfl hs (z1s (z0P I S)) S.kind S.names (thn (hi pins s σ H _ I h) fun v s1 h1=>thn h1 fun itv s2 h2=>?_);obtain⟨it,fp,tn,J,H2,e,I2,T,st2,f2,hw⟩:=h2;subst e;refine z5S (RR:=fun acc C=>compPost (model X.prog X.w) X.A X.xe none (EP X pins σ Q) acc C) hc S hg he I2 T st2 f2 hw fun l C s' H' m hn I' fC q=>⟨m,hn,fun h' hs'=>?_⟩;obtain⟨c0,c1,_,c3,c4,c5⟩:=fC;exact⟨.ref l,H',I'.turned (t':=s'.toks) (fun b o hb e=>(hs'.2 b hb).trans e) c0 c1 c3 c4 c5,rfl,q⟩
def z8T{wi:TI}{i:Nat}{x:Str}{spos pos':Pos}(hc:X.calm=true)(S:z0W X.N X.env.scope N ix scope)(hi:PI X tg iter wi)(hg:∀cl C ex s H,PG (z0E X N scope cl C ex s H) tg g)(he:∀cl C ex s H,PE (z0E X N scope cl C ex s H) elt te)(hN:X.N.Nodup)(hx:X.N[i]?=some x)(hl:X.env.scope.names.lookup x=some .local)(hsw:swapsWith (.ListComp elt [⟨tg,iter,[],0⟩] scope pos) (some (.Name x pos')) spos.line X.env=pure true:=by rfl)(hs:∀x,foldedSetIterable iter X.env x=pure x:=by intro _;rfl):PS X (.Assign [.Name x pos'] (.ListComp elt [⟨tg,iter,[],0⟩] scope pos) spos) (zgB (zg0 ix wi g te) (zcx i)):=by
 intro pins s σ H D I h;rw[exec_Assign_Name_used _ _ _ _ hsw];refine y03 (y2H (y03 ?_));show wpAny _ _ (comprehension (.ListComp elt [⟨tg,iter,[],0⟩] scope pos) scope X.env _ (newList []) false (eval iter X.env) (some (assign (.Name x pos') X.env))>>=fun _=>pure ()) _ _ s;refine y03 (y0Y (y2h (use:=some (assign (.Name x pos') X.env)) (Q:=fun _ s'=>SP X pins D .next s') rfl hs (z1s (z0P I S)) S.kind S.names
  (thn (hi pins s σ H _ I h) fun v s1 h1=>thn h1 fun itv s2 h2=>?_)) (fun _ s' q=>y0g (y0g q)) fun _ _ e=>e)
 obtain⟨it,fp,tn,J,H2,e,I2,T,st2,f2,hw⟩:=h2;subst e;refine z5S (RR:=fun acc C=>compPost (model X.prog X.w) X.A X.xe (some (assign (.Name x pos') X.env)) (fun _ s'=>SP X pins D .next s') acc C) hc S hg he I2 T st2 f2 hw fun l C s' H' m hn I' fC q=>?_;obtain⟨c0,c1,c2,c3,c4,c5⟩:=fC;show wpAny _ _ (assign (.Name x pos') X.env (.ref l)) _ _ _;refine wpAny_assign_Name (z4T I' hN hx (.inl hl) (v:=.ref l) rfl (fun s'' I'' hz8=>?_) (.inr hl));obtain⟨a,sb,ha⟩:=hz8;have haC:C≠a:=by
  rcases ha with ha|ha
  .rw[ha];exact c1
  .exact fun z=>c4 x a ha z.symm
 refine⟨m,hn.sameBut sb haC,fun h' hs'=>?_⟩;exact⟨_,H',I''.turned (t':=s''.toks) (fun b o hb e=>(hs'.2 b hb).trans e) c0 c1 c3 c4 c5,q⟩
end
def z4X{J:It}{n:Nat}{l:Addr}{ix:List (Option Nat)}{g:TG}{te:TE}{σ:St}{H0:Hp}{Qe:Hp->Prop}(Pv:Nat->List V->Hp->Prop)(h0:Pv 0 [] H0)(hs:∀i ys H,i<n->Pv i ys H->H l=some (.lst ys)->J.go i H/\ys.length<sizeLine/\∀x H',J.yld i H x H'->g x (z0T ix σ) H' fun σ2 H2=>te σ2 H2 fun v H3=>H3 l=some (.lst ys)/\Pv (i+1) (ys++[v]) (upd H3 l (.lst (ys++[v]))))(hd:∀ys H,Pv n ys H->H l=some (.lst ys)->J.stop n H/\Qe H):z7K ix J g te σ l H0 Qe:=by
 refine⟨fun i m ys H=>m=n-i/\i<=n/\Pv i ys H,⟨n,by simp,y0y _,h0⟩,?_⟩;rintro i m ys H ⟨rfl,hi,p⟩ hl;by_cases hlt:i<n
 .obtain⟨h1,h2,h3⟩:=hs i ys H hlt p hl;exact .inr ⟨h1,h2,Pv (i+1),fun zs H' q=>⟨n-(i+1),by lia,rfl,hlt,q⟩,h3⟩
 .have e:i=n:=by lia
  subst e;exact .inl (hd ys H p hl)
def z1A{K:yyF}{a l:Addr}{xs:List V}{ix:List (Option Nat)}{g:TG}{te:TE}{σ:St}{H0:Hp}{Qe:Hp->Prop}(Pv:Nat->List V->Hp->Prop)(h0:Pv 0 [] H0)(hl:∀i ys H,i<=xs.length->Pv i ys H->SqL K H a xs)(hz:xs.length<=sizeLine)(hn:∀i ys H,Pv i ys H->ys.length=i)(hs:∀i x ys H,xs[i]?=some x->Pv i ys H->H l=some (.lst ys)->g x (z0T ix σ) H fun σ2 H2=>te σ2 H2 fun v H3=>H3 l=some (.lst ys)/\Pv (i+1) (ys++[v]) (upd H3 l (.lst (ys++[v]))))(hd:∀ys H,Pv xs.length ys H->H l=some (.lst ys)->Qe H):z7K ix (Itl K a) g te σ l H0 Qe:=by refine z4X (n:=xs.length) Pv h0 (fun i ys H hi p hy=>?_) fun ys H p hy=>⟨⟨xs,hl _ ys H (y0f _) p,y0f _⟩,hd ys H p hy⟩;have q:=hl i ys H (y27 hi) p;refine⟨⟨xs,xs[i],q,by simp[hi]⟩,by rw[hn i ys H p];exact y0u hi hz,fun x H' y=>?_⟩;obtain⟨e,y⟩:=y;subst e;exact hs i x ys _ (y xs q) p hy
def z2i{K:yyF}{a l:Addr}{xs:List V}{ix:List (Option Nat)}{g:TG}{te:TE}{σ:St}{H0:Hp}{Qe:Hp->Prop}(Pv:Nat->List V->Hp->Prop)(h0:Pv 0 [] H0)(hl:∀i ys H,i<=xs.length->Pv i ys H->SqT K H a xs)(hz:xs.length<=sizeLine)(hn:∀i ys H,Pv i ys H->ys.length=i)(hs:∀i x ys H,xs[i]?=some x->Pv i ys H->H l=some (.lst ys)->g x (z0T ix σ) H fun σ2 H2=>te σ2 H2 fun v H3=>H3 l=some (.lst ys)/\Pv (i+1) (ys++[v]) (upd H3 l (.lst (ys++[v]))))(hd:∀ys H,Pv xs.length ys H->H l=some (.lst ys)->Qe H):z7K ix (Itt K a) g te σ l H0 Qe:=by refine z4X (n:=xs.length) Pv h0 (fun i ys H hi p hy=>?_) fun ys H p hy=>⟨⟨xs,hl _ ys H (y0f _) p,y0f _⟩,hd ys H p hy⟩;have q:=hl i ys H (y27 hi) p;refine⟨⟨xs,xs[i],q,by simp[hi]⟩,by rw[hn i ys H p];exact y0u hi hz,fun x H' y=>?_⟩;obtain⟨e,y⟩:=y;subst e;exact hs i x ys _ (y xs q) p hy
def z49{lo:Int}{n:Nat}{l:Addr}{ix:List (Option Nat)}{g:TG}{te:TE}{σ:St}{H0:Hp}{Qe:Hp->Prop}(Pv:Nat->List V->Hp->Prop)(h0:Pv 0 [] H0)(hz:n<=sizeLine)(hn:∀i ys H,Pv i ys H->ys.length=i)(hs:∀i ys H,i<n->Pv i ys H->H l=some (.lst ys)->g (.int (lo+i)) (z0T ix σ) H fun σ2 H2=>te σ2 H2 fun v H3=>H3 l=some (.lst ys)/\Pv (i+1) (ys++[v]) (upd H3 l (.lst (ys++[v]))))(hd:∀ys H,Pv n ys H->H l=some (.lst ys)->Qe H):z7K ix (Itr lo n) g te σ l H0 Qe:=by refine z4X (n:=n) Pv h0 (fun i ys H hi p hy=>⟨hi,by rw[hn i ys H p];exact y0u hi hz,fun x H' y=>?_⟩) fun ys H p hy=>⟨y0f _,hd ys H p hy⟩;obtain⟨e,y⟩:=y;subst e y;exact hs i ys _ hi p hy
open PySem.AutoSeq1 (wpAny_loadPart')
def zcF(lo:Int)(n:Nat):List V:=(List.range n).map fun i=>V.int (lo+(i:Nat))
def z53(lo:Int)(n:Nat):(zcF lo n).length=n:=by unfold zcF;simp
def z3D{lo c:Int}{acc:Array Value}{n:Nat}(hc:c=1)(h:ItemsOf (fun i v=>∃t,v=.int (lo+i*c) t) acc n):z1h (zcF lo n) acc.toList:=by
 subst hc;obtain⟨hs,hi⟩:=h;have key:∀(k:Nat)(i:Nat),i+k=n->z1h (((List.range n).drop i).map fun j=>V.int (lo+(j:Nat))) (acc.toList.drop i):=by
  intro k;induction k with
  |zero =>
   intro i hk;rw[y1l (by simp;lia),y1l (by simp;lia)];exact .nil
  |succ k ih =>
   intro i hk;have h1:i<acc.size:=by lia
   have e1:(List.range n).drop i=i::(List.range n).drop (i+1):=by rw[y19 (by simp;lia)];simp
   have e2:acc.toList.drop i=acc[i]::acc.toList.drop (i+1):=by rw[y19 (by simpa using h1)];simp
   rw[e1,e2,y0l];refine .cons ?_ (ih (i+1) (by lia));obtain⟨t,e⟩:=hi i acc[i] (by simp[h1]);exact⟨t,by rw[e,Int.mul_one]⟩
 have:=key n 0 (by lia);simpa[zcF]using this
section
variable{X:Cx}
def z9u:z3j X (.type "range") (fun xs H Q=>∃j:Int,xs=[.int j]/\-(2^62)<=j/\j<2^62/\∀p,H p=none->Q (.ref p) (upd H p (.rng 0 j))):=by intro pins s σ H xs us Q I r h;obtain⟨j,rfl,h1,h2,q⟩:=h;obtain⟨u,rfl,ru⟩:=z4r r;obtain⟨t,rfl⟩:=ru;refine call_range_1 ?_;exact⟨.ref s.heap.objs.size,upd H s.heap.objs.size (.rng 0 j),I.laid (o:=.rng 0 j) (fun b u e=>y06 _ e) (y0f _) ⟨_,_,_,y0k _ rfl⟩,rfl,q _ I.fresh⟩
theorem Inv.rng{pins:yyP}{σ:St}{H:Hp}{s:Shared}{p:Addr}{lo hi:Int}(I:Inv X pins σ H s)(h:H p=some (.rng lo hi)):∃t u v,IsRange s.heap p lo hi 1 t u v:=by obtain⟨t,u,v,e⟩:=I.hok p _ h;exact⟨t,u,v,e⟩
def z98{lo hi:Int}:Builtin.Range.rangeSize lo hi 1=(((hi-lo).toNat:Nat):Int):=by rw[rangeSize_one];split<;>lia
def z6d(hc:X.calm=true):z3j X (.type "list") (fun xs H Q=>∃p lo hi,xs=[.ref p]/\H p=some (.rng lo hi)/\(-(2^62)<=lo/\lo<2^62/\-(2^62)<=hi/\hi<2^62)/\(hi-lo).toNat<=2^24 /\ ∀l,H l=none->Q (.ref l) (upd H l (.lst (zcF lo (hi-lo).toNat)))):=by intro pins s σ H xs us Q I r h;obtain⟨p,lo,hi,rfl,hp,⟨b1,b2,b3,b4⟩,hn,q⟩:=h;obtain⟨u,rfl,ru⟩:=z4r r;cases ru;obtain⟨t,u,v,hr⟩:=I.rng hp;refine call_list_range (I.ok.hd hc) hr (small_one b1 b2 b3 b4) z98 hn fun h' tk acc c' hk hl hacc=>?_;have hv:=z3D rfl hacc;exact⟨.ref _,_,I.laid (o:=.lst (zcF lo (hi-lo).toNat)) (fun b u e=>hk b u e) (y0f _) ⟨by rw[z53,sizeLine_eq];lia,acc.toList,c',hv,by simpa using hl⟩,rfl,q _ I.fresh⟩
end
section
variable{prog:Program}{w:World}{A:Around}{E:yyE}{s:Shared}
def z8w{Q:List Value->Shared->Prop}{r:Addr}{a b c:Int}{t u v:Tok}{n:Nat}(hh:A.handled=none)(hr:IsRange s.heap r a b c t u v)(hsmall:Builtin.Range.small a b c=true)(hn:Builtin.Range.rangeSize a b c=n)(hlen:n<=2^24)(hQ:∀h' tk acc,(∀b o,s.heap.get? b=some o->h'.get? b=some o)->s.heap.objs.size<=h'.objs.size->ItemsOf (fun i v=>∃t,v=.int (a+i*c) t) acc n->Q acc.toList { s with heap:=h',toks:=tk }) : wpAny (model prog w) A (collect (.ref r)) Q E s:=by
 unfold collect;refine y03 (wpAny_runValue (y3F F.entry_proto_collect ?_));rw[y2Q F.plain_proto_collect _];show wpAny _ A.in1 (newList []>>=fun l =>
  again (.builtin "list.__iadd__" ⟨[l,.ref r],[]⟩)) _ _ s
 refine y03 (y1e ?_);refine y0g ⟨plainId_quiet y3f _,y3F F.entry_list_iadd ?_⟩;rw[y2Q y3f _];show wpAny _ A.in1 (Builtin.List.listExtendWith (.ref s.heap.objs.size) (.ref r)
  (.ref s.heap.objs.size)) _ _ _
 have hS:(s.heap.push { cls:=.type "list",data:=.seq ([]:List Value).toArray }).get? s.heap.objs.size=some
  { cls:=.type "list",data:=.seq #[] 0 }:=y0k _ rfl
 have fin':∀(h':Heap) (tk:Nat) (acc:Array Value) (c':Nat),(∀b o,b≠s.heap.objs.size->(s.heap.push { cls:=.type "list",data:=.seq ([]:List Value).toArray }).get? b=some o->h'.get? b=some o) ->
   h'.get? s.heap.objs.size=some { cls:=.type "list",dict:=none,data:=.seq acc c',slots:=#[] }->ItemsOf (fun i v=>∃t,v=.int (a+i*c) t) acc n ->
   wpAny (model prog w) A (match Value.ref s.heap.objs.size with
    |Value.ref a=>do
     match (<-load a).data with
      |Data.seq xs _=>pure xs.toList
      |_=>unsupported "internal:collect"
    |_=>unsupported "internal:collect") Q E { s with heap:=h',toks:=tk }:=fun h' tk acc c' hk hS' hacc=>by
  show wpAny _ A (load s.heap.objs.size>>=_) _ _ _;refine y03 (wpAny_load hS' (y0g ?_));exact hQ h' tk acc (fun b o e=>hk b o (y0C (y0h e)) (y06 _ e)) (y27 (y0h hS')) hacc
 refine y0Y (wpAny_extend_range (A:=A) (R:=fun r s'=>r=.ok (.ret (.ref s.heap.objs.size))/\wpAny (model prog w) A (match Value.ref s.heap.objs.size with
    |Value.ref a=>do
     match (<-load a).data with
      |Data.seq xs _=>pure xs.toList
      |_=>unsupported "internal:collect"
    |_=>unsupported "internal:collect") Q E s') (s:={ s with heap:=s.heap.push { cls:=.type "list",data:=.seq ([]:List Value).toArray } }) hh (y06 _ hr) hsmall hn hlen _ (.ref s.heap.objs.size) 0 hS
  fun h' tk acc c' hk hS' hacc=>⟨rfl,fin' h' tk acc c' hk hS' hacc⟩) (fun fin s' h=>?_) (fun e s' h=>?_)
 .cases fin with
  |done f =>
   obtain⟨e,h⟩:=h;cases e;exact h
  |again c'=>exact⟨h.1,y2V h.2 fun r s'' hr=>by obtain⟨rfl,h2⟩:=hr;exact h2⟩
 .exact absurd h.1 (by simp)
end
def z5q(r:Addr){a b c:Int}{t u v:Tok}{n:Nat}(hsmall:Builtin.Range.small a b c=true)(hn:Builtin.Range.rangeSize a b c=n)(hlen:n<=2^24) : Meets (Builtin.«tuple.__new__» ⟨[.type "tuple",.ref r],[]⟩) (fun A R s=>A.handled=none/\IsRange s.heap r a b c t u v/\∀(h':Heap) (tk:Nat) (acc:Array Value),(∀b o,s.heap.get? b=some o->h'.get? b=some o)->s.heap.objs.size<=h'.objs.size->ItemsOf (fun i v=>∃t,v=.int (a+i*c) t) acc n -> R (.ok (.ret (.ref h'.objs.size))) { s with heap:=h'.push { cls:=.type "tuple",data:=.seq acc },toks:=tk }) :=
 .of_wp fun prog w A R s h=>by
  obtain⟨hh,hr,h⟩:=h;have hsub:=sub_tuple_self;have hinit:=init_tuple_lookup;have hmh:=madeHere_tuple;have hT:s.TypeIs (.ref r) "range":=⟨_,hr,rfl⟩;have hh1:A.in1.handled=none:=hh
  wp_walk using wpAny_typeOf hT,z8w hh1 hr hsmall hn hlen
  intro h' tk acc hk hz hacc;show wpAny _ _ (Builtin.Tuple.tupleExact acc.toList.toArray >>=
   fun v=>ret v) _ _ _
  unfold Builtin.Tuple.tupleExact;refine y03 (y1e ?_ (show acc.toList.toArray.size<=sizeLine by simp only[Array.toArray_toList];rw[hacc.1,sizeLine_eq];lia));refine y0g ⟨_,rfl,?_⟩;have e:acc.toList.toArray=acc:=by simp
  rw[e];exact h h' tk acc hk hz hacc
section
variable{X:Cx}
def z5y(hc:X.calm=true):z3j X (.type "tuple") (fun xs H Q=>∃p lo hi,xs=[.ref p]/\H p=some (.rng lo hi)/\(-(2^62)<=lo/\lo<2^62/\-(2^62)<=hi/\hi<2^62)/\(hi-lo).toNat<=2^24 /\ ∀l,H l=none->Q (.ref l) (upd H l (.tup (zcF lo (hi-lo).toNat)))):=by
 intro pins s σ H xs us Q I r h;obtain⟨p,lo,hi,rfl,hp,⟨b1,b2,b3,b4⟩,hn,q⟩:=h;obtain⟨u,rfl,ru⟩:=z4r r;cases ru;obtain⟨t,u,v,hr⟩:=I.rng hp;refine callType_new F.called_tuple (by decide) (F.typeCall_tuple_1 _) (F.newCall_tuple_1 _) (fun obj=>F.args_object_init_2 obj _) F.entry_tuple_new
  (z5q p (t:=t) (u:=u) (v:=v) (small_one b1 b2 b3 b4) z98 hn) ⟨I.ok.hd hc,hr,fun h' tk acc hk hz hacc=>⟨⟨_,y0k _ rfl,rfl⟩,?_⟩⟩
 have hv:=z3D rfl hacc;have hf:H h'.objs.size=none:=I.hok.fresh hz;refine⟨.ref _,_,I.laid (o:=.tup (zcF lo (hi-lo).toNat)) (fun b u e=>y06 _ (hk b u e)) hz ⟨by rw[z53,sizeLine_eq];lia,acc.toList,0,hv,by rw[show acc.toList.toArray=acc by simp];exact y0k _ rfl⟩,rfl,q _ hf⟩
end
section
variable{X:Cx}
def z8B{prog:Program}{w:World}{A:Around}{its:Array Value}{bs:List Bool}(r:z1h (bs.map V.bl) its.toList):TruthOf prog w A (fun i v=>its[i]?=some v) (fun i=>bs.getD i false):=by
 intro i v s Q E hi hq;have hl:=r.length;rw[y01]at hl;have hlt:i<bs.length:=by
  have:i<its.size:=by
   rcases y2E i its.size with z|z
   .exact z
   .rw[Array.getElem?_eq_none z]at hi;cases hi
  simp at hl;lia
 have h1:(bs.map V.bl)[i]?=some (.bl bs[i]):=by simp[hlt]
 obtain⟨u,hu,ru⟩:=r.get h1;have:u=v:=by
  have e:its.toList[i]?=some v:=by simpa using hi
  rw[e]at hu;exact(y07 hu).symm
 subst this;cases ru;refine y1E ?_;have e:bs.getD i false=bs[i]:=by simp[hlt]
 have hq':Q (bs.getD i false) s:=hq;rw[e]at hq';exact hq'
def zaS{n:Nat}{bs:List Bool}(h:bs.length=n):(List.range n).any (fun i=>bs.getD i false)=bs.any id:=by
 subst h;rw[y20,y1S,y1S];constructor
 .rintro⟨i,hi,e⟩;have hi:i<bs.length:=by simpa using hi
  refine⟨bs[i],y0c hi,?_⟩;simp[hi]at e;exact e
 .rintro⟨b,hb,e⟩;obtain⟨i,hi,e'⟩:=y1q hb;refine⟨i,by simpa using hi,?_⟩;simp[hi,e'];exact e
def zd3(hc:X.calm=true):z3j X (.builtin "any") (fun xs H Q=>∃(p:Addr) (bs:List Bool),xs=[.ref p]/\SqL X.K H p (bs.map V.bl)/\Q (.bl (bs.any id)) H):=by
 intro pins s σ H xs us Q I r h;obtain⟨p,bs,rfl,hp,q⟩:=h;obtain⟨u,rfl,ru⟩:=z4r r;cases ru;obtain⟨its,rv,pl,hz⟩:=I.list hp;have hlt:p<s.heap.objs.size:=by obtain⟨o,n,e,_⟩:=pl;exact y0h e
 have hl:=rv.length;rw[y01]at hl;refine call_any_walk (wpAny_pyIter_list pl.isList ?_);refine⟨s.heap.objs.size,_,_,_,_,_,fun i=>bs.getD i false,rfl,Walks.list (A:=X.A.in1) (show X.A.in1.handled=none from I.ok.hd hc) s.heap.objs.size p (y0C hlt) its.toArray,⟨⟨_,y0k _ rfl,rfl,rfl⟩,Heap.IsList.push pl.isList _⟩,z8B (by simpa using rv),fun h' tk hk=>?_⟩;rw[zaS (by simpa using hl)];exact⟨.bl _,H,I.kept (t':=tk) (fun b o e=>hk b o (by simpa using(y0C (y0h e))) (y06 _ e)),rfl,q⟩
end
section
variable{prog:Program}{w:World}{A:Around}{E:yyE}{s:Shared}
def z6F{it t:Addr}{i:Nat}{its:Array Value}{x:Value}{Q:yyE}(hit:s.heap.IsTupleIter it t i)(ht:s.heap.IsTuple t its)(hx:its[i]?=some x)(hQ:∀h',h'.IsTupleIter it t (i+1)->Heap.SameBut it s.heap h'->Q x { s with heap:=h' }):wpAny (model prog w) A (Builtin.SmallTypes.nextOf (.ref it)) Q E s:=by
 obtain⟨o,ho,hc,hd⟩:=id hit;obtain⟨ol,hol,_,nl,hdl⟩:=ht;unfold Builtin.SmallTypes.nextOf;refine y03 (y1t (name:=Str.ofString "__next__") hit.typeIs y26
  (y1A y26 hit.typeIs F.entry_tuple_iterator_next ?_
   (F.args_tuple_iterator_next_1 _)))
 show wpAny _ _ (field (.ref it) 0>>=_) _ _ s;refine y03 (y1T ho hd (x:=.ref t) rfl ?_);show wpAny _ _ (if(Value.ref t==Value.none)=true
  then _ else _) _ _ s
 rw[if_neg (show ¬((Value.ref t==Value.none)=true)
  from y0R)]
 show wpAny _ _ (field (.ref it) 1>>=_) _ _ s;refine y03 (y1T ho hd (x:=.int i 0) rfl ?_);show wpAny _ _ (seqItems? (.ref t)>>=_) _ _ s;refine y03 (y2c hol hdl ?_);simp only[y0E,hx];refine y03 (wpAny_setField ho hd (by simp) (y0g
  ⟨x,rfl,y0g (hQ _ ?_ (y1r ..))⟩))
 exact⟨_,y3l _ ho (Obj.isFreed_of_fields (y34 hd _)),
  (Obj.cls_mapFields ..).trans hc,by rw[y34 hd];simp[rawInt]⟩
def z4i{it t:Addr}{i:Nat}{its:Array Value}{Q:yyE}(hh:A.handled=none)(hit:s.heap.IsTupleIter it t i)(ht:s.heap.IsTuple t its)(hx:its[i]?=none)(hE:∀h' e,Heap.ExtBut it s.heap h'->(∃o,h'.get? e=some o/\o.cls=.type "StopIteration")->E (.ref e) { s with heap:=h' }):wpAny (model prog w) A (Builtin.SmallTypes.nextOf (.ref it)) Q E s:=by
 obtain⟨o,ho,hc,hd⟩:=id hit;obtain⟨ol,hol,_,nl,hdl⟩:=ht;unfold Builtin.SmallTypes.nextOf;refine y03 (y1t (name:=Str.ofString "__next__") hit.typeIs y26
  (y1A y26 hit.typeIs F.entry_tuple_iterator_next ?_
   (F.args_tuple_iterator_next_1 _)))
 show wpAny _ _ (field (.ref it) 0>>=_) _ _ s;refine y03 (y1T ho hd (x:=.ref t) rfl ?_);show wpAny _ _ (if(Value.ref t==Value.none)=true
  then _ else _) _ _ s
 rw[if_neg (show ¬((Value.ref t==Value.none)=true)
  from y0R)]
 show wpAny _ _ (field (.ref it) 1>>=_) _ _ s;refine y03 (y1T ho hd (x:=.int i 0) rfl ?_);show wpAny _ _ (seqItems? (.ref t)>>=_) _ _ s;refine y03 (y2c hol hdl ?_);simp only[y0E,hx];refine y03 (y2i (y03 (wpAny_setField ho hd (by simp) ?_)));show wpAny _ _ (newExc (.type "StopIteration") []>>=_) _ _ _;refine y03 ?_;simp only[newExc,newTuple];refine y03 (y1e ?_ (by size_fits));refine y03 (m:=firstArgMember _ _) (wpAny_of_eq (a:=Value.none)
  (by first|rfl|(simp only[firstArgMember];rfl)) ?_)
 refine y1e ?_ (by size_fits);simp only[raiseNew];refine y03 (wpAny_handled ?_);first|rw[show A.in1.handled=none from hh]|rw[hh]
 refine y03 (y0g (wpAny_throw ?_));exact hE _ _ (((y1r ..).extBut.push _).push _)
  ⟨_,y0k _ rfl,rfl⟩
def z3G(hh:A.handled=none)(it t:Addr)(hne:t≠it)(its:Array Value):Draws prog w A it [it,t] its.size (fun i v=>its[i]?=some v) (fun i h=>h.IsTupleIter it t i/\h.IsTuple t its) where
 live:=fun i h st=>by obtain⟨⟨o,e,_⟩,_⟩:=st;exact⟨o,e⟩
 frame:=fun i h h' st hk=>by obtain⟨⟨o,e,c⟩,⟨o2,e2,c2⟩⟩:=st;exact⟨⟨o,hk it (by simp) _ e,c⟩,⟨o2,hk t (by simp) _ e2,c2⟩⟩
 item:=fun i s Q E hi st hQ=>by refine z6F st.1 st.2 (x:=its[i]) (by simp[hi]) fun h' hit' hs'=>?_;obtain⟨o2,e2,c2⟩:=st.2;exact hQ _ h' s.toks (by simp[hi]) ⟨hit',⟨o2,(hs'.2 t hne).trans e2,c2⟩⟩ hs'
 done:=fun s Q E st hE=>z4i hh st.1 st.2 (by simp) hE
def z5C(t:Addr)(its:Array Value) : Meets (Builtin.«enumerate.__new__» ⟨[.type "enumerate",.ref t],[]⟩) (fun _ R s=>s.heap.IsTuple t its /\ R (.ok (.ret (.ref (s.heap.push { cls:=.type "tuple_iterator",data:=.fields #[.ref t,.int 0 0] }).objs.size))) { s with heap:=(s.heap.push { cls:=.type "tuple_iterator",data:=.fields #[.ref t,.int 0 0] }).push { cls:=.type "enumerate",data:=.fields #[.none,.bool false,.ref s.heap.objs.size,rawInt 0,.none,.none] } }) :=
 .of_wp fun prog w A R s h=>by
  obtain⟨hp,g,d,tk,os⟩:=s;obtain⟨hl,h⟩:=h;have hsub:=sub_enumerate;have hL:Heap.IsTuple (Shared.heap ⟨hp,g,d,tk,os⟩) t its:=hl
  wp_walk
  refine wpAny_stack_any fun st=>y0g ?_;split
  .rename_i c _ _ _ _ _;cases(c==Value.type "enumerate");all_goals
    wp_walk using y2v hL
    exact⟨_,rfl,h⟩
  .wp_walk using y2v hL
   exact⟨_,rfl,h⟩
def z6L{t:Addr}{its:Array Value}{Q:yyE}(hL:s.heap.IsTuple t its)(h:∀h',IsEnum h' (s.heap.objs.size+1) s.heap.objs.size 0 .none->h'.IsTupleIter s.heap.objs.size t 0->h'.objs.size=s.heap.objs.size+2->(∀b o,s.heap.get? b=some o->h'.get? b=some o)->Q (.ref (s.heap.objs.size+1)) { s with heap:=h' }) : wpAny (model prog w) A (call (.type "enumerate") [.ref t]) Q E s:=by
 refine callType_new F.called_enumerate (by decide) (F.typeCall_enumerate_1 _) (F.newCall_enumerate_1 _) (fun obj=>F.args_object_init_2 obj _) F.entry_enumerate_new (z5C t its) ⟨hL,?_⟩;have hz:(s.heap.push { cls:=.type "tuple_iterator",data:=.fields #[.ref t,.int 0 0] }).objs.size=s.heap.objs.size+1:=y1K ..;show _/\_;rw[hz];have he:IsEnum ((s.heap.push { cls:=.type "tuple_iterator",data:=.fields #[.ref t,.int 0 0] }).push
   { cls:=.type "enumerate",data:=.fields #[.none,.bool false,.ref s.heap.objs.size,rawInt 0,.none,.none] }) (s.heap.objs.size+1) s.heap.objs.size 0 .none:=by
  have q:=y0k (s.heap.push { cls:=.type "tuple_iterator",data:=.fields #[.ref t,.int 0 0] })
   (o:={ cls:=.type "enumerate",data:=.fields #[.none,.bool false,.ref s.heap.objs.size,rawInt 0,.none,.none] }) rfl
  rw[hz]at q;exact q
 exact⟨⟨_,he,rfl⟩,h _ he ⟨_,y06 _ (y0k _ rfl),rfl,by rfl⟩ (by rw[y1K,hz]) fun b o x=>y06 _ (y06 _ x)⟩
end
def Inv.turnedNew{X:Cx}{pins:yyP}{σ:St}{H:Hp}{s:Shared}{ch:List Addr}{p:Addr}{o:HO}{h':Heap}{t':Nat}(I:Inv X pins σ H s)(k:∀b u,b∉ch->s.heap.get? b=some u->h'.get? b=some u)(hp:s.heap.objs.size<=p)(new:z1V X.prog X.w (upd H p o) h' p o)(hf:∀b∈ch,z3O X pins H b):Inv X pins σ (upd H p o) { s with heap:=h',toks:=t' }:=by
 have hn:H p=none:=I.hok.fresh hp;have nc:∀b u,H b=some u->b∉ch:=fun b u e z=>by rw[(hf b z).1]at e;cases e
 refine I.step (g':=s.gens) (d':=s.drawn) (ch:=ch) (fun b hb=>?_) (fun b u _ _ hc e _=>k b u hc e) (fun b u _ _ hc e _=>⟨u.slots,k b u hc e⟩) (fun b u _ e n=>?_) (fun b u hc e=>⟨u,k b u hc e⟩)
  (fun b xs e=>?_) (fun b u xs e=>?_) (fun b ps e=>⟨#[],?_⟩) (fun m hm=>?_) (fun b u e=>?_) I.bare
 .obtain⟨_,f1,_,f3,f4,f5⟩:=hf b hb;exact⟨f3,f1,f4,f5⟩
 .rw[z06 (y0C (y0u (y0h e) hp))];exact n
 .rw[z06 (z0f e hn)];exact e
 .rw[z06 (z0f e hn)];exact e
 .rw[z06 (z0f e hn),e];simp
 .obtain⟨ob,es,ep,ho,r⟩:=hm;exact⟨ob,es,ep,k _ ob (fun z=>(hf _ z).2.1 rfl) ho,r⟩
 .by_cases hb:b=p
  .subst hb;rw[z01]at e;cases e;exact new
  .rw[z06 hb]at e;refine(I.hok b u e).stay (fun c v hc q=>k c v ?_ q) (fun c q=>by rw[z06 (z0f q hn)];exact q) fun c xs q=>by rw[z06 (z0f q hn)];exact q
   rcases hc with z|z
   .rw[z];exact nc b u e
   .exact nc c _ z
def Inv.turnedL{X:Cx}{pins:yyP}{σ:St}{H:Hp}{s:Shared}{ch:List Addr}{h':Heap}{t':Nat}(I:Inv X pins σ H s)(k:∀b u,b∉ch->s.heap.get? b=some u->h'.get? b=some u)(hf:∀b∈ch,z3O X pins H b):Inv X pins σ H { s with heap:=h',toks:=t' }:=by
 have nc:∀b u,H b=some u->b∉ch:=fun b u e z=>by rw[(hf b z).1]at e;cases e
 refine I.step (g':=s.gens) (d':=s.drawn) (ch:=ch) (fun b hb=>?_) (fun b u _ _ hc e _=>k b u hc e) (fun b u _ _ hc e _=>⟨u.slots,k b u hc e⟩) (fun b u _ e n=>n) (fun b u hc e=>⟨u,k b u hc e⟩)
  (fun b xs e=>e) (fun b u xs e=>e) (fun b ps e=>⟨#[],by rw[e];simp⟩) (fun m hm=>?_) (fun b u e=>?_) I.bare
 .obtain⟨_,f1,_,f3,f4,f5⟩:=hf b hb;exact⟨f3,f1,f4,f5⟩
 .obtain⟨ob,es,ep,ho,r⟩:=hm;exact⟨ob,es,ep,k _ ob (fun z=>(hf _ z).2.1 rfl) ho,r⟩
 .refine(I.hok b u e).stay (fun c v hc q=>k c v ?_ q) (fun c q=>q) fun c xs q=>q;rcases hc with z|z
  .rw[z];exact nc b u e
  .exact nc c _ z
def Ite(K:yyF)(a:Addr):It :=
 ⟨fun i H=>∃xs x,SqT K H a xs/\xs[i]?=some x,fun i H x H'=>∃p y,x=.ref p/\H p=none/\(∀xs,SqT K H a xs->xs[i]?=some y)/\H'=upd H p (.tup [.int i,y]),fun i H=>∃xs,SqT K H a xs/\xs.length<=i⟩
def zco{P:Program}{w:World}{K:yyF}{elts:List Expr}{k:Nat}{tp:Pos}(a it e:Addr)(hne:e≠it) : zcE P w K (.Tuple elts k tp) (Ite K a) [e,it] e (fun i h=>(∃old,IsEnum h e it i old)/\h.IsTupleIter it a i) where
 mem:=by simp
 obj:=fun i h st b hb=>by
  obtain⟨⟨old,he⟩,⟨o,ho,hc,hd⟩⟩:=st;rcases y0x.mp hb with z|z
  .subst z;exact⟨_,he,fun v z=>by cases z⟩
  .have z:=y08.mp z;subst z;exact⟨o,ho,fun v z=>by rw[hd]at z;cases z⟩
 keep:=fun i h h' st k=>by obtain⟨⟨old,he⟩,⟨o,ho,c⟩⟩:=st;exact⟨⟨old,k e (by simp) _ he⟩,⟨o,k it (by simp) _ ho,c⟩⟩
 item:=by
  intro X hP hw hK hc i pins s σ H E I hf st hg;subst hP hw hK;obtain⟨xs,x,hq,hx⟩:=hg;obtain⟨its,rv,p,hz⟩:=I.tuple hq;obtain⟨u,hu,ru⟩:=rv.get hx;obtain⟨⟨old,he⟩,hit⟩:=st;have hai:a≠it:=fun z=>by obtain⟨o,e1,c1,_⟩:=id p;obtain⟨o2,e2,c2,_⟩:=id hit;rw[z,e2]at e1;cases e1;rw[c2]at c1;exact absurd c1 (by intro h;injection h with h;exact absurd h (by decide))
  have hae:a≠e:=fun z=>by obtain⟨o,e1,c1,_⟩:=id p;rw[z,he]at e1;cases e1;exact absurd c1 (by intro h;injection h with h;exact absurd h (by decide))
  have lt:i<its.toArray.size:=by have:=(y05.mp hu).1;simpa using this
  have D:=z3G (prog:=X.prog) (w:=X.w) (A:=X.A.in1) (I.ok.hd hc) it a hai its.toArray;refine wpAny_pyNext_enum_itemD D he ⟨hit,p⟩ lt hne (by simp[hne,y1k hae]) fun y h' tk hy ho hst hT hsz hk=>?_;have hyu:y=u:=by
   have e1:its.toArray[i]?=some u:=by simpa using hu
   rw[e1]at hy;exact(y07 hy).symm
  subst hyu;refine⟨_,rfl,?_⟩;refine wpAny_letOwnedTupleGo_enum ho fun h2 he2 hs2=>?_;have hp0:H s.heap.objs.size=none:=I.fresh;have elt:e<s.heap.objs.size:=y0h he;have ilt:it<s.heap.objs.size:=by obtain⟨o,e2,_⟩:=hit;exact y0h e2
  have kk:∀b o,b≠e->b≠it->s.heap.get? b=some o->h2.get? b=some o:=fun b o h1 h3 q=>(hs2.2 b h1).trans (hk b o h1 h3 q);obtain⟨e0,e1,e2,e3,e4,e5⟩:=hf e (by simp);obtain⟨i0,i1,i2,i3,i4,i5⟩:=hf it (by simp);have I1:Inv X pins σ (upd H s.heap.objs.size (.tup [.int i,x])) { s with heap:=h2,toks:=tk+1 }:=by refine I.turnedNew (ch:=[e,it]) (fun b u hb q=>kk b u (fun z=>hb (by simp[z])) (fun z=>hb (by simp[z])) q) (y0f _) ?_ (fun b hb=>hf b hb);have nT:s.heap.objs.size≠e:=y2B elt;exact⟨by show 2<=sizeLine;decide,[.int i tk,y],0,.cons ⟨tk,rfl⟩ (.cons ru .nil),(hs2.2 _ nT).trans hT⟩
  refine⟨.ref s.heap.objs.size,_,I1,rfl,⟨s.heap.objs.size,x,rfl,hp0,fun ys hy=>by rw[I.tuple_inj hy hq];exact hx,rfl⟩,⟨⟨y,by simpa using he2⟩,?_⟩,fun b hb=>?_⟩
  .obtain⟨⟨o,e9,c9⟩,_⟩:=hst;exact⟨o,(hs2.2 it (y1k hne)).trans e9,c9⟩
  .have hb0:=(hf b hb).1;have:b≠s.heap.objs.size:=by
    rcases y0x.mp hb with z|z
    .rw[z];exact y0C elt
    .rw[y08.mp z];exact y0C ilt
   rw[z06 this];exact hb0
 done:=by
  intro X hP hw hK hc i pins s σ H E I hf st hg;subst hP hw hK;obtain⟨xs,hq,hx⟩:=hg;obtain⟨its,rv,p,hz⟩:=I.tuple hq;obtain⟨⟨old,he⟩,hit⟩:=st;have hai:a≠it:=fun z=>by obtain⟨o,e1,c1,_⟩:=id p;obtain⟨o2,e2,c2,_⟩:=id hit;rw[z,e2]at e1;cases e1;rw[c2]at c1;exact absurd c1 (by intro h;injection h with h;exact absurd h (by decide))
  have hlen:=rv.length;have hT:s.TypeIs (.ref e) "enumerate":=⟨_,he,rfl⟩;unfold pyNext;refine y03 (y35 (y1t (name:=Str.ofString "__next__") hT F.slot_enumerate_next
   (y1A F.slot_enumerate_next hT F.entry_enumerate_next ?_ (F.args_enumerate_next_1 _))))
  show wpAny _ _ (field (.ref e) 2>>=_) _ _ _;refine y03 (y1T he rfl (x:=.ref it) rfl ?_);refine y03 (z4i (show X.A.in1.handled=none from I.ok.hd hc) hit p (by simp;lia) fun h' x he' hx'=>?_);obtain⟨o,ho,hcl⟩:=hx';refine y03 (y3t (T:="StopIteration") (b:=true) ⟨o,ho,hcl⟩ isSubtype_stop ?_);refine y0g ⟨rfl,?_⟩;exact I.turnedL (ch:=[it]) (t':=s.toks) (fun b u hb q=>he' b u (fun z=>hb (by simp[z])) q) (fun b hb=>hf b (by rw[y08.mp hb];simp))
 self:=fun A i s Q E st h=>by obtain⟨⟨old,he⟩,_⟩:=st;exact wpAny_pyIter_enum he h
def zdy{K:yyF}{a:Addr}{xs:List V}{g:TG}{tb:TS}{D:z3Q}{σ:St}{H:Hp}(Pv:Nat->St->Hp->Prop)(h0:Pv 0 σ H)(hl:∀i σ H,i<=xs.length->Pv i σ H->SqT K H a xs)(hs:∀i x p σ H,xs[i]?=some x->Pv i σ H->H p=none->g (.ref p) σ (upd H p (.tup [.int (i:Nat),x])) fun σ2 H2=>tb { D with nx:=Pv (i+1),ct:=Pv (i+1),bk:=D.nx } σ2 H2)(hd:∀σ H,Pv xs.length σ H->D.nx σ H) : ∃W:Nat->Nat->St->Hp->Prop,(∃m,W 0 m σ H)/\∀i m σ H,W i m σ H -> ((Ite K a).stop i H/\D.nx σ H)\/((Ite K a).go i H/\∃N:St->Hp->Prop,(∀σ' H',N σ' H'->∃m',m'<m/\W (i+1) m' σ' H')/\∀x H',(Ite K a).yld i H x H'->g x σ H' fun σ2 H2=>tb { D with nx:=N,ct:=N,bk:=D.nx } σ2 H2):=by
 refine⟨fun i m σ H=>m=xs.length-i/\i<=xs.length/\Pv i σ H,⟨xs.length,by simp,y0y _,h0⟩,?_⟩;rintro i m σ H ⟨rfl,hi,p⟩;have q:=hl i σ H hi p;by_cases hlt:i<xs.length
 .refine .inr ⟨⟨xs,xs[i],q,by simp[hlt]⟩,Pv (i+1),fun σ' H' p'=>⟨xs.length-(i+1),by lia,rfl,hlt,p'⟩,fun x H' y=>?_⟩;obtain⟨b,z,rfl,hb,hz,rfl⟩:=y;exact hs i z b σ H (hz xs q) p hb
 .have e:i=xs.length:=by lia
  subst e;exact .inl ⟨⟨xs,q,y0f _⟩,hd σ H p⟩
section
variable{X:Cx}{elts:List Expr}{tk:Nat}{tp:Pos}
def zgG(K:yyF)(ta:TA):TI:=fun σ H R=>ta σ H fun vs H1=>∃a:Addr,vs=[.ref a]/\(∃xs,SqT K H1 a xs)/\R (Ite K a) H1
def zeo{a:Expr}{ta:TA}{p pos:Pos}(hg:Gl X "enumerate")(hm:X.mg "enumerate"=none)(ha:PA X [a] ta)(hs:starEach [a] X.env=[(false,eval a X.env)]:=by rfl) : PI X (.Tuple elts tk tp) (.Call (.Name "enumerate" p) [a] [] pos) (zgG X.K ta):=by
 intro pins s σ H R I h;refine Call_ (z4Z I hg hm boot_enumerate (y1C (thn (ha pos pins s σ H _ I h) fun us s1 hz8=>?_) hs rfl));obtain⟨vs,H1,I1,r1,q1⟩:=hz8;obtain⟨a,e,⟨xs,hq⟩,q⟩:=q1;subst e;obtain⟨u,rfl,ru⟩:=z4r r1;cases ru;obtain⟨its,rv,pl,hz⟩:=I1.tuple hq;refine z6L pl fun h' he hit hsz hk=>wpAny_pyIter_enum he ?_;have I2:Inv X pins σ H1 { s1 with heap:=h' }:=I1.kept (t':=s1.toks) hk;refine⟨s1.heap.objs.size+1,[s1.heap.objs.size+1,s1.heap.objs.size],_,_,H1,rfl,I2,zco a s1.heap.objs.size (s1.heap.objs.size+1) (show @Ne Nat _ _ by lia),⟨⟨_,he⟩,hit⟩,fun b hb=>?_,q⟩;have hb':s1.heap.objs.size<=b:=by
  rcases y0x.mp hb with z|z
  .have z:@Eq Nat b (s1.heap.objs.size+1):=z;lia
  .rw[y08.mp z];exact y0f _
 exact I1.fpOk hb' (I1.hok.fresh hb')
def Itz(K:yyF)(a b:Addr):It :=
 ⟨fun i H=>∃xs ys x y,SqL K H a xs/\SqL K H b ys/\xs[i]?=some x/\ys[i]?=some y,
  fun i H v H'=>∃p x y,v=.ref p/\H p=none/\(∀xs,SqL K H a xs->xs[i]?=some x)/\(∀ys,SqL K H b ys->ys[i]?=some y)/\H'=upd H p (.tup [x,y]),
  fun i H=>∃xs ys,SqL K H a xs/\SqL K H b ys/\(xs.length<=i\/ys.length<=i)⟩
def z2j{h:Heap}{a b:Addr}{o u:Obj}{x y:String}(ha:h.get? a=some o)(hb:h.get? b=some u)(hx:o.cls=.type x)(hy:u.cls=.type y)(hxy:x≠y):a≠b:=by intro e;subst e;rw[ha]at hb;cases hb;rw[hx]at hy;injection hy with hy;exact hxy hy
def zd9{P:Program}{w:World}{K:yyF}(a b z TI TO i1 i2:Addr)(D:TI≠z/\TO≠z/\i1≠z/\i2≠z/\TI≠TO/\TI≠i1/\TI≠i2/\TO≠i1/\TO≠i2/\i1≠i2) : zcE P w K (.Tuple elts tk tp) (Itz K a b) [z,TI,TO,i1,i2] z (fun i h=>IsZip h z TI TO .none/\IsPair h TI (.ref i1) (.ref i2)/\(∃u v,IsPair h TO u v)/\h.IsListIter i1 a i/\h.IsListIter i2 b i) where
 mem:=by simp
 obj:=fun i h st c hc=>by
  obtain⟨hz,hTI,⟨u,v,hTO⟩,⟨o1,e1,c1,d1⟩,⟨o2,e2,c2,d2⟩⟩:=st;simp at hc;rcases hc with q|q|q|q|q
  .rw[q];exact⟨_,hz,fun v z=>by cases z⟩
  .rw[q];exact⟨_,hTI,fun v z=>by cases z⟩
  .rw[q];exact⟨_,hTO,fun v z=>by cases z⟩
  .rw[q];exact⟨_,e1,fun v z=>by rw[d1]at z;cases z⟩
  .rw[q];exact⟨_,e2,fun v z=>by rw[d2]at z;cases z⟩
 keep:=fun i h h' st k=>by obtain⟨hz,hTI,⟨u,v,hTO⟩,⟨o1,e1,c1⟩,⟨o2,e2,c2⟩⟩:=st;exact⟨k z (by simp) _ hz,k TI (by simp) _ hTI,⟨u,v,k TO (by simp) _ hTO⟩,⟨o1,k i1 (by simp) _ e1,c1⟩,⟨o2,k i2 (by simp) _ e2,c2⟩⟩
 item:=by
  intro X hP hw hK hc i pins s σ H E I hf st hg;subst hP hw hK;obtain⟨hz,hTI,⟨u,v,hTO⟩,h1,h2⟩:=st;obtain⟨xs,ys,x,y,hxs,hys,hx,hy⟩:=hg;obtain⟨its,rv,p,_⟩:=I.list hxs;obtain⟨itt,rw',p',_⟩:=I.list hys;obtain⟨ux,hux,rux⟩:=rv.get hx;obtain⟨uy,huy,ruy⟩:=rw'.get hy;obtain⟨d1,d2,d3,d4,d5,d6,d7,d8,d9,d10⟩:=D;have Da:∀{l:Addr}{its:Array Value},s.heap.IsList l its->l≠z/\l≠TO/\l≠i1/\l≠i2:=fun{l its} hl=>by obtain⟨o,e,c,_⟩:=hl;obtain⟨o1,e1,c1,_⟩:=id h1;obtain⟨o2,e2,c2,_⟩:=id h2;exact⟨z2j e hz c rfl (by decide),z2j e hTO c rfl (by decide),z2j e e1 c c1 (by decide),z2j e e2 c c2 (by decide)⟩
  obtain⟨a1,a2,a3,a4⟩:=Da p.isList;obtain⟨b1,b2,b3,b4⟩:=Da p'.isList;refine wpAny_pyNext_zip_item ⟨d1,d2,d3,d4,d5,d6,d7,d8,d9,d10,a1,a2,a3,a4,b1,b2,b3,b4⟩ hz hTI hTO h1 h2 p.isList p'.isList (x:=ux) (y:=uy) (by simpa using hux) (by simpa using huy) fun h' q1 q2 q3 q4 q5 q6 hk=>?_;refine⟨_,rfl,wpAny_letOwnedTupleGo_zip q1 fun h2' hz2 hs2=>?_⟩;have zlt:z<s.heap.objs.size:=y0h hz;have kk:∀c o,c∉[z,TO,i1,i2]->s.heap.get? c=some o->h2'.get? c=some o:=fun c o hc q=>by simp at hc;exact(hs2.2 c hc.1).trans (hk c o hc.1 hc.2.1 hc.2.2.1 hc.2.2.2 q)
  have sub:∀c∈[z,TO,i1,i2],c∈[z,TI,TO,i1,i2]:=fun c hc=>by simp at hc⊢;rcases hc with q|q|q|q<;>simp[q]
  have I1:Inv X pins σ (upd H s.heap.objs.size (.tup [x,y])) { s with heap:=h2',toks:=s.toks }:=by refine I.turnedNew (ch:=[z,TO,i1,i2]) kk (y0f _) ?_ (fun c hc=>hf c (sub c hc));exact⟨by show 2<=sizeLine;decide,[ux,uy],0,.cons rux (.cons ruy .nil),(hs2.2 _ (y2B zlt)).trans q5⟩
  have up:∀{c:Addr}{o:Obj},c≠z->h'.get? c=some o->h2'.get? c=some o:=fun{c o} hc q=>(hs2.2 c hc).trans q;obtain⟨o3,e3,c3⟩:=q3;obtain⟨o4,e4,c4⟩:=q4;refine⟨.ref s.heap.objs.size,_,I1,rfl,⟨s.heap.objs.size,x,y,rfl,I.fresh,fun zs hz'=>by rw[I.list_inj hz' hxs];exact hx,fun zs hz'=>by rw[I.list_inj hz' hys];exact hy,rfl⟩,⟨hz2,?_,⟨_,_,up d2 q2⟩,⟨o3,up d3 e3,c3⟩,⟨o4,up d4 e4,c4⟩⟩,fun c hc=>?_⟩
  .exact up d1 (hk TI _ d1 d5 d6 d7 hTI)
  .have c0:=(hf c hc).1;have lt:c<s.heap.objs.size:=by
    obtain⟨o1,e1,_⟩:=id h1;obtain⟨o2,e2,_⟩:=id h2;simp at hc;rcases hc with q|q|q|q|q
    .rw[q];exact zlt
    .rw[q];exact y0h hTI
    .rw[q];exact y0h hTO
    .rw[q];exact y0h e1
    .rw[q];exact y0h e2
   rw[z06 (y0C lt)];exact c0
 done:=by
  intro X hP hw hK hc i pins s σ H E I hf st hg;subst hP hw hK;obtain⟨hz,hTI,⟨u,v,hTO⟩,h1,h2⟩:=st;obtain⟨xs,ys,hxs,hys,hx⟩:=hg;obtain⟨its,rv,p,_⟩:=I.list hxs;obtain⟨itt,rw',p',_⟩:=I.list hys;obtain⟨d1,d2,d3,d4,d5,d6,d7,d8,d9,d10⟩:=D;have Da:∀{l:Addr}{its:Array Value},s.heap.IsList l its->l≠z/\l≠TO/\l≠i1/\l≠i2:=fun{l its} hl=>by obtain⟨o,e,c,_⟩:=hl;obtain⟨o1,e1,c1,_⟩:=id h1;obtain⟨o2,e2,c2,_⟩:=id h2;exact⟨z2j e hz c rfl (by decide),z2j e hTO c rfl (by decide),z2j e e1 c c1 (by decide),z2j e e2 c c2 (by decide)⟩
  obtain⟨a1,a2,a3,a4⟩:=Da p.isList;obtain⟨b1,b2,b3,b4⟩:=Da p'.isList;have l1:=rv.length;have l2:=rw'.length;refine wpAny_pyNext_zip_end (I.ok.hd hc) ⟨d1,d2,d3,d4,d5,d6,d7,d8,d9,d10,a1,a2,a3,a4,b1,b2,b3,b4⟩ hz hTI hTO h1 h2 p.isList p'.isList ?_ fun h' hk=>⟨rfl,?_⟩
  .rcases hx with q|q
   .left;simp;lia
   .right;simp;lia
  .refine I.turnedL (ch:=[z,TO,i1,i2]) (t':=s.toks) (fun c o hcc q=>?_) (fun c hcc=>hf c ?_)
   .simp at hcc;exact hk c o hcc.1 hcc.2.1 hcc.2.2.1 hcc.2.2.2 q
   .simp at hcc⊢;rcases hcc with q|q|q|q<;>simp[q]
 self:=fun A i s Q E st h=>y3u st.1 h
def zhQ(K:yyF)(ta:TA):TI:=fun σ H R=>ta σ H fun vs H1=>∃a b:Addr,vs=[.ref a,.ref b]/\(∃xs,SqL K H1 a xs)/\(∃ys,SqL K H1 b ys)/\R (Itz K a b) H1
def zdU{a b:Expr}{ta:TA}{p pos:Pos}(hg:Gl X "zip")(hm:X.mg "zip"=none)(ha:PA X [a,b] ta)(hs:starEach [a,b] X.env=[(false,eval a X.env),(false,eval b X.env)]:=by rfl)(hs2:starEach [b] X.env=[(false,eval b X.env)]:=by rfl) : PI X (.Tuple elts tk tp) (.Call (.Name "zip" p) [a,b] [] pos) (zhQ X.K ta):=by
 intro pins s σ H R I h;refine Call_ (z4Z I hg hm boot_zip (y1C (thn (ha pos pins s σ H _ I h) fun us s1 hz8=>?_) (by rw[hs,hs2]) (by rw[hs2];rfl)));obtain⟨vs,H1,I1,r1,q1⟩:=hz8;obtain⟨a,b,e,⟨xs,hq⟩,⟨ys,hq'⟩,q⟩:=q1;subst e;obtain⟨u,v,rfl,ru,rv'⟩:=zdH r1;cases ru;cases rv';obtain⟨its,rv,pl,hz⟩:=I1.list hq;obtain⟨its2,rv2,pl2,hz2⟩:=I1.list hq';refine call_zip_2 pl.isList pl2.isList fun h' z1 z2 z3 z4 z5 z6 hk=>y3u z1 ?_;have I2:Inv X pins σ H1 { s1 with heap:=h' }:=I1.kept (t':=s1.toks) hk;refine⟨s1.heap.objs.size+4,[s1.heap.objs.size+4,s1.heap.objs.size+2,s1.heap.objs.size+3,s1.heap.objs.size,s1.heap.objs.size+1],_,_,H1,rfl,I2,
  zd9 a b (s1.heap.objs.size+4) (s1.heap.objs.size+2) (s1.heap.objs.size+3) s1.heap.objs.size (s1.heap.objs.size+1) (by refine⟨?_,?_,?_,?_,?_,?_,?_,?_,?_,?_⟩<;>(show @Ne Nat _ _;lia)),⟨z1,z2,⟨_,_,z3⟩,z4,z5⟩,fun c hb=>?_,q⟩
 have hb':s1.heap.objs.size<=c:=by simp only[y0x,List.not_mem_nil,or_false]at hb;rcases hb with q|q|q|q|q<;>(have q:@Eq Nat c _:=q;lia)
 exact I1.fpOk hb' (I1.hok.fresh hb')
end
def zeS{K:yyF}{a b:Addr}{xs ys:List V}{g:TG}{tb:TS}{D:z3Q}{σ:St}{H:Hp}(hlen:xs.length=ys.length)(Pv:Nat->St->Hp->Prop)(h0:Pv 0 σ H)(hl:∀i σ H,i<=xs.length->Pv i σ H->SqL K H a xs/\SqL K H b ys)(hs:∀i x y p σ H,xs[i]?=some x->ys[i]?=some y->Pv i σ H->H p=none->g (.ref p) σ (upd H p (.tup [x,y])) fun σ2 H2=>tb { D with nx:=Pv (i+1),ct:=Pv (i+1),bk:=D.nx } σ2 H2)(hd:∀σ H,Pv xs.length σ H->D.nx σ H) : ∃W:Nat->Nat->St->Hp->Prop,(∃m,W 0 m σ H)/\∀i m σ H,W i m σ H -> ((Itz K a b).stop i H/\D.nx σ H)\/((Itz K a b).go i H/\∃N:St->Hp->Prop,(∀σ' H',N σ' H'->∃m',m'<m/\W (i+1) m' σ' H')/\∀x H',(Itz K a b).yld i H x H'->g x σ H' fun σ2 H2=>tb { D with nx:=N,ct:=N,bk:=D.nx } σ2 H2):=by
 refine⟨fun i m σ H=>m=xs.length-i/\i<=xs.length/\Pv i σ H,⟨xs.length,by simp,y0y _,h0⟩,?_⟩;rintro i m σ H ⟨rfl,hi,p⟩;obtain⟨q,q'⟩:=hl i σ H hi p;by_cases hlt:i<xs.length
 .refine .inr ⟨⟨xs,ys,xs[i],ys[i]'(by lia),q,q',by simp[hlt],by simp[show i<ys.length by lia]⟩,Pv (i+1),fun σ' H' p'=>⟨xs.length-(i+1),by lia,rfl,hlt,p'⟩,fun x H' y=>?_⟩;obtain⟨c,z,z',rfl,hb,hz,hz',rfl⟩:=y;exact hs i z z' c σ H (hz xs q) (hz' ys q') p hb
 .have e:i=xs.length:=by lia
  subst e;exact .inl ⟨⟨xs,ys,q,q',.inl (y0f _)⟩,hd σ H p⟩
def zcJ{K:yyF}{a b l:Addr}{xs zs:List V}{ix:List (Option Nat)}{g:TG}{te:TE}{σ:St}{H0:Hp}{Qe:Hp->Prop}(hlen:xs.length=zs.length)(Pv:Nat->List V->Hp->Prop)(h0:Pv 0 [] H0)(hl:∀i ys H,i<=xs.length->Pv i ys H->SqL K H a xs/\SqL K H b zs)(hz:xs.length<=sizeLine)(hn:∀i ys H,Pv i ys H->ys.length=i)(hs:∀i x y p ys H,xs[i]?=some x->zs[i]?=some y->Pv i ys H->H l=some (.lst ys)->H p=none->g (.ref p) (z0T ix σ) (upd H p (.tup [x,y])) fun σ2 H2=>te σ2 H2 fun v H3=>H3 l=some (.lst ys)/\Pv (i+1) (ys++[v]) (upd H3 l (.lst (ys++[v]))))(hd:∀ys H,Pv xs.length ys H->H l=some (.lst ys)->Qe H):z7K ix (Itz K a b) g te σ l H0 Qe:=by refine z4X (n:=xs.length) Pv h0 (fun i ys H hi p hy=>?_) fun ys H p hy=>⟨⟨xs,zs,(hl _ ys H (y0f _) p).1,(hl _ ys H (y0f _) p).2,.inl (y0f _)⟩,hd ys H p hy⟩;obtain⟨q,q'⟩:=hl i ys H (y27 hi) p;refine⟨⟨xs,zs,xs[i],zs[i]'(by lia),q,q',by simp[hi],by simp[show i<zs.length by lia]⟩,by rw[hn i ys H p];exact y0u hi hz,fun x H' y=>?_⟩;obtain⟨c,z,z',rfl,hb,hz,hz',rfl⟩:=y;exact hs i z z' c ys H (hz xs q) (hz' zs q') p hy hb
inductive D where
 |non|bl (b:Bool)|int (i:Int)|str (x:Str)|tup (ds:List D)|lst (ds:List D)
mutual
def Dr(K:yyF)(H:Hp):D->V->Prop
 |.non,v=>v=.non
 |.bl b,v=>v=.bl b
 |.int i,v=>v=.int i
 |.str x,v=>v=.str x
 |.tup ds,v=>∃(a:Addr)(vs:List V),v=.ref a/\H a=some (.tup vs)/\DrL K H ds vs
 |.lst ds,v=>∃(a:Addr)(vs:List V),v=.ref a/\SqL K H a vs/\DrL K H ds vs
def DrL(K:yyF)(H:Hp):List D->List V->Prop
 |[],vs=>vs=[]
 |d::ds,vs=>∃v r,vs=v::r/\Dr K H d v/\DrL K H ds r
end
def z0d.tupl{K:yyF}{H H':Hp}{a:Addr}{xs:List V}(s:z0d H H')(h:SqT K H a xs):SqT K H' a xs:=by
 rcases h with(h|⟨o,h⟩)|h
 .exact .inl (.inl (s _ _ h))
 .exact .inl (.inr ⟨o,s _ _ h⟩)
 .exact .inr h
mutual
theorem Dr.mono{K:yyF}{H H':Hp}(s:z0d H H'):∀{d:D}{v:V},Dr K H d v->Dr K H' d v
 |.non,_,h=>by simp only[Dr]at h⊢;exact h
 |.bl _,_,h=>by simp only[Dr]at h⊢;exact h
 |.int _,_,h=>by simp only[Dr]at h⊢;exact h
 |.str _,_,h=>by simp only[Dr]at h⊢;exact h
 |.tup ds,_,h=>by
  simp only[Dr]at h⊢;obtain⟨a,vs,e,q,r⟩:=h;exact⟨a,vs,e,s _ _ q,DrL.mono s r⟩
 |.lst ds,_,h=>by simp only[Dr]at h⊢;obtain⟨a,vs,e,q,r⟩:=h;exact⟨a,vs,e,s.seq q,DrL.mono s r⟩
theorem DrL.mono{K:yyF}{H H':Hp}(s:z0d H H'):∀{ds:List D}{vs:List V},DrL K H ds vs->DrL K H' ds vs
 |[],_,h=>by simp only[DrL]at h⊢;exact h
 |d::ds,_,h=>by simp only[DrL]at h⊢;obtain⟨v,r,e,q,q'⟩:=h;exact⟨v,r,e,Dr.mono s q,DrL.mono s q'⟩
end
theorem DrL.length{K:yyF}{H:Hp}:∀{ds:List D}{vs:List V},DrL K H ds vs->ds.length=vs.length
 |[],_,h=>by simp only[DrL]at h;subst h;rfl
 |d::ds,_,h=>by simp only[DrL]at h;obtain⟨v,r,rfl,_,q⟩:=h;rw[y0X,y0X,DrL.length q]
theorem DrL.get{K:yyF}{H:Hp}:∀{ds:List D}{vs:List V}{i:Nat}{d:D},DrL K H ds vs->ds[i]?=some d->∃v,vs[i]?=some v/\Dr K H d v
 |[],_,_,_,_,e=>by simp at e
 |d::ds,_,0,_,h,e=>by
  simp only[DrL]at h;obtain⟨v,r,rfl,q,_⟩:=h;simp at e;subst e;exact⟨v,rfl,q⟩
 |d::ds,_,i+1,d',h,e=>by simp only[DrL]at h;obtain⟨v,r,rfl,_,q⟩:=h;obtain⟨v',h1,h2⟩:=DrL.get (i:=i) q (by simpa using e);exact⟨v',by simpa using h1,h2⟩
theorem DrL.append{K:yyF}{H:Hp}:∀{ds es:List D}{vs us:List V},DrL K H ds vs->DrL K H es us->DrL K H (ds++es) (vs++us)
 |[],_,_,_,h,h'=>by simp only[DrL]at h;subst h;exact h'
 |d::ds,es,_,us,h,h'=>by simp only[DrL]at h;obtain⟨v,r,rfl,q,q'⟩:=h;show DrL K H (d::(ds++es)) (v::(r++us));simp only[DrL];exact⟨v,_,rfl,q,DrL.append q' h'⟩
def DrL.one{K:yyF}{H:Hp}{d:D}{v:V}(h:Dr K H d v):DrL K H [d] [v]:=by simp only[DrL];exact⟨v,[],rfl,h,rfl⟩
def DrL.nil{K:yyF}{H:Hp}:DrL K H [] []:=by simp only[DrL]
def DrL.cons{K:yyF}{H:Hp}{d:D}{v:V}{ds:List D}{vs:List V}(h:Dr K H d v)(h':DrL K H ds vs):DrL K H (d::ds) (v::vs):=by simp only[DrL];exact⟨v,vs,rfl,h,h'⟩
theorem DrL.ints{K:yyF}{H:Hp}:∀(ns:List Int),DrL K H (ns.map D.int) (ns.map V.int)
 |[]=>DrL.nil
 |n::r=>DrL.cons (by simp only[Dr]) (DrL.ints r)
theorem DrL.ints_inv{K:yyF}{H:Hp}:∀{ns:List Int}{vs:List V},DrL K H (ns.map D.int) vs->vs=ns.map V.int
 |[],_,h=>by simp only[y0S,DrL]at h;rw[h];rfl
 |n::r,_,h=>by simp only[y0l,DrL]at h;obtain⟨v,w,rfl,q,q'⟩:=h;simp only[Dr]at q;subst q;rw[DrL.ints_inv q',y0l]
theorem Dr.tup{K:yyF}{H:Hp}{a:Addr}{ds:List D}{vs:List V}(h:H a=some (.tup vs))(r:DrL K H ds vs):Dr K H (.tup ds) (.ref a):=by simp only[Dr];exact⟨a,vs,rfl,h,r⟩
theorem Dr.lst{K:yyF}{H:Hp}{a:Addr}{ds:List D}{vs:List V}(h:H a=some (.lst vs))(r:DrL K H ds vs):Dr K H (.lst ds) (.ref a):=by simp only[Dr];exact⟨a,vs,rfl,SqL.of h,r⟩
theorem Dr.int{K:yyF}{H:Hp}(i:Int):Dr K H (.int i) (.int i):=by simp only[Dr]
abbrev D.its(ns:List Int):D:=.tup (ns.map D.int)
open PySem PySem.Spec PyProof.Rows
open PySem.SeqAt
mutual
def D.eq:D->D->Bool
 |.non,.non=>true
 |.bl a,.bl b=>a==b
 |.int i,.int j=>i==j
 |.str x,.str y=>decide (x=y)
 |.tup a,.tup b=>D.eqL a b
 |.lst a,.lst b=>D.eqL a b
 |_,_=>false
def D.eqL:List D->List D->Bool
 |[],[]=>true
 |d::ds,e::es=>D.eq d e&&D.eqL ds es
 |_,_=>false
end
mutual
def D.ok:D->D->Prop
 |.non,.non=>True
 |.bl _,.bl _=>True
 |.int _,.int _=>True
 |.str _,.str _=>True
 |.tup a,.tup b=>D.okL a b
 |.lst a,.lst b=>D.okL a b
 |_,_=>False
def D.okL:List D->List D->Prop
 |d::ds,e::es=>D.ok d e/\D.okL ds es
 |_,_=>True
end
mutual
def D.dep:D->Nat
 |.tup a=>D.depL a+1
 |.lst a=>D.depL a+1
 |_=>0
def D.depL:List D->Nat
 |[]=>0
 |d::ds=>max (D.dep d) (D.depL ds)
end
mutual
theorem D.eq_refl:∀d:D,D.eq d d=true
 |.non=>by simp only[D.eq]
 |.bl b=>by simp only[D.eq,beq_self_eq_true]
 |.int i=>by simp only[D.eq,beq_self_eq_true]
 |.str x=>by simp only[D.eq,decide_true]
 |.tup a=>by simp only[D.eq];exact D.eqL_refl a
 |.lst a=>by simp only[D.eq];exact D.eqL_refl a
theorem D.eqL_refl:∀ds:List D,D.eqL ds ds=true
 |[]=>by simp only[D.eqL]
 |d::ds=>by simp only[D.eqL,D.eq_refl d,D.eqL_refl ds,Bool.and_self]
end
mutual
theorem D.eq_of:∀{d e:D},D.eq d e=true->d=e
 |.non,e,h=>by cases e<;>simp only[D.eq,y0d]at h<;>rfl
 |.bl b,e,h=>by cases e<;>simp only[D.eq,y0d,y3d]at h;rw[h]
 |.int b,e,h=>by cases e<;>simp only[D.eq,y0d,y3d]at h;rw[h]
 |.str b,e,h=>by cases e<;>simp only[D.eq,y0d,y2J]at h;rw[h]
 |.tup b,e,h=>by
  cases e<;>simp only[D.eq,y0d]at h;rw[D.eqL_of h]
 |.lst b,e,h=>by cases e<;>simp only[D.eq,y0d]at h;rw[D.eqL_of h]
theorem D.eqL_of:∀{d e:List D},D.eqL d e=true->d=e
 |[],e,h=>by cases e<;>simp only[D.eqL,y0d]at h;rfl
 |d::ds,e,h=>by cases e<;>simp only[D.eqL,y0d,y3s]at h;rw[D.eq_of h.1,D.eqL_of h.2]
end
theorem D.okL_get:∀{ds es:List D}{j:Nat}{d e:D},D.okL ds es->ds[j]?=some d->es[j]?=some e->D.ok d e
 |[],_,_,_,_,_,h,_=>by simp at h
 |_::_,[],_,_,_,_,_,h=>by simp at h
 |_::_,_::_,0,_,_,h,h1,h2=>by
  simp only[D.okL]at h;simp at h1 h2;subst h1 h2;exact h.1
 |_::_,_::_,j+1,_,_,h,h1,h2=>by simp only[D.okL]at h;exact D.okL_get h.2 (by simpa using h1) (by simpa using h2)
theorem D.depL_get:∀{ds:List D}{j:Nat}{d:D},ds[j]?=some d->D.dep d<=D.depL ds
 |[],_,_,h=>by simp at h
 |_::_,0,_,h=>by
  simp at h;subst h;simp only[D.depL];exact Nat.le_max_left _ _
 |_::ds,j+1,_,h=>by simp only[D.depL];exact y0r (D.depL_get (ds:=ds) (j:=j) (by simpa using h)) (Nat.le_max_right _ _)
def D.at_(ds es:List D)(j:Nat):Bool:=match ds[j]?,es[j]? with|some d,some e=>D.eq d e|_,_=>true
theorem D.all_eqL:∀(ds es:List D),(((List.range (min ds.length es.length)).all (D.at_ ds es))&&ds.length==es.length)=D.eqL ds es
 |[],[]=>by simp[D.eqL]
 |[],e::es=>by simp[D.eqL]
 |d::ds,[]=>by simp[D.eqL]
 |d::ds,e::es=>by
  have ih:=D.all_eqL ds es;simp only[D.eqL];rw[<-ih];have e1:min (d::ds).length (e::es).length=min ds.length es.length+1:=by simp only[y0X];lia
  rw[e1,List.range_succ_eq_map,List.all_cons,List.all_map,Bool.and_assoc];have e2:D.at_ (d::ds) (e::es) 0=D.eq d e:=by simp[D.at_]
  have e3:(D.at_ (d::ds) (e::es)∘Nat.succ)=D.at_ ds es:=by funext j;simp[D.at_]
  have e4:((d::ds).length==(e::es).length)=(ds.length==es.length):=by simp
  rw[e2,e3,e4]
def D.all_eqL'{ds es:List D}(h:ds.length=es.length):(List.range ds.length).all (D.at_ ds es)=D.eqL ds es:=by
 rw[<-D.all_eqL ds es];have:min ds.length es.length=ds.length:=by lia
 rw[this];simp[h]
def D.eqL_len{ds es:List D}(h:ds.length≠es.length):D.eqL ds es=false:=by
 rw[<-D.all_eqL ds es];have:(ds.length==es.length)=false:=by simpa using h
 rw[this,Bool.and_false]
section
variable{X:Cx}{pins:yyP}{σ:St}{H:Hp}{s:Shared}
mutual
theorem Dr.inj(I:Inv X pins σ H s):∀{d e:D}{v:V},Dr X.K H d v->Dr X.K H e v->D.ok d e->d=e
 |.non,e,v,h,h',o=>by cases e<;>simp only[D.ok]at o<;>rfl
 |.bl b,e,v,h,h',o=>by
  cases e<;>simp only[D.ok]at o;simp only[Dr]at h h';rw[h]at h';cases h';rfl
 |.int b,e,v,h,h',o=>by
  cases e<;>simp only[D.ok]at o;simp only[Dr]at h h';rw[h]at h';cases h';rfl
 |.str b,e,v,h,h',o=>by
  cases e<;>simp only[D.ok]at o;simp only[Dr]at h h';rw[h]at h';cases h';rfl
 |.tup ds,e,v,h,h',o=>by
  cases e<;>simp only[D.ok]at o;simp only[Dr]at h h';obtain⟨a,vs,rfl,q,r⟩:=h;obtain⟨b,us,eq,q',r'⟩:=h';cases eq;have:=I.tuple_inj (SqT.of q) (SqT.of q');subst this;rw[DrL.inj I r r' o]
 |.lst ds,e,v,h,h',o=>by cases e<;>simp only[D.ok]at o;simp only[Dr]at h h';obtain⟨a,vs,rfl,q,r⟩:=h;obtain⟨b,us,eq,q',r'⟩:=h';cases eq;have:=I.list_inj q q';subst this;rw[DrL.inj I r r' o]
theorem DrL.inj(I:Inv X pins σ H s):∀{ds es:List D}{vs:List V},DrL X.K H ds vs->DrL X.K H es vs->D.okL ds es->ds=es
 |[],[],_,_,_,_=>rfl
 |[],_::_,_,h,h',_=>by
  simp only[DrL]at h h';obtain⟨_,_,e,_⟩:=h';rw[h]at e;cases e
 |_::_,[],_,h,h',_=>by
  simp only[DrL]at h h';obtain⟨_,_,e,_⟩:=h;rw[h']at e;cases e
 |d::ds,e::es,_,h,h',o=>by simp only[DrL]at h h';simp only[D.okL]at o;obtain⟨v,r,rfl,q,q'⟩:=h;obtain⟨u,w,eq,p,p'⟩:=h';cases eq;rw[Dr.inj I q p o.1,DrL.inj I q' p' o.2]
end
def zgo(I:Inv X pins σ H s):∀(n:Nat)(A:Around){d e:D}{x y:V}{v u:Value},D.dep d<=n->A.units+n<cLine->Dr X.K H d x->Dr X.K H e y->D.ok d e->z0Z x v->z0Z y u->EqAt A s v u (D.eq d e)/\(∀l b,x=.ref l->y=.ref b->RcAt A s v u (D.eq d e)):=by
 intro n;induction n with
 |zero =>
  intro A d e x y v u hd hu hx hy o rx ry;cases d<;>cases e<;>simp only[D.ok]at o<;>simp only[D.dep,Nat.le_zero,y2U,y3G,and_false]at hd
  .simp only[Dr]at hx hy;subst hx hy;cases rx;cases ry;exact⟨EqAt.same _,fun _ _ h=>nomatch h⟩
  .rename_i a b;simp only[Dr]at hx hy;subst hx hy;cases rx;cases ry;simp only[D.eq];exact⟨EqAt.bool_bool _ _,fun _ _ h=>nomatch h⟩
  .rename_i a b;simp only[Dr]at hx hy;subst hx hy;obtain⟨t,rfl⟩:=rx;obtain⟨t',rfl⟩:=ry;simp only[D.eq];exact⟨fun prog w E Q h=>wpAny_eqBool_int h,fun _ _ h=>nomatch h⟩
  .rename_i a b;simp only[Dr]at hx hy;subst hx hy;obtain⟨t,rfl⟩:=rx;obtain⟨t',rfl⟩:=ry;simp only[D.eq];exact⟨fun prog w E Q h=>wpAny_eqBool_str h,fun _ _ h=>nomatch h⟩
 |succ n ih =>
  intro A d e x y v u hd hu hx hy o rx ry;have flat:D.dep d<=0->EqAt A s v u (D.eq d e)/\(∀l b,x=.ref l->y=.ref b->RcAt A s v u (D.eq d e)):=fun z=>ih A (y0r z (y0y _)) (by lia) hx hy o rx ry;have hin:A.in1.units+n<cLine:=by show A.units+1+n<cLine;lia
  have both:∀{l b:Addr}{k:Bool},RcAt A s (.ref l) (.ref b) k->(l=b->k=true)->EqAt A s (.ref l) (.ref b) k:=fun{l b k} h hk=>by
   by_cases e:l=b
   .have z:=hk e;subst e;rw[z];exact EqAt.same _
   .exact EqAt.of_refs e h
  have items:∀{ds es:List D}{vs us:List V}{its itt:List Value},D.depL ds<=n->D.okL ds es->DrL X.K H ds vs->DrL X.K H es us->z1h vs its->z1h us itt->∀j (h1:j<its.toArray.size) (h2:j<itt.toArray.size),EqAt A.in1 s its.toArray[j] itt.toArray[j] (D.at_ ds es j):=by
   intro ds es vs us its itt hdp hok r r' rv rv' j h1 h2;have l1:=rv.length;have l2:=rv'.length;have l3:=r.length;have l4:=r'.length;have h1':j<its.length:=by simpa using h1
   have h2':j<itt.length:=by simpa using h2
   have e1:ds[j]?=some ds[j]:=y00 (by lia);have e2:es[j]?=some es[j]:=y00 (by lia);obtain⟨x1,g1,d1⟩:=r.get e1;obtain⟨x2,g2,d2⟩:=r'.get e2;obtain⟨u1,k1,q1⟩:=rv.get g1;obtain⟨u2,k2,q2⟩:=rv'.get g2;have z1:u1=its.toArray[j]:=by rw[y00 h1']at k1;have:=y07 k1;simpa using this.symm
   have z2:u2=itt.toArray[j]:=by rw[y00 h2']at k2;have:=y07 k2;simpa using this.symm
   have z3:D.at_ ds es j=D.eq ds[j] es[j]:=by unfold D.at_;rw[e1,e2]
   rw[z3,<-z1,<-z2];exact(ih A.in1 (y0r (D.depL_get e1) hdp) hin d1 d2 (D.okL_get hok e1 e2) q1 q2).1
  cases d with
  |non=>exact flat (y0f _)
  |bl _=>exact flat (y0f _)
  |int _=>exact flat (y0f _)
  |str _=>exact flat (y0f _)
  |tup ds =>
   cases e<;>simp only[D.ok]at o;rename_i es;have inj:=fun(q:x=y)=>Dr.inj I hx (q▸hy) (by simp only[D.ok];exact o);have hdp:D.depL ds<=n:=by simp only[D.dep]at hd;lia
   simp only[Dr]at hx hy;obtain⟨l,vs,rfl,q,r⟩:=hx;obtain⟨b,us,rfl,q',r'⟩:=hy;cases rx;cases ry;obtain⟨its,rv,pl,_⟩:=I.tuple (SqT.of q);obtain⟨itt,rv',pl',_⟩:=I.tuple (SqT.of q');have R:RcAt A s (.ref l) (.ref b) (D.eq (.tup ds) (.tup es)):=by
    have z:=RcAt.tuples (A:=A) (e:=D.at_ ds es) pl pl' (by lia) (items hdp o r r' rv rv');have e1:its.toArray.size=ds.length:=by rw[r.length,rv.length];simp
    have e2:itt.toArray.size=es.length:=by rw[r'.length,rv'.length];simp
    rw[e1,e2,D.all_eqL]at z;simp only[D.eq];exact z
   exact⟨both R fun h=>by subst h;have:=inj rfl;rw[this];exact D.eq_refl _,fun _ _ _ _=>R⟩
  |lst ds =>
   cases e<;>simp only[D.ok]at o;rename_i es;have inj:=fun(q:x=y)=>Dr.inj I hx (q▸hy) (by simp only[D.ok];exact o);have hdp:D.depL ds<=n:=by simp only[D.dep]at hd;lia
   simp only[Dr]at hx hy;obtain⟨l,vs,rfl,q,r⟩:=hx;obtain⟨b,us,rfl,q',r'⟩:=hy;cases rx;cases ry;obtain⟨its,rv,pl,_⟩:=I.list q;obtain⟨itt,rv',pl',_⟩:=I.list q';have e1:its.toArray.size=ds.length:=by rw[r.length,rv.length];simp
   have e2:itt.toArray.size=es.length:=by rw[r'.length,rv'.length];simp
   have R:RcAt A s (.ref l) (.ref b) (D.eq (.lst ds) (.lst es)):=by
    by_cases hl:ds.length=es.length
    .have z:=RcAt.lists (A:=A) (e:=D.at_ ds es) pl.isList pl'.isList (by lia) (by lia) (items hdp o r r' rv rv');rw[e1,D.all_eqL' hl]at z;simp only[D.eq];exact z
    .have z:=RcAt.lists_lengths (A:=A) pl.isList pl'.isList (by rw[e1,e2];simpa using hl) (by lia);simp only[D.eq];rw[D.eqL_len hl];exact z
   exact⟨both R fun h=>by subst h;have:=inj rfl;rw[this];exact D.eq_refl _,fun _ _ _ _=>R⟩
end
open PySem PySem.Spec PyProof.Rows PySem.SeqAt
open PySem.AutoSeq1 (wpAny_loadPart')
section
variable{X:Cx}
end
open PySem PySem.Spec PyProof.Rows
section
variable{X:Cx}(K:yyF)
def ixL(h:X.K=K):IxR X (zhC K):=h▸z1U
def ixT(h:X.K=K):IxR X (zhP K):=h▸z24
def zia(h:X.K=K):z3j X (.builtin "len") (fun xs H Q=>∃p ys,xs=[.ref p]/\(SqL K H p ys\/SqT K H p ys)/\Q (.int ys.length) H):=h▸z0g
def zhK(h:X.K=K):z3j X (.type "tuple") (fun xs H Q=>∃p ys,xs=[.ref p]/\((SqL K H p ys/\∀l,H l=none->Q (.ref l) (upd H l (.tup ys)))\/(SqT K H p ys/\Q (.ref p) H))):=h▸z0s
def piT{tg l:Expr}{tl:TE}(h:X.K=K)(hl:PE X l tl):PI X tg l (zhs K tl):=h▸z2y hl
variable{o e:Expr}{es:List Expr}{to:TE}{t:TA}{name:Str}{apos cpos:Pos}{T id:String}{r:V->List V->Hp->VK->Prop}
def zi2(h:X.K=K)(hc:X.calm=true):z3j X (.builtin "any") (fun xs H Q=>∃(p:Addr) (bs:List Bool),xs=[.ref p]/\SqL K H p (bs.map V.bl)/\Q (.bl (bs.any _root_.id)) H):=h▸zd3 hc
def pgT{es:List Expr}{k:Nat}{t:TGs}{n:Nat}{pos:Pos}(h:X.K=K)(hc:X.calm=true)(hp:PGs X es t)(hn:(assignEach es X.env).length=n:=by rfl)(hst:(assignEach es X.env).findIdx? (·.1)=none:=by rfl):PG X (.Tuple es k pos) (zhu K n t):=h▸z2l hc hp hn hst
def zgZ{elts:List Expr}{tk:Nat}{tp:Pos}{a b:Expr}{ta:TA}{p pos:Pos}(h:X.K=K)(hg:Gl X "zip")(hm:X.mg "zip"=none)(ha:PA X [a,b] ta)(hs:starEach [a,b] X.env=[(false,eval a X.env),(false,eval b X.env)]:=by rfl)(hs2:starEach [b] X.env=[(false,eval b X.env)]:=by rfl) : PI X (.Tuple elts tk tp) (.Call (.Name "zip" p) [a,b] [] pos) (zhQ K ta):=h▸zdU hg hm ha hs hs2
end
mutual
def D.few:D->Prop
 |.tup a=>a.length<=5000/\D.fewL a
 |.lst a=>a.length<=5000/\D.fewL a
 |_=>True
def D.fewL:List D->Prop
 |[]=>True
 |d::ds=>D.few d/\D.fewL ds
end
theorem D.fewL_ints:∀ns:List Int,D.fewL (ns.map D.int)
 |[]=>by simp only[y0S,D.fewL]
 |n::r=>by simp only[y0l,D.fewL,D.few];exact⟨trivial,D.fewL_ints r⟩
theorem D.depL_ints:∀ns:List Int,D.depL (ns.map D.int)=0
 |[]=>by simp only[y0S,D.depL]
 |n::r=>by simp only[y0l,D.depL,D.dep,D.depL_ints r];rfl
end L2
namespace Gu
open PySem L2
def cell(ns:List Int)(i:Nat):Int:=if i<ns.length then ns.getD i 0 else if ns.length=0 then 29*i+5 else ns.getD (i%ns.length) 0%1000003+103*i
def z3Y(ns:List Int)(i:Nat):Int:=2+cell ns i%4
def z5T(ns:List Int)(i:Nat):2<=z3Y ns i:=by unfold z3Y;have:=y36 (cell ns i) (show(4:Int)≠0 by decide);lia
def zac(ns:List Int)(i:Nat):z3Y ns i<=5:=by unfold z3Y;have:=y2w (cell ns i) (show(0:Int)<4 by decide);lia
def zdQ(ns:List Int)(i:Nat):Nat:=(z3Y ns i).toNat
def zeH(ns:List Int)(i:Nat):2<=zdQ ns i:=by unfold zdQ;have:=z5T ns i;lia
def zet(ns:List Int)(i:Nat):zdQ ns i<=5:=by unfold zdQ;have:=zac ns i;lia
def zdb(ns:List Int)(i:Nat):((zdQ ns i:Nat):Int)=2+cell ns i%4:=by unfold zdQ;have:=z5T ns i;unfold z3Y at *;lia
def z0y(n:Nat):List Int:=(List.range n).map fun(i:Nat)=>(i:Int)
def z0H(n:Nat):(z0y n).length=n:=by simp[z0y]
def z1P{n i:Nat}(h:i<n):(z0y n)[i]?=some (i:Int):=by simp[z0y,h]
def z0J{n:Nat}{x:Int}:x∈z0y n↔0<=x/\x<n:=by
 constructor
 .intro h;obtain⟨i,hi,rfl⟩:=y0b.mp h;have:=y1d.mp hi;lia
 .intro⟨h0,h1⟩;exact y0b.mpr ⟨x.toNat,y1d.mpr (by lia),by lia⟩
def z63(n:Nat):(z0y n).Nodup:=by unfold z0y;rw[y1b,y1u];exact List.Pairwise.imp (fun h=>by lia) List.nodup_range
def z7Y(n:Nat):zcF 0 n=(z0y n).map V.int:=by unfold zcF z0y;rw[y0L];refine y0H fun i _=>?_;simp
theorem z2Z:∀(l:List Int)(i:Nat)(h:i<l.length),(l[i]::l.eraseIdx i).Perm l
 |[],_,h=>by simp at h
 |a::r,0,_=>List.Perm.refl _
 |a::r,i+1,h=>by have ih:=z2Z r i (by simpa using h);show(r[i]'(by simpa using h)::a::r.eraseIdx i).Perm (a::r);exact(List.Perm.swap _ _ _).trans (ih.cons a)
def ze5:Nat->Int->List Int->List Int
 |0,_,_=>[]
 |k+1,p,left=>left.getD (p%(left.length:Int)).toNat 0::ze5 k (p/(left.length:Int)) (left.eraseIdx (p%(left.length:Int)).toNat)
def zcZ(pick:Int)(n:Nat):List Int:=ze5 n pick (z0y n)
theorem z7V:∀(k:Nat)(p:Int)(left:List Int),left.length=k->(ze5 k p left).Perm left
 |0,_,left,h=>by
  have:left=[]:=List.length_eq_zero_iff.mp h;subst this;exact List.Perm.refl _
 |k+1,p,left,h=>by
  have hpos:(0:Int)<left.length:=by lia
  have h0:=y36 p (show(left.length:Int)≠0 by lia);have h1:=y2w p hpos;have hi:(p%(left.length:Int)).toNat<left.length:=by lia
  unfold ze5;have e:left.getD (p%(left.length:Int)).toNat 0=left[(p%(left.length:Int)).toNat]:=by simp[hi]
  rw[e];have ih:=z7V k (p/(left.length:Int)) (left.eraseIdx (p%(left.length:Int)).toNat) (by rw[y2N hi];lia);exact(ih.cons _).trans (z2Z _ _ hi)
def z9Z(pick:Int)(n:Nat):(zcZ pick n).Perm (z0y n):=z7V n pick (z0y n) (z0H n)
def IsP(n:Nat)(p:List Int):Prop:=p.Perm (z0y n)
def IsP.len{n:Nat}{p:List Int}(h:IsP n p):p.length=n:=by rw[List.Perm.length_eq h,z0H]
def IsP.nodup{n:Nat}{p:List Int}(h:IsP n p):p.Nodup:=(List.Perm.nodup_iff h).mpr (z63 n)
def IsP.mem{n:Nat}{p:List Int}(h:IsP n p){x:Int}:x∈p↔0<=x/\x<n:=(List.Perm.mem_iff h).trans z0J
def IsP.get{n:Nat}{p:List Int}(h:IsP n p){i:Nat}(hi:i<n):∃x:Int,p[i]?=some x/\0<=x/\x<n:=by have hl:=h.len;refine⟨p[i],y00 (by lia),?_⟩;exact h.mem.mp (y0c (by lia))
def IsP.find{n:Nat}{p:List Int}(h:IsP n p){x:Int}(h0:0<=x)(h1:x<n):∃j:Nat,j<n/\p[j]?=some x/\∀m,m<j->p[m]?≠some x:=by
 obtain⟨j,hj,e⟩:=y1q (h.mem.mpr ⟨h0,h1⟩);have hl:=h.len;have ej:p[j]?=some x:=by rw[y00 hj,e]
 refine⟨j,by lia,ej,fun m hm q=>?_⟩;have hml:m<p.length:=by lia
 rw[y00 hml]at q;have q':p[m]=p[j]:=by rw[e];exact y07 q
 have:=(y3q h.nodup).mp q';lia
def z3u(one other:List Int):List Int:=one.map fun x=>other.getD x.toNat 0
def z2B(p:List Int):List Int:=(z0y p.length).map fun k=>((p.idxOf k:Nat):Int)
def zb0{n:Nat}{p ys:List Int}(h:IsP n p)(hl:ys.length=n)(hy:∀(m:Nat)(x:Int),p[m]?=some x->ys[x.toNat]?=some (m:Int)):ys=z2B p:=by
 unfold z2B;rw[h.len];refine y1f fun k=>?_;by_cases hk:k<n
 .obtain⟨j,hj,ej,hm⟩:=h.find (x:=(k:Int)) (by lia) (by lia);have:=hy j k ej;simp only[y0E]at this;rw[this,y04,z1P hk];have hjl:j<p.length:=by rw[h.len];exact hj
  have e1:p[j]=(k:Int):=by rw[y00 hjl]at ej;exact y07 ej
  have e2:p.idxOf (k:Int)=j:=by rw[<-e1];exact List.Nodup.idxOf_getElem h.nodup j hjl
  simp[e2]
 .rw[y0n (by lia),y0n (by rw[y01,z0H];lia)]
def z6a{n:Nat}{p:List Int}(h:IsP n p){m:Nat}{x:Int}(e:p[m]?=some x):(z2B p)[x.toNat]?=some (m:Int):=by
 have hm:m<p.length:=(y05.mp e).1;have e1:p[m]=x:=by rw[y00 hm]at e;exact y07 e
 have hx:=h.mem.mp (e1▸y0c hm);unfold z2B;rw[y04,z1P (n:=p.length) (i:=x.toNat) (by rw[h.len];lia)];have e2:((x.toNat:Nat):Int)=x:=by lia
 have e3:p.idxOf x=m:=by rw[<-e1];exact List.Nodup.idxOf_getElem h.nodup m hm
 simp[e2,e3]
def z3v{p:List Int}:(z2B p).length=p.length:=by simp[z2B,z0H]
def zaE{n:Nat}{p:List Int}(h:IsP n p):z3u p (z2B p)=z0y n:=by
 refine y1f fun m=>?_;unfold z3u;rw[y04];by_cases hm:m<n
 .have hml:m<p.length:=by rw[h.len];exact hm
  have e:p[m]?=some p[m]:=y00 hml;rw[e,z1P hm];have:=z6a h e;simp[this]
 .rw[y0n (by rw[h.len];lia),y0n (by rw[z0H];lia)];rfl
end Gu
namespace L2
open PySem PySem.Spec PyProof.Rows PySem.SeqAt
instance:DecidableEq D:=fun a b=>if h:D.eq a b=true then isTrue (D.eq_of h)else isFalse fun e=>h (by rw[e];exact D.eq_refl b)
def D.dec(a b:D):decide (a=b)=D.eq a b:=by
 by_cases h:D.eq a b=true
 .rw[y1J (D.eq_of h),h]
 .rw[y1o (fun e=>h (by rw[e];exact D.eq_refl b)),y1g.mpr h]
mutual
def Hd(h:Heap):D->Value->Prop
 |.int i,v=>∃t,v=.int i t
 |.tup ds,v=>∃(a:Addr) (o:Obj) (its:Array Value) (n:Nat),v=.ref a/\h.get? a=some o/\o.cls=.type "tuple"/\o.data=.seq its n/\HdL h ds its.toList
 |_,_=>False
def HdL(h:Heap):List D->List Value->Prop
 |[],vs=>vs=[]
 |d::ds,vs=>∃v r,vs=v::r/\Hd h d v/\HdL h ds r
end
mutual
def D.hash:D->Int
 |.int i=>hashInt i
 |.tup ds=>reduceHash (Builtin.Tuple.tupleHashOf (D.hashL ds))
 |_=>0
def D.hashL:List D->List Int
 |[]=>[]
 |d::ds=>D.hash d::D.hashL ds
end
mutual
def D.draws:D->Nat
 |.tup ds=>D.drawsL ds+1
 |_=>1
def D.drawsL:List D->Nat
 |[]=>0
 |d::ds=>D.draws d+D.drawsL ds
end
theorem D.hashL_app:∀a b:List D,D.hashL (a++b)=D.hashL a++D.hashL b
 |[],b=>by simp only[y1z,D.hashL]
 |d::a,b=>by simp only[y3v,D.hashL,D.hashL_app a b]
theorem D.drawsL_app:∀a b:List D,D.drawsL (a++b)=D.drawsL a+D.drawsL b
 |[],b=>by simp only[y1z,D.drawsL,y2F]
 |d::a,b=>by simp only[y3v,D.drawsL,D.drawsL_app a b,y2K]
theorem HdL.length{h:Heap}:∀{ds:List D}{vs:List Value},HdL h ds vs->ds.length=vs.length
 |[],_,h=>by simp only[HdL]at h;subst h;rfl
 |d::ds,_,h=>by simp only[HdL]at h;obtain⟨v,r,rfl,_,q⟩:=h;rw[y0X,y0X,HdL.length q]
theorem HdL.get{h:Heap}:∀{ds:List D}{vs:List Value}{i:Nat}{d:D},HdL h ds vs->ds[i]?=some d->∃v,vs[i]?=some v/\Hd h d v
 |[],_,_,_,_,e=>by simp at e
 |d::ds,_,0,_,h,e=>by
  simp only[HdL]at h;obtain⟨v,r,rfl,q,_⟩:=h;simp at e;subst e;exact⟨v,rfl,q⟩
 |d::ds,_,i+1,d',h,e=>by simp only[HdL]at h;obtain⟨v,r,rfl,_,q⟩:=h;obtain⟨v',h1,h2⟩:=HdL.get (i:=i) q (by simpa using e);exact⟨v',by simpa using h1,h2⟩
mutual
theorem Hd.keep{h h':Heap}(k:∀a o its n,h.get? a=some o->o.cls=.type "tuple"->o.data=.seq its n->h'.get? a=some o):∀{d:D} {v:Value},Hd h d v->Hd h' d v
 |.int _,_,q=>by simp only[Hd]at q⊢;exact q
 |.tup ds,_,q=>by
  simp only[Hd]at q⊢;obtain⟨a,o,its,n,e,h1,h2,h3,h4⟩:=q;exact⟨a,o,its,n,e,k a o its n h1 h2 h3,h2,h3,HdL.keep k h4⟩
 |.non,_,q=>by simp only[Hd]at q
 |.bl _,_,q=>by simp only[Hd]at q
 |.str _,_,q=>by simp only[Hd]at q
 |.lst _,_,q=>by simp only[Hd]at q
theorem HdL.keep{h h':Heap}(k:∀a o its n,h.get? a=some o->o.cls=.type "tuple"->o.data=.seq its n->h'.get? a=some o):∀{ds:List D} {vs:List Value},HdL h ds vs->HdL h' ds vs
 |[],_,q=>by simp only[HdL]at q⊢;exact q
 |d::ds,_,q=>by simp only[HdL]at q⊢;obtain⟨v,r,e,q1,q2⟩:=q;exact⟨v,r,e,Hd.keep k q1,HdL.keep k q2⟩
end
mutual
theorem Hd.inj{h:Heap}:∀{d e:D}{v:Value},Hd h d v->Hd h e v->d=e
 |.int _,e,v,p,q=>by
  simp only[Hd]at p;obtain⟨t,rfl⟩:=p;cases e<;>simp only[Hd]at q
  .obtain⟨t',e⟩:=q;injection e with e;rw[e]
  .obtain⟨a,_,_,_,e,_⟩:=q;cases e
 |.tup ds,e,v,p,q=>by
  simp only[Hd]at p;obtain⟨a,o,its,n,rfl,h1,h2,h3,h4⟩:=p;cases e<;>simp only[Hd]at q
  .obtain⟨t',e⟩:=q;cases e
  .obtain⟨b,o',its',n',e,g1,g2,g3,g4⟩:=q;cases e;rw[h1]at g1;cases g1;rw[h3]at g3;injection g3 with e1 _;subst e1;rw[HdL.inj h4 g4]
 |.non,_,_,q,_=>by simp only[Hd]at q
 |.bl _,_,_,q,_=>by simp only[Hd]at q
 |.str _,_,_,q,_=>by simp only[Hd]at q
 |.lst _,_,_,q,_=>by simp only[Hd]at q
theorem HdL.inj{h:Heap}:∀{ds es:List D}{vs:List Value},HdL h ds vs->HdL h es vs->ds=es
 |[],[],_,_,_=>rfl
 |[],_::_,_,p,q=>by
  simp only[HdL]at p q;obtain⟨_,_,e,_⟩:=q;rw[p]at e;cases e
 |_::_,[],_,p,q=>by
  simp only[HdL]at p q;obtain⟨_,_,e,_⟩:=p;rw[q]at e;cases e
 |d::ds,e::es,_,p,q=>by simp only[HdL]at p q;obtain⟨v,r,rfl,p1,p2⟩:=p;obtain⟨u,w,eq,q1,q2⟩:=q;cases eq;rw[Hd.inj p1 q1,HdL.inj p2 q2]
end
section
variable{prog:Program}{w:World}
def zb4:∀(n:Nat){A:Around}{E:yyE}{s:Shared}{d:D}{v:Value}{Q:Int->Shared->Prop},D.dep d<=n->A.units+n<cLine->Hd s.heap d v->Q (D.hash d) { s with toks:=s.toks+D.draws d }->wpAny (model prog w) A (pyHash v) Q E s:=by
 intro n;induction n with
 |zero =>
  intro A E s d v Q hd hu hv h;cases d<;>simp only[Hd]at hv<;>simp only[D.dep,Nat.le_zero,y2U,y3G,and_false]at hd;obtain⟨t,rfl⟩:=hv;exact wpAny_pyHash_int h
 |succ n ih =>
  intro A E s d v Q hd hu hv h;cases d with
  |int i =>
   simp only[Hd]at hv;obtain⟨t,rfl⟩:=hv;exact wpAny_pyHash_int h
  |tup ds =>
   simp only[Hd]at hv;simp only[D.dep]at hd;obtain⟨a,o,its,m,rfl,ho,hc,hdd,hi⟩:=hv;have hT:s.TypeIs (.ref a) "tuple":=⟨o,ho,hc⟩;have hin:A.in1.units+n<cLine:=by show A.units+1+n<cLine;lia
   unfold pyHash;first|unfold pyHashByItsType|skip
   first|refine y03 (wpAny_cRoomFor_or (.inr (show A.units<cLine by lia)) ?_)|skip
   refine y03 (y3D hT y3g.lookup ?_);show wpAny _ _ (if(some (Value.builtin "tuple.__hash__")==some Value.none)=true
    then _ else _) Q E s
   rw[if_neg (by rw[beq_builtin_none];exact y0R)];refine y03 (y3D hT y3g.lookup ?_);show wpAny _ _ (callSpecialIfBoundUnlessNone? (.ref a) "__hash__" _
    >>= _) Q E s
   refine y03 (wpAny_callSpecialIfBoundUnlessNone?_slot hT y3g (y1A y3g
    hT F.entry_tuple_hash ?_ (F.args_tuple_hash_1 _)))
   show wpAny _ _ (Builtin.Tuple.tupleItemsOf (.ref a)>>=_) _ _ s;refine y03 (wpAny_tupleItemsOf ho hdd (y03 ?_));rw[<-Array.forIn_toList];refine wpAny_forIn_list _ (fun z1T (b:Array Int) s'=>∃done left,ds=done++left/\HdL s.heap left z1T/\b.toList=D.hashL done/\s'={ s with toks:=s.toks+D.drawsL done }) _ ?_ ?_ _ _ ⟨[],ds,rfl,hi,by simp only[D.hashL],by simp only[D.drawsL,y3n]⟩
   .rintro x z1T b s' ⟨done,left,e,hl,hb,rfl⟩;cases left with
    |nil=>simp only[HdL]at hl;cases hl
    |cons k ks =>
     simp only[HdL]at hl;obtain⟨v',r,ev,q1,q2⟩:=hl;cases ev;have hk:D.dep k<=n:=by
      have z:ds[done.length]?=some k:=by rw[e];simp
      have:=D.depL_get z;lia
     refine y03 (ih hk hin q1 ?_);have fin:∃done' left',ds=done'++left'/\HdL s.heap left' z1T/\(b.push (D.hash k)).toList=D.hashL done'/\({ s with toks:=s.toks+D.drawsL done+D.draws k }:Shared)={ s with toks:=s.toks+D.drawsL done' } :=
      ⟨done++[k],ks,by rw[e];simp,q2,by rw[D.hashL_app,<-hb];simp[D.hashL],by rw[D.drawsL_app];simp only[D.drawsL,y3n,y2K]⟩
     first
      |exact y0g fin
      |exact y03 (y0g (y0g fin))
   .rintro b s' ⟨done,left,e,hl,hb,rfl⟩;cases left with
    |cons k ks=>simp only[HdL]at hl;obtain⟨_,_,e,_⟩:=hl;cases e
    |nil =>
     rw[y1p]at e;subst e;show wpAny _ _ (retInt (Builtin.Tuple.tupleHashOf b.toList))
      _ _ _
     rw[hb];refine wpAny_ret_mkInt ?_;show wpAny _ _ (if(decide (-(2:Int)^63<=Builtin.Tuple.tupleHashOf (D.hashL ds))&&decide (Builtin.Tuple.tupleHashOf (D.hashL ds)<2^63))=true then _ else _) Q E _;simp only[D.hash]at h;unfold reduceHash at h;simp only[D.draws]at h;by_cases hr:(decide (-(2:Int)^63<=Builtin.Tuple.tupleHashOf (D.hashL ds))&&decide (Builtin.Tuple.tupleHashOf (D.hashL ds)<2^63))=true
     .rw[if_pos hr];rw[if_pos hr]at h;exact y0g (by simpa[y2K]using h)
     .rw[if_neg hr];rw[if_neg hr]at h;exact y03 (y2i (y0g (by simpa[y2K]using h)))
  |non=>simp only[Hd]at hv
  |bl _=>simp only[Hd]at hv
  |str _=>simp only[Hd]at hv
  |lst _=>simp only[Hd]at hv
end
open PySem PySem.Spec PyProof.Rows PySem.SeqAt
section
variable{prog:Program}{w:World}
def z8K{s:Shared}:∀(n:Nat)(A:Around){d e:D}{v u:Value},D.dep d<=n->A.units+n<cLine->Hd s.heap d v->Hd s.heap e u->EqAt A s v u (D.eq d e):=by
 intro n;induction n with
 |zero =>
  intro A d e v u hd hu hv hx;cases d<;>simp only[Hd]at hv<;>simp only[D.dep,Nat.le_zero,y2U,y3G,and_false]at hd;obtain⟨t,rfl⟩:=hv;cases e<;>simp only[Hd]at hx
  .obtain⟨t',rfl⟩:=hx;simp only[D.eq];exact EqAt.int_int _ _ _ _
  .obtain⟨a,o,its,m,rfl,ho,hc,hdd,hi⟩:=hx;simp only[D.eq];exact EqAt.int_tuple _ _ (items:=its) ⟨o,ho,hc,m,hdd⟩ (by lia)
 |succ n ih =>
  intro A d e v u hd hu hv hx;have hin:A.in1.units+n<cLine:=by show A.units+1+n<cLine;lia
  cases d with
  |int i=>exact ih A (y0y _) (by lia) hv hx
  |tup ds =>
   simp only[Hd]at hv;simp only[D.dep]at hd;obtain⟨a,o,its,m,rfl,ho,hc,hdd,hi⟩:=hv;have ta:s.heap.IsTuple a its:=⟨o,ho,hc,m,hdd⟩;cases e with
   |int j =>
    simp only[Hd]at hx;obtain⟨t',rfl⟩:=hx;simp only[D.eq];exact EqAt.tuple_int _ _ ta (by lia)
   |tup es =>
    have inj:Value.ref a=u->D.tup ds=D.tup es:=fun z=>Hd.inj (h:=s.heap) (v:=u) (by rw[<-z];simp only[Hd];exact⟨a,o,its,m,rfl,ho,hc,hdd,hi⟩) hx;simp only[Hd]at hx;obtain⟨b,o',its',m',rfl,ho',hc',hdd',hi'⟩:=hx;have tb:s.heap.IsTuple b its':=⟨o',ho',hc',m',hdd'⟩;have e1:its.size=ds.length:=by have:=hi.length;simp at this;lia
    have e2:its'.size=es.length:=by have:=hi'.length;simp at this;lia
    have z:=RcAt.tuples (A:=A) (e:=D.at_ ds es) ta tb (by lia) (fun j h1 h2=>by
     have g1:ds[j]?=some ds[j]:=y00 (by lia);have g2:es[j]?=some es[j]:=y00 (by lia);obtain⟨x1,k1,q1⟩:=hi.get g1;obtain⟨x2,k2,q2⟩:=hi'.get g2;have z1:x1=its[j]:=by simp[h1]at k1;exact k1.symm
     have z2:x2=its'[j]:=by simp[h2]at k2;exact k2.symm
     have z3:D.at_ ds es j=D.eq ds[j] es[j]:=by unfold D.at_;rw[g1,g2]
     rw[z3,<-z1,<-z2];exact ih A.in1 (y0r (D.depL_get g1) (by lia)) hin q1 q2)
    rw[e1,e2,D.all_eqL]at z;simp only[D.eq];by_cases hab:a=b
    .have:=inj (by rw[hab]);injection this with this;subst this hab;rw[D.eqL_refl];exact EqAt.same _
    .exact EqAt.of_refs hab z
   |non=>simp only[Hd]at hx
   |bl _=>simp only[Hd]at hx
   |str _=>simp only[Hd]at hx
   |lst _=>simp only[Hd]at hx
  |non=>simp only[Hd]at hv
  |bl _=>simp only[Hd]at hv
  |str _=>simp only[Hd]at hv
  |lst _=>simp only[Hd]at hv
def za1{A:Around}{E:yyE}{s:Shared}:∀(n:Nat){d:D}{v:Value}{Q:Bool->Shared->Prop},D.dep d<=n->Hd s.heap d v->Q true s->wpAny (model prog w) A (eqIsQuiet n v) Q E s:=by
 have flat:∀(n:Nat){i:Int}{t:Tok}{Q:Bool->Shared->Prop},Q true s->wpAny (model prog w) A (eqIsQuiet n (.int i t)) Q E s:=fun n i t Q h=>by rw[eqIsQuiet_byValue n (v:=.int i t) rfl];exact y0g h
 intro n;induction n with
 |zero =>
  intro d v Q hd hv h;cases d<;>simp only[Hd]at hv<;>simp only[D.dep,Nat.le_zero,y2U,y3G,and_false]at hd;obtain⟨t,rfl⟩:=hv;exact flat 0 h
 |succ n ih =>
  intro d v Q hd hv h;cases d with
  |int i =>
   simp only[Hd]at hv;obtain⟨t,rfl⟩:=hv;exact flat _ h
  |tup ds =>
   simp only[Hd]at hv;simp only[D.dep]at hd;obtain⟨a,o,its,m,rfl,ho,hc,hdd,hi⟩:=hv;have hT:s.TypeIs (.ref a) "tuple":=⟨o,ho,hc⟩;unfold eqIsQuiet;refine y03 (y3D hT F.slot_tuple_eq.lookup ?_);show wpAny _ _ (isInstance (.ref a) (.type "tuple")
    >>= _) _ _ s
   refine y03 (y3t hT isSubtype_tuple_tuple ?_);simp only[y37,y0d,y1m];refine y03 (y2c ho hdd (y03 ?_));show wpAny _ _ (forIn its _ _) _ _ s;rw[<-Array.forIn_toList];refine wpAny_forIn_list _ (fun z1T r s'=>r.1=none/\s'=s/\∃left,HdL s.heap left z1T/\D.depL left<=n) _ ?_ ?_ _ _ ⟨rfl,rfl,ds,hi,by lia⟩
   .rintro x z1T r s' ⟨hr,rfl,left,hl,hdl⟩;cases left with
    |nil=>simp only[HdL]at hl;cases hl
    |cons k ks =>
     simp only[HdL]at hl;simp only[D.depL]at hdl;obtain⟨v',q,ev,q1,q2⟩:=hl;cases ev;refine y03 (ih (by lia) q1 ?_);simp only[y37,y0d,y1m];exact y0g ⟨rfl,rfl,ks,q2,by lia⟩
   .rintro⟨r1,r2⟩ s' ⟨hr,rfl,_⟩;simp only at hr;subst hr;exact y0g h
  |non=>simp only[Hd]at hv
  |bl _=>simp only[Hd]at hv
  |str _=>simp only[Hd]at hv
  |lst _=>simp only[Hd]at hv
def z2G(prog:Program)(w:World):HeapKind prog w D where
 is:=fun h d a=>Hd h d (.ref a)/\D.dep d<=8
 hash:=D.hash
 draws:=D.draws
 room:=fun A=>A.units+8<cLine
 inj:=fun hx hy=>Hd.inj hx.1 hy.1
 keeps:=fun{h h' k a d o es ep} hx ho hd hs=>⟨Hd.keep (fun b o' its n e c q=>(hs.2 b (by rintro rfl;rw[ho]at e;cases e;rw[hd]at q;cases q)).trans e) hx.1,hx.2⟩
 pyHash:=fun hu hk h=>zb4 8 hk.2 hu hk.1 h
 eqBool:=fun hu hx hy h=>by rw[D.dec]at h;exact z8K 8 _ hx.2 hu hx.1 hy.1 _ _ _ _ h
 quiet:=fun hk h=>za1 8 hk.2 hk.1 h
end
mutual
def D.key:D->Prop
 |.int _=>True
 |.tup ds=>D.keyL ds
 |_=>False
def D.keyL:List D->Prop
 |[]=>True
 |d::ds=>D.key d/\D.keyL ds
end
section
variable{P:Program}{w:World}{K:yyF}{H:Hp}{h:Heap}
mutual
theorem Dr.hd(ok:HOk P w H h):∀{d:D}{v:V}{u:Value},D.key d->Dr K H d v->z0Z v u->Hd h d u
 |.int i,v,u,_,q,r=>by
  simp only[Dr]at q;subst q;simp only[Hd];exact r
 |.tup ds,v,u,k,q,r=>by
  simp only[Dr]at q;simp only[D.key]at k;obtain⟨a,vs,rfl,e,q⟩:=q;cases r;obtain⟨_,its,n,rv,h1⟩:=ok a _ e;simp only[Hd];exact⟨a,_,its.toArray,n,rfl,h1,rfl,rfl,by simpa using DrL.hd ok k q rv⟩
 |.non,_,_,k,_,_=>by simp only[D.key]at k
 |.bl _,_,_,k,_,_=>by simp only[D.key]at k
 |.str _,_,_,k,_,_=>by simp only[D.key]at k
 |.lst _,_,_,k,_,_=>by simp only[D.key]at k
theorem DrL.hd(ok:HOk P w H h):∀{ds:List D}{vs:List V}{us:List Value},D.keyL ds->DrL K H ds vs->z1h vs us->HdL h ds us
 |[],vs,us,_,q,r=>by
  simp only[DrL]at q;subst q;cases r;simp only[HdL]
 |d::ds,vs,us,k,q,r=>by
  simp only[DrL]at q;simp only[D.keyL]at k;obtain⟨v,z,rfl,q1,q2⟩:=q;cases r with
  |cons r1 r2 =>
   simp only[HdL];exact⟨_,_,rfl,Dr.hd ok k.1 q1 r1,DrL.hd ok k.2 q2 r2⟩
end
end
open PySem PySem.Spec PyProof.Rows PySem.SeqAt
def zaB(P:Program)(w:World)(a:Addr)(xs:List (D × Addr × Value)):HO :=
 .ext fun h=>(a==sysModules)=false/\∃o es ep,h.get? a=some o/\o.ExactDict/\o.data=.dict es ep/\es.toList=xs.map (entryOfKey (z2G P w))
abbrev KDr(K:yyF)(H:Hp):List (D × V)->List (D × Addr × Value)->Prop:=Paired fun p q=>p.1=q.1/\(D.key p.1/\D.dep p.1<=8/\Dr K H p.1 (.ref q.2.1))/\z0Z p.2 q.2.2
def DD(P:Program)(w:World)(K:yyF)(H:Hp)(a:Addr)(kvs:List (D × V)):Prop :=
 ∃xs,H a=some (zaB P w a xs)/\KDr K H kvs xs/\(kvs.map (·.1)).Nodup/\kvs.length<=sizeLine
def KDr.val{K:yyF}{H:Hp}{kvs:List (D × V)}{xs:List (D × Addr × Value)}(r:KDr K H kvs xs)(k:D):z9n (z2N kvs k) ((atKey xs k).map (·.2)):=by
 induction r with
 |nil=>exact y2I
 |@cons p q ps qs h t ih =>
  obtain⟨h1,_,h2⟩:=h;by_cases e:p.1=k
  .have e':q.1=k:=h1.symm.trans e;have b:atKey (q::qs) k=some q.2:=by simp[atKey,y21,e']
   rw[z3e e,b];exact h2
  .have e':¬q.1=k:=fun z=>e (h1.trans z);have b:atKey (q::qs) k=atKey qs k:=by simp[atKey,y21,e']
   rw[z2K e,b];exact ih
def KDr.repl{K:yyF}{H:Hp}{kvs:List (D × V)}{xs:List (D × Addr × Value)}(r:KDr K H kvs xs)(k:D){y:V}{u:Value}(ry:z0Z y u) : KDr K H (kvs.map fun kv=>if kv.1=k then(kv.1,y)else kv) (xs.map (putAt k u)):=by
 induction r with
 |nil=>exact .nil
 |@cons p q ps qs h t ih =>
  rw[y0l,y0l];refine .cons ?_ ih;obtain⟨h1,h2,h3⟩:=h;unfold putAt;by_cases e:p.1=k
  .rw[if_pos e,if_pos (h1.symm.trans e)];exact⟨h1,h2,ry⟩
  .rw[if_neg e,if_neg (fun z=>e (h1.trans z))];exact⟨h1,h2,h3⟩
def KDr.put{K:yyF}{H:Hp}{kvs:List (D × V)}{xs:List (D × Addr × Value)}(r:KDr K H kvs xs)(k:D){b:Addr}{y:V}{u:Value}(hb:D.key k/\D.dep k<=8/\Dr K H k (.ref b))(ry:z0Z y u) : KDr K H (z2c kvs k y) (storedH xs k b u):=by
 have e:(kvs.any fun kv=>decide (kv.1=k))=(atKey xs k).isSome:=by rw[z3i,(r.val k).isSome_eq,y2g]
 unfold z2c storedH;rw[e];by_cases q:(atKey xs k).isSome=true
 .rw[if_pos q,if_pos q];exact r.repl k ry
 .rw[if_neg q,if_neg q];exact Paired.snoc r ⟨rfl,hb,ry⟩
def KDr.keys{K:yyF}{H:Hp}{kvs:List (D × V)}{xs:List (D × Addr × Value)}(r:KDr K H kvs xs):kvs.map (·.1)=xs.map (·.1):=by
 induction r with
 |nil=>rfl
 |@cons p q ps qs h t ih=>rw[y0l,y0l,ih,h.1]
def KDr.mono{K:yyF}{H H':Hp}{kvs:List (D × V)}{xs:List (D × Addr × Value)}(r:KDr K H kvs xs)(f:∀d v,D.key d->Dr K H d v->Dr K H' d v):KDr K H' kvs xs :=
 Paired.mapP r fun _ _ z=>⟨z.1,⟨z.2.1.1,z.2.1.2.1,f _ _ z.2.1.1 z.2.1.2.2⟩,z.2.2⟩
theorem DD.mono{P:Program}{w:World}{K:yyF}{H H':Hp}{a:Addr}{kvs:List (D × V)}(h:DD P w K H a kvs)(s:z0d H H'):DD P w K H' a kvs:=by obtain⟨xs,e,r,n,z⟩:=h;exact⟨xs,s _ _ e,r.mono fun _ _ _ q=>q.mono s,n,z⟩
mutual
theorem Dr.keyed{K:yyF}{H H':Hp}(k:∀b xs,H b=some (.tup xs)->H' b=some (.tup xs)):∀{d:D}{v:V},D.key d->Dr K H d v->Dr K H' d v
 |.int _,_,_,h=>by simp only[Dr]at h⊢;exact h
 |.tup ds,_,q,h=>by
  simp only[Dr]at h⊢;simp only[D.key]at q;obtain⟨a,vs,e,z,r⟩:=h;exact⟨a,vs,e,k _ _ z,DrL.keyed k q r⟩
 |.non,_,q,_=>by simp only[D.key]at q
 |.bl _,_,q,_=>by simp only[D.key]at q
 |.str _,_,q,_=>by simp only[D.key]at q
 |.lst _,_,q,_=>by simp only[D.key]at q
theorem DrL.keyed{K:yyF}{H H':Hp}(k:∀b xs,H b=some (.tup xs)->H' b=some (.tup xs)):∀{ds:List D}{vs:List V},D.keyL ds->DrL K H ds vs->DrL K H' ds vs
 |[],_,_,h=>by simp only[DrL]at h⊢;exact h
 |d::ds,_,q,h=>by simp only[DrL]at h⊢;simp only[D.keyL]at q;obtain⟨v,r,e,q1,q2⟩:=h;exact⟨v,r,e,Dr.keyed k q.1 q1,DrL.keyed k q.2 q2⟩
end
section
variable{X:Cx}{pins:yyP}{σ:St}{H:Hp}{s:Shared}{a:Addr}{kvs:List (D × V)}{K:yyF}
def DD.at(I:Inv X pins σ H s)(h:DD X.prog X.w K H a kvs):(a==sysModules)=false/\∃xs,H a=some (zaB X.prog X.w a xs)/\KDr K H kvs xs/\s.heap.DictOfH (z2G X.prog X.w) a xs:=by
 obtain⟨xs,e,r,n,z⟩:=h;obtain⟨⟨hs,o,es,ep,h1,h2,h3,h4⟩,_,_⟩:=I.hok a _ e;refine⟨hs,xs,e,r,o,es,ep,h1,h2,h3,h4,?_,by rw[<-r.keys];exact n⟩;have all:∀{l:List (D × V)}{m:List (D × Addr × Value)},KDr K H l m->∀x∈m,(z2G X.prog X.w).is s.heap x.1 x.2.1:=by
  intro l m q;induction q with
  |nil=>intro x hx;exact nomatch hx
  |@cons p q ps qs hq t ih =>
   intro x hx;rcases y0x.mp hx with e|hx
   .subst e;rw[<-hq.1];exact⟨Dr.hd I.hok hq.2.1.1 hq.2.1.2.2 rfl,hq.2.1.2.1⟩
   .exact ih x hx
 exact all r
def z7F(I:Inv X pins σ H s){d:D}{b:Addr}(k:D.key d)(hd:D.dep d<=8)(h:Dr K H d (.ref b)):(z2G X.prog X.w).is s.heap d b:=⟨Dr.hd I.hok k h rfl,hd⟩
def zeA(K:yyF)(H:Hp)(d:D)(y:V):Prop:=(∃b,y=.ref b)/\D.key d/\D.dep d<=8/\Dr K H d y
variable{o i e f value:Expr}{pos pos' apos cpos:Pos}{td ty tv tx:TE}
def zgd(P:Program)(w:World)(K:yyF)(td ty:TE):TE:=fun σ H Q=>td σ H fun x H1=>ty σ H1 fun y H2=>∃a kvs d v,x=.ref a/\DD P w K H2 a kvs/\zeA K H2 d y/\z2N kvs d=some v/\Q v H2
def zbb(hu:X.A.units+9<cLine)(ho:PE X o td)(hi:PE X i ty)(hs:zgD i):PE X (.Subscript o i pos) (zgd X.prog X.w K td ty):=by intro pins s σ H Q I h;refine zbB PySem.F.slot_dict_getitem.lookup hs (z1Y (ho pins s σ H _ I h) fun u s1 x H1 I1 rx q1=>z1Y (hi pins s1 σ H1 _ I1 q1) fun iv s2 y H2 I2 ry hz9=>?_);obtain⟨a,kvs,d,v,ex,g,⟨⟨b,eb⟩,k1,k2,k3⟩,hv,q2⟩:=hz9;subst ex eb;obtain rfl:u=Value.ref a:=rx;obtain rfl:iv=Value.ref b:=ry;obtain⟨hsm,xs,e,r,dd⟩:=g.at I2;obtain⟨w',hw,rw'⟩:=z9n.some_of (v:=v) (o:=(atKey xs d).map (·.2)) (by rw[<-hv];exact r.val d);obtain⟨p,hp,hp2⟩:=y1a.mp hw;refine⟨dd.typeIs,wpAny_getItem_heap (show X.A.units+1+8<cLine by lia) (z7F I2 k1 k2 k3) dd hp ?_⟩;rw[hp2];exact⟨v,H2,I2.tok _,rw',q2⟩
def zek(P:Program)(w:World)(K:yyF)(ty td:TE):TE:=fun σ H Q=>ty σ H fun y H1=>td σ H1 fun x H2=>∃a kvs d,x=.ref a/\DD P w K H2 a kvs/\zeA K H2 d y/\Q (.bl (!(z2N kvs d).isSome)) H2
def z85(hu:X.A.units+9<cLine)(hi:PE X i ty)(ho:PE X o td):PC X .NotIn i o (zek X.prog X.w K ty td):=by intro pins s σ H Q I h;refine z1Y (hi pins s σ H _ I h) fun iv s1 y H1 I1 ry q1=>z1Y (ho pins s1 σ H1 _ I1 q1) fun u s2 x H2 I2 rx hz9=>?_;obtain⟨a,kvs,d,ex,g,⟨⟨b,eb⟩,k1,k2,k3⟩,q2⟩:=hz9;subst ex eb;obtain rfl:u=Value.ref a:=rx;obtain rfl:iv=Value.ref b:=ry;obtain⟨hsm,xs,e,r,dd⟩:=g.at I2;refine wpAny_notIn_heap (show X.A.units+1+8<cLine by lia) (z7F I2 k1 k2 k3) hsm dd ?_;have q:=(r.val d).isSome_eq;rw[y2g]at q;rw[<-q];exact⟨.bl _,H2,I2.tok _,rfl,q2⟩
def zgF(P:Program)(w:World)(K:yyF)(td ty tv:TE):TS:=fun Dd σ H=>tv σ H fun v H1=>td σ H1 fun x H2=>ty σ H2 fun y H3=>∃a kvs d,x=.ref a/\DD P w K H3 a kvs/\zeA K H3 d y/\kvs.length<sizeLine /\
 ∀ob,DD P w K (upd H3 a ob) a (z2c kvs d v)->Dd.nx σ (upd H3 a ob)
def z79{P:Program}{w:World}(h:DD P w K H a kvs):∀b xs,H b=some (.tup xs)->b≠a:=fun b xs e z=>by obtain⟨ys,q,_⟩:=h;rw[z,q]at e;cases e
def z6n(hu:X.A.units+9<cLine)(ho:PE X o td)(hi:PE X i ty)(hv:PE X value tv)(hs:swapsWith value (some (.Subscript o i pos')) pos.line X.env=pure false:=by rfl) : PS X (.Assign [.Subscript o i pos'] value pos) (zgF X.prog X.w K td ty tv):=by
 intro pins s σ H D I h;refine wpAny_Assign_Subscript (z1Y (hv pins s σ H _ I h) fun r s1 v H1 I1 rv q1=>z1Y (ho pins s1 σ H1 _ I1 q1) fun u s2 x H2 I2 rx q2=>z1Y (hi pins s2 σ H2 _ I2 q2) fun iv s3 y H3 I3 ry hz9=>?_) hs;obtain⟨a,kvs,d,ex,g,⟨⟨b,eb⟩,k1,k2,k3⟩,hz,q3⟩:=hz9;subst ex eb;obtain rfl:u=Value.ref a:=rx;obtain rfl:iv=Value.ref b:=ry;obtain⟨hsm,xs,e,rr,dd⟩:=g.at I3;have hlen:xs.length<=sizeLine:=by rw[<-y3A rr];exact y27 hz
 have hl:(z2c kvs d v).length<=sizeLine:=by have:=z1L kvs d v;lia
 refine wpAny_setItem_heap (hsz:=hlen) (show X.A.units+1+8<cLine by lia) (z7F I3 k1 k2 k3) dd fun h' dd' hsb=>?_;obtain⟨q,es,ep,hq,h2,h3,h4,_,h5⟩:=dd';have Iw:Inv X pins σ (upd H3 a (zaB X.prog X.w a (storedH xs d b r))) { s3 with heap:=h',toks:=s3.toks+(z2G X.prog X.w).draws d }:=by refine z4c I3 (by rw[e];exact y2I) hsb ⟨q,hq⟩ ⟨⟨hsm,q,es,ep,hq,h2,h3,h4⟩,⟨q,hq⟩,fun h1 h2' p k=>?_⟩;obtain⟨p0,o1,es1,ep1,p1,p2,p3,p4⟩:=p;exact⟨p0,o1,es1,ep1,k _ p1,p2,p3,p4⟩
 have kt:∀c ys,H3 c=some (.tup ys)->upd H3 a (zaB X.prog X.w a (storedH xs d b r)) c=some (.tup ys):=fun c ys ec=>by rw[z06 (z79 g c ys ec)];exact ec
 refine⟨σ,_,Iw,q3 _ ⟨_,z01,(rr.put d ⟨k1,k2,k3⟩ rv).mono fun d' v' kd q=>q.keyed kt kd,?_,hl⟩⟩;have nd:=h5;have ek:=(rr.put d ⟨k1,k2,k3⟩ rv).keys;rw[ek];exact nd
def zh1(P:Program)(w:World)(K:yyF):TE:=fun _ H Q=>∀p,H p=none->∀ob,DD P w K (upd H p ob) p []->Q (.ref p) (upd H p ob)
def z8q:PE X (.Dict [] [] pos) (zh1 X.prog X.w K):=fun pins s σ H Q I h=>by have hb:(s.heap.objs.size==sysModules)=false:=y2T.mpr (y1k (y0C I.big));refine wpAny_Dict_empty ⟨.ref s.heap.objs.size,_,I.laid (a:=s.heap.objs.size) (o:=zaB X.prog X.w s.heap.objs.size []) (t':=s.toks) (fun _ _ q=>y06 _ q) (y0f _) ⟨⟨hb,_,#[],0,y0k _ rfl,⟨rfl,rfl,rfl⟩,rfl,rfl⟩,⟨_,y0k _ rfl⟩,fun h1 h2 p k=>?_⟩,rfl,h _ I.fresh _ ⟨[],z01,.nil,y2S,y0y _⟩⟩;obtain⟨p0,o1,es1,ep1,p1,p2,p3,p4⟩:=p;exact⟨p0,o1,es1,ep1,k _ p1,p2,p3,p4⟩
def zfL(P:Program)(w:World)(K:yyF)(td ty tx:TE):TE:=fun σ H Q=>td σ H fun x H1=>∃a kvs0,x=.ref a/\DD P w K H1 a kvs0/\ty σ H1 fun y H2=>tx σ H2 fun z H3=>∃kvs d,DD P w K H3 a kvs/\zeA K H3 d y/\Q ((z2N kvs d).getD z) H3
def zdi(hu:X.A.units+9<cLine)(ho:PE X o td)(he:PE X e ty)(hf:PE X f tx)(m:M2 X o "get" apos e f cpos):PE X (.Call (.Attribute o "get" apos) [e,f] [] cpos) (zfL X.prog X.w K td ty tx):=by
 intro pins s σ H Q I h;refine wpAny_Call_method m.base m.few m.line PySem.F.plainAttrs_dict PySem.F.slot_dict_get PySem.F.type_dict_get (z1Y (ho pins s σ H _ I h) fun u s1 x H1 I1 rx hz9=>?_);obtain⟨a,kvs0,ex,g0,q1⟩:=hz9;subst ex;obtain rfl:u=Value.ref a:=rx;obtain⟨hsm,xs0,_,_,dd0⟩:=g0.at I1;refine⟨dd0.typeIs,fun b q=>?_,?_⟩
 .cases q;obtain⟨ob,_,_,h1,h2,_⟩:=dd0;exact⟨ob,h1,h2.2.1⟩
 rw[m.trees];refine Calls.callWith_builtin rfl (y3y (y2Z (z1Y (he pins s1 σ H1 _ I1 q1) fun iv s2 y H2 I2 ry q2 =>
  y2Z (thn (hf pins s2 σ H2 _ I2 q2) fun fv s3 ⟨z,H3,I3,rz,kvs,d,g,⟨⟨b,eb⟩,k1,k2,k3⟩,q3⟩=>Calls.spliced_nil ?_))))
 subst eb;obtain rfl:iv=Value.ref b:=ry;obtain⟨_,xs,_,r,dd⟩:=g.at I3;refine call_meetsIn PySem.F.slot_dict_get dd.typeIs PySem.F.entry_dict_get (PySem.F.args_dict_get_3 _ _ _) (meetsH_dict_get_default (z2G X.prog X.w) a b hsm fv) ⟨show X.A.units+1+8<cLine by lia,d,xs,z7F I3 k1 k2 k3,dd,?_⟩;exact⟨_,H3,I3.tok _,(r.val d).getD rz,q3⟩
end
open PySem PySem.Spec PyProof.Rows PySem.SeqAt
open PySem.AutoSeq1 (wpAny_loadPart')
section
variable{X:Cx}(K:yyF)
def zdw:z3j X (.builtin "len") (fun xs H Q=>∃a kvs,xs=[V.ref a]/\DD X.prog X.w K H a kvs/\Q (.int kvs.length) H):=by
 intro pins s σ H xs us Q I r h;obtain⟨a,kvs,rfl,g,q⟩:=h;obtain⟨u,rfl,ru⟩:=z4r r;cases ru;obtain⟨hsm,xs,_,rr,dd⟩:=g.at I;obtain⟨o,es,ep,ho,hc,hdat,hes,_⟩:=id dd;have hlen:es.size=kvs.length:=by
  have:es.toList.length=xs.length:=by rw[hes,y01]
  rw[y3A rr,<-this];simp
 have hz:kvs.length<=sizeLine:=by obtain⟨_,_,_,_,z⟩:=g;exact z
 have hz2:(kvs.length:Int)<2^63:=by have:=z7T;lia
 refine Calls.call_function_entry kind_len plain_len entry_len (args_len1 _) ?_;unfold Builtin.«len»;refine y03 (m:=oneArg "len" _) (y0g ?_);refine y03 (m:=callSpecial? (.ref a) (Str.ofString "__len__")) (y1t (name:=Str.ofString "__len__") dd.typeIs F.slot_dict_len
  (y1A F.slot_dict_len dd.typeIs F.entry_dict_len ?_ (F.args_dict_len_1 _)))
 show wpAny _ _ (dictSize a>>=_) _ _ s;unfold dictSize;refine y03 (y03 (wpAny_dictEntries ho hdat (y0g ?_)));show wpAny _ _ (Builtin.Dict.pendingCount a>>=_) _ _ s;refine y03 (wpAny_pendingCount_other hsm ?_);refine wpAny_ret_mkInt ?_;rw[y3n,hlen];refine y03 (y1I (y0g ?_));refine y03 (wpAny_letGo ?_);show wpAny _ _ (if((kvs.length:Nat):Int)<0
  then _ else _) _ _ _
 rw[if_neg (by lia)];show wpAny _ _ (if((kvs.length:Nat):Int) ≥ 2^63
  then _ else _) _ _ _
 rw[if_neg (by lia)];exact y03 (wpAny_mkInt (y0g ⟨_,rfl,.int kvs.length,H,I.tok _,⟨_,rfl⟩,q⟩))
end
open PySem PySem.Spec PyProof.Rows PySem.SeqAt
open PySem.AutoSeq1 (wpAny_loadPart')
theorem z7D:∀{ns:List Int}{its:List Value},z1h (ns.map V.int) its->∃xs:List (Int × Tok),its=xs.map (fun p=>Value.int p.1 p.2)/\xs.map (·.1)=ns
 |[],_,r=>by rw[y0S]at r;cases r;exact⟨[],rfl,rfl⟩
 |n::ns,_,r=>by
  rw[y0l]at r;cases r with
  |cons r rr =>
   obtain⟨t,rfl⟩:=r;obtain⟨xs,rfl,e⟩:=z7D rr;exact⟨(n,t)::xs,rfl,by rw[y0l,e]⟩
section
variable{X:Cx}(K:yyF)
def zhw(hK:X.K=K)(hc:X.calm=true):z3j X (.builtin "max") (fun xs H Q=>∃(p:Addr) (ns:List Int) (M:Int),xs=[.ref p]/\SqL K H p (ns.map V.int)/\M∈ns/\(∀a∈ns,a<=M)/\Q (.int M) H):=by
 subst hK;intro pins s σ H xs us Q I r h;obtain⟨p,ns,M,rfl,hp,hM,hle,q⟩:=h;obtain⟨u,rfl,ru⟩:=z4r r;cases ru;obtain⟨its,rv,pl,hz⟩:=I.list hp;obtain⟨ys,rfl,ey⟩:=z7D rv;have hne:0<ys.length:=by have:0<ns.length:=y2r hM;rw[<-ey,y01]at this;exact this
 have e1:(ys.map fun p=>Value.int p.1 p.2).toArray=intItems ys.toArray:=by unfold intItems;simp
 have pl':=pl.isList;rw[e1]at pl';refine max_intList (xs:=ys.toArray) (I.ok.hd hc) pl' (by simpa using hne) fun v h' tk hv hk=>?_;obtain⟨t,rfl⟩:=intItems_at hv;obtain⟨h1,h2⟩:=argBest_gt (numAt ys.toArray) (ys.toArray.size-1);have emem:∀j,j<ys.length->numAt ys.toArray j∈ns:=fun j hj=>by
  rw[numAt_eq];have:(ys.toArray.toList.map (·.1))=ns:=by simpa using ey
  rw[this];have hjn:j<ns.length:=by rw[<-ey,y01];exact hj
  simp[hjn]
 have hb:argBest (fun i j=>decide (numAt ys.toArray i>numAt ys.toArray j)) (ys.toArray.size-1)<ys.length:=by
  have:ys.toArray.size=ys.length:=by simp
  lia
 have eM:numAt ys.toArray (argBest (fun i j=>decide (numAt ys.toArray i>numAt ys.toArray j)) (ys.toArray.size-1))=M:=by
  refine Int.le_antisymm (hle _ (emem _ hb)) ?_;obtain⟨j,hj,e⟩:=y1q hM;have hjy:j<ys.length:=by rw[<-ey,y01]at hj;exact hj
  have z:=h2 j (by simp;lia);have e2:numAt ys.toArray j=M:=by
   rw[numAt_eq];have:(ys.toArray.toList.map (·.1))=ns:=by simpa using ey
   rw[this];simp[hj,e]
  rw[e2]at z;exact z
 rw[eM];exact⟨.int M,H,I.kept (t':=tk) hk,⟨_,rfl⟩,q⟩
end
section
variable{X:Cx}(P:Program)(w:World)(K:yyF){o i e f value:Expr}{pos pos' apos cpos:Pos}{td ty tv tx:TE}
def ze4(hP:X.prog=P)(hw:X.w=w)(hu:X.A.units+9<cLine)(ho:PE X o td)(hi:PE X i ty)(hs:zgD i):PE X (.Subscript o i pos) (zgd P w K td ty):=by subst hP hw;exact zbb hu ho hi hs
end
open PySem PySem.Spec PyProof.Rows
class NoE (CX:CXT):Prop where
 no:∀{outer:List Env}{H:Hp}{s:Shared}{e:Value}{s':Shared},¬CX outer H s E0 e s'
def z0Q{CX:CXT}[N:NoE CX]{X:Cx}:z5l CX X E0:=fun _ _ _ _ _ _ _ h=>absurd h N.no
def Fun.okc{CX:CXT}{P:Program}{w:World}{K:yyF}{mg:yyS}{base:Heap}{x qual:Str}{st:Stmt}{f:Addr}{fd:FuncData}{N ps:List Str}{k:Nat}{sp:Sp}(F:Fun K x qual st f fd)(S:z0q N ps (z05 st))(len:∀vs H Q E,sp vs H Q E->vs.length=ps.length)(hbody:∀(cdv:Value)(A:Around)(outer:List Env)(s:Shared)(H:Hp)(vs:List V)(Q:VK)(E:XK),z38 k (A.deeper (envOfC qual (z05 st) s.heap.objs.size f cdv))->sp vs H Q E -> ∃t,PSs (z7e CX P w K mg base N qual (z05 st) f cdv A outer s H E).nox (z0M st) t/\t { nx:=fun _ H'=>Q .non H',rt:=Q } (z5z N vs) H):z0C P w K mg base CX (k+1) f fd ps sp:=by obtain⟨oc,od,kV,doc,pm,an,cdv,ct,osl,rfl,lk,hcd⟩:=F.ex;refine zf2 lk hcd S len fun A outer s H vs Q E hr hsp=>?_;obtain⟨t,h,q⟩:=hbody cdv A outer s H vs Q E hr hsp;exact⟨t,h.nox,q⟩
def PS.weak{X:Cx}{st:Stmt}{t:TS}(t':TS)(h:PS X st t)(k:∀D σ H,t' D σ H->t D σ H):PS X st t':=fun pins s σ H D I hw=>h pins s σ H D I (k D σ H hw)
def PT.weak{X:Cx}{e:Expr}{t:TT}(t':TT)(h:PT X e t)(k:∀σ H Q,t' σ H Q->t σ H Q):PT X e t':=fun pins s σ H Q I hw=>h pins s σ H Q I (k σ H Q hw)
def zhF(Pre:St->Hp->Prop):TT:=fun σ H Q=>Pre σ H/\∀c:Bool,Q c H
end L2
namespace Gu
open PySem L2
section
variable{α:Type}[DecidableEq α]
def z2b(o:List α)(g:α):List α:=if g∈o then o else o++[g]
def z08(o:List α)(gs:List α):List α:=gs.foldl z2b o
def z0w(ks:List α):List α:=z08 [] ks
def z2o(ks:List α):List Int:=ks.map fun k=>(((z0w ks).idxOf k:Nat):Int)
def z0o{o:List α}{g:α}(h:g∈o):z2b o g=o:=if_pos h
def z0p{o:List α}{g:α}(h:g∉o):z2b o g=o++[g]:=if_neg h
def zdK(o:List α)(g:α):g∈z2b o g:=by
 by_cases h:g∈o
 .rw[z0o h];exact h
 .rw[z0p h];simp
def zcS(o:List α)(g:α):∃m,z2b o g=o++m:=by
 by_cases h:g∈o
 .exact⟨[],by rw[z0o h];simp⟩
 .exact⟨[g],z0p h⟩
theorem z0K:∀(gs o:List α),∃m,z08 o gs=o++m
 |[],o=>⟨[],by simp[z08]⟩
 |g::gs,o=>by obtain⟨m1,e1⟩:=zcS o g;obtain⟨m2,e2⟩:=z0K gs (z2b o g);refine⟨m1++m2,?_⟩;show z08 (z2b o g) gs=_;rw[e2,e1,y0p]
def z1w(o gs:List α)(g:α):z08 o (gs++[g])=z2b (z08 o gs) g:=by unfold z08;rw[y2L];rfl
def z5K{o:List α}{g:α}(h:o.Nodup):(z2b o g).Nodup:=by
 by_cases hg:g∈o
 .rw[z0o hg];exact h
 .rw[z0p hg];exact zce h hg
theorem z1S:∀(gs o:List α),o.Nodup->(z08 o gs).Nodup
 |[],o,h=>h
 |g::gs,o,h=>z1S gs (z2b o g) (z5K h)
def z1k{o:List α}{g x:α}:x∈z2b o g↔x∈o\/x=g:=by
 by_cases hg:g∈o
 .rw[z0o hg];constructor
  .exact .inl
  .rintro(h|rfl)
   .exact h
   .exact hg
 .rw[z0p hg];simp
theorem z0A:∀{gs o:List α}{x:α},x∈z08 o gs↔x∈o\/x∈gs
 |[],o,x=>by simp[z08]
 |g::gs,o,x=>by
  have ih:=z0A (gs:=gs) (o:=z2b o g) (x:=x);show x∈z08 (z2b o g) gs↔_;rw[ih,z1k,y0x];constructor
  .rintro((h|h)|h)
   .exact .inl h
   .exact .inr (.inl h)
   .exact .inr (.inr h)
  .rintro(h|h|h)
   .exact .inl (.inl h)
   .exact .inl (.inr h)
   .exact .inr h
theorem z21:∀(gs o:List α),(z08 o gs).length<=o.length+gs.length
 |[],o=>by simp[z08]
 |g::gs,o=>by
  have ih:=z21 gs (z2b o g);have h1:(z2b o g).length<=o.length+1:=by
   by_cases hg:g∈o
   .rw[z0o hg];lia
   .rw[z0p hg];simp
  show(z08 (z2b o g) gs).length<=_;rw[y0X];lia
def z55{o m:List α}{g:α}(h:g∈o):(o++m).idxOf g=o.idxOf g:=by rw[List.idxOf_append,if_pos h]
theorem z5a:∀(n:Nat)(o:List Nat),o.Nodup->(∀x∈o,x<n)->o.length<=n
 |0,o,_,h=>by
  cases o with
  |nil=>simp
  |cons a r=>exact absurd (h a (by simp)) (y3H _)
 |n+1,o,hn,h=>by
  by_cases hm:n∈o
  .have ih:=z5a n (o.erase n) (hn.erase n) fun x hx=>by
    have h1:=(hn.mem_erase_iff).mp hx;have:=h x h1.2;have:=h1.1;lia
   rw[List.length_erase_of_mem hm]at ih;lia
  .have ih:=z5a n o hn fun x hx=>by
    have:=h x hx;have:x≠n:=fun e=>hm (e▸hx);lia
   lia
def z23{n:Nat}{o:List Int}(h:o.Nodup)(hr:∀x∈o,0<=x/\x<(n:Int)):o.length<=n:=by
 have h1:(o.map Int.toNat).Nodup:=by rw[y1b,y1u];refine y1R (fun{a b} ha hb hab e=>?_) (y1b.mp h);have:=hr a ha;have:=hr b hb;exact hab (by lia)
 have h3:=z5a n _ h1 fun x hx=>by obtain⟨y,hy,rfl⟩:=y0b.mp hx;have:=hr y hy;lia
 simpa using h3
end
abbrev Row:=List Int × List Int
def row(rows:List Row)(r:Int):Row:=rows.getD r.toNat ([],[])
structure z0e(n:Nat)(rows:List Row):Prop where
 few:rows.length<=4000
 some:1<=rows.length
 perm:∀r∈rows,IsP n r.1
 len:∀r∈rows,r.2.length=n
 go:∀r∈rows,∀g∈r.2,0<=g/\g<(rows.length:Int)
def z5u(r:Row):D:=.tup [D.its r.1,D.its r.2]
def bfs(rows:List Row):Nat->Nat->List Int->List Int
 |0,_,o=>o
 |f+1,i,o=>match o[i]? with
  |none=>o
  |some r=>bfs rows f (i+1) (z08 o (row rows r).2)
def z0b(rows:List Row):List Int:=bfs rows (rows.length+1) 0 [0]
def z36{rows:List Row}{f i:Nat}{o:List Int}{r:Int}(e:o[i]?=some r):bfs rows (f+1) i o=bfs rows f (i+1) (z08 o (row rows r).2):=by
 show(match o[i]? with|none=>o|some r=>bfs rows f (i+1) (z08 o (row rows r).2))=_
 rw[e]
def z35{rows:List Row}{f i:Nat}{o:List Int}(e:o.length<=i):bfs rows f i o=o:=by
 cases f with
 |zero=>rfl
 |succ f =>
  show(match o[i]? with|none=>o|some r=>bfs rows f (i+1) (z08 o (row rows r).2))=_
  rw[y0n e]
theorem z41(rows:List Row):∀(f i:Nat)(o:List Int),∃m,bfs rows f i o=o++m
 |0,i,o=>⟨[],by simp[bfs]⟩
 |f+1,i,o=>by
  unfold bfs;cases e:o[i]? with
  |none=>exact⟨[],by simp⟩
  |some r =>
   obtain⟨m1,e1⟩:=z0K (row rows r).2 o;obtain⟨m2,e2⟩:=z41 rows f (i+1) (z08 o (row rows r).2);exact⟨m1++m2,by show bfs rows f (i+1) (z08 o (row rows r).2)=_;rw[e2,e1,y0p]⟩
structure z7d(rows:List Row)(o:List Int):Prop where
 nd:o.Nodup
 rg:∀x∈o,0<=x/\x<(rows.length:Int)
 hd:∃t,o=0::t
def z0c{rows:List Row}{r:Int}(h0:0<=r)(h1:r<(rows.length:Int)):row rows r∈rows:=by
 unfold row;have:r.toNat<rows.length:=by lia
 have e:rows.getD r.toNat ([],[])=rows[r.toNat]:=by simp[this]
 rw[e];exact y0c this
def z2Y{rows:List Row}{r:Int}(h0:0<=r)(h1:r<(rows.length:Int)):rows[r.toNat]?=some (row rows r):=by
 unfold row;have:r.toNat<rows.length:=by lia
 simp[this]
def z7d.add{n:Nat}{rows:List Row}{o:List Int}(G:z0e n rows)(L:z7d rows o){r:Int}(h:r∈o):z7d rows (z08 o (row rows r).2):=by
 refine⟨z1S _ _ L.nd,fun x hx=>?_,?_⟩
 .rcases z0A.mp hx with hx|hx
  .exact L.rg x hx
  .exact G.go _ (z0c (L.rg r h).1 (L.rg r h).2) x hx
 .obtain⟨t,e⟩:=L.hd;obtain⟨m,e2⟩:=z0K (row rows r).2 o;exact⟨t++m,by rw[e2,e];rfl⟩
def z7d.len{rows:List Row}{o:List Int}(L:z7d rows o):o.length<=rows.length:=z23 L.nd L.rg
def zcp{n:Nat}{rows:List Row}(G:z0e n rows):z7d rows [0]:=by
 refine⟨by simp,fun x hx=>?_,⟨[],rfl⟩⟩;have:x=0:=by simpa using hx
 have:=G.some;lia
theorem zbT{n:Nat}{rows:List Row}(G:z0e n rows):∀(f i:Nat)(o:List Int),z7d rows o->i<=o.length->rows.length+1<=f+i->(∀j r,j<i->o[j]?=some r->∀g∈(row rows r).2,g∈o) ->
  z7d rows (bfs rows f i o)/\∀r∈bfs rows f i o,∀g∈(row rows r).2,g∈bfs rows f i o
 |0,i,o,L,hi,hf,hc=>by
  have:=L.len;lia
 |f+1,i,o,L,hi,hf,hc=>by
  cases e:o[i]? with
  |none =>
   rw[z35 (y1L.mp e)];refine⟨L,fun r hr g hg=>?_⟩;obtain⟨j,hj,e2⟩:=y1q hr;have:o.length<=i:=y1L.mp e;exact hc j r (by lia) (by rw[y00 hj,e2]) g hg
  |some r =>
   rw[z36 e];have hr:r∈o:=y0z e;have hil:i<o.length:=(y05.mp e).1;obtain⟨m,em⟩:=z0K (row rows r).2 o;refine zbT G f (i+1) _ (L.add G hr) (by rw[em,y0a];lia) (by lia) fun j r' hj er g hg=>?_;have hjo:j<o.length:=by lia
   have er':o[j]?=some r':=by rw[em,y11 hjo]at er;exact er
   by_cases hji:j=i
   .subst hji;rw[e]at er';cases er';exact z0A.mpr (.inr hg)
   .exact z0A.mpr (.inl (hc j r' (by lia) er' g hg))
def z0m{n:Nat}{rows:List Row}(G:z0e n rows):z7d rows (z0b rows)/\∀r∈z0b rows,∀g∈(row rows r).2,g∈z0b rows :=
 zbT G (rows.length+1) 0 [0] (zcp G) (by simp) (by lia) fun j r hj=>absurd hj (y3H _)
def z1K(rows:List Row)(o:List Int):List Row:=o.map fun r=>((row rows r).1,(row rows r).2.map fun g=>((o.idxOf g:Nat):Int))
def z0G(rows:List Row):List Row:=z1K rows (z0b rows)
def z3k(ks:List Int)(rows:List Row):List (Int × List Int):=(ks.zip rows).map fun p=>(p.1,p.2.2.map fun g=>ks.getD g.toNat 0)
def cnt(ks:List Int):Int:=ks.foldl max 0+1
def z5s(rows:List Row):Nat->Int->List Int->List Int
 |0,_,ks=>ks
 |f+1,c,ks=>if c<cnt ks then z5s rows f (cnt ks) (z2o (z3k ks rows))else ks
def z2M(rows:List Row):List Int:=z5s rows (rows.length+1) 0 (z2o (rows.map (·.1)))
def z4Y(rows:List Row)(ks:List Int):List Row:=(rows.zip ks).foldl (fun l p=>if p.2=(l.length:Int)then l++[(p.1.1,p.1.2.map fun g=>ks.getD g.toNat 0)]else l) []
def za9(rows:List Row):List Row:=z4Y (z0G rows) (z2M (z0G rows))
def csc(ns:List (Str × NameKind)):Scope:={ kind:=.function,names:=ns,isGenerator:=false,isCoroutine:=false,more:=[] }
def z3E(K:yyF)(H:Hp)(Q:VK)(d:D):Prop:=∀v H',z0d H H'->Dr K H' d v->Q v H'
def z04{H H1:Hp}{p:Addr}{o:HO}(s:z0d H H1)(h:H1 p=none):z0d H (upd H1 p o):=fun b u e=>by have q:=s b u e;rw[z06 (z0f q h)];exact q
def z0a{H H1:Hp}{p:Addr}{o:HO}(s:z0d H H1)(h:H p=none):z0d H (upd H1 p o):=fun b u e=>by rw[z06 (z0f e h)];exact s b u e
def z1f{α β:Type}{l:List α}{i:Nat}{x:α}(f:α->β)(h:l[i]?=some x):(l.take (i+1)).map f=(l.take i).map f++[f x]:=by rw[y0v,h,y0e];rfl
def z1F{n:Nat}(h:n<=4900):n<sizeLine:=y33 h (by decide)
def z19{n:Nat}(h:n<=5000):n<=sizeLine:=y0r h (by decide)
def z27{α:Type}{xs:List α}{k:Int}{v:α}(h0:0<=k)(h:xs[k.toNat]?=some v):atI xs k=some v:=by
 have q:=z0L h
 rwa [show((k.toNat:Nat):Int)=k by lia]at q
theorem z7P{α β:Type}(f:α->β):∀(l:List α)(i:Nat),(l.map f).eraseIdx i=(l.eraseIdx i).map f
 |[],_=>rfl
 |_::_,0=>rfl
 |a::r,i+1=>by show f a::(r.map f).eraseIdx i=f a::(r.eraseIdx i).map f;rw[z7P f r i]
structure Blt(mg:yyS):Prop where
 len:mg "len"=none
 tup:mg "tuple"=none
 lst:mg "list"=none
 rng:mg "range"=none
 isi:mg "isinstance"=none
 int:mg "int"=none
 bl:mg "bool"=none
 str:mg "str"=none
 all:mg "all"=none
def zc8(ns:List Int):D.dep (D.its ns)=1:=by simp only[D.dep,D.depL_ints]
def zdA{ns:List Int}(h:ns.length<=5000):D.few (D.its ns):=by simp only[D.few];exact⟨by rw[y01];exact h,D.fewL_ints ns⟩
def zbr{ns:List Int}(h:ns.length<=1000):D.few (D.its ns):=zdA (by lia)
theorem z6i:∀(ns ms:List Int),D.okL (ns.map D.int) (ms.map D.int)
 |[],ms=>by cases ms<;>simp only[y0S,y0l,D.okL]
 |n::r,[]=>by simp only[y0S,y0l,D.okL]
 |n::r,m::q=>by simp only[y0l,D.okL,D.ok];exact⟨trivial,z6i r q⟩
def Dr.its_inv{K:yyF}{H:Hp}{ns:List Int}{v:V}(h:Dr K H (D.its ns) v):∃a,v=.ref a/\H a=some (.tup (ns.map V.int)):=by simp only[Dr]at h;obtain⟨a,vs,rfl,s,r⟩:=h;exact⟨a,rfl,DrL.ints_inv r▸s⟩
def z9L(K:yyF):Sp:=fun vs H Q _=>∃(a:Addr)(ns:List Int)(i:Nat),vs=[.ref a,.int i]/\SqL K H a (ns.map V.int)/\ns.length<=63/\i<=1000/\Q (.int (cell ns i)) H
def z5r(K:yyF):Sp:=fun vs H Q _=>∃(a:Addr)(ns:List Int)(i:Nat),vs=[.ref a,.int i]/\SqL K H a (ns.map V.int)/\ns.length<=63/\i<=1000/\Q (.int (zdQ ns i)) H
def zbs(K:yyF):Sp:=fun vs H Q _=>∃(pick:Int)(n:Nat),vs=[.int pick,.int n]/\n<=1000/\z3E K H Q (D.its (zcZ pick n))
section
variable{α κ:Type}[DecidableEq α][DecidableEq κ]
def z5A(f:α->κ):Nat->List α->List (κ × V)
 |_,[]=>[]
 |n,a::r=>(f a,V.int (n:Int))::z5A f (n+1) r
abbrev prs(f:α->κ)(u:List α):List (κ × V):=z5A f 0 u
theorem z20(f:α->κ):∀(n:Nat)(u:List α),(z5A f n u).length=u.length
 |_,[]=>rfl
 |n,a::r=>by simp[z5A,z20 f (n+1) r]
theorem z9Q(f:α->κ):∀(n:Nat)(u:List α)(a:α),z5A f n (u++[a])=z5A f n u++[(f a,V.int ((n+u.length:Nat):Int))]
 |n,[],a=>by simp[z5A]
 |n,b::r,a=>by
  have ih:=z9Q f (n+1) r a;show(f b,V.int (n:Int))::z5A f (n+1) (r++[a])=(f b,V.int (n:Int))::(z5A f (n+1) r++_);have e:n+1+r.length=n+(b::r).length:=by rw[y0X];lia
  rw[ih,e]
theorem z6p(f:α->κ)(hf:∀x y,f x=f y->x=y):∀(n:Nat)(u:List α)(a:α),z2N (z5A f n u) (f a)=if a∈u then some (V.int ((n+u.idxOf a:Nat):Int))else none
 |n,[],a=>by simp[z5A,z2N]
 |n,b::r,a=>by
  have ih:=z6p f hf (n+1) r a;show z2N ((f b,V.int (n:Int))::z5A f (n+1) r) (f a)=_;by_cases e:b=a
  .subst e;rw[z3e rfl,if_pos (by simp)];simp
  .rw[z2K (p:=(f b,V.int (n:Int))) (fun z=>e (hf _ _ z)),ih];have e1:(b::r).idxOf a=r.idxOf a+1:=by
    rw[y22];have hb:(b==a)=false:=by simpa using e
    rw[hb];rfl
   by_cases hm:a∈r
   .have e2:n+1+r.idxOf a=n+(r.idxOf a+1):=by lia
    rw[if_pos hm,if_pos (by simp[hm]),e1,e2]
   .rw[if_neg hm,if_neg (by simp[hm,y1k e])]
def z25(f:α->κ)(hf:∀x y,f x=f y->x=y)(u:List α)(a:α):z2N (prs f u) (f a)=if a∈u then some (V.int ((u.idxOf a:Nat):Int))else none:=by have:=z6p f hf 0 u a;simpa using this
def z5h(f:α->κ)(hf:∀x y,f x=f y->x=y){u:List α}{a:α}(h:a∉u):z2c (prs f u) (f a) (V.int (u.length:Nat))=prs f (u++[a]):=by have e:=z9Q f 0 u a;rw[y2F]at e;rw[z6B _ (by rw[z25 f hf,if_neg h])];exact e.symm
end
def z0i(rows:List Row):List D:=rows.map z5u
def z3r(ns:List Int):D.key (D.its ns):=by
 have:∀l:List Int,D.keyL (l.map D.int):=by
  intro l;induction l with
  |nil=>simp only[y0S,D.keyL]
  |cons a r ih=>simp only[y0l,D.keyL,D.key];exact⟨trivial,ih⟩
 simp only[D.key];exact this ns
def zfI(ds:List D):Prop:=∀d∈ds,D.key d/\D.dep d<=8/\∃es,d=.tup es
def z4e(K:yyF):Sp:=fun vs H Q _=>∃(a:Addr)(us:List V)(ds:List D),vs=[.ref a]/\H a=some (.lst us)/\DrL K H ds us/\zfI ds/\ds.length<=4900 /\
 ∀(r:Addr)(H':Hp),z0d H H'->H' r=some (.lst ((z2o ds).map V.int))->Q (.ref r) H'
def zcD{K:yyF}{H:Hp}{d:D}{v:V}(h:D.key d/\D.dep d<=8/\∃es,d=.tup es)(q:Dr K H d v):zeA K H d v:=by obtain⟨h1,h2,es,rfl⟩:=h;refine⟨?_,h1,h2,q⟩;simp only[Dr]at q;obtain⟨a,vs,e,_⟩:=q;exact⟨a,e⟩
def z1j(H H':Hp):Prop:=∀b xs,H b=some (.tup xs)->H' b=some (.tup xs)
def z1j.of{H H':Hp}(s:z0d H H'):z1j H H':=fun b xs e=>s _ _ e
def z1j.refl(H:Hp):z1j H H:=fun _ _ e=>e
def z1j.trans{H H1 H2:Hp}(a:z1j H H1)(b:z1j H1 H2):z1j H H2:=fun c xs e=>b c xs (a c xs e)
def z1j.up{H H1:Hp}{a:Addr}{o u:HO}(t:z1j H H1)(h:H1 a=some o)(n:∀xs,o≠.tup xs):z1j H (upd H1 a u):=fun b xs e=>by
 have q:=t b xs e;have:b≠a:=fun z=>by rw[z,h]at q;exact n xs (y07 q)
 rw[z06 this];exact q
def zeW(r:Row):D.key (z5u r):=by unfold z5u;simp only[D.key,D.keyL];have h1:=z3r r.1;have h2:=z3r r.2;simp only[D.key]at h1 h2;exact⟨h1,h2,trivial⟩
theorem z2F:∀rs:List Row,D.keyL (z0i rs)
 |[]=>by unfold z0i;simp only[y0S,D.keyL]
 |r::rs=>by have:=z2F rs;unfold z0i at this⊢;simp only[y0l,D.keyL];exact⟨zeW r,this⟩
def z1d{K:yyF}{H:Hp}{r:Row}{v:V}(h:Dr K H (z5u r) v):∃a b c,v=.ref a/\H a=some (.tup [.ref b,.ref c])/\H b=some (.tup (r.1.map V.int))/\H c=some (.tup (r.2.map V.int)):=by unfold z5u at h;simp only[Dr,DrL]at h;obtain⟨a,vs,rfl,e,x,l,rfl,hx,y,l',rfl,hy,rfl⟩:=h;obtain⟨b,us,rfl,eb,rb⟩:=hx;obtain⟨c,ws,rfl,ec,rc⟩:=hy;have e1:=DrL.ints_inv rb;have e2:=DrL.ints_inv rc;subst e1 e2;exact⟨a,b,c,rfl,e,eb,ec⟩
def z3R{K:yyF}{H:Hp}{r:Row}{a b c:Addr}(h:H a=some (.tup [.ref b,.ref c]))(hb:H b=some (.tup (r.1.map V.int)))(hc:H c=some (.tup (r.2.map V.int))):Dr K H (z5u r) (.ref a):=by unfold z5u;exact Dr.tup h (DrL.cons (Dr.tup hb (DrL.ints _)) (DrL.cons (Dr.tup hc (DrL.ints _)) DrL.nil))
def z2m{K:yyF}{H:Hp}{rows:List Row}{us:List V}(h:DrL K H (z0i rows) us){i:Nat}{r:Row}(e:rows[i]?=some r):∃v,us[i]?=some v/\Dr K H (z5u r) v :=
 h.get (by unfold z0i;rw[y04,e];rfl)
def z9W(K:yyF):Sp:=fun vs H Q _=>∃(a:Addr)(b:V)(ks gs:List Int),vs=[.ref a,b]/\H a=some (.lst (ks.map V.int))/\Dr K H (D.its gs) b/\(∀g∈gs,0<=g/\g<(ks.length:Int))/\gs.length<=1000/\z3E K H Q (D.its (gs.map fun g=>ks.getD g.toNat 0))
def z4W(K:yyF):Sp:=fun vs H Q _=>∃(a:V)(r:Row)(z1T:List D),vs=[a]/\Dr K H (D.tup (z5u r::z1T)) a/\r.1.length<=1000/\∀H',z0d H H'->Q (.int r.1.length) H'
def z3x(K:yyF)(H:Hp)(a:Addr)(rows:List Row):Prop:=∃us,H a=some (.lst us)/\DrL K H (z0i rows) us
theorem z3x.mono{K:yyF}{H H':Hp}{a:Addr}{rows:List Row}(h:z3x K H a rows)(s:z0d H H'):z3x K H' a rows:=by obtain⟨us,e,d⟩:=h;exact⟨us,s _ _ e,d.mono s⟩
section
variable{α β:Type}[DecidableEq α][DecidableEq β]
theorem z5R(f:α->β)(hf:∀x y,f x=f y->x=y):∀(gs o:List α),z08 (o.map f) (gs.map f)=(z08 o gs).map f
 |[],o=>rfl
 |g::gs,o=>by
  have h1:z2b (o.map f) (f g)=(z2b o g).map f:=by
   by_cases h:g∈o
   .rw[z0o h,z0o (y0b.mpr ⟨g,h,rfl⟩)]
   .have:f g∉o.map f:=fun z=>by
     obtain⟨x,hx,e⟩:=y0b.mp z;exact h (hf _ _ e▸hx)
    rw[z0p h,z0p this,y0e];rfl
  show z08 (z2b (o.map f) (f g)) (gs.map f)=(z08 (z2b o g) gs).map f;rw[h1];exact z5R f hf gs (z2b o g)
theorem z7t(f:α->β)(hf:∀x y,f x=f y->x=y):∀(l:List α)(a:α),(l.map f).idxOf (f a)=l.idxOf a
 |[],a=>rfl
 |b::r,a=>by
  rw[y0l,y22,y22,z7t f hf r a];have:(f b==f a)=(b==a):=by
   by_cases e:b=a
   .subst e;simp
   .have h1:(b==a)=false:=by simpa using e
    have h2:(f b==f a)=false:=by simpa using fun z=>e (hf _ _ z)
    rw[h1,h2]
  rw[this]
def z9w(f:α->β)(hf:∀x y,f x=f y->x=y)(xs:List α):z2o (xs.map f)=z2o xs:=by unfold z2o z0w;have:=z5R f hf xs [];rw[y0S]at this;rw[this,y0L];refine y0H fun x _=>?_;show(((((z08 [] xs).map f).idxOf (f x):Nat)):Int)=_;rw[z7t f hf]
def z3B(xs:List α):(z2o xs).length=xs.length:=by unfold z2o;rw[y01]
def z3W(xs:List α):(z0w xs).length<=xs.length:=by have:=z21 xs [];unfold z0w;simpa using this
def z6T{xs:List α}{k:Int}(h:k∈z2o xs):0<=k/\k<((z0w xs).length:Int):=by unfold z2o at h;obtain⟨x,hx,rfl⟩:=y0b.mp h;have:x∈z0w xs:=z0A.mpr (.inr hx);have:=y0P this;lia
end
theorem zbk:∀(ks:List Int)(m:Int),m<=ks.foldl max m/\∀k∈ks,k<=ks.foldl max m
 |[],m=>⟨y0Q _,fun k h=>by simp at h⟩
 |a::r,m=>by
  obtain⟨h1,h2⟩:=zbk r (max m a);refine⟨Int.le_trans (Int.le_max_left m a) h1,fun k hk=>?_⟩;rcases y0x.mp hk with rfl|hk
  .exact Int.le_trans (Int.le_max_right m k) h1
  .exact h2 k hk
theorem zaJ:∀(ks:List Int)(m:Int),ks.foldl max m=m\/ks.foldl max m∈ks
 |[],m=>.inl rfl
 |a::r,m=>by
  rcases zaJ r (max m a)with h|h
  .rcases Int.le_total m a with z|z
   .right;show r.foldl max (max m a)∈a::r;rw[h,Int.max_eq_right z];simp
   .left;show r.foldl max (max m a)=m;rw[h,Int.max_eq_left z]
  .right;exact y09 _ h
def z8m{ks:List Int}(hne:ks≠[])(h0:∀k∈ks,0<=k):cnt ks-1∈ks/\∀k∈ks,k<=cnt ks-1:=by
 unfold cnt;have e:ks.foldl max 0+1-1=ks.foldl max 0:=by lia
 rw[e];refine⟨?_,(zbk ks 0).2⟩;rcases zaJ ks 0 with h|h
 .rw[h];cases ks with
  |nil=>exact absurd rfl hne
  |cons a r =>
   have h1:=(zbk (a::r) 0).2 a (by simp);rw[h]at h1;have h2:=h0 a (by simp);have:a=0:=by lia
   simp[this]
 .exact h
def zgk{ks:List Int}{n:Nat}(hne:ks≠[])(h0:∀k∈ks,0<=k/\k<(n:Int)):cnt ks<=n/\1<=cnt ks:=by obtain⟨h1,h2⟩:=z8m hne fun k hk=>(h0 k hk).1;have:=h0 _ h1;lia
structure z4d(n:Nat)(rows:List Row):Prop where
 some:1<=rows.length
 few:rows.length<=4000
 perm:∀r∈rows,IsP n r.1
 len:∀r∈rows,r.2.length=n
 go:∀r∈rows,∀g∈r.2,0<=g/\g<(rows.length:Int)
def z2C{n:Nat}{rows:List Row}(G:z0e n rows):z4d n (z0G rows):=by
 obtain⟨L,cl⟩:=z0m G;have hl:=L.len;have hm:∀r∈z0G rows,∃x∈z0b rows,r=((row rows x).1,(row rows x).2.map fun g=>(((z0b rows).idxOf g:Nat):Int)):=fun r hr=>by unfold z0G z1K at hr;obtain⟨x,hx,e⟩:=y0b.mp hr;exact⟨x,hx,e.symm⟩
 have fl:(z0G rows).length=(z0b rows).length:=by unfold z0G z1K;rw[y01]
 refine⟨?_,by have:=G.few;lia,fun r hr=>?_,fun r hr=>?_,fun r hr g hg=>?_⟩
 .obtain⟨t,e⟩:=L.hd;rw[fl,e];simp
 .obtain⟨x,hx,rfl⟩:=hm r hr;exact G.perm (row rows x) (z0c (L.rg x hx).1 (L.rg x hx).2)
 .obtain⟨x,hx,rfl⟩:=hm r hr;show(List.map _ _).length=n;rw[y01];exact G.len _ (z0c (L.rg x hx).1 (L.rg x hx).2)
 .obtain⟨x,hx,rfl⟩:=hm r hr;obtain⟨y,hy,rfl⟩:=y0b.mp hg;have:=y0P (cl x hx y hy);lia
structure z5v(rows:List Row)(ks:List Int):Prop where
 len:ks.length=rows.length
 rg:∀k∈ks,0<=k/\k<(rows.length:Int)
def zdT{n:Nat}{rows:List Row}(G:z4d n rows):z5v rows (z2o (rows.map (·.1))):=by refine⟨by rw[z3B,y01],fun k hk=>?_⟩;have:=z6T hk;have:=z3W (rows.map (·.1));rw[y01]at this;lia
def z7X{rows:List Row}{ks:List Int}(h:z5v rows ks):(z3k ks rows).length=rows.length:=by unfold z3k;rw[y01,y23,h.len];lia
def zcw{rows:List Row}{ks:List Int}(h:z5v rows ks):z5v rows (z2o (z3k ks rows)):=by have hl:=z7X h;refine⟨by rw[z3B,hl],fun k hk=>?_⟩;have:=z6T hk;have:=z3W (z3k ks rows);lia
def zg5{n:Nat}{rows:List Row}{ks:List Int}(G:z4d n rows)(h:z5v rows ks):ks≠[]:=fun e=>by have:=h.len;have:=G.some;subst e;simp at *;lia
def z5x(p:Int × List Int):D:=.tup [.int p.1,D.its p.2]
def z5d{a b:List Int}(e:D.its a=D.its b):a=b:=by
 injection e with e;induction a generalizing b with
 |nil=>cases b with
  |nil=>rfl
  |cons _ _=>cases e
 |cons x r ih=>cases b with
  |nil=>cases e
  |cons y q =>
   rw[y0l,y0l]at e;injection e with e1 e2;injection e1 with e1;rw[e1,ih e2]
def zc9(p q:Int × List Int)(e:z5x p=z5x q):p=q:=by unfold z5x at e;injection e with e;injection e with e1 e2;injection e2 with e2 _;injection e1 with e1;have:=z5d e2;exact y2x e1 this
def z9d(p:Int × List Int):D.key (z5x p):=by unfold z5x;simp only[D.key,D.keyL];have h:=z3r p.2;simp only[D.key]at h;exact⟨trivial,h,trivial⟩
def zdo(p:Int × List Int):D.dep (z5x p)<=8:=by unfold z5x;simp only[D.dep,D.depL,D.depL_ints];decide
theorem z7L:∀ps:List (Int × List Int),D.keyL (ps.map z5x)
 |[]=>by simp only[y0S,D.keyL]
 |p::ps=>by simp only[y0l,D.keyL];exact⟨z9d p,z7L ps⟩
theorem z9t:∀ps:List (List Int),D.keyL (ps.map D.its)
 |[]=>by simp only[y0S,D.keyL]
 |p::ps=>by have:=z3r p;simp only[y0l,D.keyL];exact⟨this,z9t ps⟩
theorem z5U{rows:List Row}:∀(m:Nat)(c:Int)(ks:List Int),z5v rows ks->z5v rows (z5s rows m c ks)
 |0,_,ks,h=>h
 |m+1,c,ks,h=>by
  unfold z5s;by_cases hc:c<cnt ks
  .rw[if_pos hc];exact z5U m _ _ (zcw h)
  .rw[if_neg hc];exact h
def z3Z{n:Nat}{rows:List Row}(G:z4d n rows):z5v rows (z2M rows):=z5U _ _ _ (zdT G)
def z6l(ks:List Int)(l:List Row)(p:Row × Int):List Row:=if p.2=(l.length:Int)then l++[(p.1.1,p.1.2.map fun g=>ks.getD g.toNat 0)]else l
def z2s(rows:List Row)(ks:List Int)(i:Nat):List Row:=((rows.zip ks).take i).foldl (z6l ks) []
def z5G{rows:List Row}{ks:List Int}(h:ks.length=rows.length):z2s rows ks rows.length=z4Y rows ks:=by unfold z2s z4Y;rw[y0M (by rw[y23];lia)];rfl
def z59{rows:List Row}{ks:List Int}{i:Nat}{r:Row}{k:Int}(e:rows[i]?=some r)(e':ks[i]?=some k):z2s rows ks (i+1)=z6l ks (z2s rows ks i) (r,k):=by unfold z2s;rw[y0v,y12 (z:=(r,k)) |>.mpr ⟨e,e'⟩,y2L];rfl
def zaV(ks:List Int)(l:List Row)(p:Row × Int):(z6l ks l p).length<=l.length+1:=by
 unfold z6l;split
 .rw[y0a];simp
 .lia
def zao(rows:List Row)(ks:List Int)(i:Nat):(z2s rows ks i).length<=i:=by
 unfold z2s;have:∀(l:List (Row × Int))(a:List Row),(l.foldl (z6l ks) a).length<=a.length+l.length:=by
  intro l;induction l with
  |nil=>intro a;simp
  |cons p l ih =>
   intro a;have h1:=ih (z6l ks a p);have h2:=zaV ks a p;rw[y1N,y0X];lia
 have h:=this ((rows.zip ks).take i) [];rw[y0s]at h;simp only[y31]at h;lia
def zcY{n:Nat}{rows:List Row}(G:z0e n rows):(z0G rows).length<=rows.length:=by have:=(z0m G).1.len;unfold z0G z1K;rw[y01];exact this
def zhO(m:Nat)(ns:List Int):Prop:=ns.length=m/\∀x∈ns,0<=x/\x<1009
def z4S(K:yyF):Sp:=fun vs H Q _=>∃(c:Int)(m:Nat),vs=[.int c,.int m]/\m<=900/\∀(r:Addr)(H':Hp)(ns:List Int),z0d H H'->H' r=some (.lst (ns.map V.int))->zhO m ns->Q (.ref r) H'
def z7g{ns:List Int}{x:Int}(h:∀x∈ns,0<=x/\x<1009)(hx:0<=x/\x<1009):∀y∈ns++[x],0<=y/\y<1009:=by
 intro y hy;rcases y0q.mp hy with hy|hy
 .exact h y hy
 .rw[y08.mp hy];exact hx
def zcH{j:Int}(h:(0:Int)<j:=by decide):0<j:=h
def zcc(x:Int):0<=x%1009/\x%1009<1009:=by lia
def zbx(K:yyF):Sp:=fun vs H Q _=>∃(n:Nat)(c:Int),vs=[.int n,.int c]/\2<=n/\n<=5/\∀(r:Addr)(H':Hp)(rows:List Row),z0d H H'->z3x K H' r rows->z0e n rows->rows.length<=8->Q (.ref r) H'
def GI(m:Nat)(H:Hp)(i:Nat)(ys:List V)(H2:Hp):Prop:=∃gs:List Int,ys=gs.map V.int/\gs.length=i/\(∀g∈gs,0<=g/\g<(m:Int))/\z0d H H2
def GI.nil{m:Nat}{H:Hp}{l:Addr}(h:H l=none):GI m H 0 [] (upd H l (.lst [])):=⟨[],rfl,rfl,fun g hg=>by simp at hg,z04 (z0d.refl H) h⟩
def GI.len{m:Nat}{H H2:Hp}{i:Nat}{ys:List V}(h:GI m H i ys H2):ys.length=i:=by obtain⟨gs,rfl,e,_⟩:=h;rw[y01];exact e
def GI.snoc{m:Nat}{H H2:Hp}{i:Nat}{ys:List V}{l:Addr}{o:HO}(h:GI m H i ys H2)(hl:H l=none){g:Int}(hg:0<=g/\g<(m:Int)):GI m H (i+1) (ys++[.int g]) (upd H2 l o):=by
 obtain⟨gs,rfl,e,r,s⟩:=h;refine⟨gs++[g],by rw[y0e];rfl,by rw[y0a,e];rfl,fun x hx=>?_,z0a s hl⟩;rcases y0q.mp hx with hx|hx
 .exact r x hx
 .rw[y08.mp hx];exact hg
structure RIx(K:yyF)(n m:Nat)(c kd:Int)(j:Nat)(ln lr lp:Addr)(H0:Hp)(σ:St)(H:Hp):Prop where
 ex:∃(b:V)(lg:Addr)(p gs:List Int),σ=[some (.int n),some (.int c),some (.ref ln),some (.int m),some (.int kd),some (.ref lr),some (.int j),some (.ref lp),some b,some (.ref lg)]/\z0d H0 H/\Dr K H (D.its p) b/\IsP n p /\
  H lg=some (.lst (gs.map V.int))/\gs.length=n/\∀g∈gs,0<=g/\g<(m:Int)
structure RF(n m j:Nat)(ps:List Int)(lp:Addr)(H0:Hp):Prop where
 n2:2<=n
 n5:n<=5
 jm:j<m
 m8:m<=8
 lp:H0 lp=some (.lst (ps.map V.int))
 len:ps.length=6
 nn:∀p∈ps,0<=p/\p<1009
def tRI(K:yyF):TS:=fun D σ H=>∃(n m:Nat)(c kd:Int)(j:Nat)(ln lr lp:Addr)(ps:List Int)(H0:Hp),RF n m j ps lp H0/\RIx K n m c kd j ln lr lp H0 σ H/\∀σ' H',RIx K n m c kd j ln lr lp H0 σ' H'->D.nx σ' H'
def zfJ(K:yyF)(σ:St)(H:Hp):Prop:=∃(n m:Nat)(c kd:Int)(j:Nat)(ln lr lp:Addr)(ps:List Int)(H0:Hp),RF n m j ps lp H0/\RIx K n m c kd j ln lr lp H0 σ H
def GR(n m:Nat)(rs:List Row):Prop:=∀r∈rs,IsP n r.1/\r.2.length=n/\∀g∈r.2,0<=g/\g<(m:Int)
def GR.snoc{n m:Nat}{rs:List Row}{r:Row}(h:GR n m rs)(hr:IsP n r.1/\r.2.length=n/\∀g∈r.2,0<=g/\g<(m:Int)):GR n m (rs++[r]):=fun x hx=>by
 rcases y0q.mp hx with hx|hx
 .exact h x hx
 .rw[y08.mp hx];exact hr
def GR.good{n m:Nat}{rs:List Row}(h:GR n m rs)(hl:rs.length=m)(h1:1<=m)(h4:m<=4000):z0e n rs:=by subst hl;exact⟨h4,h1,fun r hr=>(h r hr).1,fun r hr=>(h r hr).2.1,fun r hr=>(h r hr).2.2⟩
def zhV{ns:List Int}{i:Nat}(h:zhO 64 ns)(hi:i<8):∃ps:List Int,zfr (ns.map V.int) (some (2+6*(i:Int))) (some (8+6*(i:Int)))=ps.map V.int/\ps.length=6/\∀p∈ps,0<=p/\p<1009:=by
 have hl:=h.1;refine⟨(ns.drop (2+6*i)).take 6,?_,by rw[y0s,y3r];lia,fun p hp=>h.2 p (y1W (y10 hp))⟩;have e1:(2+6*(i:Int))=((2+6*i:Nat):Int):=by lia
 have e2:(8+6*(i:Int))=((8+6*i:Nat):Int):=by lia
 unfold zfr;rw[e1,e2,HT.sIx_nat,HT.sIx_nat,y01,hl,y38 (by lia),y38 (by lia),show 8+6*i-(2+6*i)=6 by lia,List.map_take,List.map_drop]
def z9j{x:Int}(h:0<=x):∃m:Nat,x=(m:Int):=⟨x.toNat,by lia⟩
def zh4(n:Nat)(j:Int):(List.replicate n [V.int j]).flatten=(List.replicate n j).map V.int:=by
 induction n with
 |zero=>rfl
 |succ n ih=>rw[y1c,y1s,ih,y1c];rfl
def z9P(n:Nat):IsP n (z0y n):=List.Perm.refl _
def z90(x y:Int)(e:(Sum.inl x:Key)=Sum.inl y):x=y:=y3B e
def zb1{o:List Int}(h:o.Nodup){i:Nat}{r:Int}(e:o[i]?=some r):r∉o.take i:=fun z=>by
 have h':(o.take i++o.drop i).Nodup:=by rw[y0T];exact h
 have hr:r∈o.drop i:=y0z (i:=0) (by rw[y2y];exact e);exact(y3h.mp h').2.2 r z r hr rfl
def mk(o:List Int)(vs:List V):List (Key × V):=(o.zip vs).map fun p=>(Sum.inl p.1,p.2)
def FK(f:Int->D):Prop:=∀r,D.key (f r)/\D.dep (f r)<=3
theorem FK.keyL{f:Int->D}(h:FK f):∀o:List Int,D.keyL (o.map f)
 |[]=>by simp only[y0S,D.keyL]
 |r::o=>by simp only[y0l,D.keyL];exact⟨(h r).1,FK.keyL h o⟩
theorem FK.depL{f:Int->D}(h:FK f):∀o:List Int,D.depL (o.map f)<=3
 |[]=>by simp only[y0S,D.depL];lia
 |r::o=>by simp only[y0l,D.depL];have:=(h r).2;have:=FK.depL h o;lia
theorem FK.its(rows:List Row):FK fun r=>D.its (row rows r).1:=fun r=>⟨z3r _,by rw[zc8];decide⟩
theorem FK.int(k:Int->Int):FK fun r=>D.int (k r):=fun r=>⟨by simp only[D.key],by simp only[D.dep];decide⟩
def z1W(rows:List Row)(f:Int->D)(r:Int):D:=.tup [f r,.tup ((row rows r).2.map f)]
theorem FK.key{rows:List Row}{f:Int->D}(h:FK f)(r:Int):D.key (z1W rows f r)/\D.dep (z1W rows f r)<=8/\∃es,z1W rows f r=.tup es:=by
 refine⟨?_,?_,_,rfl⟩
 .unfold z1W;simp only[D.key,D.keyL];exact⟨(h r).1,h.keyL _,trivial⟩
 .unfold z1W;simp only[D.dep,D.depL];have:=(h r).2;have:=h.depL (row rows r).2;lia
def z2p(rows:List Row)(o:List Int)(f:Int->D):List D:=o.map (z1W rows f)
def z30(rows:List Row)(o:List Int)(f:Int->D)(r:Int):Int:=(((z0w (z2p rows o f)).idxOf (z1W rows f r):Nat):Int)
def z3l(rows:List Row)(o:List Int)(f:Int->D):Int->D:=fun r=>.int (z30 rows o f r)
def z2L(rows:List Row)(o:List Int)(f:Int->D):Nat:=(z0w (z2p rows o f)).length
def z7j(rows:List Row)(o:List Int)(f:Int->D):z2L rows o f<=o.length:=by have:=z3W (z2p rows o f);unfold z2L z2p at *;rw[y01]at this;exact this
def z56(rows:List Row)(o:List Int):Nat->Nat->(Int->D)->(Int->D)
 |0,_,f=>f
 |m+1,many,f=>if many<z2L rows o f then z56 rows o m (z2L rows o f) (z3l rows o f)else z3l rows o f
def z5Y(rows:List Row):Int->D:=z56 rows (z0b rows) (rows.length+2) 0 fun r=>D.its (row rows r).1
def z0V(k:Int->Int)(hs:List Int)(r:Int):List Int:=if k r∈hs.map k then hs else hs++[r]
def z0z(k:Int->Int)(o:List Int):List Int:=o.foldl (z0V k) []
def z1J(rows:List Row)(k:Int->Int)(o:List Int):List Row:=(z0z k o).map fun r=>((row rows r).1,(row rows r).2.map fun g=>((((z0z k o).map k).idxOf (k g):Nat):Int))
def z1N(k:Int->Int)(o:List Int)(r:Int):z0z k (o++[r])=z0V k (z0z k o) r:=by unfold z0z;rw[y2L];rfl
def z1g(k:Int->Int)(o:List Int):(∀r∈o,k r∈(z0z k o).map k)/\(∀r∈z0z k o,r∈o)/\(z0z k o).length<=o.length:=by
 have:∀(o hs:List Int),(∀x∈hs.map k,x∈(o.foldl (z0V k) hs).map k)/\(∀r∈o,k r∈(o.foldl (z0V k) hs).map k)/\(∀r∈o.foldl (z0V k) hs,r∈hs\/r∈o)/\(o.foldl (z0V k) hs).length<=hs.length+o.length:=by
  intro o;induction o with
  |nil=>intro hs;exact⟨fun x h=>h,fun r h=>by simp at h,fun r h=>.inl h,by simp⟩
  |cons a o ih =>
   intro hs;obtain⟨i1,i2,i3,i4⟩:=ih (z0V k hs a);rw[y1N];have hsub:∀x∈hs.map k,x∈(z0V k hs a).map k:=fun x hx=>by
    unfold z0V;split
    .exact hx
    .rw[y0e];exact y0t _ hx
   have ha:k a∈(z0V k hs a).map k:=by
    unfold z0V;split
    .assumption
    .simp
   have hlen:(z0V k hs a).length<=hs.length+1:=by
    unfold z0V;split
    .lia
    .simp
   refine⟨fun x hx=>i1 x (hsub x hx),fun r hr=>?_,fun r hr=>?_,by rw[y0X];lia⟩
   .rcases y0x.mp hr with rfl|hr
    .exact i1 _ ha
    .exact i2 r hr
   .rcases i3 r hr with h|h
    .unfold z0V at h;split at h
     .exact .inl h
     .rcases y0q.mp h with h|h
      .exact .inl h
      .exact .inr (by rw[y08.mp h];simp)
    .exact .inr (y09 _ h)
 obtain⟨_,h2,h3,h4⟩:=this o [];refine⟨h2,fun r hr=>?_,by unfold z0z;simpa using h4⟩;rcases h3 r hr with h|h
 .simp at h
 .exact h
def z6X(k:Int->Int)(a:Int)(o:List Int):∃t,z0z k (a::o)=a::t:=by
 have:∀(o hs:List Int),∃t,o.foldl (z0V k) hs=hs++t:=by
  intro o;induction o with
  |nil=>intro hs;exact⟨[],by simp⟩
  |cons a o ih =>
   intro hs;obtain⟨t,e⟩:=ih (z0V k hs a);rw[y1N,e];unfold z0V;split
   .exact⟨t,rfl⟩
   .exact⟨[a]++t,by rw[y0p]⟩
 unfold z0z;rw[y1N];have e:z0V k [] a=[a]:=by unfold z0V;simp
 rw[e];obtain⟨t,e⟩:=this o [a];exact⟨t,e⟩
def zi7:D->Int
 |.int i=>i
 |_=>0
def kOf(rows:List Row)(r:Int):Int:=zi7 (z5Y rows r)
theorem z84(rows:List Row)(o:List Int):∀(m many:Nat)(f:Int->D),∃k:Int->Int,z56 rows o (m+1) many f=fun r=>D.int (k r)
 |0,many,f=>by
  unfold z56;split
  .unfold z56;exact⟨z30 rows o f,rfl⟩
  .exact⟨z30 rows o f,rfl⟩
 |m+1,many,f=>by
  unfold z56;split
  .exact z84 rows o m _ _
  .exact⟨z30 rows o f,rfl⟩
def z66(rows:List Row):z5Y rows=fun r=>D.int (kOf rows r):=by obtain⟨k,e⟩:=z84 rows (z0b rows) (rows.length+1) 0 fun r=>D.its (row rows r).1;have e':z5Y rows=fun r=>D.int (k r):=e;funext r;unfold kOf;rw[e'];rfl
def shr(rows:List Row):List Row:=z1J rows (kOf rows) (z0b rows)
def zgm{n:Nat}{rows:List Row}(G:z0e n rows):∃r t,shr rows=r::t/\IsP n r.1:=by obtain⟨L,_⟩:=z0m G;obtain⟨t,e⟩:=L.hd;obtain⟨t',e'⟩:=z6X (kOf rows) 0 t;unfold shr z1J;rw[e,e',y0l];have:=G.some;exact(exB rfl (G.perm (row rows 0) (z0c (y0Q 0) (show(0:Int)<(rows.length:Int)by lia))))
theorem DD.keyed{P:Program}{w:World}{K:yyF}{H H':Hp}{a:Addr}{kvs:List (D × V)}(h:DD P w K H a kvs)(k:z1j H H')(e:H' a=H a):DD P w K H' a kvs:=by obtain⟨xs,e0,r,n,z⟩:=h;exact⟨xs,by rw[e];exact e0,r.mono fun _ _ q d=>d.keyed k q,n,z⟩
def z7R{κ:Type}[DecidableEq κ]:∀(n:Nat)(u:List κ)(a:κ),a∈u->u.Nodup->z2c (z5A id n u) a (V.int ((n+u.idxOf a:Nat):Int))=z5A id n u:=by
 intro n u a ha hn;have hv:z2N (z5A id n u) a=some (V.int ((n+u.idxOf a:Nat):Int)):=by have:=z6p (κ:=κ) id (fun _ _ e=>e) n u a;rw[if_pos ha]at this;exact this
 unfold z2c;rw[z3i,hv];rw[if_pos (show(some (V.int ((n+u.idxOf a:Nat):Int))).isSome=true from rfl)];clear hv;induction u generalizing n with
 |nil=>rfl
 |cons b u ih =>
  show(if b=a then(b,_)else(b,V.int (n:Int)))::List.map _ (z5A id (n+1) u)=(b,V.int (n:Int))::z5A id (n+1) u;have hnb:=(y1y.mp hn).1;have hnu:=(y1y.mp hn).2;by_cases e:b=a
  .subst e;rw[if_pos rfl];have e1:(b::u).idxOf b=0:=by simp
   rw[e1];congr 1;have:∀(m:Nat)(l:List κ),b∉l->List.map (fun kv:κ × V=>if kv.1=b then(kv.1,V.int ((n+0:Nat):Int))else kv) (z5A id m l)=z5A id m l:=by
    intro m l;induction l generalizing m with
    |nil=>intro _;rfl
    |cons c l ih2 =>
     intro hb;show(if c=b then _ else(c,V.int (m:Int)))::List.map _ (z5A id (m+1) l)=(c,V.int (m:Int))::z5A id (m+1) l;rw[if_neg (fun z=>hb (by rw[z];simp)),ih2 (m+1) (fun z=>hb (y09 _ z))]
   exact this _ _ hnb
  .rw[if_neg e];have ha':a∈u:=by rcases y0x.mp ha with z|z;exact absurd z.symm e;exact z
   have e1:(b::u).idxOf a=u.idxOf a+1:=by
    rw[y22];have hb:(b==a)=false:=by simpa using e
    rw[hb];rfl
   rw[e1,show n+(u.idxOf a+1)=(n+1)+u.idxOf a by lia,ih (n+1) ha' hnu]
def z9J(K:yyF):Sp:=fun vs H Q _=>∃(a:Addr)(n:Nat)(rows:List Row),vs=[.ref a,.int 0]/\z3x K H a rows/\z0e n rows/\n<=60/\z3E K H Q (D.tup (z0i (shr rows)))
theorem z4o{α:Type}[DecidableEq α](x:α):∀(xs:List α),(∀y∈xs,y=x)->z08 [x] xs=[x]
 |[],_=>rfl
 |y::ys,h=>by have e:y=x:=h y (by simp);subst e;show z08 (z2b [y] y) ys=[y];rw[z0o (by simp)];exact z4o y ys fun z hz=>h z (y09 _ hz)
def z67{α:Type}[DecidableEq α](x:α)(xs:List α)(h:∀y∈xs,y=x):z2o xs=List.replicate xs.length 0:=by
 cases xs with
 |nil=>rfl
 |cons y ys =>
  have e:y=x:=h y (by simp);subst e;have hu:z0w (y::ys)=[y]:=by show z08 (z2b [] y) ys=[y];rw[z0p (by simp)];exact z4o y ys fun z hz=>h z (y09 _ hz)
  unfold z2o;rw[hu,y3o];refine⟨by rw[y01],fun b hb=>?_⟩;obtain⟨k,hk,rfl⟩:=y0b.mp hb;rw[h k hk];simp
def z7w(m:Nat):cnt (List.replicate m 0)=1:=by
 unfold cnt;have:∀m:Nat,(List.replicate m (0:Int)).foldl max 0=0:=by
  intro m;induction m with
  |zero=>rfl
  |succ m ih=>rw[y1c,y1N];exact ih
 rw[this];rfl
def z5N(m k:Nat):(List.replicate m (0:Int)).getD k 0=0:=by rw[y02,y30];split<;>rfl
def zar{n:Nat}{rows:List Row}(G:z4d n rows)(h:∀r∈rows,r.1=z0y n):z2M rows=List.replicate rows.length 0:=by
 have h0:z2o (rows.map (·.1))=List.replicate rows.length 0:=by rw[z67 (z0y n) _ fun y hy=>by obtain⟨r,hr,rfl⟩:=y0b.mp hy;exact h r hr,y01]
 have h1:z2o (z3k (List.replicate rows.length 0) rows)=List.replicate rows.length 0:=by
  rw[z67 ((0:Int),List.replicate n (0:Int)) _ fun y hy=>?_]
  .congr 1;unfold z3k;rw[y01,y23,y2D];lia
  .unfold z3k at hy;obtain⟨p,hp,rfl⟩:=y0b.mp hy;obtain⟨hp1,hp2⟩:=y2C hp;have e1:p.1=0:=(y39.mp hp1).2;refine y2x e1 ?_;show p.2.2.map _=_;rw[y3o];refine⟨by rw[y01];exact G.len _ hp2,fun b hb=>?_⟩;obtain⟨g,_,rfl⟩:=y0b.mp hb;exact z5N _ _
 unfold z2M;rw[h0];have hs:=G.some;obtain⟨m,hm⟩:∃m,rows.length=m+1:=⟨rows.length-1,by lia⟩;rw[show rows.length+1=(m+1)+1 by lia];show(if(0:Int)<cnt (List.replicate rows.length 0)then z5s rows (m+1) (cnt (List.replicate rows.length 0)) (z2o (z3k (List.replicate rows.length 0) rows))else List.replicate rows.length 0)=_;rw[z7w,if_pos (by decide),h1];show(if(1:Int)<cnt (List.replicate rows.length 0)then _ else List.replicate rows.length 0)=_;rw[z7w,if_neg (by decide)]
def zav{n:Nat}{rows:List Row}(G:z0e n rows)(h:∀r∈rows,r.1=z0y n):za9 rows=[(z0y n,List.replicate n 0)]:=by
 have GF:=z2C G;have hf:∀r∈z0G rows,r.1=z0y n:=fun r hr=>by unfold z0G z1K at hr;obtain⟨x,hx,rfl⟩:=y0b.mp hr;obtain⟨x0,x1⟩:=(z0m G).1.rg x hx;exact h (row rows x) (z0c x0 x1)
 unfold za9;rw[zar GF hf];generalize z0G rows=fs at GF hf;have hs:=GF.some;cases fs with
 |nil=>simp at hs
 |cons r t =>
  unfold z4Y;rw[y0X,y1c,List.zip_cons_cons,y1N];have e0:(if(r,(0:Int)).2=(([]:List Row).length:Int)then[]++[((r,(0:Int)).1.1,(r,(0:Int)).1.2.map fun g=>((0:Int)::List.replicate t.length 0).getD g.toNat 0)]else([]:List Row))=[(z0y n,List.replicate n 0)]:=by
   rw[if_pos (show(r,(0:Int)).2=(([]:List Row).length:Int)from rfl),y1z];congr 1;refine y2x (hf r (by simp)) ?_;show r.2.map _=_;rw[y3o];refine⟨by rw[y01];exact GF.len _ (by simp),fun b hb=>?_⟩;obtain⟨g,_,rfl⟩:=y0b.mp hb;have:=z5N (t.length+1) g.toNat
   rwa [y1c]at this
  rw[e0];have:∀(l:List (Row × Int))(acc:List Row),acc.length=1->(∀p∈l,p.2=0)->l.foldl (fun l p=>if p.2=(l.length:Int)then l++[(p.1.1,p.1.2.map fun g=>((0:Int)::List.replicate t.length 0).getD g.toNat 0)]else l) acc=acc:=by
   intro l;induction l with
   |nil=>intro acc _ _;rfl
   |cons p l ih =>
    intro acc h1 hz;rw[y1N,if_neg (by rw[hz p (by simp),h1];decide)];exact ih acc h1 fun p hp=>hz p (y09 _ hp)
  exact this _ _ rfl fun p hp=>(y39.mp (y2C hp).2).2
def z8Z(K:yyF):Sp:=fun vs H Q _=>∃(n:Nat)(c:Int),vs=[.int n,.int c]/\2<=n/\n<=5/\∀(v:V)(H':Hp)(rows:List Row),z0d H H'->z0e n rows->rows.length<=8->Dr K H' (D.tup (z0i (shr rows))) v->Q v H'
section
variable{α β:Type}[DecidableEq α][DecidableEq β]
def z1y(xs:List α)(x:α):z0w (xs++[x])=z2b (z0w xs) x:=z1w [] xs x
def z0x{xs:List α}{x:α}:x∈z0w xs↔x∈xs:=by unfold z0w;rw[z0A];simp
def z58(xs:List α):(z0w xs).Nodup:=z1S xs [] y2S
def z6U(xs ys:List α):z0w (xs++ys)=z08 (z0w xs) ys:=by unfold z0w z08;rw[y2L]
theorem z60:∀{gs o:List α},(∀g∈gs,g∈o)->z08 o gs=o
 |[],o,_=>rfl
 |g::gs,o,h=>by show z08 (z2b o g) gs=o;rw[z0o (h g (by simp))];exact z60 fun x hx=>h x (y09 _ hx)
theorem z4m:∀{gs o:List α},(o++gs).Nodup->z08 o gs=o++gs
 |[],o,_=>by simp[z08]
 |g::gs,o,h=>by show z08 (z2b o g) gs=_;have hg:g∉o:=fun z=>(y3h.mp h).2.2 g z g (by simp) rfl;rw[z0p hg,z4m (by rw[y0p];exact h),y0p];rfl
def zc1{l:List α}(h:l.Nodup):z0w l=l:=by have:=z4m (o:=[]) (gs:=l) (by simpa using h);rw[y1z]at this;exact this
theorem z89(f:Int->α)(f':Int->β):∀l:List Int,(∀x∈l.reverse,∀y∈l.reverse,f' x=f' y->f x=f y) ->
  (z0w (l.reverse.map f)).length<=(z0w (l.reverse.map f')).length/\((z0w (l.reverse.map f')).length<=(z0w (l.reverse.map f)).length->∀x∈l.reverse,∀y∈l.reverse,f x=f y->f' x=f' y)
 |[],_=>⟨y0f _,fun _ x hx=>by simp at hx⟩
 |z::l,h=>by
  rw[y2j]at h⊢;obtain⟨ih1,ih2⟩:=z89 f f' l fun x hx y hy=>h x (y0t _ hx) y (y0t _ hy);have hz:z∈l.reverse++[z]:=by simp
  have hL:∀x,x∈l.reverse->x∈l.reverse++[z]:=fun x hx=>y0t _ hx;rw[y0e,y0e,show List.map f [z]=[f z]from rfl,show List.map f' [z]=[f' z]from rfl,z1y,z1y];generalize l.reverse=o at *;by_cases h1:f' z∈z0w (o.map f')
  .obtain⟨z',hz',ez⟩:=y0b.mp (z0x.mp h1);have ez2:f z'=f z:=h z' (hL _ hz') z hz ez;have h2:f z∈z0w (o.map f):=z0x.mpr (y0b.mpr ⟨z',hz',ez2⟩);rw[z0o h1,z0o h2];refine⟨ih1,fun hc x hx y hy e=>?_⟩;have red:∀x∈o++[z],∃x'∈o,f x'=f x/\f' x'=f' x:=fun x hx=>by
    rcases y0q.mp hx with hx|hx
    .exact⟨x,hx,rfl,rfl⟩
    .rw[y08.mp hx];exact⟨z',hz',ez2,ez⟩
   obtain⟨x',hx',e1,e2⟩:=red x hx;obtain⟨y',hy',e3,e4⟩:=red y hy;rw[<-e2,<-e4];exact ih2 hc x' hx' y' hy' (by rw[e1,e3,e])
  .rw[z0p h1];by_cases h2:f z∈z0w (o.map f)
   .rw[z0o h2,y0a];refine⟨by simp;lia,fun hc=>?_⟩;simp at hc;lia
   .rw[z0p h2,y0a,y0a];refine⟨by simp;lia,fun hc x hx y hy e=>?_⟩;have hc':(z0w (o.map f')).length<=(z0w (o.map f)).length:=by simp at hc;lia
    have no:∀x∈o,f x≠f z:=fun x hx e=>h2 (z0x.mpr (y0b.mpr ⟨x,hx,e⟩));rcases y0q.mp hx with hx|hx
    .rcases y0q.mp hy with hy|hy
     .exact ih2 hc' x hx y hy e
     .rw[y08.mp hy]at e;exact absurd e (no x hx)
    .rcases y0q.mp hy with hy|hy
     .rw[y08.mp hx]at e;exact absurd e.symm (no y hy)
     .rw[y08.mp hx,y08.mp hy]
def z2H(f:Int->α)(f':Int->β)(o:List Int)(h:∀x∈o,∀y∈o,f' x=f' y->f x=f y) : (z0w (o.map f)).length<=(z0w (o.map f')).length/\((z0w (o.map f')).length<=(z0w (o.map f)).length->∀x∈o,∀y∈o,f x=f y->f' x=f' y):=by
 have:=z89 f f' o.reverse (by rw[y1w];exact h)
 rwa [y1w]at this
def nk(o:List Int)(key:Int->α)(x:Int):Int:=(((z0w (o.map key)).idxOf (key x):Nat):Int)
def zaG{l:List α}{a b:α}(ha:a∈l)(hb:b∈l)(e:l.idxOf a=l.idxOf b):a=b:=by have h1:=y1x (y0P ha);have h2:=y1x (y0P hb);rw[<-h1,<-h2];congr 1
def z6f{o:List Int}{key:Int->α}{x y:Int}(hx:x∈o)(hy:y∈o):nk o key x=nk o key y↔key x=key y:=by
 unfold nk;constructor
 .intro e;exact zaG (z0x.mpr (y0b.mpr ⟨x,hx,rfl⟩)) (z0x.mpr (y0b.mpr ⟨y,hy,rfl⟩)) (by lia)
 .intro e;rw[e]
def zdq(o:List Int)(key:Int->α):(z0w (o.map (nk o key))).length=(z0w (o.map key)).length:=by have h1:=(z2H (nk o key) key o fun x hx y hy e=>(z6f hx hy).mpr e).1;have h2:=(z2H key (nk o key) o fun x hx y hy e=>(z6f hx hy).mp e).1;lia
theorem z4g(f:α->β):∀(gs o:List α),(∀x∈o++gs,∀y∈o++gs,f x=f y->x=y)->z08 (o.map f) (gs.map f)=(z08 o gs).map f
 |[],o,_=>rfl
 |g::gs,o,hf=>by
  have h1:z2b (o.map f) (f g)=(z2b o g).map f:=by
   by_cases h:g∈o
   .rw[z0o h,z0o (y0b.mpr ⟨g,h,rfl⟩)]
   .have:f g∉o.map f:=fun z=>by
     obtain⟨x,hx,e⟩:=y0b.mp z;exact h (hf x (y0t _ hx) g (by simp) e▸hx)
    rw[z0p h,z0p this,y0e];rfl
  show z08 (z2b (o.map f) (f g)) (gs.map f)=(z08 (z2b o g) gs).map f;rw[h1];refine z4g f gs (z2b o g) fun x hx y hy=>hf x ?_ y ?_
  .rcases y0q.mp hx with hx|hx
   .rcases z1k.mp hx with hx|hx
    .exact y0t _ hx
    .rw[hx];simp
   .exact y0j _ (y09 _ hx)
  .rcases y0q.mp hy with hy|hy
   .rcases z1k.mp hy with hy|hy
    .exact y0t _ hy
    .rw[hy];simp
   .exact y0j _ (y09 _ hy)
def z6C{l:List α}(h:l.Nodup):l.map (fun x=>((l.idxOf x:Nat):Int))=z0y l.length:=by refine y1U (by rw[y01,z0H]) fun i h1 h2=>?_;rw[y01]at h1;rw[y18,h.idxOf_getElem i h1];have:=z1P h1;rw[y00 h2]at this;exact(y07 this).symm
def zeZ(o:List Int)(key:Int->α):z0w (o.map (nk o key))=z0y (z0w (o.map key)).length:=by
 have e:o.map (nk o key)=(o.map key).map (fun v=>(((z0w (o.map key)).idxOf v:Nat):Int)):=by rw[y0L];rfl
 rw[e];have:=z4g (fun v=>(((z0w (o.map key)).idxOf v:Nat):Int)) (o.map key) [] fun x hx y hy q=>by rw[y1z]at hx hy;exact zaG (z0x.mpr hx) (z0x.mpr hy) (Int.ofNat.inj q)
 rw[y0S]at this;show z08 [] _=_;rw[this];exact z6C (z58 (o.map key))
end
def run(M:List Row):Int->List Nat->Int
 |x,[]=>x
 |x,i::w=>run M ((row M x).2.getD i 0) w
def beh(M:List Row)(x:Int)(w:List Nat):List Int:=(row M (run M x w)).1
structure Cl(n:Nat)(M:List Row)(o:List Int):Prop where
 zero:0∈o
 cl:∀r∈o,∀g∈(row M r).2,g∈o
 len:∀r∈o,(row M r).2.length=n
def Cl.go{n:Nat}{M:List Row}{o:List Int}(C:Cl n M o){x:Int}(hx:x∈o)(i:Nat):(row M x).2.getD i 0∈o:=by
 by_cases h:i<(row M x).2.length
 .rw[y02,y00 h];exact C.cl x hx _ (y0c h)
 .rw[y02,y0n (by lia)];exact C.zero
def z2d{n:Nat}{rows:List Row}(G:z0e n rows):Cl n rows (z0b rows):=by obtain⟨L,cl⟩:=z0m G;obtain⟨t,e⟩:=L.hd;exact⟨by rw[e];simp,cl,fun r hr=>G.len _ (z0c (L.rg r hr).1 (L.rg r hr).2)⟩
def z7q{α:Type}(M:List Row)(o:List Int)(f:Int->α):Prop:=∀x∈o,∀y∈o,f x=f y↔beh M x=beh M y
structure zde{α:Type}(M:List Row)(o:List Int)(f:Int->α):Prop where
 all:∀x∈o,∀y∈o,beh M x=beh M y->f x=f y
 fst:∀x∈o,∀y∈o,f x=f y->(row M x).1=(row M y).1
def zcf{α β:Type}(M:List Row)(o:List Int)(f:Int->α)(f':Int->β):Prop:=∀x∈o,∀y∈o,f' x=f' y↔(f x=f y/\(row M x).2.map f=(row M y).2.map f)
def zde.next{α β:Type}{n:Nat}{M:List Row}{o:List Int}{f:Int->α}{f':Int->β}(C:Cl n M o)(F:zde M o f)(S:zcf M o f f'):zde M o f':=by
 refine⟨fun x hx y hy e=>(S x hx y hy).mpr ⟨F.all x hx y hy e,?_⟩,fun x hx y hy e=>F.fst x hx y hy ((S x hx y hy).mp e).1⟩;refine y1U (by rw[y01,y01,C.len x hx,C.len y hy]) fun i h1 h2=>?_;rw[y01]at h1 h2;rw[y18,y18];have a1:=C.go hx i;have a2:=C.go hy i;have b1:(row M x).2.getD i 0=(row M x).2[i]:=by rw[y02,y00 h1];rfl
 have b2:(row M y).2.getD i 0=(row M y).2[i]:=by rw[y02,y00 h2];rfl
 rw[<-b1,<-b2];exact F.all _ a1 _ a2 (funext fun w=>congrFun e (i::w))
def zde.right{α β:Type}{n:Nat}{M:List Row}{o:List Int}{f:Int->α}{f':Int->β}(C:Cl n M o)(F:zde M o f)(S:zcf M o f f')(hk:∀x∈o,∀y∈o,f x=f y->f' x=f' y):z7q M o f':=by
 have key:∀(w:List Nat)(x y:Int),x∈o->y∈o->f x=f y->beh M x w=beh M y w:=by
  intro w;induction w with
  |nil=>intro x y hx hy e;exact F.fst x hx y hy e
  |cons i w ih =>
   intro x y hx hy e;refine ih _ _ (C.go hx i) (C.go hy i) ?_;have h:=((S x hx y hy).mp (hk x hx y hy e)).2;have h':=y28 (fun l=>l[i]?) h;simp only[y04]at h';rw[y02,y02];cases e1:(row M x).2[i]? with
   |none =>
    rw[e1]at h';cases e2:(row M y).2[i]? with
    |none=>rfl
    |some b=>rw[e2]at h';cases h'
   |some a =>
    rw[e1]at h';cases e2:(row M y).2[i]? with
    |none=>rw[e2]at h';cases h'
    |some b=>rw[e2]at h';exact y07 h'
 intro x hx y hy;refine⟨fun e=>funext fun w=>key w x y hx hy ((S x hx y hy).mp e).1,fun e=>(F.next C S).all x hx y hy e⟩
def z2A(rows:List Row)(o:List Int)(f:Int->D)(r:Int):z3l rows o f r=D.int (nk o (z1W rows f) r):=rfl
def z9z{rows:List Row}{f:Int->D}{x y:Int}:z1W rows f x=z1W rows f y↔(f x=f y/\(row rows x).2.map f=(row rows y).2.map f):=by
 unfold z1W;constructor
 .intro e;injection e with e;injection e with e1 e2;injection e2 with e2 _;injection e2 with e2;exact⟨e1,e2⟩
 .rintro⟨e1,e2⟩;rw[e1,e2]
def z7Q(rows:List Row)(o:List Int)(f:Int->D):zcf rows o f (z3l rows o f):=fun x hx y hy=>by
 rw[z2A,z2A];constructor
 .intro e;injection e with e;exact z9z.mp ((z6f hx hy).mp e)
 .intro e;rw[(z6f hx hy).mpr (z9z.mpr e)]
def z7f(rows:List Row)(o:List Int)(f:Int->D):z2L rows o f=(z0w (o.map (z3l rows o f))).length:=by
 have h1:z2L rows o f=(z0w (o.map (z1W rows f))).length:=rfl;have h2:=(z2H (z3l rows o f) (z1W rows f) o fun x hx y hy e=>by rw[z2A,z2A,(z6f hx hy).mpr e]).1;have h3:=(z2H (z1W rows f) (z3l rows o f) o fun x hx y hy e=>by rw[z2A,z2A]at e;injection e with e;exact(z6f hx hy).mp e).1
 lia
theorem z5k{n:Nat}{rows:List Row}{o:List Int}(C:Cl n rows o):∀(m many:Nat)(f:Int->D),zde rows o f->(many=0\/many=(z0w (o.map f)).length)->many<=o.length->o.length+1<=m+many->z7q rows o (z56 rows o m many f)
 |0,many,f,F,hm,hl,hf=>by lia
 |m+1,many,f,F,hm,hl,hf=>by
  unfold z56;have S:=z7Q rows o f;by_cases hc:many<z2L rows o f
  .rw[if_pos hc];refine z5k C m _ _ (F.next C S) (.inr (z7f rows o f)) (z7j rows o f) (by lia)
  .rw[if_neg hc];have h1:1<=z2L rows o f:=by
    have:z1W rows f 0∈z0w (z2p rows o f):=z0x.mpr (y0b.mpr ⟨0,C.zero,rfl⟩);exact y2r this
   have h2:many=(z0w (o.map f)).length:=by rcases hm with h|h;lia;exact h
   have h3:=z7f rows o f;refine F.right C S ((z2H f (z3l rows o f) o fun x hx y hy e=>((S x hx y hy).mp e).1).2 (by lia))
def zgP(rows:List Row)(o:List Int):zde rows o fun r=>D.its (row rows r).1 :=
 ⟨fun x hx y hy e=>by have:=congrFun e [];show D.its _=D.its _;rw[show(row rows x).1=(row rows y).1 from this],fun x hx y hy e=>z5d e⟩
def z2z{n:Nat}{rows:List Row}(G:z0e n rows):z7q rows (z0b rows) (kOf rows):=by have hl:=(z0m G).1.len;have h:=z5k (z2d G) (rows.length+2) 0 _ (zgP rows (z0b rows)) (.inl rfl) (by lia) (by lia);intro x hx y hy;have:=h x hx y hy;have e:z56 rows (z0b rows) (rows.length+2) 0 (fun r=>D.its (row rows r).1)=fun r=>D.int (kOf rows r):=z66 rows;rw[e]at this;rw[<-this];exact⟨fun q=>by show D.int _=D.int _;rw[q],fun q=>D.int.inj q⟩
def kf(ks:List Int)(x:Int):Int:=ks.getD x.toNat 0
def z2R{α:Type}[DecidableEq α]{L:Nat}{key:Int->α}{x:Int}(hx:x∈z0y L):kf (z2o ((z0y L).map key)) x=nk (z0y L) key x:=by
 have hx':=z0J.mp hx;unfold kf z2o nk;have hl:x.toNat<L:=by lia
 rw[y02,y04,y04,z1P hl];have:((x.toNat:Nat):Int)=x:=by lia
 simp only[y3I,Option.getD_some,this]
def z5c(fs:List Row)(g:Row->α):fs.map g=(z0y fs.length).map fun x=>g (row fs x):=by
 refine y1f fun i=>?_;rw[y04,y04];by_cases h:i<fs.length
 .rw[z1P h,y00 h];show some (g fs[i])=some (g (row fs (i:Int)));congr 2;unfold row;have:((i:Nat):Int).toNat=i:=by lia
  rw[this,y02,y00 h];rfl
 .rw[y0n (by lia),y0n (by rw[z0H];lia)];rfl
def zeG(fs:List Row)(ks:List Int)(x:Int):Int × List Int:=(kf ks x,(row fs x).2.map (kf ks))
def z44{fs:List Row}{ks:List Int}(h:ks.length=fs.length):z3k ks fs=(z0y fs.length).map (zeG fs ks):=by
 unfold z3k;refine y1f fun i=>?_;rw[y04,y04];by_cases hi:i<fs.length
 .have e1:(ks.zip fs)[i]?=some (ks[i]'(by lia),fs[i]):=y12.mpr ⟨y00 (by lia),y00 hi⟩;rw[z1P hi,e1];simp only[y3I];congr 1;unfold zeG kf row;have:((i:Nat):Int).toNat=i:=by lia
  rw[this,y02,y00 (by lia:i<ks.length),y02,y00 hi];rfl
 .rw[y0n (by rw[y23];lia),y0n (by rw[z0H];lia)];rfl
def z4w{α:Type}[DecidableEq α]{xs:List α}(h:xs≠[]):cnt (z2o xs)=((z0w xs).length:Int):=by
 have hne:z2o xs≠[]:=fun z=>h (by have:=z3B xs;rw[z]at this;exact y1V this.symm)
 obtain⟨h1,h2⟩:=z8m hne fun k hk=>(z6T hk).1;have h3:=(z6T h1).2;have hpos:0<(z0w xs).length:=by
  cases xs with
  |nil=>exact absurd rfl h
  |cons a r=>exact y2r (z0x.mpr (show a∈a::r by simp))
 have hm:(z0w xs)[(z0w xs).length-1]'(by lia)∈xs:=z0x.mp (y0c _);have h4:(((z0w xs).length-1:Nat):Int)∈z2o xs:=by unfold z2o;refine y0b.mpr ⟨_,hm,?_⟩;rw[(z58 xs).idxOf_getElem]
 have:=h2 _ h4;lia
def z6I{L:Nat}{α:Type}{g:Int->α}(h:1<=L):(z0y L).map g≠[]:=fun z=>by have:=y28 List.length z;rw[y01,z0H]at this;simp at this;lia
def z75{α:Type}[DecidableEq α]{L:Nat}{key:Int->α}:(z0w ((z0y L).map (kf (z2o ((z0y L).map key))))).length=(z0w ((z0y L).map key)).length:=by rw[<-zdq (z0y L) key];congr 2;exact y0H fun x hx=>z2R hx
def z5Q{fs:List Row}(hgo:∀x∈z0y fs.length,∀g∈(row fs x).2,g∈z0y fs.length){ks:List Int}:zcf fs (z0y fs.length) (kf ks) (kf (z2o ((z0y fs.length).map (zeG fs ks)))):=fun x hx y hy=>by rw[z2R hx,z2R hy,z6f hx hy];unfold zeG;rw[Prod.mk.injEq]
def zfv{n:Nat}{fs:List Row}(G:z4d n fs):Cl n fs (z0y fs.length):=by
 refine⟨z0J.mpr ⟨by lia,by have:=G.some;lia⟩,fun r hr g hg=>?_,fun r hr=>?_⟩
 .have h:=z0J.mp hr;exact z0J.mpr (G.go _ (z0c h.1 h.2) g hg)
 .have h:=z0J.mp hr;exact G.len _ (z0c h.1 h.2)
theorem z4R{n:Nat}{fs:List Row}(G:z4d n fs):∀(m:Nat)(c:Int)(ks:List Int),(∃(α:Type)(_:DecidableEq α)(key:Int->α),ks=z2o ((z0y fs.length).map key))->zde fs (z0y fs.length) (kf ks) ->
  (c=0\/∃ks0:List Int,zde fs (z0y fs.length) (kf ks0)/\zcf fs (z0y fs.length) (kf ks0) (kf ks)/\c=((z0w ((z0y fs.length).map (kf ks0))).length:Int))->0<=c->c<=(fs.length:Int)->(fs.length:Int)+1<=m+c ->
  z7q fs (z0y fs.length) (kf (z5s fs m c ks))/\∃(α:Type)(_:DecidableEq α)(key:Int->α),z5s fs m c ks=z2o ((z0y fs.length).map key)
 |0,c,ks,hk,F,hp,h0,h1,h2=>by lia
 |m+1,c,ks,hk,F,hp,h0,h1,h2=>by
  unfold z5s;have C:=zfv G;obtain⟨α,ia,key,rfl⟩:=hk;have hcn:=z4w (z6I (g:=key) G.some);have hU:(z0w ((z0y fs.length).map key)).length<=fs.length:=by have:=z3W ((z0y fs.length).map key);rw[y01,z0H]at this;exact this
  have hUp:1<=(z0w ((z0y fs.length).map key)).length:=y2r (z0x.mpr (y0b.mpr ⟨0,C.zero,rfl⟩));by_cases hc:c<cnt (z2o ((z0y fs.length).map key))
  .rw[if_pos hc,hcn,z44 (by rw[z3B,y01,z0H])];refine z4R G m _ _ ⟨_,_,_,rfl⟩ (F.next C (z5Q C.cl)) (.inr ⟨_,F,z5Q C.cl,?_⟩) (by lia) (by lia) (by rw[hcn]at hc;lia);rw[z75]
  .rw[if_neg hc];refine⟨?_,_,_,_,rfl⟩;rcases hp with hp|⟨ks0,F0,S0,hc0⟩
   .rw[hcn]at hc;lia
   .refine F0.right C S0 ((z2H _ _ _ fun x hx y hy e=>((S0 x hx y hy).mp e).1).2 ?_);rw[z75];rw[hcn]at hc;lia
def z50{n:Nat}{fs:List Row}(G:z4d n fs):z7q fs (z0y fs.length) (kf (z2M fs))/\∃(α:Type)(_:DecidableEq α)(key:Int->α),z2M fs=z2o ((z0y fs.length).map key):=by
 have C:=zfv G;unfold z2M;refine z4R G (fs.length+1) 0 _ ⟨List Int,inferInstance,fun x=>(row fs x).1,by rw[z5c fs (·.1)]⟩ ?_ (.inl rfl) (by lia) (by lia) (by lia);rw[z5c fs (·.1)];refine⟨fun x hx y hy e=>?_,fun x hx y hy e=>?_⟩
 .rw[z2R hx,z2R hy,z6f hx hy];exact congrFun e []
 .rw[z2R hx,z2R hy,z6f hx hy]at e;exact e
inductive BF(M:List Row):Nat->List Int->List Int->Prop
 |stop {i:Nat} {o:List Int}:o.length<=i->BF M i o o
 |step {i:Nat} {o res:List Int} {r:Int}:o[i]?=some r->BF M (i+1) (z08 o (row M r).2) res->BF M i o res
def BF.det{M:List Row}{i:Nat}{o a b:List Int}(h:BF M i o a)(h':BF M i o b):a=b:=by
 induction h generalizing b with
 |stop hl =>
  cases h' with
  |stop _=>rfl
  |step e _=>rw[y0n hl]at e;cases e
 |step e _ ih =>
  cases h' with
  |stop hl=>rw[y0n hl]at e;cases e
  |step e' q =>
   rw[e]at e';cases e';exact ih q
def BF.sub{M:List Row}{i:Nat}{o a:List Int}(h:BF M i o a):∃m,a=o++m:=by
 induction h with
 |stop _=>exact⟨[],by simp⟩
 |@step i o res r e _ ih =>
  obtain⟨m,em⟩:=ih;obtain⟨m',em'⟩:=z0K (row M r).2 o;exact⟨m'++m,by rw[em,em',y0p]⟩
theorem zfC{n:Nat}{rows:List Row}(G:z0e n rows):∀(f i:Nat)(o:List Int),z7d rows o->i<=o.length->rows.length+1<=f+i->BF rows i o (bfs rows f i o)
 |0,i,o,L,hi,hf=>by
  have:=L.len;lia
 |f+1,i,o,L,hi,hf=>by
  cases e:o[i]? with
  |none =>
   rw[z35 (y1L.mp e)];exact .stop (y1L.mp e)
  |some r =>
   rw[z36 e];have hr:r∈o:=y0z e;have hil:i<o.length:=(y05.mp e).1;obtain⟨m,em⟩:=z0K (row rows r).2 o;exact .step e (zfC G f (i+1) _ (L.add G hr) (by rw[em,y0a];lia) (by lia))
def z3g{n:Nat}{rows:List Row}(G:z0e n rows):BF rows 0 [0] (z0b rows):=zfC G (rows.length+1) 0 [0] (zcp G) (by simp) (by lia)
theorem z4L{α β:Type}[DecidableEq α][DecidableEq β](h:α->β):∀(gs o:List α),z0w ((z08 o gs).map h)=z08 (z0w (o.map h)) (gs.map h)
 |[],o=>rfl
 |g::gs,o=>by
  show z0w ((z08 (z2b o g) gs).map h)=z08 (z2b (z0w (o.map h)) (h g)) (gs.map h);rw[z4L h gs (z2b o g)];congr 1;by_cases hg:g∈o
  .rw[z0o hg,z0o (z0x.mpr (y0b.mpr ⟨g,hg,rfl⟩))]
  .rw[z0p hg,y0e];exact z1y _ _
def Mor(M' M:List Row)(o':List Int)(h:Int->Int):Prop:=∀x∈o',row M (h x)=((row M' x).1,(row M' x).2.map h)
theorem BF.map{M' M:List Row}{h:Int->Int}{i:Nat}{o res:List Int}(b:BF M' i o res):Mor M' M res h->(∀j r,j<i->o[j]?=some r->∀g∈(row M' r).2,g∈o)->i<=o.length -> BF M (z0w ((o.take i).map h)).length (z0w (o.map h)) (z0w (res.map h)):=by
 induction b with
 |@stop i o hl =>
  intro _ _ _;rw[y0M hl];exact .stop (y0f _)
 |@step i o res r e b ih =>
  intro mo pc hi;obtain⟨m0,em0⟩:=b.sub;obtain⟨m,em⟩:=z0K (row M' r).2 o;have hil:i<o.length:=(y05.mp e).1;have hro:r∈o:=y0z e;have hr:=mo r (by rw[em0,em];exact y0t _ (y0t _ hro));have ih':=ih mo (fun j r' hj er g hg=>?_) (by rw[em,y0a];lia)
  .have et:(z08 o (row M' r).2).take (i+1)=o.take i++[r]:=by
    rw[em,y2o (by lia),y0v,e];rfl
   rw[et,y0e,show List.map h [r]=[h r]from rfl,z1y,z4L]at ih';by_cases hm:h r∈z0w ((o.take i).map h)
   .rw[z0o hm,z60]at ih'
    .exact ih'
    .intro g hg;obtain⟨r',hr',er'⟩:=y0b.mp (z0x.mp hm);obtain⟨j,hj,ej⟩:=y1q hr';rw[y0s]at hj;rw[y1Z]at ej;have hmo:=mo r' (by rw[em0,em];exact y0t _ (y0t _ (y10 hr')));rw[er',hr]at hmo;have e2:(row M' r).2.map h=(row M' r').2.map h:=y28 Prod.snd hmo;rw[e2]at hg;obtain⟨g',hg',eg⟩:=y0b.mp hg;have:=pc j r' (by lia) (by rw[y00 (by lia),ej]) g' hg';exact z0x.mpr (y0b.mpr ⟨g',this,eg⟩)
   .rw[z0p hm,y0a]at ih';refine .step (r:=h r) ?_ ?_
    .have eo:o=(o.take i++[r])++o.drop (i+1):=by
      have:o.take (i+1)=o.take i++[r]:=by rw[y0v,e];rfl
      rw[<-this,y0T]
     have e3:z0w (o.map h)=z08 (z0w ((o.take i).map h)++[h r]) ((o.drop (i+1)).map h):=by
      conv=>lhs;rw[eo]
      rw[y0e,z6U,y0e,show List.map h [r]=[h r]from rfl,z1y,z0p hm]
     obtain⟨m2,em2⟩:=z0K ((o.drop (i+1)).map h) (z0w ((o.take i).map h)++[h r]);rw[e3,em2,y0p,y13 (y0f _),y3M];rfl
    .rw[hr];exact ih'
  .have hjo:j<o.length:=by lia
   have er':o[j]?=some r':=by rw[em,y11 hjo]at er;exact er
   by_cases hji:j=i
   .subst hji;rw[e]at er';cases er';exact z0A.mpr (.inr hg)
   .exact z0A.mpr (.inl (pc j r' (by lia) er' g hg))
def z7G{n n':Nat}{M' M:List Row}{h:Int->Int}(G':z0e n' M')(G:z0e n M)(h0:h 0=0)(mo:Mor M' M (z0b M') h):z0w ((z0b M').map h)=z0b M:=by
 have b:=(z3g G').map mo (fun j r hj=>absurd hj (y3H _)) (by simp);have e:z0w ([(0:Int)].map h)=[0]:=by rw[show[(0:Int)].map h=[h 0]from rfl,h0];rfl
 rw[e]at b;exact b.det (z3g G)
theorem z5X(k:Int->Int):∀l:List Int,(z0z k l.reverse).map k=z0w (l.reverse.map k)
 |[]=>rfl
 |a::l=>by
  rw[y2j,z1N,y0e,show List.map k [a]=[k a]from rfl,z1y,<-z5X k l];unfold z0V;by_cases h:k a∈(z0z k l.reverse).map k
  .rw[if_pos h,z0o h]
  .rw[if_neg h,z0p h,y0e];rfl
def z1R(k:Int->Int)(o:List Int):(z0z k o).map k=z0w (o.map k):=by
 have:=z5X k o.reverse
 rwa [y1w]at this
theorem z7i{k k':Int->Int}:∀l:List Int,(∀x∈l.reverse,∀y∈l.reverse,k x=k y↔k' x=k' y)->z0z k l.reverse=z0z k' l.reverse
 |[],_=>rfl
 |a::l,h=>by
  rw[y2j]at h⊢;rw[z1N,z1N,z7i l fun x hx y hy=>h x (y0t _ hx) y (y0t _ hy)];unfold z0V;have hin:=(z1g k' l.reverse).2.1;have:k a∈(z0z k' l.reverse).map k↔k' a∈(z0z k' l.reverse).map k':=by
   constructor
   .intro hm;obtain⟨x,hx,e⟩:=y0b.mp hm;exact y0b.mpr ⟨x,hx,(h x (y0t _ (hin x hx)) a (by simp)).mp e⟩
   .intro hm;obtain⟨x,hx,e⟩:=y0b.mp hm;exact y0b.mpr ⟨x,hx,(h x (y0t _ (hin x hx)) a (by simp)).mpr e⟩
  by_cases hm:k a∈(z0z k' l.reverse).map k
  .rw[if_pos hm,if_pos (this.mp hm)]
  .rw[if_neg hm,if_neg (fun z=>hm (this.mpr z))]
def zah{k k':Int->Int}{o:List Int}(h:∀x∈o,∀y∈o,k x=k y↔k' x=k' y):z0z k o=z0z k' o:=by
 have:=z7i (k:=k) (k':=k') o.reverse (by rw[y1w];exact h)
 rwa [y1w]at this
theorem z5W(k h:Int->Int):∀l:List Int,(z0z (fun x=>k (h x)) l.reverse).map h=z0z k (z0w (l.reverse.map h))
 |[]=>rfl
 |a::l=>by
  rw[y2j,z1N,y0e,show List.map h [a]=[h a]from rfl,z1y];have ih:=z5W k h l;have e:(z0z (fun x=>k (h x)) l.reverse).map (fun x=>k (h x))=(z0z k (z0w (l.reverse.map h))).map k:=by rw[<-ih,y0L];rfl
  unfold z0V;by_cases hm:h a∈z0w (l.reverse.map h)
  .have hk:k (h a)∈(z0z (fun x=>k (h x)) l.reverse).map (fun x=>k (h x)):=by
    rw[e];exact(z1g k _).1 _ hm
   rw[if_pos hk,z0o hm];exact ih
  .rw[z0p hm,z1N];unfold z0V;by_cases hk:k (h a)∈(z0z (fun x=>k (h x)) l.reverse).map (fun x=>k (h x))
   .rw[if_pos hk,if_pos (by rw[<-e];exact hk)];exact ih
   .rw[if_neg hk,if_neg (by rw[<-e];exact hk),y0e,ih];rfl
def z8A(k h:Int->Int)(o:List Int):(z0z (fun x=>k (h x)) o).map h=z0z k (z0w (o.map h)):=by
 have:=z5W k h o.reverse
 rwa [y1w]at this
theorem zbw{k k':Int->Int}{x:Int}:∀{l:List Int},(∀y∈l,k y=k x↔k' y=k' x)->(l.map k).idxOf (k x)=(l.map k').idxOf (k' x)
 |[],_=>rfl
 |b::l,h=>by
  rw[y0l,y0l,y22,y22,zbw fun y hy=>h y (y09 _ hy)];have:=h b (by simp);have e:(k b==k x)=(k' b==k' x):=by rw[y20,y3d,y3d];exact this
  rw[e]
theorem zbd{n:Nat}{M' M:List Row}{o':List Int}{h:Int->Int}(C:Cl n M' o')(h0:h 0=0)(mo:Mor M' M o' h):∀(w:List Nat)(x:Int),x∈o'->h (run M' x w)=run M (h x) w/\run M' x w∈o'
 |[],x,hx=>⟨rfl,hx⟩
 |i::w,x,hx=>by
  have e:(row M (h x)).2.getD i 0=h ((row M' x).2.getD i 0):=by
   rw[mo x hx,y02,y02,y04];cases(row M' x).2[i]? with
   |none=>exact h0.symm
   |some a=>rfl
  obtain⟨h1,h2⟩:=zbd C h0 mo w _ (C.go hx i);refine⟨?_,h2⟩;show h (run M' ((row M' x).2.getD i 0) w)=run M ((row M (h x)).2.getD i 0) w;rw[e];exact h1
def z65{n n':Nat}{M' M:List Row}{h k k':Int->Int}(G':z0e n' M')(G:z0e n M)(h0:h 0=0)(mo:Mor M' M (z0b M') h)(R:z7q M (z0b M) k)(R':z7q M' (z0b M') k') : z1J M' k' (z0b M')=z1J M k (z0b M):=by
 have C':=z2d G';have eo:=z7G G' G h0 mo;have hin:∀x∈z0b M',h x∈z0b M:=fun x hx=>by rw[<-eo];exact z0x.mpr (y0b.mpr ⟨x,hx,rfl⟩)
 have hb:∀x∈z0b M',beh M' x=beh M (h x):=fun x hx=>funext fun w=>by obtain⟨h1,h2⟩:=zbd C' h0 mo w x hx;show(row M' (run M' x w)).1=(row M (run M (h x) w)).1;rw[<-h1,mo _ h2]
 have ker:∀x∈z0b M',∀y∈z0b M',k' x=k' y↔k (h x)=k (h y):=fun x hx y hy=>by rw[R' x hx y hy,R _ (hin x hx) _ (hin y hy),hb x hx,hb y hy]
 have hh:z0z k' (z0b M')=z0z (fun x=>k (h x)) (z0b M'):=zah ker;have hm:(z0z (fun x=>k (h x)) (z0b M')).map h=z0z k (z0b M):=by rw[z8A,eo]
 have hsub:∀r∈z0z (fun x=>k (h x)) (z0b M'),r∈z0b M':=(z1g _ _).2.1;unfold z1J;rw[hh,<-hm,y0L];refine y0H fun r hr=>?_;have hro:=hsub r hr;show _=((row M (h r)).1,(row M (h r)).2.map _);rw[mo r hro];refine y2x rfl ?_;show List.map _ _=List.map _ (List.map h (row M' r).2);rw[y0L];refine y0H fun g hg=>?_;have hgo:=C'.cl r hro g hg;show(((List.map k' (z0z (fun x=>k (h x)) (z0b M'))).idxOf (k' g):Nat):Int)=((((z0z (fun x=>k (h x)) (z0b M')).map h).map k).idxOf (k (h g)):Nat);rw[y0L];have:=zbw (k:=k') (k':=fun x=>k (h x)) (x:=g) (l:=z0z (fun x=>k (h x)) (z0b M')) fun y hy=>ker y (hsub y hy) g hgo;rw[this];rfl
def z5i{n n':Nat}{M' M:List Row}{h:Int->Int}(G':z0e n' M')(G:z0e n M)(h0:h 0=0)(mo:Mor M' M (z0b M') h):shr M'=shr M :=
 z65 G' G h0 mo (z2z G) (z2z G')
def z4d.m{n:Nat}{fs:List Row}(G:z4d n fs):z0e n fs:=⟨G.few,G.some,G.perm,G.len,G.go⟩
def z7S{n:Nat}{rows:List Row}(G:z0e n rows){x:Int}(hx:x∈z0b rows):row (z0G rows) ((((z0b rows).idxOf x:Nat):Int))=((row rows x).1,(row rows x).2.map fun g=>(((z0b rows).idxOf g:Nat):Int)):=by
 have hl:=y0P hx;unfold row z0G z1K;have:((((z0b rows).idxOf x:Nat):Int)).toNat=(z0b rows).idxOf x:=by lia
 rw[this,y02,y04,y00 hl,y1x hl];rfl
def z7H(rows:List Row):(z0G rows).length=(z0b rows).length:=by unfold z0G z1K;rw[y01]
def z3s{n:Nat}{rows:List Row}(G:z0e n rows):z0b (z0G rows)=z0y (z0G rows).length:=by
 obtain⟨L,cl⟩:=z0m G;obtain⟨t,e⟩:=L.hd;have h0:(((z0b rows).idxOf 0:Nat):Int)=0:=by rw[e];simp
 have h:=z7G (h:=fun x=>(((z0b rows).idxOf x:Nat):Int)) G (z2C G).m h0 fun x hx=>z7S G hx;rw[<-h,z6C L.nd,z7H];exact zc1 (z63 _)
def zaH{n:Nat}{rows:List Row}(G:z0e n rows):Mor (z0G rows) rows (z0b (z0G rows)) fun i=>(z0b rows).getD i.toNat 0:=by
 obtain⟨L,cl⟩:=z0m G;intro i hi;rw[z3s G,z7H]at hi;obtain⟨i0,i1⟩:=z0J.mp hi;have hl:i.toNat<(z0b rows).length:=by lia
 have e1:(z0b rows).getD i.toNat 0=(z0b rows)[i.toNat]:=by rw[y02,y00 hl];rfl
 have hx:(z0b rows)[i.toNat]∈z0b rows:=y0c hl;have e2:(((z0b rows).idxOf (z0b rows)[i.toNat]:Nat):Int)=i:=by rw[L.nd.idxOf_getElem];lia
 have e3:=z7S G hx;rw[e2]at e3;show row rows ((z0b rows).getD i.toNat 0)=_;rw[e1,e3];refine y2x rfl ?_;show(row rows (z0b rows)[i.toNat]).2=List.map _ (List.map _ _);rw[y0L];conv=>lhs;rw[<-List.map_id (row rows (z0b rows)[i.toNat]).2]
 refine y0H fun g hg=>?_;have hg':=cl _ hx g hg;have hl':=y0P hg';show g=(z0b rows).getD ((((z0b rows).idxOf g:Nat):Int)).toNat 0;have:((((z0b rows).idxOf g:Nat):Int)).toNat=(z0b rows).idxOf g:=by lia
 rw[this,y02,y00 hl',y1x hl'];rfl
def z7n{L i:Nat}(h:i<=L):(z0y L).take i=z0y i:=by
 refine y1f fun j=>?_;by_cases hj:j<i
 .rw[y1Q hj,z1P (by lia),z1P hj]
 .rw[y0n (by rw[y0s,z0H];lia),y0n (by rw[z0H];lia)]
def zcP{c:Nat}{u m:List Int}(e:u++m=z0y c):u=z0y u.length:=by
 have hl:u.length<=c:=by have:=y28 List.length e;rw[y0a,z0H]at this;lia
 have:=y28 (List.take u.length) e;rw[y2o (y0f _),y0A,z7n hl]at this;exact this
def z52(j:Nat):z0y (j+1)=z0y j++[(j:Int)]:=by unfold z0y;rw[y3a,y0e];rfl
def z4f{fs:List Row}{ks:List Int}(hl:ks.length=fs.length)(hn:∃(α:Type)(_:DecidableEq α)(key:Int->α),ks=z2o ((z0y fs.length).map key))(hgo:∀r∈fs,∀g∈r.2,0<=g/\g<(fs.length:Int)) : z4Y fs ks=z1J fs (kf ks) (z0y fs.length):=by
 obtain⟨α,ia,key,ek⟩:=hn;have hU:z0w ((z0y fs.length).map (kf ks))=z0y (z0w ((z0y fs.length).map key)).length:=by
  have e:(z0y fs.length).map (kf ks)=(z0y fs.length).map (nk (z0y fs.length) key):=y0H fun x hx=>by rw[ek];exact z2R hx
  rw[e];exact zeZ (z0y fs.length) key
 generalize hc:(z0w ((z0y fs.length).map key)).length=c at hU;have hpre:∀i,i<=fs.length->z0w ((z0y i).map (kf ks))=z0y (z0w ((z0y i).map (kf ks))).length:=fun i hi=>by
  have e1:z0y fs.length=z0y i++(z0y fs.length).drop i:=by
   conv=>lhs;rw[<-y0T i (z0y fs.length)]
   rw[z7n hi]
  rw[e1,y0e,z6U]at hU;obtain⟨m,em⟩:=z0K (((z0y fs.length).drop i).map (kf ks)) (z0w ((z0y i).map (kf ks)));rw[em]at hU;exact zcP hU
 have main:∀i,i<=fs.length->z2s fs ks i=(z0z (kf ks) (z0y i)).map fun r=>((row fs r).1,(row fs r).2.map (kf ks)):=by
  intro i;induction i with
  |zero=>intro _;rfl
  |succ i ih =>
   intro hi;have ih:=ih (by lia);have hif:i<fs.length:=by lia
   have hik:i<ks.length:=by lia
   rw[z59 (r:=fs[i]) (k:=ks[i]) (y00 hif) (y00 hik),ih,z52,z1N];have p1:=hpre i (by lia);have p2:=hpre (i+1) hi;rw[z52,y0e,show List.map (kf ks) [(i:Int)]=[kf ks i]from rfl,z1y]at p2;have hm:=z1R (kf ks) (z0y i);have hlen:(z0z (kf ks) (z0y i)).length=(z0w ((z0y i).map (kf ks))).length:=by rw[<-hm,y01]
   have ek:ks[i]=kf ks (i:Int):=by
    unfold kf;have:((i:Nat):Int).toNat=i:=by lia
    rw[this,y02,y00 hik];rfl
   have er:fs[i]=row fs (i:Int):=by
    unfold row;have:((i:Nat):Int).toNat=i:=by lia
    rw[this,y02,y00 hif];rfl
   unfold z6l z0V;rw[hm,y01,hlen];by_cases hin:kf ks i∈z0w ((z0y i).map (kf ks))
   .rw[if_pos hin,if_neg];show ¬ks[i]=_;rw[ek];rw[p1]at hin;have:=z0J.mp hin;lia
   .rw[if_neg hin,if_pos]
    .rw[y0e,er];rfl
    .show ks[i]=_;rw[ek];rw[z0p hin,y0a]at p2;have e3:z0y ((z0w ((z0y i).map (kf ks))).length+[kf ks (i:Int)].length)=z0y (z0w ((z0y i).map (kf ks))).length++[((z0w ((z0y i).map (kf ks))).length:Int)]:=z52 _;rw[e3,<-p1]at p2;have:=List.append_cancel_left p2;simpa using this
 rw[<-z5G hl,main fs.length (y0f _)];unfold z1J;refine y0H fun r hr=>?_;refine y2x rfl ?_;refine y0H fun g hg=>?_;have hr':=z0J.mp ((z1g (kf ks) (z0y fs.length)).2.1 r hr);have hg':=hgo _ (z0c hr'.1 hr'.2) g hg;have hin:kf ks g∈z0w ((z0y fs.length).map (kf ks)):=z0x.mpr (y0b.mpr ⟨g,z0J.mpr hg',rfl⟩);rw[z1R];have hl':=y0P hin;have e:=y1x hl';rw[hU]at hin hl'⊢;have h1:=z0J.mp hin;have e2:(z0y c)[(z0y c).idxOf (kf ks g)]'hl'=kf ks g:=y1x hl';have e3:=z1P (n:=c) (i:=(z0y c).idxOf (kf ks g)) (by rw[z0H]at hl';exact hl');rw[y00 hl',e2]at e3;exact y07 e3
def z57{n:Nat}{rows:List Row}(G:z0e n rows):za9 rows=shr rows:=by
 have GF:=z2C G;obtain⟨R,N⟩:=z50 GF;obtain⟨L,cl⟩:=z0m G;obtain⟨t,e⟩:=L.hd;unfold za9;rw[z4f (z3Z GF).len N GF.go];have h0:(fun i:Int=>(z0b rows).getD i.toNat 0) 0=0:=by show(z0b rows).getD (0:Int).toNat 0=0;rw[e];rfl
 have R':z7q (z0G rows) (z0b (z0G rows)) (kf (z2M (z0G rows))):=by rw[z3s G];exact R
 have:=z65 (h:=fun i=>(z0b rows).getD i.toNat 0) GF.m G h0 (zaH G) (z2z G) R';rw[z3s G]at this;exact this
end Gu
namespace L2
open PySem PySem.Spec PyProof.Rows
section
variable{X:Cx}{pins:yyP}{σ:St}{H:Hp}{s:Shared}{a:Addr}{kvs:List (Key × V)}{k:Key}{u:Value}{A:Around}{E:yyE}
end
section
variable{X:Cx}{o e f:Expr}{apos cpos:Pos}{td ty tx:TE}
end
end L2
namespace HT
open PySem PySem.Spec PyProof.Rows
section
variable{prog:Program}{w:World}{A:Around}{E:yyE}{s:Shared}
end
end HT
namespace L2
open PySem PySem.Spec PyProof.Rows
section
variable{X:Cx}{e st:Expr}{te ts:TE}{pos p2:Pos}
end
section
variable{X:Cx}{elts:List Expr}{tk:Nat}{tp:Pos}
end
section
variable{X:Cx}
end
end L2
namespace Gu
open PySem L2
def tw(T S:List Int)(i:Nat):Int:=T.getD (S.getD i 0).toNat 0
def BF.all{M:List Row}{i:Nat}{o res:List Int}{C:Int->Prop}(b:BF M i o res)(hc:∀x,C x->∀g∈(row M x).2,C g):(∀x∈o,C x)->∀x∈res,C x:=by
 induction b with
 |stop _=>exact fun h=>h
 |@step i o res r e b ih =>
  intro h;refine ih fun x hx=>?_;rcases z0A.mp hx with hx|hx
  .exact h x hx
  .exact hc r (h r (y0z e)) x hx
def GB(T S gs0:List Int)(H:Hp)(j:Nat)(ys:List V)(H2:Hp):Prop:=∃gs:List Int,ys=gs.map V.int/\gs.length=j/\(∀g∈gs,0<=g/\g<(T.length:Int))/\gs.map (fun g=>tw T S g.toNat)=gs0.take j/\z0d H H2
theorem z34:∀l:List Row,D.depL (z0i l)<=2
 |[]=>by unfold z0i;simp only[y0S,D.depL];lia
 |r::l=>by
  have h:=z34 l;unfold z0i at h⊢;have h2:D.dep (z5u r)=2:=by unfold z5u;simp only[D.dep,D.depL,D.depL_ints];decide
  simp only[y0l,D.depL];lia
theorem z9h:∀l:List Row,(∀r∈l,r.1.length<=1000/\r.2.length<=1000)->D.fewL (z0i l)
 |[],_=>by unfold z0i;simp only[y0S,D.fewL]
 |r::l,h=>by have ih:=z9h l fun x hx=>h x (y09 _ hx);obtain⟨a,b⟩:=h r (by simp);unfold z0i at ih⊢;simp only[y0l,D.fewL];refine⟨?_,ih⟩;unfold z5u;simp only[D.few,D.fewL];have a:=zbr a;have b:=zbr b;simp only[D.few]at a b;exact⟨by simp,a,b,trivial⟩
def zaO{n:Nat}{rows:List Row}(G:z0e n rows)(hn:n<=60):D.dep (D.tup (z0i (shr rows)))<4/\D.few (D.tup (z0i (shr rows))):=by
 obtain⟨L,cl⟩:=z0m G;have hl:=L.len;have h4:=G.few;have hh:=(z1g (kOf rows) (z0b rows)).2;refine⟨?_,?_⟩
 .have:=z34 (shr rows);simp only[D.dep];lia
 .simp only[D.few];refine⟨?_,z9h _ fun r hr=>?_⟩
  .unfold z0i shr z1J;rw[y01,y01];have:=hh.2;lia
  .unfold shr z1J at hr;obtain⟨x,hx,rfl⟩:=y0b.mp hr;have hxo:=L.rg x (hh.1 x hx);have hrm:=z0c hxo.1 hxo.2;refine⟨?_,?_⟩
   .show(row rows x).1.length<=1000;rw[(G.perm _ hrm).len];lia
   .show(List.map _ _).length<=1000;rw[y01,G.len _ hrm];lia
end Gu
namespace L2
open PySem PySem.Spec PyProof.Rows
def Fly(h0:Heap)(H:Hp)(h:Heap)(ea C:Addr):Prop:=h0.get? ea=none/\H ea=none/\∃a0 oe vs T oT ts,h.get? ea=some oe/\(oe.cls=.ref C/\vs[0]?=some a0)/\oe.data=.fields vs/\vs[1]?=some (.ref T)/\T≠ea/\h0.get? T=none/\H T=none/\h.get? T=some oT/\oT.data=.fields ts/\ts[3]?=some .none
def zgu(h0:Heap)(H:Hp)(h:Heap)(ea C:Addr):Prop:=h0.get? ea=none/\H ea=none/\∃a0 oe vs,h.get? ea=some oe/\(oe.cls=.ref C/\vs[0]?=some a0)/\oe.data=.fields vs/\vs[1]?=some .none
theorem z2T{h base:Heap}:∀{l:List Env},h.FunFrames base l->∀b∈frs l,∃o,h.get? b=some o/\∀vs,o.data≠.fields vs
 |[],_,b,hb=>by simp[frs]at hb
 |env::r,hl,b,hb=>by
  obtain⟨hk,⟨L,o,hf,hn,ho,hd⟩,hr⟩:=hl;unfold frs at hb;rw[y2k,hf]at hb;rcases y0x.mp hb with z|z
  .rw[z];exact⟨o,ho,hd⟩
  .exact z2T hr b z
theorem z1q{h base base':Heap}:∀{l:List Env},h.FunFrames base l->(∀b∈frs l,base'.get? b=none)->h.FunFrames base' l
 |[],_,_=>trivial
 |env::r,hl,hb=>by
  obtain⟨hk,⟨L,o,hf,hn,ho,hd⟩,hr⟩:=hl;have e:frs (env::r)=L::frs r:=by unfold frs;rw[y2k,hf]
  exact⟨hk,⟨L,o,hf,hb L (by rw[e];simp),ho,hd⟩,z1q hr fun b hb'=>hb b (by rw[e];exact y09 _ hb')⟩
section
variable{P:Program}{w:World}
def z9l{H:Hp}{h:Heap}{a:Addr}{o:HO}(x:z1V P w H h a o):∃ob,h.get? a=some ob:=by
 cases o with
 |lst xs=>obtain⟨_,_,_,_,e⟩:=x;exact⟨_,e⟩
 |tup xs=>obtain⟨_,_,_,_,e⟩:=x;exact⟨_,e⟩
 |dK kvs=>obtain⟨_,_,_,_,o,_,_,e,_⟩:=x;exact⟨_,e⟩
 |dT kvs=>obtain⟨_,_,_,_,o,_,_,e,_⟩:=x;exact⟨_,e⟩
 |set S n=>obtain⟨o,_,_,_,e,_⟩:=x;exact⟨_,e⟩
 |ins C dx fs=>obtain⟨_,_,_,e,_⟩:=x;exact⟨_,e⟩
 |own y=>obtain⟨_,e⟩:=x;exact⟨_,e⟩
 |xd fs=>obtain⟨_,⟨_,_,_,e,_⟩,_⟩:=x;exact⟨_,e⟩
 |rng lo hi=>obtain⟨_,_,_,e⟩:=x;exact⟨_,e⟩
 |frz ob u=>obtain⟨e,_⟩:=x;exact⟨_,e⟩
 |tbl ps=>exact⟨_,show h.get? a=some _ from x⟩
 |met f y=>exact⟨_,show h.get? a=some _ from x⟩
 |ext φ=>obtain⟨_,⟨_,e⟩,_⟩:=x;exact⟨_,e⟩
def z7a{fr:List Addr}{H1 H':Hp}{h1 h h':Heap}{env:Env}{outer:List Env}{ea C:Addr}{a0:Value}{base:Heap}{hid:List Addr}(FF:h.FunFrames base (env::outer))(u:Un fr [] H1 H' h1 h)(hok:HOk P w H' h)(hfr:∀b∈frs (env::outer),H' b=none/\(b∈fr\/h1.get? b=none))(hfr2:∀b∈fr,b∈frs (env::outer))(he1:h1.get? ea=none)(heH:H' ea=none)(hid1:∀b∈hid,h1.get? b=none/\H' b=none)(lf:(PySem.W.hideAll h (ea::(hid++frs (env::outer)))).LeftW (env::outer) ea (.ref C) a0 h h') : Un fr [] H1 H' h1 h'/\HOk P w H' h'/\Fly h1 H' h' ea C:=by
 obtain⟨st,ff,tr,sl⟩:=lf;have keep:∀b o,h.get? b=some o->b≠ea->b∉hid->b∉frs (env::outer)->h'.get? b=some o:=fun b o e n1 n2 n3 =>
  st b o (PySem.W.hideAll_get _ e fun z=>by
   rcases y0x.mp z with z|z
   .exact n1 z
   .rcases y0q.mp z with z|z
    .exact n2 z
    .exact n3 z)
 have slot:∀b o,h.get? b=some o->b∈frs (env::outer)->∃s,h'.get? b=some { o with slots:=s }:=fun b o e hb=>by obtain⟨o',e',hd⟩:=z2T FF b hb;rw[e]at e';cases e';exact sl b o e hd
 have nh:∀b o,h1.get? b=some o->b≠ea/\b∉hid:=fun b o e=>⟨fun z=>(by rw[z,he1]at e;cases e),fun z=>(by rw[(hid1 b z).1]at e;cases e)⟩;refine⟨⟨fun b o e n hb hx=>?_,fun b o e n hb hx=>?_,u.free,fun b o e hx=>?_,u.tups,u.frzs,u.tbls⟩,fun a o e=>?_,he1,heH,?_⟩
 .have e2:=u.keep b o e n hb hx;refine keep b o e2 (nh b o e).1 (nh b o e).2 fun z=>?_;rcases(hfr b z).2 with z|z
  .exact hb z
  .rw[z]at e;cases e
 .obtain⟨s1,e2⟩:=u.slot b o e n hb hx;obtain⟨s2,e3⟩:=slot b _ e2 (hfr2 b hb);exact⟨s2,e3⟩
 .obtain⟨o',e2⟩:=u.there b o e hx;by_cases hb:b∈frs (env::outer)
  .obtain⟨s2,e3⟩:=slot b _ e2 hb;exact⟨_,e3⟩
  .exact⟨o',keep b o' e2 (nh b o e).1 (nh b o e).2 hb⟩
 .refine(hok a o e).stay (fun b v hb q=>?_) (fun _ q=>q) fun _ _ q=>q;have hbs:∃ob,H' b=some ob:=by
   rcases hb with z|z
   .rw[z];exact⟨_,e⟩
   .exact⟨_,z⟩
  obtain⟨ob,hob⟩:=hbs;refine keep b v q (fun z=>?_) (fun z=>?_) fun z=>?_
  .rw[z,heH]at hob;cases hob
  .rw[(hid1 b z).2]at hob;cases hob
  .rw[(hfr b z).1]at hob;cases hob
 .obtain⟨oe,vs,T,oT,ts,g1,g2,g3,g4,g5,g6,g7,g8,g9⟩:=tr;have hT:h1.get? T=none/\H' T=none:=by
   cases eT:h.get? T with
   |none =>
    refine⟨?_,?_⟩
    .cases q:h1.get? T with
     |none=>rfl
     |some o =>
      obtain⟨o',e2⟩:=u.there T o q (by simp);rw[eT]at e2;cases e2
    .cases q:H' T with
     |none=>rfl
     |some o =>
      obtain⟨ob,hob⟩:=z9l (hok T o q);rw[eT]at hob;cases hob
   |some oT' =>
    have hm:T∈ea::(hid++frs (env::outer)):=y1M fun nm=>by rw[PySem.W.hideAll_get _ eT nm]at g5;cases g5
    rcases y0x.mp hm with z|z
    .exact absurd z g6
    .rcases y0q.mp z with z|z
     .exact hid1 T z
     .obtain⟨o',e',hd⟩:=z2T ff T z;rw[g7]at e';cases e';exact absurd g8 (hd ts)
  exact⟨a0,oe,vs,T,oT,ts,g1,g2,g3,g4,g6,hT.1,hT.2,g7,g8,g9⟩
def zcV{M:Model}{A:Around}{E:yyE}{Q:Unit->Shared->Prop}{s:Shared}{fr:List Addr}{H1 H':Hp}{h1:Heap}{env:Env}{outer:List Env}{L ea C:Addr}{base:Heap}(hA:A.frames=some (env::outer))(hL:env.frame=some L)(FF:s.heap.FunFrames base (env::outer))(u:Un fr [] H1 H' h1 s.heap)(hok:HOk P w H' s.heap)(hfr:∀b∈frs (env::outer),H' b=none/\(b∈fr\/h1.get? b=none))(hfr2:∀b∈fr,b∈frs (env::outer))(hf:zgu h1 H' s.heap ea C\/Fly h1 H' s.heap ea C)(k:∀h',Un fr [] H1 H' h1 h'->HOk P w H' h'->Fly h1 H' h' ea C->Q () { s with heap:=h' }):wpAny M A (leaving env (.ref ea)) Q E s:=by
 rcases hf with⟨he1,heH,a0,oe,vs,g1,⟨g2,g20⟩,g3,g4⟩|⟨he1,heH,a0,oe,vs,T,oT,ts,g1,g2,g3,g4,g5,g6,g7,g8,g9,g10⟩
 .have FF':s.heap.FunFrames (PySem.W.hideAll s.heap (ea::([]++frs (env::outer)))) (env::outer):=z1q FF fun b hb=>y0Z _ (by simp[hb]);refine wpAny_leaving_firstW hA FF' hL g1 (fun b o e=>y2u _ e) (y0Z _ (by simp)) g3 g4 g20 fun h' lf=>?_;rw[g2]at lf;obtain⟨a,b,c⟩:=z7a (hid:=[]) FF u hok hfr hfr2 he1 heH (fun b hb=>by simp at hb) lf;exact k h' a b c
 .have FF':s.heap.FunFrames (PySem.W.hideAll s.heap (ea::([T]++frs (env::outer)))) (env::outer):=z1q FF fun b hb=>y0Z _ (by simp[hb]);refine wpAny_leaving_nextW hA FF' hL ⟨oe,vs,T,oT,ts,g1,g2,g3,g4,y0Z _ (by simp),g5,g8,g9,g10⟩ (fun b o e=>y2u _ e) (y0Z _ (by simp)) fun h' lf=>?_;obtain⟨a,b,c⟩:=z7a (hid:=[T]) FF u hok hfr hfr2 he1 heH (fun b hb=>by rw[y08.mp hb];exact⟨g6,g7⟩) lf;exact k h' a b c
def CXx(P:Program)(w:World):CXT:=fun outer H s E e s'=>∃(ea C:Addr)(H':Hp),e=.ref ea/\s'.os=s.os/\AllBare s'.gens/\Un (frs outer) [] H H' s.heap s'.heap/\HOk P w H' s'.heap/\Fly s.heap H' s'.heap ea C/\E (.ref ea) (some C) H'
instance:NoE (CXx P w):=⟨fun⟨_,_,_,_,_,_,_,_,_,h⟩=>h⟩
def zfY{K:yyF}{mg:yyS}{base:Heap}{N:List Str}{qual:Str}{scope:Scope}{f:Addr}{cd:Value}{A:Around}{outer:List Env}{s:Shared}{H:Hp}{E:XK}{pins:yyP}{σ:St}{H':Hp}{s':Shared}{ea C:Addr}(J:Inv (z7e (CXx P w) P w K mg base N qual scope f cd A outer s H E) pins σ H' s')(hf:zgu s.heap H' s'.heap ea C\/Fly s.heap H' s'.heap ea C)(hE:E (.ref ea) (some C) H'):(z7e (CXx P w) P w K mg base N qual scope f cd A outer s H E).xe (.ref ea) s':=by
 have hsub:=J.stkSub;have hfree:=J.stkFree;have hst:=J.stack;have hfrm:=J.ok.frames;show wpAny (model P w) (A.deeper (envOfC qual scope s.heap.objs.size f cd)) (leaving (envOfC qual scope s.heap.objs.size f cd) (.ref ea)) (fun _ s''=>CXx P w outer H s E (.ref ea) s'') (fun e' s''=>CXx P w outer H s E e' s'') s';refine zcV (P:=P) (w:=w) (fr:=frs outer) (H1:=H) (H':=H') (h1:=s.heap) (base:=base) hfrm rfl hst J.base J.hok (fun b hb=>⟨hfree b hb,?_⟩) (fun b hb=>y09 _ hb) hf fun h' a b c=>?_
 .rcases y0x.mp (hsub b hb)with z|z
  .right;rw[z];exact y3w (y0f _)
  .exact .inl z
 .exact⟨ea,C,H',rfl,J.os,J.bare,a,b,c,hE⟩
def zbl{K:yyF}{mg:yyS}{base:Heap}{N:List Str}{qual:Str}{scope:Scope}{f:Addr}{cd:Value}{A:Around}{outer:List Env}{s:Shared}{H:Hp}{E E':XK}(hE:∀e C H',E' e C H'->E e C H') : z5l (CXx P w) (z7e (CXx P w) P w K mg base N qual scope f cd A outer s H E) E':=by
 intro pins σ H1 s1 e s' I hx;obtain⟨ea,C,H',rfl,os,bare,un,hok,fly,q⟩:=hx;have J:=I.call' (ch:=[]) os un hok bare (fun b z=>absurd z (by simp));refine zfY J (.inr ?_) (hE _ _ _ q);have up:∀b,s1.heap.get? b=none->s.heap.get? b=none:=fun b z=>by
  cases q:s.heap.get? b with
  |none=>rfl
  |some o =>
   obtain⟨o',e⟩:=I.base.there b o q (by simp[z7e]);rw[z]at e;cases e
 obtain⟨a1,a2,a0,oe,vs,T,oT,ts,g1,g2,g3,g4,g5,g6,r⟩:=fly;exact⟨up _ a1,a2,a0,oe,vs,T,oT,ts,g1,g2,g3,g4,g5,up _ g6,r⟩
end
def zb9{K:yyF}{h:Heap}{C:Addr}{bmB:List Value}{newId:String}(X:K.In h)(e:PySem.W.excIn K C bmB newId=true):∃bm N nm q bs hdct sn sub ab col dd k0 k1 k2 k3 k5 mN, h.get? C=some (excClassObj nm q C N bs bm hdct sn sub ab col dd k0 k1 k2 k3 k5 newId)/\h.Ns N mN/\mN "__init__"=none/\OwnTail h bmB bm:=by
 unfold PySem.W.excIn at e;split at e
 .rename_i dict cd sl hl;split at e
  .rename_i C' bm a0 a1 a2 a3 n a5 hm hs;simp only[y3s,y3d,Bool.not_eq_true']at e;obtain⟨⟨⟨⟨⟨e1,e2⟩,e3⟩,e4⟩,e5⟩,e6⟩:=e;have hC:=X C _ hl;subst e1 e2;have hsl:sl=#[a0,a1,a2,a3,some (Value.builtin n),a5]:=by rw[<-Array.toArray_toList (xs:=sl),hs]
   obtain⟨nm,bs,mro,ns,q,hd,sn,sub,ab,col,hdel⟩:=cd;simp only at hm e3 e5 e6;subst hm e3 hsl;exact⟨bm,ns,nm,q,bs,hd,sn,sub,ab,col,dict,a0,a1,a2,a3,a5,h.nsMap ns,hC,Heap.Ns.of_isNs (PySem.W.isNs_of_in X e5),PySem.W.nsMap_none_of_in X e5 e6,PySem.W.tail_of_in X e4⟩
  .cases e
 .cases e
def z9k{h:Heap}{bmB bm:List Value}{v:Value}(t:OwnTail h bmB bm)(hb:bmB.contains v=true):bm.contains v=true:=by
 induction t with
 |base=>exact hb
 |own _ _ _ _ ih=>rw[List.contains_cons,ih];simp
section
variable{P:Program}{w:World}{K:yyF}{mg:yyS}{base:Heap}{N:List Str}{qual:Str}{scope:Scope}{f:Addr}{cd:Value}{A:Around}{outer:List Env}{s0:Shared}{H0:Hp}{E:XK}
def z9a{x:Str}{C:Addr}{B newId initId:String}{bmB:List Value}{arg:Expr}{ta:TE}{np cpos pos:Pos}(hx:mg x=some (.ref C))(hg:Gl (z7e (CXx P w) P w K mg base N qual scope f cd A outer s0 H0 E) x)(he:PySem.W.excIn K C bmB newId=true)(hB:ExcBaseFacts B newId initId bmB)(ha:PE (z7e (CXx P w) P w K mg base N qual scope f cd A outer s0 H0 E) arg ta)(htr:backTo cpos (starEach [arg] (z7e (CXx P w) P w K mg base N qual scope f cd A outer s0 H0 E).env)=[(false,eval arg (z7e (CXx P w) P w K mg base N qual scope f cd A outer s0 H0 E).env)]:=by rfl)(hdb:(x==("__debug__":Str))=false:=by decide) : PS (z7e (CXx P w) P w K mg base N qual scope f cd A outer s0 H0 E) (.Raise (some (.Call (.Name x np) [arg] [] cpos)) none pos) (fun D σ H=>ta σ H fun v H1=>∀ea,E (.ref ea) (some C) H1):=by
 intro pins s σ H D I h;obtain⟨bm,NN,nm,q,bs,hd,sn,sub,ab,col,dict,a0,a1,a2,a3,a5,mN,hC,hN,hi,ht⟩:=zb9 I.ok.mod.kin he;refine wpAny_Raise_call_subT (nm:=nm) (q:=q) (N:=NN) (bs:=bs) (hdct:=hd) (sn:=sn) (sub:=sub) (ab:=ab) (col:=col) (dd:=dict) (k0:=a0) (k1:=a1) (k2:=a2) (k3:=a3) (k5:=a5) hB (z9k ht hB.hasBase) (I.ok.hd rfl) (by rw[htr];rfl) hi (z5b I hg hx ⟨rfl,?_⟩ hdb);rw[htr];refine y3y (y2Z (z1Y (ha pins s σ H _ I h) fun u s2 v H2 I2 r2 q2=>Calls.spliced_nil ?_));have bk:=I2.bk;refine⟨rfl,by show 1<=sizeLine;decide,bk _ _ hC,hN.keeps bk,ht.keeps bk,fun h' e me=>?_⟩;obtain⟨kp,nw,t,g1,g2,g3⟩:=me;have J:=I2.kept (h':=h') (t':=s2.toks) kp;refine zfY J (.inl ⟨?_,?_,_,_,_,g1,⟨rfl,rfl⟩,rfl,rfl⟩) (q2 e)
 .cases z:s0.heap.get? e with
  |none=>rfl
  |some o =>
   obtain⟨o',e'⟩:=I2.base.there e o z (by simp[z7e]);rw[nw]at e';cases e'
 .cases z:H2 e with
  |none=>rfl
  |some o =>
   obtain⟨ob,hob⟩:=z9l (I2.hok e o z);rw[nw]at hob;cases hob
end
section
variable{P:Program}{w:World}
def zcM{M:Model}{A:Around}{E:yyE}{Q:Unit->Shared->Prop}{s:Shared}{fr:List Addr}{H1 H':Hp}{h1:Heap}{env:Env}{outer:List Env}{ea C:Addr}{base:Heap}(FF:s.heap.FunFrames base (env::outer))(u:Un fr [] H1 H' h1 s.heap)(hok:HOk P w H' s.heap)(hfr:∀b∈frs (env::outer),H' b=none/\(b∈fr\/h1.get? b=none))(hfr2:∀b∈fr,b∈frs (env::outer))(hf:Fly h1 H' s.heap ea C)(k:∀h',Un fr [] H1 H' h1 h'->HOk P w H' h'->Fly h1 H' h' ea C->Q () { s with heap:=h' }):wpAny M A (setFlight (.ref ea) none) Q E s:=by obtain⟨he1,heH,a0,oe,vs,T,oT,ts,g1,g2,g3,g4,g5,g6,g7,g8,g9,g10⟩:=hf;have FF':s.heap.FunFrames (PySem.W.hideAll s.heap (ea::([T]++frs (env::outer)))) (env::outer):=z1q FF fun b hb=>y0Z _ (by simp[hb]);refine lands_againW (base:=PySem.W.hideAll s.heap (ea::([T]++frs (env::outer)))) (l:=env::outer) (cls:=.ref C) (a0:=a0) ⟨fun b o e=>y2u _ e,y0Z _ (by simp),FF',oe,vs,T,oT,ts,g1,g2,g3,g4,y0Z _ (by simp),g5,g8,g9,g10⟩ fun h' fl up=>?_;obtain⟨f1,f2,f3,f4⟩:=fl;obtain⟨a,b,c⟩:=z7a (hid:=[T]) FF u hok hfr hfr2 he1 heH (fun b hb=>by rw[y08.mp hb];exact⟨g6,g7⟩) ⟨f1,f3,f4,up⟩;exact k h' a b c
def zee{M:Model}{A:Around}{E:yyE}{Q:Unit->Shared->Prop}{s:Shared}{fr:List Addr}{H1 H':Hp}{h1:Heap}{env:Env}{outer:List Env}{L ea C:Addr}{base:Heap}(hA:A.frames=some (env::outer))(hL:env.frame=some L)(FF:s.heap.FunFrames base (env::outer))(u:Un fr [] H1 H' h1 s.heap)(hok:HOk P w H' s.heap)(hfr:∀b∈frs (env::outer),H' b=none/\(b∈fr\/h1.get? b=none))(hfr2:∀b∈fr,b∈frs (env::outer))(hf:Fly h1 H' s.heap ea C)(k:∀h',Un fr [] H1 H' h1 h'->HOk P w H' h'->Fly h1 H' h' ea C->Q () { s with heap:=h' }):wpAny M A (noteFrame (.ref ea) env) (fun _ s2=>wpAny M A (setFlight (.ref ea) none) Q E s2) E s:=by
 obtain⟨he1,heH,a0,oe,vs,T,oT,ts,g1,g2,g3,g4,g5,g6,g7,g8,g9,g10⟩:=hf;have FF':s.heap.FunFrames (PySem.W.hideAll s.heap (ea::([T]++frs (env::outer)))) (env::outer):=z1q FF fun b hb=>y0Z _ (by simp[hb]);refine wpAny_noteFrame_onW hA FF' hL ⟨oe,vs,T,oT,ts,g1,g2,g3,g4,y0Z _ (by simp),g5,g8,g9,g10⟩ (fun b o e=>y2u _ e) (y0Z _ (by simp)) fun h2 nt=>?_;obtain⟨n1,n2,n3,n4⟩:=nt;refine wpAny_landsW (L:=L) ⟨n1,y0Z _ (by simp),n2,n3⟩ fun h' fl up=>?_;obtain⟨f1,f2,f3,f4⟩:=fl;have lw:(PySem.W.hideAll s.heap (ea::([T]++frs (env::outer)))).LeftW (env::outer) ea (.ref C) a0 s.heap h':=⟨f1,f3,f4,fun b o e hd=>by obtain⟨s1,e1⟩:=n4 b o e hd;obtain⟨s2,e2⟩:=up b _ e1 hd;exact⟨s2,e2⟩⟩
 obtain⟨a,b,c⟩:=z7a (hid:=[T]) FF u hok hfr hfr2 he1 heH (fun b hb=>by rw[y08.mp hb];exact⟨g6,g7⟩) lw;exact k h' a b c
end
abbrev Cx.sup(X:Cx)(e:Addr):Cx:={ X with A:=X.A.mark (some (.ref e)),calm:=false,xe:=fun _ _=>False }
abbrev Cx.tried(X:Cx)(pn:yyP)(E:yyE):Cx:={ X with pn:=pn,xe:=E }
theorem Cx.Ok.sup{X:Cx}(ok:X.Ok)(e:Addr):(X.sup e).Ok :=
 ⟨ok.mod,ok.kind,ok.glob,ok.blt,ok.above,ok.inj,ok.has,ok.cab,fun z=>(by cases z),ok.frames,ok.stk,ok.exf,ok.bs,ok.bsz,ok.noex,ok.exfs,ok.funs,ok.frf⟩
theorem Cx.Ok.tried{X:Cx}(ok:X.Ok)(pn:yyP)(E:yyE):(X.tried pn E).Ok :=
 ⟨ok.mod,ok.kind,ok.glob,ok.blt,ok.above,ok.inj,ok.has,ok.cab,ok.hd,ok.frames,ok.stk,ok.exf,ok.bs,ok.bsz,ok.noex,ok.exfs,ok.funs,ok.frf⟩
def XE(C:Addr)(n:Nat)(th:TS)(D:z3Q):XK:=fun _ C' H'=>C'=some C/\∀σ:St,σ.length=n->th D σ H'
def zgc{X:Cx}{x:Str}{C:Addr}{newId:String}{bmB:List Value}{np hpos pos:Pos}{body suite:List Stmt}{b₀:Stmt}{tb:z3Q->TS}{th:TS}(hfr:X.env.frame=some X.env.locals)(hstk:X.stack=X.env::X.outer)(hx:X.mg x=some (.ref C))(hg:Gl X x)(he:PySem.W.excIn X.K C bmB newId=true)(hB:bmB.contains (.type "BaseException")=true)(hb:∀pn E1 D,z5l (CXx X.prog X.w) (X.tried pn E1) (XE C X.N.length th D)->PSs (X.tried pn E1) body (tb D))(hs:∀e,PSs (X.sup e) (b₀::suite) th)(hdb:(x==("__debug__":Str))=false:=by decide) : PS X (.Try body [.ExceptHandler (some (.Name x np)) none (b₀::suite) hpos] [] [] pos) (fun D σ H=>tb D D σ H):=by
 intro pins s σ H D I h;refine wpAny_Try_except ?_;have pass:z5l (CXx X.prog X.w) (X.tried (X.pn++pins) fun e s₁=>wpAny (model X.prog X.w) X.A (noteFrame e X.env) (fun _ s₂=>wpAny (model X.prog X.w) X.A (setFlight e none) (fun _ s₃=>wpAny (model X.prog X.w) X.A (handleBy e X.env [.ExceptHandler (some (.Name x np)) none (b₀::suite) hpos]) (SP X pins D) X.xe s₃) X.xe s₂) X.xe s₁) (XE C X.N.length th D):=by
  intro pins' σ' H1 s1 e s' I1 hx';obtain⟨ea,Ce,H',rfl,os,bare,un,hok,fly,hC,hth⟩:=hx';cases hC;have J:=I1.call' (ch:=[]) os un hok bare (fun b z=>absurd z (by simp));have FF:s'.heap.FunFrames X.base (X.env::X.outer):=by have:=J.stack;rw[show(X.tried (X.pn++pins) _).stack=X.stack from rfl,hstk]at this;exact this
  have un':Un (frs (X.env::X.outer)) [] H1 H' s1.heap s'.heap:=by rw[<-hstk];exact un
  have hfree:∀b∈frs (X.env::X.outer),H' b=none/\(b∈frs (X.env::X.outer)\/s1.heap.get? b=none):=fun b hb=>⟨J.stkFree b (by show b∈frs X.stack;rw[hstk];exact hb),.inl hb⟩;refine zee (P:=X.prog) (w:=X.w) (fr:=frs (X.env::X.outer)) (H1:=H1) (H':=H') (h1:=s1.heap) (base:=X.base) (outer:=X.outer) (L:=X.env.locals) (by rw[I.ok.frames,hstk]) hfr FF un' hok hfree (fun b hb=>hb) fly fun h2 u2 k2 f2=>?_;have mk:∀h3,Un (frs (X.env::X.outer)) [] H1 H' s1.heap h3->HOk X.prog X.w H' h3->Inv (X.sup ea) pins σ' H' { s' with heap:=h3 }:=fun h3 u3 k3=>by have J3:=I1.call' (s':={ s' with heap:=h3 }) (ch:=[]) os (by show Un (frs X.stack) [] H1 H' s1.heap h3;rw[hstk];exact u3) k3 bare (fun b z=>absurd z (by simp));exact⟨I.ok.sup ea,J3.os,J3.bare,J3.base,J3.loc,J3.cell,J3.free,J3.freeC,fun p hp=>J3.pin p (y0t _ hp),J3.hok,J3.len⟩
  have J2:=mk h2 u2 k2;obtain⟨bm,NN,nm,q,bs,hd,sn,sub,ab,col,dict,a0,a1,a2,a3,a5,mN,hC,hN,hi,ht⟩:=zb9 J2.kIn he;refine wpAny_handleBy_cons (codeAny_handlers_test (z5b J2 hg hx ?_ hdb)) (by intro z;cases z);obtain⟨_,_,b0,oe,vs,T,oT,ts,g1,⟨g2,_⟩,_⟩:=id f2;refine wpAny_excMatches_sub_self hC g1 g2 (z9k ht hB) ?_;refine codeAny_handlers_suite ?_;refine zcM (P:=X.prog) (w:=X.w) (fr:=frs (X.env::X.outer)) (H1:=H1) (H':=H') (h1:=s1.heap) (base:=X.base) (env:=X.env) (outer:=X.outer) (by have:=J2.stack;rw[show(X.sup ea).stack=X.stack from rfl,hstk]at this;exact this) u2 k2 hfree (fun b hb=>hb) f2 fun h3 u3 k3 f3=>?_;have J3:=mk h3 u3 k3;refine y0Y (hs ea pins _ σ' H' D J3 (hth σ' J3.len)) (fun f s4 sp=>?_) fun _ _ z=>False.elim z;have z2B:∀{σ4 H4},Inv (X.sup ea) pins σ4 H4 s4->Inv X pins σ4 H4 s4:=fun K4=>⟨I.ok,K4.os,K4.bare,K4.base,K4.loc,K4.cell,K4.free,K4.freeC,K4.pin,K4.hok,K4.len⟩;cases f with
  |next=>obtain⟨σ4,H4,K4,q⟩:=sp;exact⟨σ4,H4,z2B K4,q⟩
  |brk=>obtain⟨σ4,H4,K4,q⟩:=sp;exact⟨σ4,H4,z2B K4,q⟩
  |cont=>obtain⟨σ4,H4,K4,q⟩:=sp;exact⟨σ4,H4,z2B K4,q⟩
  |ret u=>obtain⟨v,σ4,H4,K4,r,q⟩:=sp;exact⟨v,σ4,H4,z2B K4,r,q⟩
 have I0:∀E,Inv (X.tried (X.pn++pins) E) [] σ H s:=fun E=>⟨I.ok.tried _ _,I.os,I.bare,I.base,I.loc,I.cell,I.free,I.freeC,fun p hp=>I.pin p (by rw[y1p]at hp;exact hp),I.hok,I.len⟩;refine y0Y (hb (X.pn++pins) _ D pass [] s σ H D (I0 _) h) (fun f s1 sp=>?_) fun e s1 z=>z;have z2B:∀{E σ4 H4 s4},Inv (X.tried (X.pn++pins) E) [] σ4 H4 s4->Inv X pins σ4 H4 s4:=fun K4=>⟨I.ok,K4.os,K4.bare,K4.base,K4.loc,K4.cell,K4.free,K4.freeC,fun p hp=>K4.pin p (by rw[y1p];exact hp),K4.hok,K4.len⟩;cases f with
 |next=>obtain⟨σ4,H4,K4,q⟩:=sp;exact y2X ⟨σ4,H4,z2B K4,q⟩
 |brk=>obtain⟨σ4,H4,K4,q⟩:=sp;exact⟨σ4,H4,z2B K4,q⟩
 |cont=>obtain⟨σ4,H4,K4,q⟩:=sp;exact⟨σ4,H4,z2B K4,q⟩
 |ret u=>obtain⟨v,σ4,H4,K4,r,q⟩:=sp;exact⟨v,σ4,H4,z2B K4,r,q⟩
open PySem.SeqAt
section
variable{X:Cx}
end
end L2
namespace Gu
open PySem L2
def zaW(rows:List Row)(ks:List Int):Prop:=∃(α:Type)(_:DecidableEq α)(key:Int->α),ks=z2o ((z0y rows.length).map key)
def zfD(rows:List Row):zaW rows (z2o (rows.map (·.1))):=⟨List Int,inferInstance,fun x=>(row rows x).1,by rw[z5c rows (·.1)]⟩
def zeb{rows:List Row}{ks:List Int}(h:ks.length=rows.length):zaW rows (z2o (z3k ks rows)):=⟨Int × List Int,inferInstance,zeG rows ks,by rw[z44 h]⟩
def zdI{n:Nat}{rows:List Row}(G:z4d n rows){ks:List Int}(h:zaW rows ks):cnt ks<=cnt (z2o (z3k ks rows)):=by
 obtain⟨α,ia,key,rfl⟩:=h;rw[z44 (by rw[z3B,y01,z0H]),z4w (z6I G.some),z4w (z6I G.some)];have h1:=z75 (L:=rows.length) (key:=key);have h2:=(z2H (kf (z2o ((z0y rows.length).map key))) (zeG rows (z2o ((z0y rows.length).map key))) (z0y rows.length) fun x hx y hy e=>by unfold zeG at e;exact(Prod.mk.inj e).1).1
 lia
theorem z5H{n:Nat}{rows:List Row}(G:z4d n rows):∀(m:Nat)(c:Int)(ks:List Int),zaW rows ks->z5v rows ks->cnt ks<=cnt (z5s rows m c ks)
 |0,c,ks,h,_=>y0Q _
 |m+1,c,ks,h,hg=>by
  unfold z5s;by_cases hc:c<cnt ks
  .rw[if_pos hc];exact Int.le_trans (zdI G h) (z5H G m _ _ (zeb hg.len) (zcw hg))
  .rw[if_neg hc];exact y0Q _
def zf1{n:Nat}{rows:List Row}(G:z0e n rows):((shr rows).length:Int)=cnt (z2M (z0G rows)):=by
 have GF:=z2C G;obtain⟨R,N⟩:=z50 GF;rw[<-z57 G];unfold za9;rw[z4f (z3Z GF).len N GF.go];unfold z1J;have hm:=z1R (kf (z2M (z0G rows))) (z0y (z0G rows).length);have:(z0z (kf (z2M (z0G rows))) (z0y (z0G rows).length)).length=(z0w ((z0y (z0G rows).length).map (kf (z2M (z0G rows))))).length:=by rw[<-hm,y01]
 rw[y01,this];obtain⟨α,ia,key,e⟩:=N;rw[e,z75,z4w (z6I GF.some)]
def z26{n:Nat}{rows:List Row}(G:z0e n rows):(shr rows).length<=rows.length:=by obtain⟨L,cl⟩:=z0m G;have hl:=L.len;have hh:=(z1g (kOf rows) (z0b rows)).2.2;unfold shr z1J;rw[y01];lia
def z0I{n:Nat}{rows:List Row}(G:z0e n rows):z0e n (shr rows):=by
 obtain⟨L,cl⟩:=z0m G;obtain⟨h1,h2,h3⟩:=z1g (kOf rows) (z0b rows);have hl:=z26 G;have hf:=G.few;obtain⟨r0,t0,e0,_⟩:=zgm G;have hm:∀r∈shr rows,∃x∈z0b rows,r=((row rows x).1,(row rows x).2.map fun g=>((((z0z (kOf rows) (z0b rows)).map (kOf rows)).idxOf (kOf rows g):Nat):Int)):=fun r hr=>by unfold shr z1J at hr;obtain⟨x,hx,e⟩:=y0b.mp hr;exact⟨x,h2 x hx,e.symm⟩
 refine⟨by lia,by rw[e0];simp,fun r hr=>?_,fun r hr=>?_,fun r hr g hg=>?_⟩
 .obtain⟨x,hx,rfl⟩:=hm r hr;exact G.perm (row rows x) (z0c (L.rg x hx).1 (L.rg x hx).2)
 .obtain⟨x,hx,rfl⟩:=hm r hr;show(List.map _ _).length=n;rw[y01];exact G.len _ (z0c (L.rg x hx).1 (L.rg x hx).2)
 .obtain⟨x,hx,rfl⟩:=hm r hr;obtain⟨y,hy,rfl⟩:=y0b.mp hg;have:=y0P (h1 y (cl x hx y hy));rw[y01]at this;unfold shr z1J;rw[y01];lia
def z3m{n:Nat}{rows:List Row}(G:z0e n rows):shr (shr rows)=shr rows:=by
 obtain⟨L,cl⟩:=z0m G;have C:=z2d G;have R:=z2z G;obtain⟨h1,h2,h3⟩:=z1g (kOf rows) (z0b rows);obtain⟨t,et⟩:=L.hd;refine(z5i (M':=rows) (M:=shr rows) (h:=fun x=>((((z0z (kOf rows) (z0b rows)).map (kOf rows)).idxOf (kOf rows x):Nat):Int)) G (z0I G) ?_ fun x hx=>?_).symm
 .obtain⟨t',et'⟩:=z6X (kOf rows) 0 t;show((((z0z (kOf rows) (z0b rows)).map (kOf rows)).idxOf (kOf rows 0):Nat):Int)=0;rw[et,et',y0l,y22];simp
 .have hy:∃y,(z0z (kOf rows) (z0b rows))[((z0z (kOf rows) (z0b rows)).map (kOf rows)).idxOf (kOf rows x)]?=some y/\kOf rows y=kOf rows x:=by
   have hlt:=y0P (h1 x hx);have hg:=y1x hlt;rw[y01]at hlt;rw[y18]at hg;exact⟨_,y00 hlt,hg⟩
  show row (shr rows) ((((z0z (kOf rows) (z0b rows)).map (kOf rows)).idxOf (kOf rows x):Nat):Int)=_;generalize((z0z (kOf rows) (z0b rows)).map (kOf rows)).idxOf (kOf rows x)=j at hy⊢;obtain⟨y,ey,hg⟩:=hy;have hhd:y∈z0b rows:=h2 _ (y0z ey);have eb:=(R _ hhd x hx).mp hg;have er:row (shr rows) ((j:Nat):Int)=((row rows y).1,(row rows y).2.map fun g=>((((z0z (kOf rows) (z0b rows)).map (kOf rows)).idxOf (kOf rows g):Nat):Int)):=by
   unfold row shr z1J;have:((j:Nat):Int).toNat=j:=by lia
   rw[this,y02,y04,ey];rfl
  rw[er];refine y2x ?_ ?_
  .exact congrFun eb []
  .show List.map _ _=List.map _ _;refine y1U (by rw[y01,y01,C.len y hhd,C.len x hx]) fun i i1 i2=>?_;rw[y01]at i1 i2;rw[y18,y18];have b1:(row rows y).2.getD i 0=(row rows y).2[i]:=by rw[y02,y00 i1];rfl
   have b2:(row rows x).2.getD i 0=(row rows x).2[i]:=by rw[y02,y00 i2];rfl
   have a1:=C.go hhd i;have a2:=C.go hx i;rw[b1]at a1;rw[b2]at a2;have hb:beh rows (row rows y).2[i]=beh rows (row rows x).2[i]:=by rw[<-b1,<-b2];exact funext fun w=>congrFun eb (i::w)
   rw[(R _ a1 _ a2).mpr hb]
def TMx(Ct:Addr)(E:XK)(H:Hp):Prop:=∀(ea:Addr)(H':Hp),z0d H H'->E (.ref ea) (some Ct) H'
def z77(K:yyF)(Ct:Addr):Sp:=fun vs H Q E=>∃(a:Addr)(n:Nat)(rows:List Row),vs=[.ref a]/\z3x K H a rows/\z4d n rows/\n<=60/\(cnt (z2M rows)<=60->∀(r:Addr)(H':Hp),z0d H H'->H' r=some (.lst ((z2M rows).map V.int))->Q (.ref r) H')/\(60<cnt (z2M rows)->TMx Ct E H)
end Gu
namespace L2
open PySem PySem.Spec PyProof.Rows
def Fun.okx{CX:CXT}{P:Program}{w:World}{K:yyF}{mg:yyS}{base:Heap}{x qual:Str}{st:Stmt}{f:Addr}{fd:FuncData}{N ps:List Str}{k:Nat}{sp:Sp}(F:Fun K x qual st f fd)(S:z0q N ps (z05 st))(len:∀vs H Q E,sp vs H Q E->vs.length=ps.length)(hbody:∀(cdv:Value)(A:Around)(outer:List Env)(s:Shared)(H:Hp)(vs:List V)(Q:VK)(E:XK),z38 k (A.deeper (envOfC qual (z05 st) s.heap.objs.size f cdv))->sp vs H Q E -> ∃t,PSs (z7e CX P w K mg base N qual (z05 st) f cdv A outer s H E) (z0M st) t/\t { nx:=fun _ H'=>Q .non H',rt:=Q } (z5z N vs) H):z0C P w K mg base CX (k+1) f fd ps sp:=by obtain⟨oc,od,kV,doc,pm,an,cdv,ct,osl,rfl,lk,hcd⟩:=F.ex;exact zf2 lk hcd S len fun A outer s H vs Q E hr hsp=>hbody cdv A outer s H vs Q E hr hsp
open PySem.SeqAt
section
variable{X:Cx}
end
end L2
namespace Gu
def zeQ{l:List Int}{i:Nat}(h:i<l.length):l.getD i 0=l[i]:=by rw[y02,y00 h];rfl
open PySem L2
end Gu
namespace L2
open PySem PySem.Spec PyProof.Rows
abbrev frO(o:Obj):HO:=.frz o (.ext fun _=>True)
section
variable{P:Program}{w:World}{H H1:Hp}{h:Heap}{a:Addr}{o:Obj}
def z7o(e:h.get? a=some o):z1V P w H h a (frO o):=⟨e,trivial,⟨o,e⟩,fun _ _ _ _=>trivial⟩
def z4l(x:HOk P w H h)(e:H a=some (frO o)):h.get? a=some o:=(x a _ e).1
end
def utk(H:Hp)(cs:List Addr):Hp:=fun b=>if b∈cs then none else H b
def rtk(H H1:Hp)(cs:List Addr):Hp:=fun b=>if b∈cs then H b else H1 b
def z5L{H:Hp}{cs:List Addr}{b:Addr}(h:b∈cs):utk H cs b=none:=if_pos h
def z1p{H:Hp}{cs:List Addr}{b:Addr}(h:b∉cs):utk H cs b=H b:=if_neg h
def zcu{H H1:Hp}{cs:List Addr}{b:Addr}(h:b∈cs):rtk H H1 cs b=H b:=if_pos h
def z2Q{H H1:Hp}{cs:List Addr}{b:Addr}(h:b∉cs):rtk H H1 cs b=H1 b:=if_neg h
theorem z0d.rtk{H H1:Hp}{cs:List Addr}(s:z0d (utk H cs) H1):z0d H (L2.rtk H H1 cs):=fun b o e=>by
 by_cases hb:b∈cs
 .rw[zcu hb];exact e
 .rw[z2Q hb];exact s b o (by rw[z1p hb];exact e)
def z0d.rtk'{H H1:Hp}{cs:List Addr}(hn:∀c∈cs,H1 c=none):z0d H1 (L2.rtk H H1 cs):=fun b o e=>by
 have hb:b∉cs:=fun z=>by rw[hn b z]at e;cases e
 rw[z2Q hb];exact e
def z8P{H:Hp}{cs:List Addr}(hc:∀c∈cs,∃ob,H c=some (frO ob)){b:Addr}{o:HO}(e:H b=some o)(ne:∀ob,o≠frO ob):utk H cs b=some o:=by
 have hb:b∉cs:=fun z=>by obtain⟨ob,q⟩:=hc b z;rw[e]at q;exact ne ob (y07 q)
 rw[z1p hb];exact e
def z69(H:Hp)(f:Addr)(params:Arguments)(body:Expr)(scope:Scope)(qual:Str)(N:List Str)(fv:St):Prop :=
 ∃(clos:List (Str × Addr)) (cs:List Addr) (pm:Value) (c':Addr) (ctv:Value) (oc:Obj) (vs:Array Value) (t:Tok),H f=some (frO (PySem.W.kla_obj "<lambda>" qual params body scope clos pm c' ctv))/\H c'=some (frO oc)/\oc.data=.fields vs/\vs[1]?=some (.str qual t) /\
  (∀x y c,clos.lookup x=some c->clos.lookup y=some c->x=y)/\(∀x c,clos.lookup x=some c->c∈cs)/\(∀c∈cs,(∃x,clos.lookup x=some c)/\∃o u,H c=some (frO o)/\o.data=.cell u)/\(∀x,scope.names.lookup x=some .free->∃c,clos.lookup x=some c) /\
  ∀(i:Nat) x v,N[i]?=some x->fv[i]?=some (some v)->∃c o u,clos.lookup x=some c/\H c=some (frO o)/\o.data=.cell (some u)/\z0Z v u
def z69.mono{H H':Hp}{f:Addr}{params:Arguments}{body:Expr}{scope:Scope}{qual:Str}{N:List Str}{fv:St}(h:z69 H f params body scope qual N fv)(s:z0d H H'):z69 H' f params body scope qual N fv:=by
 obtain⟨clos,cs,pm,c',ctv,oc,vs,t,e1,e2,e3,e4,e5,e5',e6,e7,e8⟩:=h;refine⟨clos,cs,pm,c',ctv,oc,vs,t,s _ _ e1,s _ _ e2,e3,e4,e5,e5',fun c hc=>?_,e7,fun i x v h1 h2=>?_⟩
 .obtain⟨hx,o,u,q,d⟩:=e6 c hc;exact⟨hx,o,u,s _ _ q,d⟩
 .obtain⟨c,o,u,q1,q2,q3⟩:=e8 i x v h1 h2;exact⟨c,o,u,q1,s _ _ q2,q3⟩
structure zfq(N ps:List Str)(sc:Scope):Prop where
 kind:sc.kind=.function:=by rfl
 co:sc.isCoroutine=false:=by rfl
 gen:sc.isGenerator=false:=by rfl
 nd:N.Nodup:=by decide +kernel
 pre:N.take ps.length=ps:=by rfl
 par:∀x∈ps,sc.names.lookup x=some .local:=by decide +kernel
 nocell:∀y∈sc.names,y.2≠.cell:=by decide +kernel
 fr:∀x∈N.drop ps.length,sc.names.lookup x=some .free:=by decide +kernel
def z8j(vs:List V)(fv:St):St:=vs.map some++fv.drop vs.length
def zd4(P:Program)(w:World)(K:yyF)(mg:yyS)(base:Heap)(N:List Str)(qual:Str)(scope:Scope)(f:Addr)(cd:Value)(clos:List (Str × Addr))(A:Around)(outer:List Env)(s:Shared)(H:Hp):Cx where
 prog:=P
 w:=w
 K:=K
 mg:=mg
 base:=base
 A:=A.deeper (PySem.W.envX qual scope s.heap.objs.size f cd clos)
 N:=N
 s₀:=s
 H₀:=H
 env:=PySem.W.envX qual scope s.heap.objs.size f cd clos
 outer:=outer
 stack:=PySem.W.envX qual scope s.heap.objs.size f cd clos::outer
 ex:=[]
 calm:=true
 fn:=fun _=>false
 pn:=[]
 xe:=noE
def z7s{ps:List Str}{us:List Value}{i:Nat}{x:Str}{u:Value}(nd:ps.Nodup)(hp:ps[i]?=some x)(hu:us[i]?=some u):(ps.zip us).reverse.lookup x=some u:=by
 have hm:(x,u)∈(ps.zip us).reverse:=List.mem_reverse.mpr (y0z (i:=i) (by rw[y12];exact⟨hp,hu⟩));have key:∀l:List (Str × Value),(∀v,(x,v)∈l->v=u)->(x,u)∈l->l.lookup x=some u:=by
  intro l;induction l with
  |nil=>intro _ h;cases h
  |cons q r ih =>
   intro h1 h2;obtain⟨y,v⟩:=q;rw[y17];by_cases e:x=y
   .subst e;rw[show(x==x)=true by simp];exact y28 some (h1 v y0m)
   .rw[show(x==y)=false by simpa using e];refine ih (fun v hv=>h1 v (y09 _ hv)) ?_;rcases y0x.mp h2 with z|z
    .injection z with z1 _;exact absurd z1 e
    .exact z
 refine key _ (fun v hv=>?_) hm;obtain⟨j,hj,ej⟩:=y1q (List.mem_reverse.mp hv);have e1:(ps.zip us)[j]?=some (x,v):=by rw[y00 hj,ej]
 rw[y12]at e1;have:j=i:=z7b nd e1.1 hp;subst this;rw[hu]at e1;exact(y07 e1.2).symm
def zeC{CX:CXT}{P:Program}{w:World}{K:yyF}{mg:yyS}{base:Heap}{k:Nat}{H:Hp}{f:Addr}{params:Arguments}{body:Expr}{scope:Scope}{qual:Str}{N ps:List Str}{fv:St}(C:z69 H f params body scope qual N fv)(S:zfq N ps scope)(hbind:∀(cl:List (Str × Addr)) (pm cdv ct:Value) (us:List Value),us.length=ps.length->bindArgs (PySem.W.kla_fn "<lambda>" qual params body scope cl pm cdv ct) ⟨us,[]⟩=pure (ps.zip us))(hfv:fv.length=N.length){A:Around}{outer:List Env}{s:Shared}{us:List Value}{vs:List V}{Q:VK}{E:XK}(hr:z38 (k+1) A)(e0:zaz P w K mg base A outer s H)(r:z1h vs us)(hl:vs.length=ps.length)(hbody:∀(cd:Value) (clos:List (Str × Addr)) (cs:List Addr),z38 k (A.deeper (PySem.W.envX qual scope s.heap.objs.size f cd clos))->(∀c∈cs,∃o,H c=some (frO o)) -> ∃t,PE (zd4 P w K mg base N qual scope f cd clos A outer s (utk H cs)) body t/\t (z8j vs fv) (utk H cs) fun v H1=>(∀c∈cs,H1 c=none)->Q v (rtk H H1 cs)) : codeAny (model P w) A (.call (.ref f) ⟨us,[]⟩) (CR CX outer P w H s Q E) s:=by
 obtain⟨clos,cs,pm,c',ctv,oc,vs',t,e1,e2,e3,e4,e5,hcl,e6',e7,e8⟩:=C;have e6:∀c∈cs,∃o u,H c=some (frO o)/\o.data=.cell u:=fun c hc=>(e6' c hc).2;obtain⟨tb,hPE,hq⟩:=hbody (.ref c') clos cs (hr.deeper _) (fun c hc=>let⟨o,_,q,_⟩:=e6 c hc;⟨o,q⟩);have KX:K.In s.heap:=e0.mod.kin.keeps fun b o e=>(e0.bs b o e).1;have lim:s.heap.NoLimit:=e0.mod.nolimit.keeps fun b o e=>(e0.bs b o e).1;have hul:us.length=ps.length:=by rw[<-r.length];exact hl
 refine PySem.W.kla_callFunE hr.depth (z4l e0.hok e1) rfl S.co S.gen rfl ⟨c',oc,vs',t,rfl,z4l e0.hok e2,e3,e4⟩ ?_;rw[hbind clos pm (.ref c') ctv us hul];refine y0g (y2P S.nocell (fun y hy=>S.par y.1 (y2C hy).1) (fun h₁ hns hsb=>?_) S.kind);have hk₁:∀b o,s.heap.get? b=some o->h₁.get? b=some o:=fun b o e=>hsb.extBut b o (y0C (y0h e)) (y06 _ e);refine⟨lim.keeps hk₁,?_⟩;show codeAny _ _ (.expr body (PySem.W.envX qual scope s.heap.objs.size f (.ref c') clos)) _ _;have hcu:∀c∈cs,utk H cs c=none:=fun c hc=>z5L hc;have hclt:∀c∈cs,c<s.heap.objs.size:=fun c hc=>by obtain⟨o,_,q,_⟩:=e6 c hc;exact y0h (z4l e0.hok q)
 have hokU:HOk P w (utk H cs) s.heap:=fun b u e=>by
  have hb:b∉cs:=fun z=>by rw[z5L z]at e;cases e
  rw[z1p hb]at e;refine(e0.hok b u e).stay (fun _ _ _ q=>q) (fun c q=>?_) fun c xs q=>?_
  .exact z8P (fun c hc=>let⟨o,_,q,_⟩:=e6 c hc;⟨o,q⟩) q (fun ob z=>by cases z)
  .exact z8P (fun c hc=>let⟨o,_,q,_⟩:=e6 c hc;⟨o,q⟩) q (fun ob z=>by cases z)
 have noA:∀b:Addr,b∉(zd4 P w K mg base N qual scope f (.ref c') clos A outer s (utk H cs)).ex:=fun b z=>absurd (show b∈([]:List Addr)from z) (by simp);have nonU:∀{b:Addr},H b=none->utk H cs b=none:=fun{b} e=>by
  by_cases hb:b∈cs
  .exact z5L hb
  .rw[z1p hb];exact e
 have I:Inv (zd4 P w K mg base N qual scope f (.ref c') clos A outer s (utk H cs)) [] (z8j vs fv) (utk H cs) { s with heap:=h₁,toks:=s.toks+(ps.zip us).length }:=by
  refine⟨⟨e0.mod,S.kind,rfl,rfl,y0f _,e5,fun y hy=>?_,fun y c hf _=>?_,fun _=>hr.hd,Around.frames_deeper e0.frames,.inr ⟨rfl,rfl⟩,fun b z=>absurd z (noA b),fun b o e=>⟨(e0.bs b o e).1,nonU (e0.bs b o e).2⟩,e0.bsz,fun b _ _=>noA b,fun b z=>absurd z (noA b),e0.funs,fun b hb=>nonU (e0.frf b hb)⟩,
   rfl,e0.bare,Un.kept hk₁,⟨_,hns,fun i y v h1 h2 h3=>?_⟩,fun y c h=>?_,?_,fun y c h=>hcu c (hcl y c h),fun p hp=>absurd (show p∈([]:yyP)from hp) (by simp),hokU.kept hk₁,?_⟩
  .rcases hy with hy|hy
   .exact absurd rfl (S.nocell _ (y15 hy))
   .exact e7 y hy
  .exact absurd (show false=true from hf) y0R
  .by_cases hi:i<vs.length
   .have ha:vs[i]?=some v:=by
     unfold z8j at h2;rw[y11 (by simpa using hi),y04]at h2;cases e:vs[i]? with
     |none=>rw[e]at h2;cases h2
     |some a=>rw[e]at h2;cases h2;rfl
    obtain⟨u,hu,rv⟩:=r.get ha;have hp:ps[i]?=some y:=by rw[<-S.pre,y1Q (by lia)];exact h1
    have ndP:ps.Nodup:=by rw[<-S.pre];exact S.nd.sublist (y1F _ _)
    exact⟨u,rv,.inl ⟨S.par y (y0z hp),z7s ndP hp hu⟩⟩
   .have h2':fv[i]?=some (some v):=by
     unfold z8j at h2;rw[y13 (by simpa using hi),y01,y2y]at h2;rw[show vs.length+(i-vs.length)=i by lia]at h2;exact h2
    obtain⟨c,o,u,q1,q2,q3,q4⟩:=e8 i y v h1 h2';have hkk:scope.names.lookup y=some .local\/scope.names.lookup y=some .cell\/scope.names.lookup y=some .free:=h3;refine⟨u,q4,?_⟩;rcases hkk with z|z|z
    .have hm:y∈N.drop ps.length:=y0z (i:=i-ps.length) (by rw[y2y,show ps.length+(i-ps.length)=i by lia];exact h1);rw[S.fr y hm]at z;cases z
    .exact absurd rfl (S.nocell _ (y15 z))
    .exact .inr ⟨.inr z,c,q1,⟨o,hk₁ _ _ (z4l e0.hok q2),q3⟩⟩
  .obtain⟨o,u,q,d⟩:=e6 c (hcl y c h);exact⟨u,o,hk₁ _ _ (z4l e0.hok q),d⟩
  .exact nonU (e0.hok.fresh (y0f _))
  .unfold z8j;show _=N.length;have hpl:ps.length<=N.length:=by have:=y28 List.length S.pre;rw[y0s]at this;lia
   rw[y0a,y01,y3r,hfv];lia
 refine PySem.W.kla_codeExpr (y0Y (hPE [] _ (z8j vs fv) (utk H cs) _ I hq) (fun v' s' hs=>?_) fun e' s' hs=>False.elim hs);obtain⟨v,H1,J,rv,q1⟩:=hs;have hn1:∀c∈cs,H1 c=none:=fun c hc=>by obtain⟨⟨x,hx⟩,_⟩:=e6' c hc;exact J.freeC x c hx
 have U:Un (frs outer) [] (utk H cs) H1 s.heap s'.heap:=J.base;have hcs':∀c∈cs,∃ob,H c=some (frO ob):=fun c hc=>let⟨o,_,q,_⟩:=e6 c hc;⟨o,q⟩;have out:∀{b:Addr},H b=none->b∉cs:=fun{b} e z=>by obtain⟨o,q⟩:=hcs' b z;rw[e]at q;cases q
 have got:∀{b:Addr}{o:HO},(∀ob,o≠frO ob)->H b=some o->b∉cs:=fun{b o} ne e z=>by obtain⟨ob,q⟩:=hcs' b z;rw[e]at q;exact ne ob (y07 q)
 refine⟨v,rtk H H1 cs,J.os,J.bare,⟨fun b o e n hb hx=>?_,fun b o e n hb hx=>?_,fun b o e n hx=>?_,fun b o e hx=>U.there b o e hx,fun b xs e=>?_,fun b o u e=>?_,fun b ps e=>?_⟩,fun b u e=>?_,rv,q1 hn1⟩
 .exact U.keep b o e (nonU n) hb hx
 .exact U.slot b o e (nonU n) hb hx
 .rw[z2Q (out n)];exact U.free b o e (nonU n) hx
 .have hb:=got (fun ob z=>by cases z) e;rw[z2Q hb];exact U.tups b xs (by rw[z1p hb];exact e)
 .by_cases hb:b∈cs
  .rw[zcu hb];exact e
  .rw[z2Q hb];exact U.frzs b o u (by rw[z1p hb];exact e)
 .have hb:=got (fun ob z=>by cases z) e;obtain⟨more,q⟩:=U.tbls b ps (by rw[z1p hb];exact e);exact⟨more,by rw[z2Q hb];exact q⟩
 .by_cases hb:b∈cs
  .rw[zcu hb]at e;obtain⟨ob,q⟩:=hcs' b hb;rw[q]at e;have:=y07 e;subst this;refine z7o (U.keep b ob (z4l e0.hok q) (hcu b hb) (fun z=>?_) (by simp));have:=e0.frf b z;rw[q]at this;cases this
  .rw[z2Q hb]at e;refine(J.hok b u e).stay (fun _ _ _ q=>q) (fun c q=>?_) fun c xs q=>?_
   .exact z0d.rtk' hn1 c _ q
   .exact z0d.rtk' hn1 c _ q
def z2D(P:Program)(w:World)(K:yyF)(mg:yyS)(base:Heap)(CX:CXT)(k:Nat)(H:Hp)(f:Addr)(sp:List V->Hp->VK->Prop):Prop :=
 (∃(o:Obj)(fd:FuncData),H f=some (frO o)/\o.data=.func fd) /\
 ∀(H':Hp),z0d H H'->∀(A:Around)(outer:List Env)(s:Shared)(us:List Value)(vs:List V)(Q:VK),z38 k A->zaz P w K mg base A outer s H'->z1h vs us->sp vs H' Q ->
  codeAny (model P w) A (.call (.ref f) ⟨us,[]⟩) (CR CX outer P w H' s Q E0) s
def z2D.mono{P:Program}{w:World}{K:yyF}{mg:yyS}{base:Heap}{CX:CXT}{k:Nat}{H H1:Hp}{f:Addr}{sp:List V->Hp->VK->Prop}(h:z2D P w K mg base CX k H f sp)(s:z0d H H1):z2D P w K mg base CX k H1 f sp:=by obtain⟨⟨o,fd,e,d⟩,r⟩:=h;exact⟨⟨o,fd,s _ _ e,d⟩,fun H' s'=>r H' (s.trans s')⟩
def zgp(P:Program)(w:World)(K:yyF)(mg:yyS)(base:Heap)(CX:CXT)(k:Nat)(i:Nat)(t:TA):TE:=fun σ H Q=>∃(f:Addr)(sp:List V->Hp->VK->Prop),σ[i]?=some (some (.ref f))/\(∃(o:Obj)(fd:FuncData),H f=some (frO o)/\o.data=.func fd) /\
 t σ H fun vs H1=>z2D P w K mg base CX k H1 f sp/\sp vs H1 Q
section
variable{X:Cx}{CX:CXT}{k:Nat}{x:Str}{p pos:Pos}{e:Expr}{es:List Expr}{t:TA}
def z9E[N:NoE CX](i:Nat)(hr:z38 k X.A)(ha:PA X (e::es) t)(hN:X.N[i]?=some x:=by rfl)(hv:Vis X.env.scope x:=by first|exact Or.inl rfl|exact Or.inr (Or.inl rfl)|exact Or.inr (Or.inr rfl))(hd:(x==("__debug__":Str))=false:=by decide)(hcd:(x==("__classdict__":Str))=false:=by decide)(he:starEach (e::es) X.env=(false,eval e X.env)::starEach es X.env:=by rfl)(hpl:(backTo pos (starEach es X.env)).any (·.1)=false:=by rfl) : PE X (.Call (.Name x p) (e::es) [] pos) (zgp X.prog X.w X.K X.mg X.base CX k i t):=by
 intro pins s σ H Q I h;obtain⟨f,sp,ef,⟨o,fd,eo,od⟩,h⟩:=h;refine y29 (z1Y (ze1 hN hv hd hcd pins s σ H (fun v H1=>v=.ref f/\H1=H) I ⟨_,ef,rfl,rfl⟩) fun u s1 v H1 I1 r1 hz9=>?_);obtain⟨hv1,hH1⟩:=hz9;subst hv1 hH1;cases r1;have h':=ha pos pins s1 σ H1 _ I1 h;rw[he]at h'⊢;refine PySem.W.callWith_of (P:=fun hp=>hp.get? f=some o\/∃o' fd',hp.get? f=some o'/\o'.data=.func fd') (by show((false||(backTo pos (starEach es X.env)).any (·.1))||false)=false;rw[hpl];rfl)
  (fun hp hX=>?_) (PySem.Calls.evalArgs_plain (thn h' fun us s2 ⟨vs,H2,I2,r,cv,q⟩=>?_))
 .have hX':∃o' fd',hp.get? f=some o'/\o'.data=.func fd':=hX.elim (fun z=>⟨o,fd,z,od⟩) id;obtain⟨o',fd',z,d'⟩:=hX';refine⟨.frame,.inl rfl,?_⟩;obtain⟨cls,dd,data,sl⟩:=o';simp only at d';subst d';exact(PySem.W.Looks.ld (part:=none) z).andThen .now
 .obtain⟨⟨o',fd',z,d'⟩,run⟩:=cv;refine⟨.inr ⟨o',fd',z4l I2.hok z,d'⟩,?_⟩;refine wpAny_call (y2V (run H2 (z0d.refl _) X.A X.stack s2 us vs Q hr I2.env0 r q) fun r s' hq=>?_);cases r with
  |error e=>exact absurd hq N.no
  |ok fl =>
   cases fl with
   |ret u=>exact I2.after hq
   |next=>exact False.elim hq
   |brk=>exact False.elim hq
   |cont=>exact False.elim hq
end
structure Tb where
 at_:Addr
 pos:Pos
 qual:Str
def zd7(T:Tb)(H:Hp):Prop:=H T.at_=some (.tbl #[])\/∃(c':Addr)(oc:Obj)(vs:Array Value)(t:Tok),H T.at_=some (.tbl #[rawInt T.pos.line,rawInt T.pos.col,.ref c'])/\H c'=some (frO oc)/\oc.data=.fields vs/\vs[1]?=some (.str T.qual t)
def z3P(Ts:List Tb)(H:Hp):Prop:=∀T∈Ts,zd7 T H
structure SameL(Ts:List Tb)(H H':Hp):Prop where
 at_:∀b o,(∀ps,o≠.tbl ps)->H b=some o->H' b=some o
 tabs:z3P Ts H->z3P Ts H'
def zd7.mono{T:Tb}{H H':Hp}(h:zd7 T H)(s:z0d H H'):zd7 T H':=by
 rcases h with e|⟨c',oc,vs,t,e1,e2,e3⟩
 .exact .inl (s _ _ e)
 .exact .inr ⟨c',oc,vs,t,s _ _ e1,s _ _ e2,e3⟩
def z0d.l{Ts:List Tb}{H H':Hp}(s:z0d H H'):SameL Ts H H':=⟨fun b o _ e=>s b o e,fun h T hT=>(h T hT).mono s⟩
theorem SameL.refl{Ts:List Tb}(H:Hp):SameL Ts H H:=(z0d.refl H).l
def SameL.trans{Ts:List Tb}{H H1 H2:Hp}(a:SameL Ts H H1)(b:SameL Ts H1 H2):SameL Ts H H2:=⟨fun c o n e=>b.at_ c o n (a.at_ c o n e),fun h=>b.tabs (a.tabs h)⟩
class NT (o:HO):Prop where
 no:∀ps,o≠.tbl ps
instance NT.lst{xs:List V}:NT (.lst xs):=⟨fun _ z=>by cases z⟩
instance NT.tup{xs:List V}:NT (.tup xs):=⟨fun _ z=>by cases z⟩
instance NT.dK{xs:List (Key × V)}:NT (.dK xs):=⟨fun _ z=>by cases z⟩
instance NT.ext{f:Heap->Prop}:NT (.ext f):=⟨fun _ z=>by cases z⟩
instance NT.frz{o:Obj}{u:HO}:NT (.frz o u):=⟨fun _ z=>by cases z⟩
def SameL.g{Ts:List Tb}{H H':Hp}(s:SameL Ts H H'){b:Addr}{o:HO}[n:NT o](e:H b=some o):H' b=some o:=s.at_ b o n.no e
def SameL.seq{Ts:List Tb}{K:yyF}{H H':Hp}{a:Addr}{xs:List V}(s:SameL Ts H H')(h:SqL K H a xs):SqL K H' a xs:=by
 rcases h with(h|⟨o,h⟩)|h
 .exact .inl (.inl (s.g h))
 .exact .inl (.inr ⟨o,s.g h⟩)
 .exact .inr h
mutual
theorem Dr.monoL{Ts:List Tb}{K:yyF}{H H':Hp}(s:SameL Ts H H'):∀{d:D}{v:V},Dr K H d v->Dr K H' d v
 |.non,_,h=>by simp only[Dr]at h⊢;exact h
 |.bl _,_,h=>by simp only[Dr]at h⊢;exact h
 |.int _,_,h=>by simp only[Dr]at h⊢;exact h
 |.str _,_,h=>by simp only[Dr]at h⊢;exact h
 |.tup ds,_,h=>by
  simp only[Dr]at h⊢;obtain⟨a,vs,e,q,r⟩:=h;exact⟨a,vs,e,s.g q,DrL.monoL s r⟩
 |.lst ds,_,h=>by simp only[Dr]at h⊢;obtain⟨a,vs,e,q,r⟩:=h;exact⟨a,vs,e,s.seq q,DrL.monoL s r⟩
theorem DrL.monoL{Ts:List Tb}{K:yyF}{H H':Hp}(s:SameL Ts H H'):∀{ds:List D}{vs:List V},DrL K H ds vs->DrL K H' ds vs
 |[],_,h=>by simp only[DrL]at h⊢;exact h
 |d::ds,_,h=>by simp only[DrL]at h⊢;obtain⟨v,r,e,q,q'⟩:=h;exact⟨v,r,e,Dr.monoL s q,DrL.monoL s q'⟩
end
def zcK(H:Hp)(cs:List Addr)(ob:Addr->Obj):Hp:=fun b=>if b∈cs then some (frO (ob b))else H b
def z51{H:Hp}{cs:List Addr}{ob:Addr->Obj}{b:Addr}(h:b∈cs):zcK H cs ob b=some (frO (ob b)):=if_pos h
def z1t{H:Hp}{cs:List Addr}{ob:Addr->Obj}{b:Addr}(h:b∉cs):zcK H cs ob b=H b:=if_neg h
section
variable{X:Cx}{pins:yyP}{σ:St}{H:Hp}{s s':Shared}{cs:List Addr}{ob:Addr->Obj}
def Inv.cellFree(I:Inv X pins σ H s){x:Str}{c:Addr}(hc:X.env.cells.lookup x=some c)(hge:X.s₀.heap.objs.size<=c):c∉frs X.stack/\X.base.get? c=none:=by
 refine⟨fun z=>?_,y3w (y0r I.ok.bsz hge)⟩;rcases y0x.mp (I.stkSub c z)with q|q
 .exact I.cne x c hc q
 .obtain⟨_,o,ho,_⟩:=I.ok.funs.mem q;exact absurd (y0u (y0h ho) hge) (y1H _)
def Inv.env0T(I:Inv X pins σ H s)(h1:∀c∈cs,s.heap.get? c=some (ob c))(h2:∀c∈cs,H c=none)(h3:∀c∈cs,c∉frs X.stack/\X.base.get? c=none):zaz X.prog X.w X.K X.mg X.base X.A X.stack s (zcK H cs ob):=by
 have E:=I.env0;have out:∀{b:Addr}{o:HO},H b=some o->b∉cs:=fun{b o} e z=>by rw[h2 b z]at e;cases e
 refine⟨E.frames,E.mod,fun b o e=>⟨(E.bs b o e).1,?_⟩,E.bsz,E.funs,fun b hb=>?_,fun b u e=>?_,E.bare⟩
 .have hb:b∉cs:=fun z=>by rw[(h3 b z).2]at e;cases e
  rw[z1t hb];exact(E.bs b o e).2
 .have hb':b∉cs:=fun z=>(h3 b z).1 hb;rw[z1t hb'];exact E.frf b hb
 .by_cases hb:b∈cs
  .rw[z51 hb]at e;have:=y07 e;subst this;exact z7o (h1 b hb)
  .rw[z1t hb]at e;exact(I.hok b u e).stay (fun _ _ _ q=>q) (fun c q=>by rw[z1t (out q)];exact q) fun c xs q=>by rw[z1t (out q)];exact q
def unT{fr:List Addr}{H':Hp}{h h':Heap}{P:Program}{w:World}(h1:∀c∈cs,h.get? c=some (ob c))(h2:∀c∈cs,H c=none)(h3:∀c∈cs,c∉fr)(U:Un fr [] (zcK H cs ob) H' h h')(hok:HOk P w H' h') : Un fr [] H (utk H' cs) h h'/\HOk P w (utk H' cs) h':=by
 have out:∀{b:Addr}{o:HO},H b=some o->b∉cs:=fun{b o} e z=>by rw[h2 b z]at e;cases e
 have at':∀c∈cs,H' c=some (frO (ob c)):=fun c hc=>U.frzs c _ _ (z51 hc);have got:∀{b:Addr}{o:HO},(∀x,o≠frO x)->H' b=some o->b∉cs:=fun{b o} ne e z=>by rw[at' b z]at e;exact ne _ (y07 e).symm
 refine⟨⟨fun b o e n hb hx=>?_,fun b o e n hb hx=>?_,fun b o e n hx=>?_,fun b o e hx=>U.there b o e hx,fun b xs e=>?_,fun b o u e=>?_,fun b ps e=>?_⟩,fun b u e=>?_⟩
 .by_cases hc:b∈cs
  .have q:=z4l hok (at' b hc);have q':=h1 b hc;rw[e]at q';rw[q,y07 q']
  .exact U.keep b o e (by rw[z1t hc];exact n) hb hx
 .have hc:b∉cs:=fun z=>h3 b z hb;exact U.slot b o e (by rw[z1t hc];exact n) hb hx
 .by_cases hc:b∈cs
  .exact z5L hc
  .rw[z1p hc];exact U.free b o e (by rw[z1t hc];exact n) hx
 .rw[z1p (out e)];exact U.tups b xs (by rw[z1t (out e)];exact e)
 .rw[z1p (out e)];exact U.frzs b o u (by rw[z1t (out e)];exact e)
 .obtain⟨more,q⟩:=U.tbls b ps (by rw[z1t (out e)];exact e);exact⟨more,by rw[z1p (out e)];exact q⟩
 .have hc:b∉cs:=fun z=>by rw[z5L z]at e;cases e
  rw[z1p hc]at e;refine(hok b u e).stay (fun _ _ _ q=>q) (fun c q=>?_) fun c xs q=>?_
  .rw[z1p (got (fun x z=>by cases z) q)];exact q
  .rw[z1p (got (fun x z=>by cases z) q)];exact q
def Inv.afterT{Q:VK}{u:Value}(I:Inv X pins σ H s)(h1:∀c∈cs,s.heap.get? c=some (ob c))(h2:∀c∈cs,H c=none)(h3:∀c∈cs,c∉frs X.stack/\X.base.get? c=none)(h:CE X.stack X.prog X.w (zcK H cs ob) s (fun v H'=>Q v (utk H' cs)) u s'):EP X pins σ Q u s':=by obtain⟨v,H',os,bare,un,hok,r,q⟩:=h;obtain⟨un2,hok2⟩:=unT h1 h2 (fun c hc=>(h3 c hc).1) un hok;exact I.after ⟨v,utk H' cs,os,bare,un2,hok2,r,q⟩
def ziv{P:Program}{w:World}{outer:List Env}{E:XK}{e:Value}(h1:∀c∈cs,s.heap.get? c=some (ob c))(h2:∀c∈cs,H c=none)(h3:∀c∈cs,c∉frs outer)(h:CXx P w outer (zcK H cs ob) s (fun e C H'=>E e C (utk H' cs)) e s'):CXx P w outer H s E e s':=by
 obtain⟨ea,C,H',e1,os,bare,un,hok,fly,q⟩:=h;obtain⟨un2,hok2⟩:=unT h1 h2 h3 un hok;have no:∀{b:Addr},H' b=none->utk H' cs b=none:=fun{b} z=>by
  by_cases hc:b∈cs
  .exact z5L hc
  .rw[z1p hc];exact z
 obtain⟨f1,f2,a0,oe,vs,T,oT,ts,g1,g2,g3,g4,g5,g6,g7,g8⟩:=fly;exact⟨ea,C,utk H' cs,e1,os,bare,un2,hok2,⟨f1,no f2,a0,oe,vs,T,oT,ts,g1,g2,g3,g4,g5,g6,no g7,g8⟩,q⟩
end
end L2
namespace L2
open PySem PySem.Spec PyProof.Rows
def z43(base:Heap)(mg:yyS):Prop:=∃bm o,mg "__builtins__"=some (.ref bm)/\bm≠builtinsNs/\bm≠mainGlobals/\base.get? bm=some o/\o.cls=.type "module"/\o.dict=some builtinsNs/\o.data=.plain
def z8L(Ts:List Tb)(H H':Hp)(fa:Addr)(clos:List (Str × Addr))(params:Arguments)(body:Expr)(scope:Scope)(qual:Str):Prop :=
 (∀b o,(∀ps,o≠.tbl ps)->H b=some o->H' b=some o)/\z3P Ts H'/\∃(pm:Value) (c':Addr) (ctv:Value) (oc:Obj) (vs:Array Value) (t:Tok),H' fa=some (frO (PySem.W.kla_obj "<lambda>" qual params body scope clos pm c' ctv))/\H' c'=some (frO oc)/\oc.data=.fields vs/\vs[1]?=some (.str qual t)
def zhz(Ts:List Tb)(clos:List (Str × Addr))(params:Arguments)(body:Expr)(scope:Scope)(qual:Str):TE:=fun _ H Q=>z3P Ts H/\∀(fa:Addr)(H':Hp),z8L Ts H H' fa clos params body scope qual->Q (.ref fa) H'
section
variable{X:Cx}{N:List Str}{ix:List (Option Nat)}{params:Arguments}{body:Expr}{lsc:Scope}{lpos:Pos}{c:Addr}{T:Tb}{Ts:List Tb}
def ze6(S:z0W X.N X.env.scope N ix lsc)(hcode:X.env.code=.ref c)(hC:PySem.W.CodeHd X.base c T.at_)(hB:z43 X.base X.mg)(hT:T∈Ts)(hTn:∀T'∈Ts,T'.at_=T.at_->T'=T)(hTp:T.pos=lpos)(hTq:T.qual=X.env.qual++"<lambda>")(hdef:defaultsOf params X.env=([],[])):PE X (.Lambda params body lsc lpos) (zhz Ts (z0r X.env.cells lsc.names []) params body lsc T.qual):=by
 intro pins s σ H Q I h;obtain⟨ht,h⟩:=h;subst hTp;refine PySem.W.kla_eval hdef ?_;rw[<-hTq];have hcl:=z1s (scope:=lsc) (env:=X.env) (z0P I S);have hns:s.heap.Ns mainGlobals X.mg:=I.mod.glob.keeps I.bk;have C:PySem.W.CodeHd s.heap c T.at_:=hC.keeps I.bk;obtain⟨bm,ob,b1,b2,b3,b4,b5,b6,b7⟩:=hB;have tP:∀{ps:Array Value},H T.at_=some (.tbl ps)->s.heap.get? T.at_=some (PySem.W.tabObj ps):=fun e=>I.hok _ _ e;have neP:∀{ps:Array Value}{b:Addr},H T.at_=some (.tbl ps)->H b=none->b≠T.at_:=fun e n z=>by rw[z,e]at n;cases n
 rcases ht T hT with e|⟨c',oc,vs,t,e,ec,d1,d2⟩
 .have hbP:bm≠T.at_:=neP e (I.bs _ _ b4).2;have hgP:mainGlobals≠T.at_:=fun z=>by
   obtain⟨o,es,ep,q,qd,_⟩:=hns;rw[z,tP e]at q;cases q;cases qd
  refine PySem.W.kla_makeFunction (mg:=X.mg) hcl I.ok.glob hns hcode C (tP e) trivial rfl hgP ⟨bm,ob,b1,b2,b3,hbP,I.bk _ _ b4,b5,b6,b7⟩ fun c' ctv h' tk hx hge hlt hrec htb=>?_;obtain⟨c2,oc,vs,t,ee,hoc,d1,d2⟩:=hrec;cases ee;have hPlt:T.at_<s.heap.objs.size:=y0h (tP e);have nPc:T.at_≠c':=y0C (y0u hPlt hge);have nPf:T.at_≠h'.objs.size:=y0C (y3L (y0u hPlt hge) hlt);have ncf:c'≠h'.objs.size:=y0C hlt;have Hc:H c'=none:=I.hok.fresh hge;have Hf:H h'.objs.size=none:=I.hok.fresh (y0r hge (y27 hlt));generalize hfo:PySem.W.kla_obj "<lambda>" T.qual params body lsc (z0r X.env.cells lsc.names []) ((X.mg "__name__").getD .none) c' ctv=fo;have hfg:(h'.push fo).get? h'.objs.size=some fo:=y0k _ (by rw[<-hfo];rfl);let H':Hp:=upd (upd (upd H T.at_ (.tbl #[rawInt T.pos.line,rawInt T.pos.col,.ref c'])) c' (frO oc)) h'.objs.size (frO fo);have gP:H' T.at_=some (.tbl #[rawInt T.pos.line,rawInt T.pos.col,.ref c']):=by show upd _ _ _ _=_;rw[z06 nPf,z06 nPc,z01]
  have gc:H' c'=some (frO oc):=by show upd _ _ _ _=_;rw[z06 ncf,z01]
  have gf:H' h'.objs.size=some (frO fo):=z01;have go:∀{b:Addr},b≠T.at_->b≠c'->b≠h'.objs.size->H' b=H b:=fun{b} n1 n2 n3=>by show upd _ _ _ _=_;rw[z06 n3,z06 n2,z06 n1]
  have gt:∀{b:Addr}{o:HO},b≠T.at_->H b=some o->H' b=some o:=fun{b o} n1 q=>by rw[go n1 (z0f q Hc) (z0f q Hf)];exact q
  have hk:∀b o,b≠T.at_->s.heap.get? b=some o->(h'.push fo).get? b=some o:=fun b o n q=>y06 _ (hx b o n q);have I':Inv X pins σ H' { s with heap:=h'.push fo,toks:=tk }:=by
   refine I.un ⟨fun b o q n _ _=>hk b o (neP e n) q,fun b o q n _ _=>⟨o.slots,hk b o (neP e n) q⟩,fun b o q n _=>?_,fun b o q _=>?_,fun b xs q=>?_,fun b o u q=>?_,fun b ps q=>?_⟩ (fun b u q=>?_)
   .have hb:=y0h q;rw[go (neP e n) (y0C (y0u hb hge)) (y0C (y3L (y0u hb hge) hlt))];exact n
   .by_cases hb:b=T.at_
    .exact⟨_,by rw[hb];exact y06 _ htb⟩
    .exact⟨_,hk b o hb q⟩
   .exact gt (fun z=>by rw[z,e]at q;cases q) q
   .exact gt (fun z=>by rw[z,e]at q;cases q) q
   .by_cases hb:b=T.at_
    .subst hb;rw[e]at q;cases q;exact⟨#[rawInt T.pos.line,rawInt T.pos.col,.ref c'],by rw[gP];simp⟩
    .exact⟨#[],by rw[gt hb q];simp⟩
   .by_cases hf:b=h'.objs.size
    .subst hf;rw[gf]at q;cases q;exact z7o hfg
    .by_cases hc:b=c'
     .subst hc;rw[gc]at q;cases q;exact z7o (y06 _ hoc)
     .by_cases hb:b=T.at_
      .subst hb;rw[gP]at q;cases q;show(h'.push fo).get? T.at_=some (PySem.W.tabObj _);have:=y06 fo htb;simpa using this
      .rw[go hb hc hf]at q;refine(I.hok b u q).stay (fun d o hd q'=>hk d o ?_ q') (fun d q'=>gt (fun z=>by rw[z,e]at q';cases q') q') fun d xs q'=>gt (fun z=>by rw[z,e]at q';cases q') q';rcases hd with z|z
       .rw[z];exact hb
       .exact fun z'=>by rw[z',e]at z;cases z
  refine⟨.ref h'.objs.size,H',I',rfl,h _ _ ⟨fun b o no q=>gt (fun z=>by rw[z,e]at q;exact no _ (y07 q).symm) q,fun T' hT'=>?_,_,c',ctv,oc,vs,t,by rw[hfo];exact gf,gc,d1,d2⟩⟩;by_cases hb:T'.at_=T.at_
  .have:=hTn T' hT' hb;subst this;exact .inr ⟨c',oc,vs,t,gP,gc,d1,d2⟩
  .rcases ht T' hT' with q|⟨c3,oc3,vs3,t3,q1,q2,q3⟩
   .exact .inl (gt hb q)
   .exact .inr ⟨c3,oc3,vs3,t3,gt hb q1,gt (fun z=>by rw[z,e]at q2;cases q2) q2,q3⟩
 .have hbP:bm≠T.at_:=neP e (I.bs _ _ b4).2;refine PySem.W.kla_makeFunctionHit (mg:=X.mg) (cv:=.ref c') hcl I.ok.glob hns hcode C (tP e) (by simp[TriplesOk,rawInt]) (by simp[codeAmong,rawInt]) ⟨bm,ob,b1,b2,b3,hbP,I.bk _ _ b4,b5,b6,b7⟩ fun ctv h' tk hk hsz=>?_;have Hf:H h'.objs.size=none:=I.hok.fresh hsz;have gt:∀{b:Addr}{o:HO}{u:HO},H b=some o->upd H h'.objs.size u b=some o:=fun q=>by rw[z06 (z0f q Hf)];exact q
  refine⟨.ref h'.objs.size,_,I.laid (a:=h'.objs.size) (o:=frO (PySem.W.kla_obj "<lambda>" T.qual params body lsc (z0r X.env.cells lsc.names []) ((X.mg "__name__").getD .none) c' ctv)) (t':=tk) (fun b o q=>y06 _ (hk b o q)) hsz (z7o (y0k _ rfl)),rfl,h _ _ ⟨fun b o _ q=>gt q,fun T' hT'=>?_,_,c',ctv,oc,vs,t,z01,gt ec,d1,d2⟩⟩;rcases ht T' hT' with q|⟨c3,oc3,vs3,t3,q1,q2,q3⟩
  .exact .inl (gt q)
  .exact .inr ⟨c3,oc3,vs3,t3,gt q1,gt q2,q3⟩
def zfG(Ts:List Tb)(params:Arguments)(body:Expr)(lsc:Scope)(qual:Str)(N:List Str)(ix:List (Option Nat))(sp:Sp)(E:XK)(t0:TE):TE:=fun σ H Q=>t0 σ H fun v0 H1=>z3P Ts H1/\∀(fa:Addr)(H2:Hp)(cs:List Addr),(∀b o,(∀ps,o≠.tbl ps)->H1 b=some o->H2 b=some o) ->
 (∀H3,z0d H2 H3->SameL Ts H1 (utk H3 cs))->(∀c∈cs,∃ob,H2 c=some (frO ob))->z69 H2 fa params body lsc qual N (z0T ix σ)->sp [v0,.ref fa] H2 (fun v H3=>Q v (utk H3 cs)) (fun e C H3=>E e C (utk H3 cs))
variable{k:Nat}{g:Addr}{gd:FuncData}{ps:List Str}{sp:Sp}{E:XK}{x:Str}{p pos:Pos}{e0:Expr}{t0:TE}
def z6A(G:z0C X.prog X.w X.K X.mg X.base (CXx X.prog X.w) k g gd ps sp)(hr:z38 k X.A)(hg:Gl X x)(hm:X.mg x=some (.ref g))(hk:PySem.W.keepIn X.K (.ref g)=true)(hb:z0t X.K gd ps [])(hx:z5l (CXx X.prog X.w) X E)(h0:PE X e0 t0)(m0:∀σ H (Q Q':VK),(∀v H1,Q v H1->Q' v H1)->t0 σ H Q->t0 σ H Q')(S:z0W X.N X.env.scope N ix lsc)(hcode:X.env.code=.ref c)(hC:PySem.W.CodeHd X.base c T.at_)(hB:z43 X.base X.mg)(hfn:∀y,X.fn y=true)(hT:T∈Ts)(hTn:∀T'∈Ts,T'.at_=T.at_->T'=T)(hTp:T.pos=lpos)(hTq:T.qual=X.env.qual++"<lambda>")(hdef:defaultsOf params X.env=([],[]):=by rfl)(hdb:(x==("__debug__":Str))=false:=by decide)(he:starEach [e0,.Lambda params body lsc lpos] X.env=(false,eval e0 X.env)::starEach [.Lambda params body lsc lpos] X.env:=by rfl)(he2:starEach [.Lambda params body lsc lpos] X.env=(false,eval (.Lambda params body lsc lpos) X.env)::starEach [] X.env:=by rfl)(hpl:(backTo pos (starEach [.Lambda params body lsc lpos] X.env)).any (·.1)=false:=by rfl) : PE X (.Call (.Name x p) [e0,.Lambda params body lsc lpos] [] pos) (zfG Ts params body lsc T.qual N ix sp E t0):=by
 intro pins s σ H Q I h;refine y29 (z5b I hg hm ?_ hdb);have hPA:PA X [e0,.Lambda params body lsc lpos] (zeP t0 (zeP (zhz Ts (z0r X.env.cells lsc.names []) params body lsc T.qual) zhL)):=z00 h0 (z00 (ze6 S hcode hC hB hT hTn hTp hTq hdef) z03 he2) he;refine PySem.W.callWith_K (h₀:=X.base) I.ok.mod.kin hk (thn (hPA pos pins s σ H (fun us H2=>∃(v0:V)(fa:Addr)(H1:Hp),us=[v0,.ref fa]/\(z3P Ts H1/\∀(fa:Addr)(H2:Hp)(cs:List Addr),(∀b o,(∀ps,o≠.tbl ps)->H1 b=some o->H2 b=some o) ->
 (∀H3,z0d H2 H3->SameL Ts H1 (utk H3 cs))->(∀c∈cs,∃ob,H2 c=some (frO ob))->z69 H2 fa params body lsc T.qual N (z0T ix σ)->sp [v0,.ref fa] H2 (fun v H3=>Q v (utk H3 cs)) (fun e C H3=>E e C (utk H3 cs)))/\z8L Ts H1 H2 fa (z0r X.env.cells lsc.names []) params body lsc T.qual) I ?_) fun us s2 ⟨vs,H2,I2,r,q⟩=>⟨I2.kIn,?_⟩) he hpl
 .exact m0 σ H _ _ (fun v0 H1 ⟨ht,hq⟩=>⟨ht,fun fa H' made=>⟨v0,fa,H1,rfl,⟨ht,hq⟩,made⟩⟩) h
 .obtain⟨v0,fa,H1,rfl,⟨ht,hq⟩,mfr,mtb,pm,c',ctv,oc,vsc,t,m1,m2,m3,m4⟩:=q;let clos:=z0r X.env.cells lsc.names [];let cs:List Addr:=(lsc.names.map (·.1)).filterMap (fun y=>List.lookup y clos);let ob:Addr->Obj:=fun c=>(s2.heap.get? c).getD { cls:=.none,data:=.plain };have lk:∀{y:Str}{c:Addr},clos.lookup y=some c->X.env.cells.lookup y=some c:=fun e=>z1C I2 S e;have mem:∀{c:Addr},c∈cs->∃y,clos.lookup y=some c:=fun{c} hc=>by
   obtain⟨y,_,e⟩:=y2Y.mp hc;exact⟨y,e⟩
  have inn:∀y c,clos.lookup y=some c->c∈cs:=fun y c e=>by
   refine y2Y.mpr ⟨y,?_,e⟩;by_cases hm':(y,NameKind.free)∈lsc.names
   .exact y0b.mpr ⟨_,hm',rfl⟩
   .have:=z3f (cells:=X.env.cells) lsc.names [] y hm';rw[show(z0r X.env.cells lsc.names []).lookup y=some c from e]at this;cases this
  have h1:∀c∈cs,s2.heap.get? c=some (ob c):=fun c hc=>by obtain⟨y,e⟩:=mem hc;obtain⟨v,o,ho,_⟩:=I2.cell y c (lk e);show _=some ((s2.heap.get? c).getD _);rw[ho];rfl
  have h2:∀c∈cs,H2 c=none:=fun c hc=>by obtain⟨y,e⟩:=mem hc;exact I2.freeC y c (lk e)
  have h3:∀c∈cs,c∉frs X.stack/\X.base.get? c=none:=fun c hc=>by obtain⟨y,e⟩:=mem hc;exact I2.cellFree (lk e) (I2.ok.cab y c (hfn y) (lk e))
  have out:∀{b:Addr}{o:HO},H2 b=some o->b∉cs:=fun{b o} e z=>by rw[h2 b z]at e;cases e
  have tr:∀{b:Addr}{o:HO},H2 b=some o->zcK H2 cs ob b=some o:=fun e=>by rw[z1t (out e)];exact e
  have spq:=hq fa (zcK H2 cs ob) cs (fun b o no e=>tr (mfr b o no e)) (fun H3 s3=>?_) (fun c hc=>⟨ob c,z51 hc⟩) ?_
  .refine wpAny_call (y2V (G.run X.A X.stack s2 (zcK H2 cs ob) ⟨us,[]⟩ us [v0,.ref fa] _ _ hr (I2.env0T h1 h2 h3) (by have:=hb s2 us I2.kIn (by rw[y1p,<-r.length];exact G.len _ _ _ _ spq);rw[y1p]at this;exact this) r spq) fun r s' hq=>?_);cases r with
   |error e=>exact hx pins σ H2 s2 e s' I2 (ziv h1 h2 (fun c hc=>(h3 c hc).1) hq)
   |ok fl =>
    cases fl with
    |ret u=>exact I2.afterT h1 h2 h3 hq
    |next=>exact False.elim hq
    |brk=>exact False.elim hq
    |cont=>exact False.elim hq
  .have out3:∀{b:Addr}{o:HO},H2 b=some o->utk H3 cs b=some o:=fun e=>by rw[z1p (out e)];exact s3 _ _ (tr e)
   refine⟨fun b o no e=>out3 (mfr b o no e),fun _ T' hT'=>?_⟩;rcases mtb T' hT' with q|⟨c3,oc3,vs3,t3,q1,q2,q3⟩
   .exact .inl (out3 q)
   .exact .inr ⟨c3,oc3,vs3,t3,out3 q1,out3 q2,q3⟩
  .refine⟨clos,cs,pm,c',ctv,oc,vsc,t,tr m1,tr m2,m3,m4,fun y z c e1 e2=>I2.ok.inj y z c (lk e1) (lk e2),inn,fun c hc=>⟨mem hc,?_⟩,fun y hy=>?_,fun i y v e1 e2=>?_⟩
   .obtain⟨y,e⟩:=mem hc;obtain⟨v,o,ho,hd⟩:=I2.cell y c (lk e);refine⟨ob c,v,z51 hc,?_⟩;have:=h1 c hc;rw[ho]at this;rw[<-y07 this];exact hd
   .have hm':(y,NameKind.free)∈lsc.names:=y15 hy;obtain⟨c,e⟩:=z0P I2 S y hm';exact⟨c,(z28 lsc.names [] y (z0P I2 S) (.inl hm')).trans e⟩
   .obtain⟨j,f1,f2,f3⟩:=S.at_ e1 e2;have hm':(y,NameKind.free)∈lsc.names:=y15 f2;obtain⟨m,hn,hl⟩:=I2.loc;have hvis:=S.frees _ hm' rfl;obtain⟨u,ru,look⟩:=hl j y v f1 f3 (.inr hvis);rcases look with⟨hk',_⟩|⟨_,c,ec,cell⟩
    .have hk'':X.env.scope.names.lookup y=some .local:=hk';rcases hvis with z|z
     .rw[z]at hk'';cases hk''
     .rw[z]at hk'';cases hk''
    .have hcl:clos.lookup y=some c:=(z28 lsc.names [] y (z0P I2 S) (.inl hm')).trans ec;have hc:=inn y c hcl;obtain⟨o,ho,hd⟩:=cell;refine⟨c,ob c,u,hcl,z51 hc,?_,ru⟩;have:=h1 c hc;rw[ho]at this;rw[<-y07 this];exact hd
end
def NFr(H H':Hp):Prop:=∀b o,(∀ob,o≠frO ob)->H b=some o->H' b=some o
def NFr.seq{K:yyF}{H H':Hp}{a:Addr}{xs:List V}(s:NFr H H')(h:SqL K H a xs):SqL K H' a xs:=by
 rcases h with(h|⟨o,h⟩)|h
 .exact .inl (.inl (s _ _ (fun _ z=>by cases z) h))
 .exact .inl (.inr ⟨o,s _ _ (fun _ z=>by cases z) h⟩)
 .exact .inr h
mutual
theorem Dr.nfr{K:yyF}{H H':Hp}(s:NFr H H'):∀{d:D}{v:V},Dr K H d v->Dr K H' d v
 |.non,_,h=>by simp only[Dr]at h⊢;exact h
 |.bl _,_,h=>by simp only[Dr]at h⊢;exact h
 |.int _,_,h=>by simp only[Dr]at h⊢;exact h
 |.str _,_,h=>by simp only[Dr]at h⊢;exact h
 |.tup ds,_,h=>by
  simp only[Dr]at h⊢;obtain⟨a,vs,e,q,r⟩:=h;exact⟨a,vs,e,s _ _ (fun _ z=>by cases z) q,DrL.nfr s r⟩
 |.lst ds,_,h=>by simp only[Dr]at h⊢;obtain⟨a,vs,e,q,r⟩:=h;exact⟨a,vs,e,s.seq q,DrL.nfr s r⟩
theorem DrL.nfr{K:yyF}{H H':Hp}(s:NFr H H'):∀{ds:List D}{vs:List V},DrL K H ds vs->DrL K H' ds vs
 |[],_,h=>by simp only[DrL]at h⊢;exact h
 |d::ds,_,h=>by simp only[DrL]at h⊢;obtain⟨v,r,e,q,q'⟩:=h;exact⟨v,r,e,Dr.nfr s q,DrL.nfr s q'⟩
end
theorem NFr.utk{H H3:Hp}{cs:List Addr}(hc:∀c∈cs,∃ob,H c=some (frO ob))(s:z0d H H3):NFr H3 (L2.utk H3 cs):=fun b o n e=>z8P (fun c h=>let⟨ob,q⟩:=hc c h;⟨ob,s _ _ q⟩) e n
def Fun.okL{CX:CXT}{P:Program}{w:World}{K:yyF}{mg:yyS}{base:Heap}{x qual:Str}{st:Stmt}{f c:Addr}{fd:FuncData}{N ps:List Str}{k:Nat}{sp:Sp}(F:Fun K x qual st f fd)(hc:fd.code=.ref c)(S:z0q N ps (z05 st))(len:∀vs H Q E,sp vs H Q E->vs.length=ps.length)(hbody:∀(A:Around)(outer:List Env)(s:Shared)(H:Hp)(vs:List V)(Q:VK)(E:XK),z38 k (A.deeper (envOfC qual (z05 st) s.heap.objs.size f (.ref c)))->sp vs H Q E -> ∃t,PSs (z7e CX P w K mg base N qual (z05 st) f (.ref c) A outer s H E) (z0M st) t/\t { nx:=fun _ H'=>Q .non H',rt:=Q } (z5z N vs) H):z0C P w K mg base CX (k+1) f fd ps sp:=by obtain⟨oc,od,kV,doc,pm,an,cdv,ct,osl,rfl,lk,hcd⟩:=F.ex;have:cdv=.ref c:=hc;subst this;exact zf2 lk hcd S len fun A outer s H vs Q E hr hsp=>hbody A outer s H vs Q E hr hsp
def zcb{P:Program}{w:World}{K:yyF}{mg mb:yyS}{CX:CXT}{k:Nat}{fa a:Addr}{fd:FuncData}{x:Str}{sp:Sp}{s₁:Shared}{vs:List Value}{ns:List Int}{Ts:List Tb}(KX:K.In s₁.heap)(hns:s₁.heap.Ns mainGlobals mg)(hb:s₁.heap.Ns builtinsNs mb)(hbb:∀x:Str,x≠"__name__"->mb x=bootBuiltins x)(hlim:s₁.heap.NoLimit)(hg:s₁.gens=#[])(ha:s₁.heap.get? a=some { cls:=.type "list",data:=.seq vs.toArray })(hi:IntsAre vs ns)(hl:ns.length<=sizeLine)(hr:z38 k callerA)(hT:∀T∈Ts,s₁.heap.get? T.at_=some (PySem.W.tabObj #[])/\K.lookup T.at_=none/\∃c,PySem.W.CodeHd s₁.heap c T.at_)(hbm:z43 s₁.heap mg)(F:∀base:Heap,K.In base->base.Ns mainGlobals mg->z43 base mg->z0C P w K mg base CX k fa fd [x] sp)(hbind:∀(s:Shared) (u:Value),BindsTo s fd ⟨[u],[]⟩ [(x,u)])(hsp:∀H:Hp,z3P Ts H->SqL K H a (ns.map V.int)->sp [.ref a] H (fun v _=>v=.bl true) fun _ _ _=>False)(hCX:∀H e s',CX [] H s₁ (fun _ _ _=>False) e s'->False) : codeAny (model P w) callerA (.call (.ref fa) ⟨[.ref a],[]⟩) (fun r s'=>r=.ok (.ret (.bool true))/\OldK s₁.heap s'.heap/\s'.os=s₁.os/\AllBare s'.gens) s₁:=by
 have rv:=z7M hi;have lenV:=hi.length;have isT:∀b,(∃T∈Ts,T.at_=b)->s₁.heap.get? b=some (PySem.W.tabObj #[])/\K.lookup b=none/\∃c,PySem.W.CodeHd s₁.heap c b:=fun b ⟨T,hT1,e⟩=>e▸hT T hT1;have core:∀H:Hp,z3P Ts H->SqL K H a (ns.map V.int)->HOk P w H s₁.heap->(∀b,H b≠none->(b=a/\K.lookup a=none/\∃o xs,H b=some (.frz o (.lst xs)))\/((∃T∈Ts,T.at_=b)/\H b=some (.tbl #[]))) ->
   codeAny (model P w) callerA (.call (.ref fa) ⟨[.ref a],[]⟩) (fun r s'=>r=.ok (.ret (.bool true))/\OldK s₁.heap s'.heap/\s'.os=s₁.os/\AllBare s'.gens) s₁:=by
  intro H hO hS hok hA;have base_of:∀{b:Addr}{o:Obj},s₁.heap.get? b=some o->H b=none->(zcC s₁.heap H).get? b=some o:=fun e n=>zcQ e n;have noA:∀{b:Addr}{o:Obj},s₁.heap.get? b=some o->(∀xs,o.data≠.seq xs)->(∀xs,o.data≠.fields xs)->H b=none:=fun{b o} e d1 d2=>by
   cases q:H b with
   |none=>rfl
   |some u =>
    rcases hA b (by rw[q];simp)with⟨e',_⟩|⟨e',_⟩
    .subst e';rw[ha]at e;cases e;exact absurd rfl (d1 _)
    .rw[(isT b e').1]at e;cases e;exact absurd rfl (d2 _)
  have nsK:∀{b:Addr}{m:yyS},s₁.heap.Ns b m->(zcC s₁.heap H).Ns b m:=fun{b m} ⟨o,es,ep,e,d,r⟩=>⟨o,es,ep,base_of e (noA e (fun xs z=>by rw[z]at d;cases d) (fun xs z=>by rw[z]at d;cases d)),d,r⟩;have hKb:K.In (zcC s₁.heap H):=fun b o e=>base_of (KX b o e) (by
   cases q:H b with
   |none=>rfl
   |some u =>
    rcases hA b (by rw[q];simp)with⟨e',hk,_⟩|⟨e',_⟩
    .subst e';rw[hk]at e;cases e
    .rw[(isT b e').2.1]at e;cases e)
  have hM:Mod K mg (zcC s₁.heap H):=⟨hKb,nsK hns,⟨mb,nsK hb,hbb⟩,let⟨mc,h1,h2⟩:=hlim;⟨mc,nsK h1,h2⟩⟩;have hBM:z43 (zcC s₁.heap H) mg:=by obtain⟨bm,o,b1,b2,b3,b4,b5,b6,b7⟩:=hbm;exact⟨bm,o,b1,b2,b3,base_of b4 (noA b4 (fun xs z=>by rw[z]at b7;cases b7) (fun xs z=>by rw[z]at b7;cases b7)),b5,b6,b7⟩
  have e0:zaz P w K mg (zcC s₁.heap H) callerA [] s₁ H:=⟨rfl,hM,fun b o e=>zfb e,Nat.le_of_eq (zcs _ _),trivial,fun b hb=>absurd (show b∈([]:List Addr)from hb) (by simp),hok,.of_eq hg⟩;refine y2V ((F _ hKb (nsK hns) hBM).run callerA [] s₁ H ⟨[.ref a],[]⟩ [.ref a] [.ref a] _ _ hr e0 (hbind s₁ (.ref a)) (.cons rfl .nil) (hsp H hO hS)) fun r s' h=>?_;cases r with
  |error e=>exact(hCX H e s' h).elim
  |ok fl =>
   cases fl with
   |next=>exact False.elim h
   |brk=>exact False.elim h
   |cont=>exact False.elim h
   |ret u =>
    obtain⟨v,H',os,bare,un,hok',r',q⟩:=h;have q':v=.bl true:=q;subst q';obtain rfl:u=Value.bool true:=r';have key:∀b o,s₁.heap.get? b=some o->s'.heap.get? b=some o\/((∃T∈Ts,T.at_=b)/\∃more,s'.heap.get? b=some (PySem.W.tabObj (#[]++more))):=fun b o e=>by
     cases q:H b with
     |none=>exact .inl (un.keep b o e q (by intro z;exact absurd (show b∈([]:List Addr)from z) (by simp)) (by simp))
     |some u =>
      rcases hA b (by rw[q];simp)with⟨_,_,ob,xs,z⟩|⟨e',z⟩
      .have z2:=un.frzs b ob _ z;obtain⟨e1,_⟩:=hok b _ z;obtain⟨e2,_⟩:=hok' b _ z2;rw[e]at e1;cases e1;exact .inl e2
      .obtain⟨more,z2⟩:=un.tbls b #[] z;exact .inr ⟨e',more,hok' b _ z2⟩
    refine⟨rfl,⟨fun b o e=>?_,fun b o e=>?_⟩,os,bare⟩
    .rcases key b o e with z|⟨e',more,z⟩
     .exact .inl z
     .obtain⟨h1,_,c,hc⟩:=isT b e';rw[e]at h1;cases h1;refine .inr (.inl ⟨?_,rfl,#[],more,rfl,z⟩);obtain⟨o,vs,_,_,_,_,_,_,_,g1,g2,g3,g4,_⟩:=hc;exact⟨c,o,vs,g1,g2,g3,g4⟩
    .rcases key b o e with z|⟨e',more,z⟩
     .exact⟨_,z⟩
     .exact⟨_,z⟩
 have naT:∀T∈Ts,T.at_≠a:=fun T h z=>by have:=(hT T h).1;rw[z,ha]at this;cases this
 open Classical in
 cases hk:K.lookup a with
 |some o =>
  have e:=KX a o hk;rw[ha]at e;cases e;refine core (fun b=>if(∃T∈Ts,T.at_=b)then some (.tbl #[])else none) (fun T h=>.inl (if_pos ⟨T,h,rfl⟩)) (.inr ⟨_,vs.toArray,_,hk,rfl,rfl,rfl,by rw[y0D,lenV];exact hl,by simpa using rv⟩) (fun b u z=>?_) fun b z=>?_
  .by_cases hb:∃T∈Ts,T.at_=b
   .have z':=(if_pos hb).symm.trans z;cases z';exact(isT b hb).1
   .have z':=(if_neg hb).symm.trans z;cases z'
  .by_cases hb:∃T∈Ts,T.at_=b
   .exact .inr ⟨hb,if_pos hb⟩
   .exact absurd (if_neg hb) z
 |none =>
  have cA:∀b,b=a->(if b=a then some (HO.frz { cls:=.type "list",data:=.seq vs.toArray } (.lst (ns.map V.int)))else if(∃T∈Ts,T.at_=b)then some (.tbl #[])else none)=some (HO.frz { cls:=.type "list",data:=.seq vs.toArray } (.lst (ns.map V.int))):=fun b e=>if_pos e;have cT:∀b,b≠a->(∃T∈Ts,T.at_=b)->(if b=a then some (HO.frz { cls:=.type "list",data:=.seq vs.toArray } (.lst (ns.map V.int)))else if(∃T∈Ts,T.at_=b)then some (.tbl #[])else none)=some (.tbl #[]):=fun b e h=>by rw[if_neg e,if_pos h]
  have cN:∀b,b≠a->¬(∃T∈Ts,T.at_=b)->(if b=a then some (HO.frz { cls:=.type "list",data:=.seq vs.toArray } (.lst (ns.map V.int)))else if(∃T∈Ts,T.at_=b)then some (.tbl #[])else none)=none:=fun b e h=>by rw[if_neg e,if_neg h]
  refine core (fun b=>if b=a then some (.frz { cls:=.type "list",data:=.seq vs.toArray } (.lst (ns.map V.int)))else if(∃T∈Ts,T.at_=b)then some (.tbl #[])else none) (fun T h=>.inl (cT _ (naT T h) ⟨T,h,rfl⟩)) (.inl (.inr ⟨{ cls:=.type "list",data:=.seq vs.toArray },if_pos rfl⟩)) (fun b u z=>?_) (fun b z=>?_)
  .by_cases hb:b=a
   .have z':=(cA b hb).symm.trans z;cases z';subst hb;exact⟨ha,by rw[y01];exact hl,vs,_,rv,ha⟩
   .by_cases hb2:∃T∈Ts,T.at_=b
    .have z':=(cT b hb hb2).symm.trans z;cases z';exact(isT b hb2).1
    .have z':=(cN b hb hb2).symm.trans z;cases z'
  .by_cases hb:b=a
   .exact .inl ⟨hb,hk,_,_,cA b hb⟩
   .by_cases hb2:∃T∈Ts,T.at_=b
    .exact .inr ⟨hb2,cT b hb hb2⟩
    .exact absurd (cN b hb hb2) z
def walk_of2{l:PySem.W.OpenLaw}{n k:Nat}{q:Program}{loose:List Str}{XP:(yyS)->Heap->Prop}{YP:World->Heap->Prop}{d:DefRec}{K:Params->yyF}{CX:World->CXT}{sp:World->Sp}{x:Str}{Ts:List Tb}(hn:l.most=some n)(hn2:n<=sizeLine)(hdf:d.params.defaults=[])(hr:z38 k callerA)(hY:∀(w:World)(h:Heap),YP w h->(K w.params).In h/\∀P∈Ts.map (·.at_),h.get? P=some (PySem.W.tabObj #[]))(F:∀(w:World)(mg:yyS)(fa:Addr)(h:Heap),(K w.params).In h->h.Ns mainGlobals mg->mg d.name=some (.ref fa) -> ∃fd:FuncData,(∀(s:Shared)(u:Value),BindsTo s fd ⟨[u],[]⟩ [(x,u)])/\(∀T∈Ts,(K w.params).lookup T.at_=none/\∃c,PySem.W.codeHdIn (K w.params) c T.at_=true) /\ ∀base:Heap,(K w.params).In base->base.Ns mainGlobals mg->z43 base mg->z0C l.prog w (K w.params) mg base (CX w) k fa fd [x] (sp w))(hsp:∀(w:World)(H:Hp)(a:Addr)(ns:List Int),ns.length<=n->z3P Ts H->SqL (K w.params) H a (ns.map V.int)->sp w [.ref a] H (fun v _=>v=.bl true) fun _ _ _=>False)(hCX:∀(w:World)(H:Hp)(s:Shared)(e:Value)(s':Shared),CX w [] H s (fun _ _ _=>False) e s'->False) : PySem.W.WalkO q loose XP YP l.row.toRowW d [] (fun f vs=>PySem.call f vs):=by
 refine Att.attach_call hn hdf fun w s₀ s₁ mg mb fa o pm cd doc a vs ns G Y ho hd hcd hmg hobj hints hlen hg=>?_;obtain⟨KX,hTb⟩:=hY w _ Y;obtain⟨fd,hb,hT,hF⟩:=F w mg fa _ KX G.T.g hmg;refine zcb (Ts:=Ts) KX G.T.g G.T.b G.T.builtins G.T.nolimit hg hobj hints (y0r hlen hn2) hr (fun T h=>⟨hTb _ (y0b.mpr ⟨T,h,rfl⟩),(hT T h).1,?_⟩) ?_ hF hb (fun H hO hS=>hsp w H a ns hlen hO hS) fun H e s'=>hCX w H s₁ e s'
 .obtain⟨c,e⟩:=(hT T h).2;exact⟨c,y2l KX e⟩
 .obtain⟨bm,ob,b1,b2,b3,b4,b5,b6⟩:=G.T.bmain;refine⟨bm,ob,b1,b2,fun z=>?_,b3,b4,b5,b6⟩;obtain⟨o,es,ep,e,d,_⟩:=G.T.g;rw[z]at b3;rw[b3]at e;cases e;rw[b6]at d;cases d
def z72{Ts:List Tb}{T:Tb}(h:(Ts.map (·.at_)).Nodup)(hT:T∈Ts):∀T'∈Ts,T'.at_=T.at_->T'=T:=by
 induction Ts with
 |nil=>cases hT
 |cons a r ih =>
  rw[y0l,y1y]at h;intro T' hT' e;rcases y0x.mp hT with z|z
  .rcases y0x.mp hT' with y|y
   .rw[y,z]
   .exact absurd (y0b.mpr ⟨T',y,by rw[e,z]⟩) h.1
  .rcases y0x.mp hT' with y|y
   .exact absurd (y0b.mpr ⟨T,z,by rw[<-e,y]⟩) h.1
   .exact ih h.2 z T' y e
end L2
namespace Gu
open PySem L2
abbrev nV(nm:Int->Int)(i:Int):V:=.int (nm i)
abbrev kN(nm:Int->Int)(i:Int):Key:=Sum.inl (nm i)
def zbN{nm:Int->Int}(h:∀x y,nm x=nm y->x=y)(x y:Int)(e:kN nm x=kN nm y):x=y:=h x y (y3B e)
def z7N(nm:Int->Int)(r:Row):Row:=(r.1,r.2.map nm)
def zbo(r:Row):z7N (fun i=>i) r=r:=by unfold z7N;rw[List.map_id']
def zcL(K:yyF)(rows:List Row)(nm:Int->Int):List V->Hp->VK->Prop:=fun vs H Q=>∃i:Int,vs=[.int (nm i)]/\0<=i/\i<(rows.length:Int)/\z3E K H Q (z5u (z7N nm (row rows i)))
section
variable(P:Program)(w:World)(K:yyF)(mg:yyS)(base:Heap)(CX:CXT)(k:Nat)
def z8G:Sp:=fun vs H Q _=>∃(f:Addr)(n:Nat)(rows:List Row)(nm:Int->Int),vs=[.int (nm 0),.ref f]/\(∀x y,nm x=nm y->x=y)/\z2D P w K mg base CX k H f (zcL K rows nm)/\z0e n rows/\n<=60/\∀(r:Addr)(H':Hp),z0d H H'->z3x K H' r (z0G rows)->Q (.ref r) H'
def z4t(Ct:Addr):Sp:=fun vs H Q E=>∃(f:Addr)(n:Nat)(rows:List Row)(nm:Int->Int),vs=[.int (nm 0),.ref f]/\(∀x y,nm x=nm y->x=y)/\z2D P w K mg base CX k H f (zcL K rows nm)/\z0e n rows/\n<=60 /\
 ((shr rows).length<=60->z3E K H Q (D.tup (z0i (shr rows))))/\(60<(shr rows).length->TMx Ct E H)
end
def z7U(Ts:List Tb)(K:yyF)(H:Hp)(Q:VK)(d:D):Prop:=∀v H',SameL Ts H H'->Dr K H' d v->Q v H'
def zhn(Ts:List Tb)(Ct:Addr)(E:XK)(H:Hp):Prop:=∀(ea:Addr)(H':Hp),SameL Ts H H'->E (.ref ea) (some Ct) H'
def z9B(Ts:List Tb)(K:yyF):Sp:=fun vs H Q _=>∃(a:Addr)(ns:List Int),vs=[.ref a]/\SqL K H a (ns.map V.int)/\ns.length<=63/\z3P Ts H/\∀H',Q (.bl true) H'
def z3P.mono{Ts:List Tb}{H H':Hp}(h:z3P Ts H)(s:z0d H H'):z3P Ts H':=(z0d.l s).tabs h
def z4V:List Stmt->Pos
 |[.Return (some (.Call _ [_,.Lambda _ _ _ p] _ _)) _]=>p
 |_::r=>z4V r
 |[]=>⟨0,0,0,0⟩
end Gu
namespace L2
open PySem PySem.Spec PyProof.Rows
def z2D.lam{CX:CXT}{P:Program}{w:World}{K:yyF}{mg:yyS}{base:Heap}{k:Nat}{H:Hp}{f:Addr}{params:Arguments}{body:Expr}{scope:Scope}{qual:Str}{N ps:List Str}{fv:St}{sp:List V->Hp->VK->Prop}(C:z69 H f params body scope qual N fv)(S:zfq N ps scope)(hbind:∀(cl:List (Str × Addr)) (pm cdv ct:Value) (us:List Value),us.length=ps.length->bindArgs (PySem.W.kla_fn "<lambda>" qual params body scope cl pm cdv ct) ⟨us,[]⟩=pure (ps.zip us))(hfv:fv.length=N.length)(len:∀vs H Q,sp vs H Q->vs.length=ps.length)(hbody:∀(H':Hp),z0d H H'->∀(A:Around) (outer:List Env) (s:Shared) (cd:Value) (clos:List (Str × Addr)) (cs:List Addr) (vs:List V) (Q:VK),z38 k (A.deeper (PySem.W.envX qual scope s.heap.objs.size f cd clos))->NFr H' (utk H' cs)->sp vs H' Q -> ∃t,PE (zd4 P w K mg base N qual scope f cd clos A outer s (utk H' cs)) body t/\t (z8j vs fv) (utk H' cs) fun v H1=>(∀c∈cs,H1 c=none)->Q v (rtk H' H1 cs)):z2D P w K mg base CX (k+1) H f sp:=by obtain⟨clos,cs,pm,c',ctv,oc,vs',t,e1,_⟩:=id C;refine⟨⟨_,_,e1,rfl⟩,fun H' s' A outer s us vs Q hr e0 r hsp=>?_⟩;exact zeC (C.mono s') S hbind hfv hr e0 r (len _ _ _ hsp) fun cd clos cs hr' hcs=>hbody H' s' A outer s cd clos cs vs Q hr' (NFr.utk hcs (z0d.refl _)) hsp
def z3P.over{Ts:List Tb}{H:Hp}{a:Addr}{xs:List V}{o:HO}(h:z3P Ts H)(e:H a=some (.lst xs)):z3P Ts (upd H a o):=fun T hT=>by
 have ne:∀{b:Addr}{u:HO},H b=some u->(∀xs,u≠.lst xs)->upd H a o b=some u:=fun{b u} q n=>by
  have:b≠a:=fun z=>by rw[z,e]at q;exact n xs (y07 q).symm
  rw[z06 this];exact q
 rcases h T hT with q|⟨c',oc,vs,t,q1,q2,q3⟩
 .exact .inl (ne q (fun _ z=>by cases z))
 .exact .inr ⟨c',oc,vs,t,ne q1 (fun _ z=>by cases z),ne q2 (fun _ z=>by cases z),q3⟩
def SqS(K:yyF)(H:Hp)(a:Addr)(xs:List V):Prop:=SqL K H a xs\/SqT K H a xs
def SqS.mono{K:yyF}{H H':Hp}{a:Addr}{xs:List V}(h:SqS K H a xs)(s:z0d H H'):SqS K H' a xs:=by
 rcases h with h|h
 .exact .inl (s.seq h)
 .refine .inr ?_;rcases h with(h|⟨o,h⟩)|h
  .exact .inl (.inl (s _ _ h))
  .exact .inl (.inr ⟨o,s _ _ h⟩)
  .exact .inr h
def zis(K:yyF):R2:=fun x y H Q=>∃p xs i v,x=.ref p/\y=.int i/\SqS K H p xs/\atI xs i=some v/\Q v H
def ixQ{X:Cx}(K:yyF)(h:X.K=K):IxR X (zis K):=by
 subst h;intro value slice pins s σ H x y v u Q I rx ry q hs;obtain⟨p,xs,i,z,e1,e2,hq,e3,q⟩:=q;rcases hq with hq|hq
 .exact z1U value slice pins s σ H x y v u Q I rx ry ⟨p,xs,i,z,e1,e2,hq,e3,q⟩ hs
 .exact z24 value slice pins s σ H x y v u Q I rx ry ⟨p,xs,i,z,e1,e2,hq,e3,q⟩ hs
end L2
namespace Gu
open PySem L2
def z6v(K:yyF)(H:Hp)(us:List V)(rows:List Row)(nm:Int->Int):Prop:=∀i:Int,0<=i->i<(rows.length:Int)->0<=nm i/\∃v,us[(nm i).toNat]?=some v/\Dr K H (z5u (z7N nm (row rows i))) v
theorem z6v.mono{K:yyF}{H H':Hp}{us:List V}{rows:List Row}{nm:Int->Int}(h:z6v K H us rows nm)(s:z0d H H'):z6v K H' us rows nm:=fun i h0 h1=>by obtain⟨a,v,e,d⟩:=h i h0 h1;exact⟨a,v,e,d.mono s⟩
def z6v.of{K:yyF}{H:Hp}{us:List V}{rows:List Row}(h:DrL K H (z0i rows) us):z6v K H us rows (fun i=>i):=fun i h0 h1=>by obtain⟨v,ev,dv⟩:=z2m h (z2Y h0 h1);exact⟨h0,v,ev,by rw[zbo];exact dv⟩
section
variable{K:yyF}{H H':Hp}{f:Int->D}{r:Int}{nm:Int->Int}
def MkN(nm:Int->Int)(K:yyF)(H:Hp)(o:List Int)(f:Int->D)(kvs:List (Key × V)):Prop:=∃vs,kvs=mk (o.map nm) vs/\DrL K H (o.map f) vs
theorem MkN.nil:MkN nm K H [] f []:=⟨[],rfl,DrL.nil⟩
theorem MkN.get(ni:∀x y,nm x=nm y->x=y):∀{o:List Int}{kvs:List (Key × V)},MkN nm K H o f kvs->r∈o->∃v,z2N kvs (kN nm r)=some v/\Dr K H (f r) v
 |[],_,_,h=>by simp at h
 |b::o,_,⟨vs,rfl,d⟩,h=>by
  rw[y0l]at d;simp only[DrL]at d;obtain⟨v,r',rfl,d1,d2⟩:=d;by_cases e:b=r
  .subst e;exact⟨v,z3e (p:=(kN nm b,v)) rfl,d1⟩
  .obtain⟨v',h1,h2⟩:=MkN.get ni (o:=o) ⟨r',rfl,d2⟩ (by rcases y0x.mp h with z|z;exact absurd z.symm e;exact z);refine⟨v',?_,h2⟩;show z2N ((kN nm b,v)::mk (o.map nm) r') (kN nm r)=_;rw[z2K (p:=(kN nm b,v)) (fun z=>e (ni _ _ (y3B z)))];exact h1
theorem MkN.no(ni:∀x y,nm x=nm y->x=y):∀{o:List Int}{kvs:List (Key × V)},MkN nm K H o f kvs->r∉o->z2N kvs (kN nm r)=none
 |[],_,⟨vs,rfl,d⟩,_=>rfl
 |b::o,_,⟨vs,rfl,d⟩,h=>by rw[y0l]at d;simp only[DrL]at d;obtain⟨v,r',rfl,d1,d2⟩:=d;show z2N ((kN nm b,v)::mk (o.map nm) r') (kN nm r)=_;rw[z2K (p:=(kN nm b,v)) (fun z=>h (by rw[ni _ _ (y3B z)];simp))];exact MkN.no ni (o:=o) ⟨r',rfl,d2⟩ (fun z=>h (y09 _ z))
def MkN.len{o:List Int}{kvs:List (Key × V)}(h:MkN nm K H o f kvs):kvs.length=o.length:=by obtain⟨vs,rfl,d⟩:=h;have:=d.length;rw[y01]at this;unfold mk;rw[y01,y23,y01];lia
def MkN.put(ni:∀x y,nm x=nm y->x=y){v:V}{o:List Int}{kvs:List (Key × V)}(h:MkN nm K H o f kvs)(hr:r∉o)(h':MkN nm K H' o f kvs)(dv:Dr K H' (f r) v):MkN nm K H' (o++[r]) f (z2c kvs (kN nm r) v):=by rw[z6B _ (h.no ni hr)];obtain⟨vs,rfl,d⟩:=h';have hl:=d.length;rw[y01]at hl;refine⟨vs++[v],?_,by rw[y0e];exact DrL.append d (DrL.one dv)⟩;unfold mk;rw[y0e,List.zip_append (by rw[y01];exact hl),y0e];rfl
theorem MkN.mono{o:List Int}{kvs:List (Key × V)}(h:MkN nm K H o f kvs)(s:z0d H H'):MkN nm K H' o f kvs:=by obtain⟨vs,e,d⟩:=h;exact⟨vs,e,d.mono s⟩
theorem MkN.keyed{o:List Int}{kvs:List (Key × V)}(h:MkN nm K H o f kvs)(k:z1j H H')(hf:FK f):MkN nm K H' o f kvs:=by obtain⟨vs,e,d⟩:=h;exact⟨vs,e,d.keyed k (hf.keyL o)⟩
end
def z4G(K:yyF):Sp:=fun vs H Q _=>∃(a l m:Addr)(n:Nat)(rows:List Row)(nm:Int->Int)(us:List V)(o:List Int)(k:Int->Int)(kvs:List (Key × V)),vs=[.ref a,.ref l,.ref m]/\SqS K H a us/\z6v K H us rows nm/\(∀x y,nm x=nm y->x=y)/\z0e n rows/\n<=60/\H l=some (.lst (o.map (nV nm)))/\H m=some (.dK kvs) /\
 MkN nm K H o (fun r=>D.int (k r)) kvs/\z7d rows o/\(∀r∈o,∀g∈(row rows r).2,g∈o)/\z3E K H Q (D.tup (z0i (z1J rows k o)))
def z4H(K:yyF):Sp:=fun vs H Q _=>∃(a:Addr)(n:Nat)(rows:List Row)(nm:Int->Int)(us:List V),vs=[.ref a,.int (nm 0)]/\SqS K H a us/\z6v K H us rows nm/\(∀x y,nm x=nm y->x=y)/\z0e n rows/\n<=60/\z3E K H Q (D.tup (z0i (shr rows)))
def z4D{n:Nat}{rows:List Row}(G:z0e n rows):∃h:Int->Int,h 0=0/\Mor rows (shr rows) (z0b rows) h:=by
 obtain⟨L,cl⟩:=z0m G;have C:=z2d G;have R:=z2z G;obtain⟨h1,h2,h3⟩:=z1g (kOf rows) (z0b rows);obtain⟨t,et⟩:=L.hd;refine⟨fun x=>((((z0z (kOf rows) (z0b rows)).map (kOf rows)).idxOf (kOf rows x):Nat):Int),?_,fun x hx=>?_⟩
 .obtain⟨t',et'⟩:=z6X (kOf rows) 0 t;show((((z0z (kOf rows) (z0b rows)).map (kOf rows)).idxOf (kOf rows 0):Nat):Int)=0;rw[et,et',y0l,y22];simp
 .have hy:∃y,(z0z (kOf rows) (z0b rows))[((z0z (kOf rows) (z0b rows)).map (kOf rows)).idxOf (kOf rows x)]?=some y/\kOf rows y=kOf rows x:=by
   have hlt:=y0P (h1 x hx);have hg:=y1x hlt;rw[y01]at hlt;rw[y18]at hg;exact⟨_,y00 hlt,hg⟩
  show row (shr rows) ((((z0z (kOf rows) (z0b rows)).map (kOf rows)).idxOf (kOf rows x):Nat):Int)=_;generalize((z0z (kOf rows) (z0b rows)).map (kOf rows)).idxOf (kOf rows x)=j at hy⊢;obtain⟨y,ey,hg⟩:=hy;have hhd:y∈z0b rows:=h2 _ (y0z ey);have eb:=(R _ hhd x hx).mp hg;have er:row (shr rows) ((j:Nat):Int)=((row rows y).1,(row rows y).2.map fun g=>((((z0z (kOf rows) (z0b rows)).map (kOf rows)).idxOf (kOf rows g):Nat):Int)):=by
   unfold row shr z1J;have:((j:Nat):Int).toNat=j:=by lia
   rw[this,y02,y04,ey];rfl
  rw[er];refine y2x ?_ ?_
  .exact congrFun eb []
  .show List.map _ _=List.map _ _;refine y1U (by rw[y01,y01,C.len y hhd,C.len x hx]) fun i i1 i2=>?_;rw[y01]at i1 i2;rw[y18,y18];have b1:(row rows y).2.getD i 0=(row rows y).2[i]:=by rw[y02,y00 i1];rfl
   have b2:(row rows x).2.getD i 0=(row rows x).2[i]:=by rw[y02,y00 i2];rfl
   have a1:=C.go hhd i;have a2:=C.go hx i;rw[b1]at a1;rw[b2]at a2;have hb:beh rows (row rows y).2[i]=beh rows (row rows x).2[i]:=by rw[<-b1,<-b2];exact funext fun w=>congrFun eb (i::w)
   rw[(R _ a1 _ a2).mpr hb]
def zbL{n:Nat}{M F:List Row}{h:Int->Int}(G:z0e n M)(GF:z0e n F)(hz:h 0=0)(mo:Mor M F (z0b M) h){x:Int}(hx:x∈z0b M):0<=h x/\h x<(F.length:Int):=by
 have hs:=GF.some;have:=(z3g G).all (C:=fun x=>x∈z0b M/\0<=h x/\h x<(F.length:Int)) (fun x hx g hg=>?_) (fun x hx=>?_) x hx
 .exact this.2
 .obtain⟨hm,x0,x1⟩:=hx;refine⟨(z2d G).cl x hm g hg,?_⟩;refine GF.go _ (z0c x0 x1) (h g) ?_;rw[mo x hm];exact y0b.mpr ⟨g,hg,rfl⟩
 .rw[y08.mp hx];exact⟨(z2d G).zero,by rw[hz];lia⟩
def sw(s i:Int):Int:=if i=0 then s else if i=s then 0 else i
def z8h(s:Int):sw s 0=s:=if_pos rfl
def z6c(s:Int):sw s s=0:=by
 unfold sw;by_cases h:s=0
 .rw[if_pos h];exact h
 .rw[if_neg h,if_pos rfl]
def z8W(s i:Int):sw s (sw s i)=i:=by
 by_cases h:i=0
 .rw[h,z8h,z6c]
 .by_cases h2:i=s
  .rw[h2,z6c,z8h]
  .have e:sw s i=i:=by unfold sw;rw[if_neg h,if_neg h2]
   rw[e,e]
def zge(s:Int)(x y:Int)(e:sw s x=sw s y):x=y:=by rw[<-z8W s x,e,z8W]
def z8k{s i:Int}{L:Nat}(h0:0<=s)(h1:s<(L:Int))(i0:0<=i)(i1:i<(L:Int)):0<=sw s i/\sw s i<(L:Int):=by
 unfold sw;by_cases h:i=0
 .rw[if_pos h];exact⟨h0,h1⟩
 .by_cases h2:i=s
  .rw[if_neg h,if_pos h2];lia
  .rw[if_neg h,if_neg h2];exact⟨i0,i1⟩
def swM(rows:List Row)(s:Int):List Row:=(z0y rows.length).map fun i=>z7N (sw s) (row rows (sw s i))
def z1z(rows:List Row)(s:Int):(swM rows s).length=rows.length:=by unfold swM;rw[y01,z0H]
def z32{L:Nat}{i:Int}(h0:0<=i)(h1:i<(L:Int)):(z0y L)[i.toNat]?=some i:=by unfold z0y;rw[y04,List.getElem?_range (by lia)];show some ((i.toNat:Nat):Int)=some i;congr 1;lia
def z6q{rows:List Row}{s i:Int}(h0:0<=i)(h1:i<(rows.length:Int)):row (swM rows s) i=z7N (sw s) (row rows (sw s i)):=by unfold row swM;rw[y02,y04,z32 h0 h1];rfl
def zbe{s:Int}(r:Row):z7N (sw s) (z7N (sw s) r)=r:=by unfold z7N;rw[y0L];have:(sw s∘sw s)=id:=funext fun x=>z8W s x;rw[this,List.map_id]
def z0O{n:Nat}{rows:List Row}{s:Int}(G:z0e n rows)(h0:0<=s)(h1:s<(rows.length:Int)):z0e n (swM rows s):=by
 have hm:∀r∈swM rows s,∃q∈rows,r=z7N (sw s) q:=fun r hr=>by unfold swM at hr;obtain⟨i,hi,e⟩:=y0b.mp hr;obtain⟨i0,i1⟩:=z0J.mp hi;obtain⟨j0,j1⟩:=z8k h0 h1 i0 i1;exact⟨_,z0c j0 j1,e.symm⟩
 refine⟨by rw[z1z];exact G.few,by rw[z1z];exact G.some,fun r hr=>?_,fun r hr=>?_,fun r hr g hg=>?_⟩
 .obtain⟨q,hq,rfl⟩:=hm r hr;exact G.perm q hq
 .obtain⟨q,hq,rfl⟩:=hm r hr;show(q.2.map _).length=n;rw[y01];exact G.len q hq
 .obtain⟨q,hq,rfl⟩:=hm r hr;obtain⟨y,hy,rfl⟩:=y0b.mp hg;obtain⟨y0,y1⟩:=G.go q hq y hy;rw[z1z];exact z8k h0 h1 y0 y1
def zbP{K:yyF}{H:Hp}{us:List V}{rows:List Row}{s:Int}(h0:0<=s)(h1:s<(rows.length:Int))(h:DrL K H (z0i rows) us):z6v K H us (swM rows s) (sw s):=fun i i0 i1=>by rw[z1z]at i1;obtain⟨j0,j1⟩:=z8k h0 h1 i0 i1;obtain⟨v,ev,dv⟩:=z2m h (z2Y j0 j1);refine⟨j0,v,ev,?_⟩;rw[z6q i0 i1,zbe];exact dv
def goW(M:List Row):Int->List Int->Int
 |x,[]=>x
 |x,l::w=>goW M ((row M x).2.getD l.toNat 0) w
theorem z2W(M:List Row):∀(w w':List Int)(x:Int),goW M x (w++w')=goW M (goW M x w) w'
 |[],_,_=>rfl
 |l::w,w',x=>z2W M w w' _
def LW(n:Nat)(w:List Int):Prop:=∀l∈w,0<=l/\l<(n:Int)
def LW.tail{n:Nat}{l:Int}{w:List Int}(h:LW n (l::w)):LW n w:=fun x hx=>h x (y09 _ hx)
def LW.app{n:Nat}{w w':List Int}(h:LW n w)(h':LW n w'):LW n (w++w'):=fun x hx=>(y0q.mp hx).elim (h x) (h' x)
theorem z6P{n:Nat}{M:List Row}{C:Int->Prop}(hl:∀x,C x->(row M x).2.length=n)(hc:∀x,C x->∀g∈(row M x).2,C g):∀(w:List Int)(x:Int),LW n w->C x->C (goW M x w)
 |[],_,_,h=>h
 |l::w,x,hw,h=>by
  obtain⟨l0,l1⟩:=hw l y0m;have hi:l.toNat<(row M x).2.length:=by rw[hl x h];lia
  refine z6P hl hc w _ hw.tail ?_;rw[y02,y00 hi];exact hc x h _ (y0c hi)
theorem z8V{n:Nat}{M' M:List Row}{h:Int->Int}{C:Int->Prop}(hl:∀x,C x->(row M' x).2.length=n)(hc:∀x,C x->∀g∈(row M' x).2,C g)(mo:∀x,C x->row M (h x)=z7N h (row M' x)):∀(w:List Int)(x:Int),LW n w->C x->goW M (h x) w=h (goW M' x w)
 |[],_,_,_=>rfl
 |l::w,x,hw,hx=>by
  obtain⟨l0,l1⟩:=hw l y0m;have hi:l.toNat<(row M' x).2.length:=by rw[hl x hx];lia
  have e:(row M (h x)).2.getD l.toNat 0=h ((row M' x).2.getD l.toNat 0):=by rw[mo x hx];show((row M' x).2.map h).getD l.toNat 0=_;rw[y02,y02,y04,y00 hi];rfl
  show goW M ((row M (h x)).2.getD l.toNat 0) w=h (goW M' ((row M' x).2.getD l.toNat 0) w);rw[e];refine z8V hl hc mo w _ hw.tail ?_;rw[y02,y00 hi];exact hc x hx _ (y0c hi)
def z1I{n:Nat}{M:List Row}(G:z0e n M){w:List Int}{x:Int}(hw:LW n w)(h0:0<=x)(h1:x<(M.length:Int)):0<=goW M x w/\goW M x w<(M.length:Int) :=
 z6P (n:=n) (C:=fun x=>0<=x/\x<(M.length:Int)) (fun x hx=>G.len _ (z0c hx.1 hx.2)) (fun x hx=>G.go _ (z0c hx.1 hx.2)) w x hw ⟨h0,h1⟩
end Gu
namespace L2
open PySem PySem.Spec PyProof.Rows
def z0C.sub{P:Program}{w:World}{K:yyF}{mg:yyS}{base:Heap}{CX:CXT}{k:Nat}{f:Addr}{fd:FuncData}{ps:List Str}{sp sp':Sp}(h:z0C P w K mg base CX k f fd ps sp)(i:∀vs H Q E,sp' vs H Q E->sp vs H Q E):z0C P w K mg base CX k f fd ps sp' :=
 { h with len:=fun vs H Q E q=>h.len vs H Q E (i vs H Q E q),run:=fun A outer s H args us vs Q E hr e0 b r q=>h.run A outer s H args us vs Q E hr e0 b r (i vs H Q E q) }
end L2
namespace Gu
open PySem L2
def za6{K:yyF}(vs:List V)(H:Hp)(Q:VK)(E:XK)(h:z9J K vs H Q E):z4H K vs H Q E:=by obtain⟨a,n,rows,rfl,⟨us,ea,da⟩,GM,hn,q⟩:=h;exact⟨a,n,rows,fun i=>i,us,rfl,.inl (SqL.of ea),z6v.of da,fun _ _ e=>e,GM,hn,q⟩
instance LW.dec(n:Nat)(w:List Int):Decidable (LW n w):=by unfold LW;infer_instance
def z6M(K:yyF)(Ct:Addr):Sp:=fun vs H Q E=>∃(n:Nat)(u:V)(w:List Int),vs=[.int n,u]/\Dr K H (D.its w) u/\w.length<=5000/\(LW n w->∀H',z0d H H'->Q .non H')/\(¬LW n w->TMx Ct E H)
def z6O(Ts:List Tb)(K:yyF)(Ct:Addr):Sp:=fun vs H Q E=>∃(v u:V)(rows:List Row)(n:Nat)(w:List Int),vs=[v,u]/\z3P Ts H/\Dr K H (D.tup (z0i rows)) v/\Dr K H (D.its w) u/\z0e n rows/\n<=60/\rows.length<=60/\w.length<=4900 /\
 (LW n w->z7U Ts K H Q (D.tup (z0i (shr (swM rows (goW rows 0 w))))))/\(¬LW n w->zhn Ts Ct E H)
theorem z2S:∀gs:List (List Row),D.keyL (gs.map fun g=>D.tup (z0i g))
 |[]=>by simp only[y0S,D.keyL]
 |g::gs=>by simp only[y0l,D.keyL,D.key];exact⟨z2F g,z2S gs⟩
theorem SameL.over{Ts:List Tb}{H H':Hp}{l:Addr}{xs:List V}{o:HO}(s:SameL Ts H H')(h:H l=none)(e:H' l=some (.lst xs)):SameL Ts H (upd H' l o) :=
 ⟨fun b u n q=>by rw[z06 (z0f q h)];exact s.at_ b u n q,fun t=>z3P.over (s.tabs t) e⟩
def SameL.up{Ts:List Tb}{H H':Hp}{l:Addr}{o:HO}(s:SameL Ts H H')(h:H' l=none):SameL Ts H (upd H' l o):=s.trans (z0d.l (z04 (z0d.refl H') h))
end Gu
namespace L2
open PySem PySem.Spec PyProof.Rows
def zfZ(P:Program)(w:World)(K:yyF)(tk tv:TE):TE:=fun σ H Q=>∀p,H p=none->∀ob0,DD P w K (upd H p ob0) p []->tk σ (upd H p ob0) fun y H1=>tv σ H1 fun v H2=>∃d,DD P w K H2 p []/\zeA K H2 d y/\∀ob,DD P w K (upd H2 p ob) p (z2c [] d v)->Q (.ref p) (upd H2 p ob)
section
variable{X:Cx}{K:yyF}{k v:Expr}{tk tv:TE}{pos:Pos}
def zdn(hu:X.A.units+9<cLine)(hk:PE X k tk)(hv:PE X v tv):PE X (.Dict [some k] [v] pos) (zfZ X.prog X.w K tk tv):=by
 intro pins s σ H Q I h;have hb:(s.heap.objs.size==sysModules)=false:=y2T.mpr (y1k (y0C I.big));have I1:Inv X pins σ (upd H s.heap.objs.size (zaB X.prog X.w s.heap.objs.size [])) { s with heap:=s.heap.push { cls:=.type "dict",data:=.dict #[] } }:=by refine I.laid (a:=s.heap.objs.size) (o:=zaB X.prog X.w s.heap.objs.size []) (t':=s.toks) (fun _ _ q=>y06 _ q) (y0f _) ⟨⟨hb,_,#[],0,y0k _ rfl,⟨rfl,rfl,rfl⟩,rfl,rfl⟩,⟨_,y0k _ rfl⟩,fun h1 h2 p k=>?_⟩;obtain⟨p0,o1,es1,ep1,p1,p2,p3,p4⟩:=p;exact⟨p0,o1,es1,ep1,k _ p1,p2,p3,p4⟩
 have hq:=h _ I.fresh _ ⟨[],z01,.nil,y2S,y0y _⟩;refine wpAny_Dict_any rfl rfl (by simp) (by simp) (thn ((z74 hk hv z8N:PPs X pos [some k] [v] [(tk,tv)]) pins _ σ _ (fun ps H2=>match ps with|[(y,v)]=>∃d,DD X.prog X.w K H2 s.heap.objs.size []/\zeA K H2 d y/\∀ob,DD X.prog X.w K (upd H2 s.heap.objs.size ob) s.heap.objs.size (z2c [] d v)->Q (.ref s.heap.objs.size) (upd H2 s.heap.objs.size ob)|_=>False) I1 hq) fun ws s2 hz8=>?_)
 obtain⟨ps,H2,I2,rel,q⟩:=hz8;match ps,rel,q with
 |[],_,q=>exact False.elim q
 |_::_::_,_,q=>exact False.elim q
 |[(y,v)],rel,q =>
  obtain⟨d,g,⟨⟨b,eb⟩,k1,k2,k3⟩,q⟩:=q;subst eb;cases rel with
  |@cons a bb as bs hh t =>
   cases t;obtain⟨u1,u2⟩:=bb;obtain⟨ry,rv⟩:=hh;obtain rfl:u1=Value.ref b:=ry;obtain⟨hsm,xs,e,rr,dd⟩:=g.at I2;have rr':=rr;cases rr;unfold storeAll;rw[y3E];refine y03 (y03 (wpAny_dictSet_heap (hsz:=y0y _) (show X.A.units+8<cLine by lia) (z7F I2 k1 k2 k3) dd fun h' dd' hsb=>y0g ?_));show wpAny _ _ (forIn ([]:List (Value × Value)) PUnit.unit _) _ _ _;rw[List.forIn_nil];refine y0g ?_;obtain⟨q',es,ep,hq',h2,h3,h4,_,h5⟩:=dd';have Iw:Inv X pins σ (upd H2 s.heap.objs.size (zaB X.prog X.w s.heap.objs.size (storedH [] d b u2))) { s2 with heap:=h',toks:=s2.toks+(z2G X.prog X.w).draws d }:=by refine z4c I2 (by rw[e];exact y2I) hsb ⟨q',hq'⟩ ⟨⟨hsm,q',es,ep,hq',h2,h3,h4⟩,⟨q',hq'⟩,fun h1 h2' p k=>?_⟩;obtain⟨p0,o1,es1,ep1,p1,p2,p3,p4⟩:=p;exact⟨p0,o1,es1,ep1,k _ p1,p2,p3,p4⟩
   have kt:∀c ys,H2 c=some (.tup ys)->upd H2 s.heap.objs.size (zaB X.prog X.w s.heap.objs.size (storedH [] d b u2)) c=some (.tup ys):=fun c ys ec=>by rw[z06 (z79 g c ys ec)];exact ec
   refine⟨.ref s.heap.objs.size,_,Iw,rfl,q _ ⟨_,z01,(rr'.put d ⟨k1,k2,k3⟩ rv).mono fun d' v' kd q=>q.keyed kt kd,?_,?_⟩⟩
   .have ek:=(rr'.put d ⟨k1,k2,k3⟩ rv).keys;rw[ek];exact h5
   .have:=z1L ([]:List (D × V)) d v;exact y0r this (by decide)
end
structure ZA(z TI TO i1 i2:Addr)(fp1 fp2:List Addr):Prop where
 TIz:TI≠z
 TOz:TO≠z
 i1z:i1≠z
 i2z:i2≠z
 TITO:TI≠TO
 TIi1:TI≠i1
 TIi2:TI≠i2
 TOi1:TO≠i1
 TOi2:TO≠i2
 i12:i1≠i2
 f1z:z∉fp1
 f1T:TO∉fp1
 f1i:i2∉fp1
 f2z:z∉fp2
 f2T:TO∉fp2
 f2i:i1∉fp2
section
variable{prog:Program}{w:World}{A:Around}{E:yyE}{s:Shared}{z TI TO i1 i2:Addr}{fp1 fp2:List Addr}{n1 n2:Nat}{P1 P2:Nat->Value->Prop}{S1 S2:Nat->Heap->Prop}
def ndr{it:Addr}{fp:List Addr}{n:Nat}{P:Nat->Value->Prop}{St:Nat->Heap->Prop}(D:Draws prog w A it fp n P St){i:Nat}{h h':Heap}{a:Addr}(st:St i h)(hs:Heap.SameBut a h h')(ha:a∉fp):St i h' :=
 D.frame i h h' st fun b hb o e=>hs.extBut b o (fun q=>ha (q▸hb)) e
def zbi{k1 k2:Nat}{a b:Value}{Q:yyE}(D1:Draws prog w A i1 fp1 n1 P1 S1)(D2:Draws prog w A i2 fp2 n2 P2 S2)(Z:ZA z TI TO i1 i2 fp1 fp2)(hz:IsZip s.heap z TI TO .none)(hTI:IsPair s.heap TI (.ref i1) (.ref i2))(hTO:IsPair s.heap TO a b)(t1:S1 k1 s.heap)(t2:S2 k2 s.heap)(l1:k1<n1)(l2:k2<n2)(hQ:∀x y h' tk,P1 k1 x->P2 k2 y->IsZip h' z TI TO (rawInt s.heap.objs.size)->IsPair h' TO x y->S1 (k1+1) h'->S2 (k2+1) h'->IsPair h' s.heap.objs.size x y -> (∀c o,c≠z->c≠TO->c≠i1->c≠i2->s.heap.get? c=some o->h'.get? c=some o)->Q (.ref s.heap.objs.size) { s with heap:=h',toks:=tk }) : wpAny (model prog w) A (Builtin.«zip.__next__» ⟨[.ref z],[]⟩) (fun fin s'=>∃v,fin=.done (.ret v)/\Q v s') E s:=by
 show wpAny _ _ (field (.ref z) 2>>=_) _ _ _;refine y03 (y1T hz rfl (x:=.bool false) rfl ?_);show wpAny _ _ (field (.ref z) 3>>=_) _ _ _;refine y03 (y1T hz rfl (x:=.ref TI) rfl (y03 (y2c hTI rfl ?_)));show wpAny _ _ (Builtin.SmallTypes.ownedTupleIsFree (.ref z)>>=_) _ _ _;refine y03 ?_;unfold Builtin.SmallTypes.ownedTupleIsFree;refine y03 (y1T hz rfl (x:=.none) rfl (y0g ?_));simp only[y2b];refine y03 (y2i (y03 (y1T hz rfl (x:=.ref TO) rfl (y03 (y2z hz (by simp) fun ha za sa=>?_)))));replace za:IsZip ha z TI TO .ellipsis:=za;refine y03 ?_;simp only[List.zipIdx_cons,List.zipIdx_nil,y3E,List.forIn_nil];refine y03 (y03 (wpAny_onRaise ?_));show wpAny _ _ (Builtin.SmallTypes.nextOf (.ref i1)>>=_) _ _ _;refine y03 (D1.item k1 _ _ _ l1 (ndr D1 t1 sa Z.f1z) fun x hb tb px t1b sb=>y0g ?_);have Tb:IsPair hb TO a b:=sb.extBut _ _ Z.TOi1 (sa.extBut _ _ Z.TOz hTO);refine y03 (y2c Tb rfl (y03 (wpAny_updateSeq_pair Tb fun hc Tc sc=>?_)));replace Tc:IsPair hc TO x b:=Tc;refine y03 (wpAny_letGo (y0g ?_));refine y03 (y03 (wpAny_onRaise ?_));show wpAny _ _ (Builtin.SmallTypes.nextOf (.ref i2)>>=_) _ _ _;refine y03 (D2.item k2 _ _ _ l2 (ndr D2 (ndr D2 (ndr D2 t2 sa Z.f2z) sb Z.f2i) sc Z.f2T) fun y hd td py t2d sd=>y0g ?_);have Td:IsPair hd TO x b:=sd.extBut _ _ Z.TOi2 Tc;refine y03 (y2c Td rfl (y03 (wpAny_updateSeq_pair Td fun he Te se=>?_)));replace Te:IsPair he TO x y:=Te;refine y03 (wpAny_letGo (y0g (y0g ?_)));refine y03 (y2c Te rfl (y03 (wpAny_newTuple ?_)));have hsz:he.objs.size=s.heap.objs.size:=by rw[se.1,sd.1,sc.1,sb.1,sa.1]
 have ze:IsZip he z TI TO .ellipsis:=se.extBut _ _ Z.TOz.symm (sd.extBut _ _ Z.i2z.symm (sc.extBut _ _ Z.TOz.symm (sb.extBut _ _ Z.i1z.symm za)));have ke:∀c o,c≠z->c≠TO->c≠i1->c≠i2->s.heap.get? c=some o->he.get? c=some o:=fun c o c1 c2 c3 c4 e=>se.extBut _ _ c2 (sd.extBut _ _ c4 (sc.extBut _ _ c2 (sb.extBut _ _ c3 (sa.extBut _ _ c1 e))));have t1e:=ndr D1 (ndr D1 (ndr D1 t1b sc Z.f1T) sd Z.f1i) se Z.f1T;have t2e:=ndr D2 t2d se Z.f2T;have zlt:z<he.objs.size:=y0h ze;show wpAny _ _ (Builtin.SmallTypes.ownedTupleHandOut (.ref z) (.ref he.objs.size)>>=_) _ _ _;refine y03 ?_;unfold Builtin.SmallTypes.ownedTupleHandOut;have zf:IsZip (he.push { cls:=.type "tuple",data:=.seq #[x,y] }) z TI TO .ellipsis:=y06 _ ze;refine y03 (y2z zf (by simp) fun hg zg sg=>?_);replace zg:IsZip hg z TI TO (rawInt he.objs.size):=zg;refine y2z zg (by simp) fun hh zh sh=>?_;replace zh:IsZip hh z TI TO (rawInt he.objs.size):=zh;have up:∀c o,c≠z->he.get? c=some o->hh.get? c=some o:=fun c o c1 e=>sh.extBut _ _ c1 (sg.extBut _ _ c1 (y06 _ e));have pr:IsPair hh he.objs.size x y:=sh.extBut _ _ (y2B zlt) (sg.extBut _ _ (y2B zlt) (y0k _ rfl));rw[hsz]at zh pr;refine y0g ⟨_,rfl,?_⟩;show Q (.ref he.objs.size) _;rw[hsz];exact hQ x y hh _ px py zh (up _ _ Z.TOz Te) (D1.frame _ _ _ t1e fun b hb o e=>up b o (fun q=>Z.f1z (q▸hb)) e) (D2.frame _ _ _ t2e fun b hb o e=>up b o (fun q=>Z.f2z (q▸hb)) e) pr fun c o c1 c2 c3 c4 e=>up c o c1 (ke c o c1 c2 c3 c4 e)
def zcR{a b:Value}{Q:Fin->Shared->Prop}(D1:Draws prog w A i1 fp1 n1 P1 S1)(Z:ZA z TI TO i1 i2 fp1 fp2)(hz:IsZip s.heap z TI TO .none)(hTI:IsPair s.heap TI (.ref i1) (.ref i2))(hTO:IsPair s.heap TO a b)(t1:S1 n1 s.heap)(hE:∀h' e,(∀c o,c≠z->c≠TO->c≠i1->c≠i2->s.heap.get? c=some o->h'.get? c=some o)->(∃o,h'.get? e=some o/\o.cls=.type "StopIteration")->E (.ref e) { s with heap:=h' }) : wpAny (model prog w) A (Builtin.«zip.__next__» ⟨[.ref z],[]⟩) Q E s:=by
 show wpAny _ _ (field (.ref z) 2>>=_) _ _ _;refine y03 (y1T hz rfl (x:=.bool false) rfl ?_);show wpAny _ _ (field (.ref z) 3>>=_) _ _ _;refine y03 (y1T hz rfl (x:=.ref TI) rfl (y03 (y2c hTI rfl ?_)));show wpAny _ _ (Builtin.SmallTypes.ownedTupleIsFree (.ref z)>>=_) _ _ _;refine y03 ?_;unfold Builtin.SmallTypes.ownedTupleIsFree;refine y03 (y1T hz rfl (x:=.none) rfl (y0g ?_));simp only[y2b];refine y03 (y2i (y03 (y1T hz rfl (x:=.ref TO) rfl (y03 (y2z hz (by simp) fun ha za sa=>?_)))));replace za:IsZip ha z TI TO .ellipsis:=za;refine y03 ?_;simp only[List.zipIdx_cons,List.zipIdx_nil,y3E,List.forIn_nil];refine y03 (y03 (wpAny_onRaise ?_));show wpAny _ _ (Builtin.SmallTypes.nextOf (.ref i1)>>=_) _ _ _;refine y03 (D1.done _ _ _ (ndr D1 t1 sa Z.f1z) fun hb e sb he=>?_);obtain⟨oe,hoe,hce⟩:=he;have zb:IsZip hb z TI TO .ellipsis:=sb _ _ Z.i1z.symm za;have hez:e≠z:=fun x=>by subst x;rw[zb]at hoe;cases hoe;simp at hce
 exact y2z zb (by simp) fun hc _ sc=>hE hc e (fun c o c1 _ c3 _ x=>sc.extBut _ _ c1 (sb _ _ c3 (sa.extBut _ _ c1 x))) ⟨oe,sc.extBut _ _ hez hoe,hce⟩
end
abbrev zt1(h:Heap)(a:Addr):Heap:=h.push { cls:=.type "tuple_iterator",data:=.fields #[.ref a,.int 0 0] }
abbrev zt2(h:Heap)(a b:Addr):Heap:=(zt1 h a).push { cls:=.type "tuple_iterator",data:=.fields #[.ref b,.int 0 0] }
abbrev zt3(h:Heap)(a b:Addr):Heap:=(zt2 h a b).push { cls:=.type "tuple",data:=.seq #[.ref h.objs.size,.ref (zt1 h a).objs.size] }
abbrev zt4(h:Heap)(a b:Addr):Heap:=(zt3 h a b).push { cls:=.type "tuple",data:=.seq #[.none,.none] }
abbrev zt5(h:Heap)(a b:Addr):Heap:=(zt4 h a b).push { cls:=.type "zip",data:=.fields #[.none,.bool false,.bool false,.ref (zt2 h a b).objs.size,.ref (zt3 h a b).objs.size] }
def z6W(a b:Addr)(xs ys:Array Value) : Meets (Builtin.«zip.__new__» ⟨[.type "zip",.ref a,.ref b],[]⟩) (fun _ R s=>s.heap.IsTuple a xs/\s.heap.IsTuple b ys/\R (.ok (.ret (.ref (zt4 s.heap a b).objs.size))) { s with heap:=zt5 s.heap a b }) :=
 .of_wp fun prog w A R s h=>by
  obtain⟨hp,g,d,tk,os⟩:=s;obtain⟨hl1,hl2,h⟩:=h;have hsub:=sub_zip;have hL1:Heap.IsTuple (Shared.heap ⟨hp,g,d,tk,os⟩) a xs:=hl1;have hL2:Heap.IsTuple (Shared.heap ⟨hp.push { cls:=.type "tuple_iterator",data:=.fields #[.ref a,.int 0 0] },g,d,tk,os⟩) b ys:=by obtain⟨o,e,r⟩:=hl2;exact⟨o,y06 _ e,r⟩
  wp_walk using y2v hL1,y2v hL2
  exact⟨_,rfl,h⟩
section
variable{prog:Program}{w:World}{A:Around}{E:yyE}{s:Shared}
def z80{a b:Addr}{xs ys:Array Value}{Q:yyE}(hl1:s.heap.IsTuple a xs)(hl2:s.heap.IsTuple b ys)(h:∀h',IsZip h' (s.heap.objs.size+4) (s.heap.objs.size+2) (s.heap.objs.size+3) .none->IsPair h' (s.heap.objs.size+2) (.ref s.heap.objs.size) (.ref (s.heap.objs.size+1)) -> IsPair h' (s.heap.objs.size+3) .none .none->h'.IsTupleIter s.heap.objs.size a 0->h'.IsTupleIter (s.heap.objs.size+1) b 0->h'.objs.size=s.heap.objs.size+5 -> (∀c o,s.heap.get? c=some o->h'.get? c=some o)->Q (.ref (s.heap.objs.size+4)) { s with heap:=h' }) : wpAny (model prog w) A (call (.type "zip") [.ref a,.ref b]) Q E s:=by
 refine callType_new F.called_zip (by decide) (F.typeCall_zip_2 _ _) (F.newCall_zip_2 _ _) (fun obj=>F.args_object_init_3 obj _ _) F.entry_zip_new (z6W a b xs ys) ⟨hl1,hl2,?_⟩;have e1:(zt1 s.heap a).objs.size=s.heap.objs.size+1:=y1K ..;have e2:(zt2 s.heap a b).objs.size=s.heap.objs.size+2:=by rw[y1K,e1]
 have e3:(zt3 s.heap a b).objs.size=s.heap.objs.size+3:=by rw[y1K,e2]
 have e4:(zt4 s.heap a b).objs.size=s.heap.objs.size+4:=by rw[y1K,e3]
 have e5:(zt5 s.heap a b).objs.size=s.heap.objs.size+5:=by rw[y1K,e4]
 have p:∀{h:Heap}{o u:Obj}{c:Addr},h.get? c=some u->(h.push o).get? c=some u:=fun e=>y06 _ e;have g5:(zt5 s.heap a b).get? (zt4 s.heap a b).objs.size=some _:=y0k _ rfl;have g4:(zt5 s.heap a b).get? (zt3 s.heap a b).objs.size=some _:=p (y0k _ rfl);have g3:(zt5 s.heap a b).get? (zt2 s.heap a b).objs.size=some _:=p (p (y0k _ rfl));have g2:(zt5 s.heap a b).get? (zt1 s.heap a).objs.size=some _:=p (p (p (y0k _ rfl)));have g1:(zt5 s.heap a b).get? s.heap.objs.size=some _:=p (p (p (p (y0k _ rfl))));show _/\_;rw[e2,e3,e4]at g5;rw[e1,e2]at g3;rw[e3]at g4;rw[e1]at g2;rw[e4];exact⟨⟨_,g5,rfl⟩,h _ g5 g3 g4 ⟨_,g1,rfl,rfl⟩ ⟨_,g2,rfl,rfl⟩ e5 fun c o x=>p (p (p (p (p x))))⟩
end
def zgK(K:yyF)(a b:Addr):It :=
 ⟨fun i H=>∃xs ys x y,SqT K H a xs/\SqT K H b ys/\xs[i]?=some x/\ys[i]?=some y,
  fun i H v H'=>∃p x y,v=.ref p/\H p=none/\(∀xs,SqT K H a xs->xs[i]?=some x)/\(∀ys,SqT K H b ys->ys[i]?=some y)/\H'=upd H p (.tup [x,y]),
  fun i H=>∃xs ys,SqT K H a xs/\SqT K H b ys/\xs.length=i/\ys.length=i⟩
section
variable{X:Cx}{elts:List Expr}{tk:Nat}{tp:Pos}
def zbS{P:Program}{w:World}{K:yyF}(a b z TI TO i1 i2:Addr)(D:TI≠z/\TO≠z/\i1≠z/\i2≠z/\TI≠TO/\TI≠i1/\TI≠i2/\TO≠i1/\TO≠i2/\i1≠i2)(aT:a≠TO)(bT:b≠TO) : zcE P w K (.Tuple elts tk tp) (zgK K a b) [z,TI,TO,i1,i2] z (fun i h=>IsZip h z TI TO .none/\IsPair h TI (.ref i1) (.ref i2)/\(∃u v,IsPair h TO u v)/\h.IsTupleIter i1 a i/\h.IsTupleIter i2 b i) where
 mem:=by simp
 obj:=fun i h st c hc=>by
  obtain⟨hz,hTI,⟨u,v,hTO⟩,⟨o1,e1,c1,d1⟩,⟨o2,e2,c2,d2⟩⟩:=st;simp at hc;rcases hc with q|q|q|q|q
  .rw[q];exact⟨_,hz,fun v z=>by cases z⟩
  .rw[q];exact⟨_,hTI,fun v z=>by cases z⟩
  .rw[q];exact⟨_,hTO,fun v z=>by cases z⟩
  .rw[q];exact⟨_,e1,fun v z=>by rw[d1]at z;cases z⟩
  .rw[q];exact⟨_,e2,fun v z=>by rw[d2]at z;cases z⟩
 keep:=fun i h h' st k=>by obtain⟨hz,hTI,⟨u,v,hTO⟩,⟨o1,e1,c1⟩,⟨o2,e2,c2⟩⟩:=st;exact⟨k z (by simp) _ hz,k TI (by simp) _ hTI,⟨u,v,k TO (by simp) _ hTO⟩,⟨o1,k i1 (by simp) _ e1,c1⟩,⟨o2,k i2 (by simp) _ e2,c2⟩⟩
 item:=by
  intro X hP hw hK hc i pins s σ H E I hf st hg;subst hP hw hK;obtain⟨hz,hTI,⟨u,v,hTO⟩,h1,h2⟩:=st;obtain⟨xs,ys,x,y,hxs,hys,hx,hy⟩:=hg;obtain⟨its,rv,p,_⟩:=I.tuple hxs;obtain⟨itt,rw',p',_⟩:=I.tuple hys;obtain⟨ux,hux,rux⟩:=rv.get hx;obtain⟨uy,huy,ruy⟩:=rw'.get hy;obtain⟨d1,d2,d3,d4,d5,d6,d7,d8,d9,d10⟩:=D;have Da:∀{l:Addr}{its:Array Value},s.heap.IsTuple l its->l≠z/\l≠i1/\l≠i2:=fun{l its} hl=>by obtain⟨o,e,c,_⟩:=hl;obtain⟨o1,e1,c1,_⟩:=id h1;obtain⟨o2,e2,c2,_⟩:=id h2;exact⟨z2j e hz c rfl (by decide),z2j e e1 c c1 (by decide),z2j e e2 c c2 (by decide)⟩
  obtain⟨a1,a3,a4⟩:=Da p;obtain⟨b1,b3,b4⟩:=Da p';have D1:=z3G (prog:=X.prog) (w:=X.w) (A:=X.A.in1) (I.ok.hd hc) i1 a a3 its.toArray;have D2:=z3G (prog:=X.prog) (w:=X.w) (A:=X.A.in1) (I.ok.hd hc) i2 b b4 itt.toArray;have Z:ZA z TI TO i1 i2 [i1,a] [i2,b]:=⟨d1,d2,d3,d4,d5,d6,d7,d8,d9,d10,by simp[y1k d3,y1k a1],by simp[d8,y1k aT],by simp[y1k d10,y1k a4],by simp[y1k d4,y1k b1],by simp[d9,y1k bT],by simp[d10,y1k b3]⟩;have l1:i<its.toArray.size:=by have:=(y05.mp hux).1;simpa using this
  have l2:i<itt.toArray.size:=by have:=(y05.mp huy).1;simpa using this
  have hT:s.TypeIs (.ref z) "zip":=⟨_,hz,rfl⟩;unfold pyNext;refine y03 (y35 (y1t (name:=Str.ofString "__next__") hT y3J (y1A y3J hT F.entry_zip_next
   (zbi D1 D2 Z hz hTI hTO ⟨h1,p⟩ ⟨h2,p'⟩ l1 l2 fun x' y' h' tk px py q1 q2 q3 q4 q5 hk=>y0g ?_) (F.args_zip_next_1 _))))
  have ex:x'=ux:=by
   have e1:its.toArray[i]?=some ux:=by simpa using hux
   rw[e1]at px;exact(y07 px).symm
  have ey:y'=uy:=by
   have e1:itt.toArray[i]?=some uy:=by simpa using huy
   rw[e1]at py;exact(y07 py).symm
  subst ex ey;refine⟨_,rfl,wpAny_letOwnedTupleGo_zip q1 fun h2' hz2 hs2=>?_⟩;have zlt:z<s.heap.objs.size:=y0h hz;have kk:∀c o,c∉[z,TO,i1,i2]->s.heap.get? c=some o->h2'.get? c=some o:=fun c o hc q=>by simp at hc;exact(hs2.2 c hc.1).trans (hk c o hc.1 hc.2.1 hc.2.2.1 hc.2.2.2 q)
  have sub:∀c∈[z,TO,i1,i2],c∈[z,TI,TO,i1,i2]:=fun c hc=>by simp at hc⊢;rcases hc with q|q|q|q<;>simp[q]
  have I1:Inv X pins σ (upd H s.heap.objs.size (.tup [x,y])) { s with heap:=h2',toks:=tk }:=by refine I.turnedNew (ch:=[z,TO,i1,i2]) kk (y0f _) ?_ (fun c hc=>hf c (sub c hc));exact⟨by show 2<=sizeLine;decide,[x',y'],0,.cons rux (.cons ruy .nil),(hs2.2 _ (y2B zlt)).trans q5⟩
  have up:∀{c:Addr}{o:Obj},c≠z->h'.get? c=some o->h2'.get? c=some o:=fun{c o} hc q=>(hs2.2 c hc).trans q;obtain⟨⟨o3,e3,c3⟩,_⟩:=q3;obtain⟨⟨o4,e4,c4⟩,_⟩:=q4;refine⟨.ref s.heap.objs.size,_,I1,rfl,⟨s.heap.objs.size,x,y,rfl,I.fresh,fun zs hz'=>by rw[I.tuple_inj hz' hxs];exact hx,fun zs hz'=>by rw[I.tuple_inj hz' hys];exact hy,rfl⟩,⟨hz2,?_,⟨_,_,up d2 q2⟩,⟨o3,up d3 e3,c3⟩,⟨o4,up d4 e4,c4⟩⟩,fun c hc=>?_⟩
  .exact up d1 (hk TI _ d1 d5 d6 d7 hTI)
  .have c0:=(hf c hc).1;have lt:c<s.heap.objs.size:=by
    obtain⟨o1,e1,_⟩:=id h1;obtain⟨o2,e2,_⟩:=id h2;simp at hc;rcases hc with q|q|q|q|q
    .rw[q];exact zlt
    .rw[q];exact y0h hTI
    .rw[q];exact y0h hTO
    .rw[q];exact y0h e1
    .rw[q];exact y0h e2
   rw[z06 (y0C lt)];exact c0
 done:=by
  intro X hP hw hK hc i pins s σ H E I hf st hg;subst hP hw hK;obtain⟨hz,hTI,⟨u,v,hTO⟩,h1,h2⟩:=st;obtain⟨xs,ys,hxs,hys,hx,hy⟩:=hg;obtain⟨its,rv,p,_⟩:=I.tuple hxs;obtain⟨itt,rw',p',_⟩:=I.tuple hys;obtain⟨d1,d2,d3,d4,d5,d6,d7,d8,d9,d10⟩:=D;have Da:∀{l:Addr}{its:Array Value},s.heap.IsTuple l its->l≠z/\l≠i1/\l≠i2:=fun{l its} hl=>by obtain⟨o,e,c,_⟩:=hl;obtain⟨o1,e1,c1,_⟩:=id h1;obtain⟨o2,e2,c2,_⟩:=id h2;exact⟨z2j e hz c rfl (by decide),z2j e e1 c c1 (by decide),z2j e e2 c c2 (by decide)⟩
  obtain⟨a1,a3,a4⟩:=Da p;obtain⟨b1,b3,b4⟩:=Da p';have l1:=rv.length;have D1:=z3G (prog:=X.prog) (w:=X.w) (A:=X.A.in1) (I.ok.hd hc) i1 a a3 its.toArray;have Z:ZA z TI TO i1 i2 [i1,a] [i2,b]:=⟨d1,d2,d3,d4,d5,d6,d7,d8,d9,d10,by simp[y1k d3,y1k a1],by simp[d8,y1k aT],by simp[y1k d10,y1k a4],by simp[y1k d4,y1k b1],by simp[d9,y1k bT],by simp[d10,y1k b3]⟩;have hT:s.TypeIs (.ref z) "zip":=⟨_,hz,rfl⟩;have ei:i=its.toArray.size:=by simp;lia
  unfold pyNext;refine y03 (y35 (y1t (name:=Str.ofString "__next__") hT y3J (y1A y3J hT F.entry_zip_next
   (zcR D1 Z hz hTI hTO ⟨ei▸h1,p⟩ fun h' e hk he=>?_) (F.args_zip_next_1 _))))
  obtain⟨o,ho,hcl⟩:=he;refine y03 (y3t (T:="StopIteration") (b:=true) ⟨o,ho,hcl⟩ isSubtype_stop (y0g ⟨rfl,?_⟩));refine I.turnedL (ch:=[z,TO,i1,i2]) (t':=s.toks) (fun c o hcc q=>?_) (fun c hcc=>hf c ?_)
  .simp at hcc;exact hk c o hcc.1 hcc.2.1 hcc.2.2.1 hcc.2.2.2 q
  .simp at hcc⊢;rcases hcc with q|q|q|q<;>simp[q]
 self:=fun A i s Q E st h=>y3u st.1 h
def zgE(K:yyF)(ta:TA):TI:=fun σ H R=>ta σ H fun vs H1=>∃a b:Addr,vs=[.ref a,.ref b]/\(∃xs,SqT K H1 a xs)/\(∃ys,SqT K H1 b ys)/\R (zgK K a b) H1
def zfg{a b:Expr}{ta:TA}{p pos:Pos}(hg:Gl X "zip")(hm:X.mg "zip"=none)(ha:PA X [a,b] ta)(hs:starEach [a,b] X.env=[(false,eval a X.env),(false,eval b X.env)]:=by rfl)(hs2:starEach [b] X.env=[(false,eval b X.env)]:=by rfl) : PI X (.Tuple elts tk tp) (.Call (.Name "zip" p) [a,b] [] pos) (zgE X.K ta):=by
 intro pins s σ H R I h;refine Call_ (z4Z I hg hm boot_zip (y1C (thn (ha pos pins s σ H _ I h) fun us s1 hz8=>?_) (by rw[hs,hs2]) (by rw[hs2];rfl)));obtain⟨vs,H1,I1,r1,q1⟩:=hz8;obtain⟨a,b,e,⟨xs,hq⟩,⟨ys,hq'⟩,q⟩:=q1;subst e;obtain⟨u,v,rfl,ru,rv'⟩:=zdH r1;cases ru;cases rv';obtain⟨its,rv,pl,hz⟩:=I1.tuple hq;obtain⟨its2,rv2,pl2,hz2⟩:=I1.tuple hq';have lt:∀{l:Addr}{its:Array Value},s1.heap.IsTuple l its->l<s1.heap.objs.size:=fun⟨o,e,_⟩=>y0h e;have la:=lt pl;have lb:=lt pl2;refine z80 pl pl2 fun h' z1 z2 z3 z4 z5 z6 hk=>y3u z1 ?_;have I2:Inv X pins σ H1 { s1 with heap:=h' }:=I1.kept (t':=s1.toks) hk;refine⟨s1.heap.objs.size+4,[s1.heap.objs.size+4,s1.heap.objs.size+2,s1.heap.objs.size+3,s1.heap.objs.size,s1.heap.objs.size+1],_,_,H1,rfl,I2,
  zbS a b (s1.heap.objs.size+4) (s1.heap.objs.size+2) (s1.heap.objs.size+3) s1.heap.objs.size (s1.heap.objs.size+1) (by refine⟨?_,?_,?_,?_,?_,?_,?_,?_,?_,?_⟩<;>(show @Ne Nat _ _;lia)) (y0C (y3L la (by lia))) (y0C (y3L lb (by lia))),⟨z1,z2,⟨_,_,z3⟩,z4,z5⟩,fun c hb=>?_,q⟩
 have hb':s1.heap.objs.size<=c:=by simp only[y0x,List.not_mem_nil,or_false]at hb;rcases hb with q|q|q|q|q<;>(have q:@Eq Nat c _:=q;lia)
 exact I1.fpOk hb' (I1.hok.fresh hb')
end
def zbj{K:yyF}{a b l:Addr}{xs zs:List V}{ix:List (Option Nat)}{g:TG}{te:TE}{σ:St}{H0:Hp}{Qe:Hp->Prop}(hlen:xs.length=zs.length)(Pv:Nat->List V->Hp->Prop)(h0:Pv 0 [] H0)(hl:∀i ys H,i<=xs.length->Pv i ys H->SqT K H a xs/\SqT K H b zs)(hz:xs.length<=sizeLine)(hn:∀i ys H,Pv i ys H->ys.length=i)(hs:∀i x y p ys H,xs[i]?=some x->zs[i]?=some y->Pv i ys H->H l=some (.lst ys)->H p=none->g (.ref p) (z0T ix σ) (upd H p (.tup [x,y])) fun σ2 H2=>te σ2 H2 fun v H3=>H3 l=some (.lst ys)/\Pv (i+1) (ys++[v]) (upd H3 l (.lst (ys++[v]))))(hd:∀ys H,Pv xs.length ys H->H l=some (.lst ys)->Qe H):z7K ix (zgK K a b) g te σ l H0 Qe:=by refine z4X (n:=xs.length) Pv h0 (fun i ys H hi p hy=>?_) fun ys H p hy=>⟨⟨xs,zs,(hl _ ys H (y0f _) p).1,(hl _ ys H (y0f _) p).2,rfl,hlen.symm⟩,hd ys H p hy⟩;obtain⟨q,q'⟩:=hl i ys H (y27 hi) p;refine⟨⟨xs,zs,xs[i],zs[i]'(by lia),q,q',by simp[hi],by simp[show i<zs.length by lia]⟩,by rw[hn i ys H p];exact y0u hi hz,fun x H' y=>?_⟩;obtain⟨c,z,z',rfl,hb,hz,hz',rfl⟩:=y;exact hs i z z' c ys H (hz xs q) (hz' zs q') p hy hb
end L2
namespace Gu
open PySem L2
def pr(m:Nat)(i:Int):D:=.tup [.int (i/(m:Int)),.int (i%(m:Int))]
def zc0(m:Nat)(x y:Int)(e:pr m x=pr m y):x=y:=by unfold pr at e;injection e with e;injection e with e1 e2;injection e1 with e1;injection e2 with e2 _;injection e2 with e2;have h1:=Int.mul_ediv_add_emod x (m:Int);have h2:=Int.mul_ediv_add_emod y (m:Int);rw[<-h1,<-h2,e1,e2]
def z4n(m:Nat)(i:Int):D.key (pr m i)/\D.dep (pr m i)<=8/\∃es,pr m i=.tup es:=by
 unfold pr;refine⟨?_,?_,_,rfl⟩
 .simp only[D.key,D.keyL];exact⟨trivial,trivial,trivial⟩
 .simp only[D.dep,D.depL];decide
theorem z78(m:Nat):∀o:List Int,D.keyL (o.map (pr m))
 |[]=>by simp only[y0S,D.keyL]
 |i::o=>by simp only[y0l,D.keyL];exact⟨(z4n m i).1,z78 m o⟩
def zdY{K:yyF}{H:Hp}{m:Nat}{i:Int}{v:V}(h:Dr K H (pr m i) v):∃a,v=.ref a/\H a=some (.tup [.int (i/(m:Int)),.int (i%(m:Int))]):=by unfold pr at h;simp only[Dr,DrL]at h;obtain⟨a,vs,e,s,x,l,rfl,hx,y,l',rfl,hy,rfl⟩:=h;subst hx hy;exact⟨a,e,s⟩
def zh0{K:yyF}{H:Hp}{m:Nat}{i:Int}{a:Addr}(h:H a=some (.tup [.int (i/(m:Int)),.int (i%(m:Int))])):Dr K H (pr m i) (.ref a):=by unfold pr;exact Dr.tup h (DrL.cons (Dr.int _) (DrL.cons (Dr.int _) DrL.nil))
def zg2(m:Nat)(r:Row):D:=.tup [D.its r.1,.tup (r.2.map (pr m))]
def zd2{K:yyF}{H:Hp}{m:Nat}{r:Row}{v:V}(h:Dr K H (zg2 m r) v):∃a b c ws,v=.ref a/\H a=some (.tup [.ref b,.ref c])/\H b=some (.tup (r.1.map V.int))/\H c=some (.tup ws)/\DrL K H (r.2.map (pr m)) ws:=by unfold zg2 at h;simp only[Dr,DrL]at h;obtain⟨a,vs,rfl,e,x,l,rfl,hx,y,l',rfl,hy,rfl⟩:=h;obtain⟨b,us,rfl,eb,rb⟩:=hx;obtain⟨c,ws,rfl,ec,rc⟩:=hy;have e1:=DrL.ints_inv rb;subst e1;exact⟨a,b,c,ws,rfl,e,eb,ec,rc⟩
def z9f(K:yyF)(rows:List Row)(m:Nat):List V->Hp->VK->Prop:=fun vs H Q=>∃(i:Int)(v:V),vs=[v]/\Dr K H (pr m i) v/\0<=i/\i<(rows.length:Int)/\z3E K H Q (zg2 m (row rows i))
section
variable(P:Program)(w:World)(K:yyF)(mg:yyS)(base:Heap)(CX:CXT)(k:Nat)
def z8p:Sp:=fun vs H Q _=>∃(f:Addr)(v0:V)(n:Nat)(rows:List Row)(m:Nat),vs=[v0,.ref f]/\Dr K H (pr m 0) v0/\z2D P w K mg base CX k H f (z9f K rows m)/\z0e n rows/\n<=60/\∀(r:Addr)(H':Hp),z0d H H'->z3x K H' r (z0G rows)->Q (.ref r) H'
def z6w(Ct:Addr):Sp:=fun vs H Q E=>∃(f:Addr)(v0:V)(n:Nat)(rows:List Row)(m:Nat),vs=[v0,.ref f]/\Dr K H (pr m 0) v0/\z2D P w K mg base CX k H f (z9f K rows m)/\z0e n rows/\n<=60 /\
 ((shr rows).length<=60->z3E K H Q (D.tup (z0i (shr rows))))/\(60<(shr rows).length->TMx Ct E H)
end
def zej(m:Nat)(R S:Row):Row:=(z3u R.1 S.1,(List.range R.1.length).map fun k=>R.2.getD k 0*(m:Int)+S.2.getD (R.1.getD k 0).toNat 0)
def z0u(one other:List Row):List Row:=(z0y (one.length*other.length)).map fun i=>zej other.length (row one (i/(other.length:Int))) (row other (i%(other.length:Int)))
def z31(one other:List Row):(z0u one other).length=one.length*other.length:=by unfold z0u;rw[y01,z0H]
def pix{one other:List Row}{i:Int}(h0:0<=i)(h1:i<((one.length*other.length:Nat):Int)):(0<=i/(other.length:Int)/\i/(other.length:Int)<(one.length:Int))/\0<=i%(other.length:Int)/\i%(other.length:Int)<(other.length:Int):=by
 have hm:(0:Int)<(other.length:Int):=by
  rcases Nat.eq_zero_or_pos other.length with z|z
  .rw[z,Nat.mul_zero]at h1;lia
  .lia
 refine⟨⟨Int.ediv_nonneg h0 (by lia),?_⟩,y36 _ (by lia),y2w _ hm⟩;refine Int.ediv_lt_of_lt_mul hm ?_;rw[Int.natCast_mul]at h1;exact h1
def z5p{one other:List Row}{i:Int}(h0:0<=i)(h1:i<((one.length*other.length:Nat):Int)):row (z0u one other) i=zej other.length (row one (i/(other.length:Int))) (row other (i%(other.length:Int))):=by unfold z0u;show(List.map _ _).getD _ _=_;rw[y02,y04,z32 h0 h1];rfl
def zcU{n:Nat}{p q:List Int}(hp:IsP n p)(hq:IsP n q):IsP n (z3u p q):=by
 have h1:(z3u p q).Perm (z3u (z0y n) q):=by unfold z3u;exact List.Perm.map _ hp
 have h2:z3u (z0y n) q=q:=by unfold z3u z0y;rw[y0L];refine y1U (by rw[y01,y1G,hq.len]) fun i i1 i2=>?_;rw[y18,List.getElem_range];show q.getD ((i:Int)).toNat 0=q[i];rw[show((i:Int)).toNat=i by lia,y02,y00 i2];rfl
 rw[h2]at h1;exact h1.trans hq
def z8s{n m:Nat}{R S:Row}{N:Nat}(hR:IsP n R.1)(hRl:R.2.length=n)(hRg:∀g∈R.2,0<=g/\g<(N:Int))(hSl:S.2.length=n)(hSg:∀g∈S.2,0<=g/\g<(m:Int)){k:Nat}(hk:k<n) : ∃(l:Nat)(g e:Int),R.1[k]?=some (l:Int)/\l<n/\R.2[k]?=some g/\S.2[l]?=some e/\R.2.getD k 0=g/\S.2.getD (R.1.getD k 0).toNat 0=e/\0<=g/\g<(N:Int)/\0<=e/\e<(m:Int):=by
 have hl:=hR.len;have e1:R.1[k]?=some R.1[k]:=y00 (by lia);obtain⟨l0,l1⟩:=z0J.mp (hR.mem_iff.mp (y0c (show k<R.1.length by lia)));obtain⟨l,hl'⟩:=z9j l0;have e2:R.2[k]?=some R.2[k]:=y00 (by lia);have ll:l<n:=by lia
 have e3:S.2[l]?=some S.2[l]:=y00 (by lia);obtain⟨g0,g1⟩:=hRg _ (y0c (show k<R.2.length by lia));obtain⟨s0,s1⟩:=hSg _ (y0c (show l<S.2.length by lia));refine⟨l,R.2[k],S.2[l],by rw[e1,hl'],ll,e2,e3,?_,?_,g0,g1,s0,s1⟩
 .rw[y02,e2];rfl
 .rw[y02 (l:=R.1),e1];show S.2.getD (R.1[k]).toNat 0=_;rw[hl',show((l:Int)).toNat=l by lia,y02,e3];rfl
def z9X{g e:Int}{N m:Nat}(g0:0<=g)(g1:g<(N:Int))(e0:0<=e)(e1:e<(m:Int)):0<=g*(m:Int)+e/\g*(m:Int)+e<((N*m:Nat):Int):=by have h1:0<=g*(m:Int):=Int.mul_nonneg g0 (by lia);have h2:(g+1)*(m:Int)<=(N:Int)*(m:Int):=Int.mul_le_mul_of_nonneg_right (by lia) (by lia);rw[Int.add_mul,Int.one_mul]at h2;rw[Int.natCast_mul];lia
def z18{n:Nat}{one other:List Row}(G:z0e n one)(G':z0e n other)(h4:one.length*other.length<=4000):z0e n (z0u one other):=by
 have h1:=G.some;have h2:=G'.some;have hm:∀r∈z0u one other,∃R∈one,∃S∈other,r=zej other.length R S:=fun r hr=>by unfold z0u at hr;obtain⟨i,hi,e⟩:=y0b.mp hr;obtain⟨i0,i1⟩:=z0J.mp hi;obtain⟨⟨a0,a1⟩,b0,b1⟩:=pix (one:=one) (other:=other) i0 i1;exact⟨_,z0c a0 a1,_,z0c b0 b1,e.symm⟩
 refine⟨by rw[z31];exact h4,by rw[z31];exact Nat.mul_pos h1 h2,fun r hr=>?_,fun r hr=>?_,fun r hr g hg=>?_⟩
 .obtain⟨R,hR,S,hS,rfl⟩:=hm r hr;exact zcU (G.perm R hR) (G'.perm S hS)
 .obtain⟨R,hR,S,hS,rfl⟩:=hm r hr;show(List.map _ _).length=n;rw[y01,y1G,(G.perm R hR).len]
 .obtain⟨R,hR,S,hS,rfl⟩:=hm r hr;obtain⟨k,hk,rfl⟩:=y0b.mp (show g∈(List.range R.1.length).map _ from hg);have hk':k<n:=by have:=y1d.mp hk;rw[(G.perm R hR).len]at this;exact this
  obtain⟨l,g',e,_,_,_,_,q1,q2,g0,g1,e0,e1⟩:=z8s (m:=other.length) (N:=one.length) (G.perm R hR) (G.len R hR) (G.go R hR) (G'.len S hS) (G'.go S hS) hk';rw[q1,q2,z31];exact z9X g0 g1 e0 e1
def zhe{m:Nat}{g e:Int}(e0:0<=e)(e1:e<(m:Int)):pr m (g*(m:Int)+e)=.tup [.int g,.int e]:=by
 have hm:(0:Int)<(m:Int):=by lia
 unfold pr;have q1:(g*(m:Int)+e)/(m:Int)=g:=by rw[y2G,y2s _ _ (by lia),y2t e0 e1];lia
 have q2:(g*(m:Int)+e)%(m:Int)=e:=by rw[y2G,y24,y3i e0 e1]
 rw[q1,q2]
def z6y(K:yyF):Sp:=fun vs H Q _=>∃(a b:V)(p q:List Int),vs=[a,b]/\Dr K H (D.its p) a/\Dr K H (D.its q) b/\(∀x∈p,0<=x/\x<(q.length:Int))/\p.length<=1000/\z3E K H Q (D.its (z3u p q))
def zbz(K:yyF):Sp:=fun vs H Q _=>∃(v1 v2 v3:V)(n:Nat)(one other:List Row)(i:Int),vs=[v1,v2,v3]/\Dr K H (D.tup (z0i one)) v1/\Dr K H (D.tup (z0i other)) v2/\Dr K H (pr other.length i) v3/\z0e n one/\z0e n other/\n<=60/\0<=i/\i<((one.length*other.length:Nat):Int)/\z3E K H Q (zg2 other.length (row (z0u one other) i))
def z6G(Ts:List Tb)(K:yyF)(Ct:Addr):Sp:=fun vs H Q E=>∃(v1 v2:V)(n:Nat)(one other:List Row),vs=[v1,v2]/\z3P Ts H/\Dr K H (D.tup (z0i one)) v1/\Dr K H (D.tup (z0i other)) v2/\z0e n one/\z0e n other/\n<=60/\one.length*other.length<=4000 /\
 ((shr (z0u one other)).length<=60->z7U Ts K H Q (D.tup (z0i (shr (z0u one other)))))/\(60<(shr (z0u one other)).length->zhn Ts Ct E H)
def z6N{n:Nat}{p:List Int}(h:IsP n p){k:Nat}(hk:k<n):∃j:Nat,j<n/\(z2B p)[k]?=some (j:Int)/\p[j]?=some (k:Int):=by
 have hm:(k:Int)∈p:=h.mem_iff.mpr (z0J.mpr ⟨by lia,by lia⟩);have hlt:=y0P hm;refine⟨p.idxOf (k:Int),by rw[h.len]at hlt;exact hlt,?_,?_⟩
 .unfold z2B;rw[y04,h.len];have:=z32 (L:=n) (i:=(k:Int)) (by lia) (by lia);rw[y0E]at this;rw[this];rfl
 .rw[y00 hlt,y1x hlt]
def z9y{n:Nat}{p:List Int}(h:IsP n p):IsP n (z2B p):=by have e:=z6C h.nodup;rw[h.len]at e;unfold z2B;rw[h.len];have q:((z0y n).map fun k=>((p.idxOf k:Nat):Int)).Perm (p.map fun k=>((p.idxOf k:Nat):Int)):=List.Perm.map _ (List.Perm.symm h);rw[e]at q;exact q
def z7I{n:Nat}{p:List Int}(h:IsP n p):z2B (z2B p)=p:=by
 refine(zb0 (z9y h) h.len fun m x e=>?_).symm;have hm:m<n:=by have:=(y05.mp e).1;rw[z3v,h.len]at this;exact this
 obtain⟨j,_,e1,e2⟩:=z6N h hm;rw[e1]at e;cases e;rw[y0E];exact e2
def z6E(r:Row):Row:=(z2B r.1,(z2B r.1).map fun l=>r.2.getD l.toNat 0)
def z1H(rows:List Row):List Row:=rows.map z6E
def z1m(rows:List Row):(z1H rows).length=rows.length:=y01 _
def z2E{rows:List Row}{i:Int}(h0:0<=i)(h1:i<(rows.length:Int)):row (z1H rows) i=z6E (row rows i):=by have:=z2Y h0 h1;unfold z1H row at *;rw[y02,y04,this];rfl
def z8F{n:Nat}{r:Row}(hp:IsP n r.1)(hl:r.2.length=n){k:Nat}(hk:k<n):∃j:Nat,j<n/\(z2B r.1)[k]?=some (j:Int)/\r.1[j]?=some (k:Int)/\∃g,r.2[j]?=some g/\(z6E r).2[k]?=some g:=by obtain⟨j,hj,e1,e2⟩:=z6N hp hk;have e3:r.2[j]?=some r.2[j]:=y00 (by lia);refine⟨j,hj,e1,e2,r.2[j],e3,?_⟩;unfold z6E;rw[y04,e1];show some (r.2.getD ((j:Int)).toNat 0)=_;rw[y0E,y02,e3];rfl
def z6g{n:Nat}{r:Row}(hp:IsP n r.1):(z6E r).2.length=n:=by show(List.map _ _).length=n;rw[y01,z3v,hp.len]
def z9U{n:Nat}{r:Row}(hp:IsP n r.1)(hl:r.2.length=n){g:Int}(hg:g∈(z6E r).2):g∈r.2:=by obtain⟨k,hk,e⟩:=y1q hg;rw[z6g hp]at hk;obtain⟨j,_,_,_,g',e3,e4⟩:=z8F hp hl hk;rw[y00 (by rw[z6g hp];exact hk),e]at e4;rw[y07 e4];exact y0z e3
def zc2{n:Nat}{r:Row}(hp:IsP n r.1)(hl:r.2.length=n):z6E (z6E r)=r:=by
 have hpl:=hp.len;refine y2x (z7I hp) ?_;show(z2B (z2B r.1)).map _=r.2;rw[z7I hp];refine y1f fun k=>?_;by_cases hk:k<n
 .have e1:r.1[k]?=some r.1[k]:=y00 (by rw[hp.len];exact hk);obtain⟨l0,l1⟩:=z0J.mp (hp.mem_iff.mp (y0c (show k<r.1.length by rw[hp.len];exact hk)));obtain⟨l,hl'⟩:=z9j l0;obtain⟨j,_,e2,e3,g,e4,e5⟩:=z8F hp hl (show l<n by lia);have hb:=z6a hp e1;rw[hl',y0E,e2]at hb;have:j=k:=by have:=y07 hb;lia
  subst this;rw[y04,e1];show some ((z6E r).2.getD (r.1[j]).toNat 0)=_;rw[hl',y0E,y02,e5,e4];rfl
 .rw[y0n (by rw[y01,hp.len];lia),y0n (by lia)]
def zds{n:Nat}{r:Row}{h:Int->Int}(hp:IsP n r.1)(hl:r.2.length=n):z6E (r.1,r.2.map h)=((z6E r).1,(z6E r).2.map h):=by refine y2x rfl ?_;show(z2B r.1).map _=((z2B r.1).map _).map h;rw[y0L];refine y0H fun l hl0=>?_;obtain⟨k,hk,e⟩:=y1q hl0;rw[z3v,hp.len]at hk;obtain⟨j,hj,e1,_⟩:=z6N hp hk;rw[y00 (by rw[z3v,hp.len];exact hk),e]at e1;rw[y07 e1];show(r.2.map h).getD ((j:Int)).toNat 0=h (r.2.getD ((j:Int)).toNat 0);rw[y0E,y02,y02,y04,y00 (show j<r.2.length by lia)];rfl
def z0v{n:Nat}{rows:List Row}(G:z0e n rows):z0e n (z1H rows):=by
 refine⟨by rw[z1m];exact G.few,by rw[z1m];exact G.some,fun r hr=>?_,fun r hr=>?_,fun r hr g hg=>?_⟩
 .obtain⟨q,hq,rfl⟩:=y0b.mp hr;exact z9y (G.perm q hq)
 .obtain⟨q,hq,rfl⟩:=y0b.mp hr;exact z6g (G.perm q hq)
 .obtain⟨q,hq,rfl⟩:=y0b.mp hr;rw[z1m];exact G.go q hq g (z9U (G.perm q hq) (G.len q hq) hg)
def z5g{n:Nat}{rows:List Row}(G:z0e n rows):z1H (z1H rows)=rows:=by unfold z1H;rw[y0L];have:∀r∈rows,(z6E∘z6E) r=r:=fun r hr=>zc2 (G.perm r hr) (G.len r hr);rw[y0H this,List.map_id']
def zbf{n:Nat}{rows:List Row}(G:z0e n rows):∀x∈z0b (z1H rows),x∈z0b rows:=by
 have C:=z2d G;have L:=(z0m G).1;refine(z3g (z0v G)).all (C:=fun x=>x∈z0b rows) (fun x hx g hg=>?_) (fun x hx=>?_)
 .obtain⟨x0,x1⟩:=L.rg x hx;rw[z2E x0 x1]at hg;have hr:=z0c x0 x1;exact C.cl x hx g (z9U (G.perm _ hr) (G.len _ hr) hg)
 .rw[y08.mp hx];exact C.zero
def zdf{n:Nat}{M:List Row}(G:z0e n M)(h:∀x∈z0b M,(row M x).1=z0y n):shr M=[(z0y n,List.replicate n 0)]:=by
 have GS:z0e n [(z0y n,List.replicate n (0:Int))]:=⟨by simp,by simp,fun r hr=>by rw[y08.mp hr];exact z9P n,fun r hr=>by rw[y08.mp hr];simp,fun r hr g hg=>by rw[y08.mp hr]at hg;have:=(y39.mp (show g∈List.replicate n (0:Int)from hg)).2;rw[this];simp⟩
 have e:=z5i (M':=M) (M:=[(z0y n,List.replicate n (0:Int))]) (h:=fun _=>0) G GS rfl fun x hx=>?_
 .rw[e,<-z57 GS];exact zav GS fun r hr=>by rw[y08.mp hr]
 .obtain⟨x0,x1⟩:=(z0m G).1.rg x hx;show(z0y n,List.replicate n (0:Int))=_;rw[h x hx];refine y2x rfl ?_;show List.replicate n (0:Int)=(row M x).2.map fun _=>0;rw[List.map_const',G.len _ (z0c x0 x1)]
def zb6{n:Nat}{one:List Row}(G:z0e n one)(h4:one.length*(shr (z1H one)).length<=4000):shr (z0u one (shr (z1H one)))=[(z0y n,List.replicate n 0)]:=by
 have GA:=z0v G;have GF:=z0I GA;obtain⟨h,hz,mo⟩:=z4D GA;have GP:=z18 G GF h4;have C:=z2d GA;have L:=(z0m GA).1;have pt:∀x∈z0b (z1H one),∃i0:0<=x*((shr (z1H one)).length:Int)+h x,row (z0u one (shr (z1H one))) (x*((shr (z1H one)).length:Int)+h x)=zej (shr (z1H one)).length (row one x) (row (shr (z1H one)) (h x)):=fun x hx=>by
  obtain⟨x0,x1⟩:=L.rg x hx;rw[z1m]at x1;obtain⟨f0,f1⟩:=zbL GA GF hz mo hx;obtain⟨i0,i1⟩:=z9X x0 x1 f0 f1;refine⟨i0,?_⟩;rw[z5p i0 i1];have hm:(0:Int)<((shr (z1H one)).length:Int):=by lia
  have q1:(x*((shr (z1H one)).length:Int)+h x)/((shr (z1H one)).length:Int)=x:=by rw[y2G,y2s _ _ (by lia),y2t f0 f1];lia
  have q2:(x*((shr (z1H one)).length:Int)+h x)%((shr (z1H one)).length:Int)=h x:=by rw[y2G,y24,y3i f0 f1]
  rw[q1,q2]
 have cl:=(z3g GP).all (C:=fun i=>∃x∈z0b (z1H one),i=x*((shr (z1H one)).length:Int)+h x) (fun i hi g hg=>?_) (fun i hi=>?_)
 .refine zdf GP fun i hi=>?_;obtain⟨x,hx,rfl⟩:=cl i hi;obtain⟨_,e⟩:=pt x hx;rw[e];obtain⟨x0,x1⟩:=L.rg x hx;rw[z1m]at x1;show z3u (row one x).1 (row (shr (z1H one)) (h x)).1=z0y n;rw[mo x hx,z2E x0 x1];exact zaE (G.perm _ (z0c x0 x1))
 .obtain⟨x,hx,rfl⟩:=hi;obtain⟨_,e⟩:=pt x hx;rw[e]at hg;obtain⟨x0,x1⟩:=L.rg x hx;rw[z1m]at x1;have hr:=z0c x0 x1;have hp:=G.perm _ hr;have hl:=G.len _ hr;obtain⟨k,hk,rfl⟩:=y0b.mp (show g∈(List.range (row one x).1.length).map _ from hg);have hk':k<n:=by have:=y1d.mp hk;rw[hp.len]at this;exact this
  have hpl:=hp.len;have e1:(row one x).1[k]?=some (row one x).1[k]:=y00 (by rw[hp.len];exact hk');obtain⟨l0,l1⟩:=z0J.mp (hp.mem_iff.mp (y0c (show k<(row one x).1.length by rw[hp.len];exact hk')));obtain⟨l,hl'⟩:=z9j l0;obtain⟨j,_,e2,e3,y,e4,e5⟩:=z8F hp hl (show l<n by lia);have hb:=z6a hp e1;rw[hl',y0E,e2]at hb;have ejk:j=k:=by have:=y07 hb;lia
  subst ejk;refine⟨y,C.cl x hx y ?_,?_⟩
  .rw[z2E x0 x1];exact y0z e5
  .rw[mo x hx,z2E x0 x1];show(row one x).2.getD j 0*_+((z6E (row one x)).2.map h).getD ((row one x).1.getD j 0).toNat 0=_;rw[y02 (l:=(row one x).2),e4,y02 (l:=(row one x).1),e1];show y*_+((z6E (row one x)).2.map h).getD ((row one x).1[j]).toNat 0=_;rw[hl',y0E,y02,y04,e5];rfl
 .rw[y08.mp hi];exact⟨0,C.zero,by rw[hz];lia⟩
def z6u(K:yyF):Sp:=fun vs H Q _=>∃(a:V)(p:List Int)(n:Nat),vs=[a]/\Dr K H (D.its p) a/\IsP n p/\n<=1000/\z3E K H Q (D.its (z2B p))
def z5o(K:yyF):Sp:=fun vs H Q _=>∃(v:V)(r:Row)(n:Nat),vs=[v]/\Dr K H (z5u r) v/\IsP n r.1/\r.2.length=n/\n<=60/\z3E K H Q (z5u (z6E r))
def zc4(Ts:List Tb)(K:yyF)(Ct:Addr):Sp:=fun vs H Q E=>∃(v:V)(n:Nat)(one:List Row),vs=[v]/\z3P Ts H/\Dr K H (D.tup (z0i one)) v/\z0e n one/\n<=60 /\
 ((shr (z1H one)).length<=60->z7U Ts K H Q (D.tup (z0i (shr (z1H one)))))/\(60<(shr (z1H one)).length->zhn Ts Ct E H)
def z1E(M:List Row):Int->List Int->List Int
 |_,[]=>[]
 |x,l::w=>(row M x).1.getD l.toNat 0::z1E M ((row M x).2.getD l.toNat 0) w
theorem z1O(M:List Row):∀(w:List Int)(x:Int),(z1E M x w).length=w.length
 |[],_=>rfl
 |_::w,x=>by show(z1E M _ w).length+1=w.length+1;rw[z1O M w]
theorem z1Q(M:List Row):∀(w w':List Int)(x:Int),z1E M x (w++w')=z1E M x w++z1E M (goW M x w) w'
 |[],_,_=>rfl
 |l::w,w',x=>by show _::z1E M _ (w++w')=_::(z1E M _ w++z1E M (goW M _ w) w');rw[z1Q M w w']
theorem z29{n:Nat}{M:List Row}(G:z0e n M):∀(w:List Int)(x:Int),LW n w->0<=x->x<(M.length:Int)->LW n (z1E M x w)
 |[],_,_,_,_=>fun _ h=>by simp[z1E]at h
 |l::w,x,hw,h0,h1=>fun y hy=>by
  obtain⟨l0,l1⟩:=hw l y0m;have hm:=z0c h0 h1;have hi:l.toNat<(row M x).2.length:=by rw[G.len _ hm];lia
  have hp:=G.perm _ hm;have hi1:l.toNat<(row M x).1.length:=by rw[hp.len];lia
  rcases y0x.mp hy with rfl|hy
  .rw[y02,y00 hi1];exact z0J.mp (hp.mem_iff.mp (y0c hi1))
  .have hg:0<=(row M x).2.getD l.toNat 0/\(row M x).2.getD l.toNat 0<(M.length:Int):=by
    rw[y02,y00 hi];exact G.go _ hm _ (y0c hi)
   exact z29 G w _ hw.tail hg.1 hg.2 y hy
def z8z(K:yyF):Sp:=fun vs H Q _=>∃(v u:V)(rows:List Row)(n:Nat)(w:List Int)(s:Int),vs=[v,.int s,u]/\Dr K H (D.tup (z0i rows)) v/\Dr K H (D.its w) u/\z0e n rows/\n<=60/\w.length<=4900/\LW n w/\0<=s/\s<(rows.length:Int) /\
 ∀(r t:Addr)(H':Hp),z0d H H'->H' r=some (.tup [.ref t,.int (goW rows s w)])->H' t=some (.tup ((z1E rows s w).map V.int))->Q (.ref r) H'
def z8b(Ts:List Tb)(K:yyF):Sp:=fun vs H Q _=>∃(v:V)(rows:List Row)(n:Nat)(g:Int),vs=[v,.int g]/\z3P Ts H/\Dr K H (D.tup (z0i rows)) v/\z0e n rows/\n<=60/\rows.length<=60/\0<=g/\g<(rows.length:Int)/\z7U Ts K H Q (D.tup (z0i (shr (swM rows g))))
end Gu
namespace L2
open PySem PySem.Spec PyProof.Rows
section
variable{M:Model}{A:Around}{E:yyE}
variable{nm q:Str}{C N:Addr}{bs bm:List Value}{hdct:Bool}{sn:List Str}{sub:List Value}{ab:Bool}{col:Option Bool}{dd:Option Addr}{k0 k1 k2 k3 k5:Option Value}{newId:String}
variable{nm' q':Str}{C' N':Addr}{bs' bm':List Value}{hdct':Bool}{sn':List Str}{sub':List Value}{ab':Bool}{col':Option Bool}{dd':Option Addr}{k0' k1' k2' k3' k5':Option Value}{newId':String}
end
end L2
namespace Gu
open PySem L2
def dvm{m:Nat}{g e:Int}(e0:0<=e)(e1:e<(m:Int)):(g*(m:Int)+e)/(m:Int)=g/\(g*(m:Int)+e)%(m:Int)=e:=by
 have hm:(0:Int)<(m:Int):=by lia
 constructor
 .rw[y2G,y2s _ _ (by lia),y2t e0 e1];lia
 .rw[y2G,y24,y3i e0 e1]
def z95{f:Int->Int}{l:List Int}{k:Nat}(h:k<l.length):(l.map f).getD k 0=f (l.getD k 0):=by rw[y02,y02,y04,y00 h];rfl
def zbQ{n:Nat}{M:List Row}(G:z0e n M){x:Int}(x0:0<=x)(x1:x<(M.length:Int)){k:Nat}(hk:k<n):0<=(row M x).2.getD k 0/\(row M x).2.getD k 0<(M.length:Int)/\(row M x).2.getD k 0∈(row M x).2:=by have hm:=z0c x0 x1;have hl:=G.len _ hm;rw[y02,y00 (by lia)];have:=y0c (show k<(row M x).2.length by lia);exact⟨(G.go _ hm _ this).1,(G.go _ hm _ this).2,this⟩
def z8n{n:Nat}{A:List Row}(G:z0e n A):shr (z1H (shr A))=shr (z1H A):=by have GF:=z0I G;obtain⟨h,hz,mo⟩:=z4D G;refine(z5i (M':=z1H A) (M:=z1H (shr A)) (h:=h) (z0v G) (z0v GF) hz fun x hx=>?_).symm;have xm:=zbf G x hx;obtain⟨x0,x1⟩:=(z0m G).1.rg x xm;obtain⟨f0,f1⟩:=zbL G GF hz mo xm;have hr:=z0c x0 x1;rw[z2E f0 f1,mo x xm,z2E x0 x1];exact zds (G.perm _ hr) (G.len _ hr)
def z9R(n:Nat):List Row:=[(z0y n,List.replicate n 0)]
def zaR{p q:List Int}{k:Nat}(h:k<p.length):(z3u p q).getD k 0=q.getD (p.getD k 0).toNat 0:=by unfold z3u;rw[z95 (f:=fun x=>q.getD x.toNat 0) h]
def zaQ{m:Nat}{R S:Row}{k:Nat}(h:k<R.1.length):(zej m R S).2.getD k 0=R.2.getD k 0*(m:Int)+S.2.getD (R.1.getD k 0).toNat 0:=by show(List.map _ (List.range R.1.length)).getD k 0=_;rw[y02,y04,List.getElem?_range h];rfl
def zh5{L:Nat}{k:Nat}(h:k<L):(z0y L)[k]?=some (k:Int):=by have:=z32 (L:=L) (i:=(k:Int)) (by lia) (by lia);rw[y0E]at this;exact this
def zcT(r q:Row)(e:z5u r=z5u q):r=q:=by unfold z5u at e;injection e with e;injection e with e1 e2;injection e2 with e2 _;exact y2x (z5d e1) (z5d e2)
theorem z7l:∀(X Y:List Row),z0i X=z0i Y->X=Y
 |[],[],_=>rfl
 |[],_::_,e=>by simp[z0i]at e
 |_::_,[],e=>by simp[z0i]at e
 |r::X,q::Y,e=>by simp only[z0i,y0l,y3K]at e;rw[zcT r q e.1,z7l X Y e.2]
theorem z9v:∀(X Y:List Row),D.okL (z0i X) (z0i Y)
 |[],[]=>by simp[z0i,D.okL]
 |[],_::_=>by simp[z0i,D.okL]
 |_::_,[]=>by simp[z0i,D.okL]
 |r::X,q::Y=>by simp only[z0i,y0l,D.okL];refine⟨?_,z9v X Y⟩;unfold z5u;simp only[D.ok,D.okL];exact⟨z6i _ _,z6i _ _,trivial⟩
def zeE(X Y:List Row):D.eq (.tup (z0i X)) (.tup (z0i Y))=decide (X=Y):=by
 by_cases h:X=Y
 .subst h;rw[y1J rfl];exact D.eq_refl _
 .rw[y1o h];cases e:D.eq (.tup (z0i X)) (.tup (z0i Y))with
  |false=>rfl
  |true =>
   have:=D.eq_of e;injection this with this;exact absurd (z7l X Y this) h
def zaf(X:List Row):D.dep (.tup (z0i X))<=50:=by have:=z34 X;simp only[D.dep];lia
def pw(n:Nat)(one:List Row):Nat->List Row
 |0=>z9R n
 |j+1=>shr (z0u (pw n one j) one)
end Gu
namespace L2
open PySem PyProof.Rows
structure z5w{α:Type}(lt:α->α->Bool):Prop where
 asy:∀a b,lt a b=true->lt b a=false
 tr:∀a b c,lt b a=false->lt c b=false->lt c a=false
 an:∀a b,lt a b=false->lt b a=false->a=b
def z5w.refl{α:Type}{lt:α->α->Bool}(h:z5w lt)(a:α):lt a a=false:=by
 cases e:lt a a with
 |false=>rfl
 |true=>rw[h.asy a a e]at e;cases e
def z9T{α:Type}(prog:Program)(w:World)(A:Around)(E:yyE)(s:Shared)(kd:SortKind)(S:List Keyed)(kf:Keyed->α)(lt:α->α->Bool):Prop :=
 ∀(st:SortSt)(x y:Keyed)(Q:Option Bool->SortSt->Prop),kindOf st=kd->x∈S->y∈S->Q (some (lt (kf x) (kf y))) st->wpS (model prog w) A E s (lt' x y) Q st
def zcm:Bool->Keyed->Array Keyed->Nat->Nat->Nat->StateT SortSt Sem (Option Nat):=sortPriv% PySem.Builtin.gallop
section
variable{prog:Program}{w:World}{A:Around}{E:yyE}{s:Shared}{α:Type}{kf:Keyed->α}{lt:α->α->Bool}{kd:SortKind}{S:List Keyed}
def bey(kf:Keyed->α)(lt:α->α->Bool)(left:Bool)(key x:Keyed):Bool:=if left then lt (kf x) (kf key)else !lt (kf key) (kf x)
def zeB(hA:z9T prog w A E s kd S kf lt){st:SortSt}(hk:kindOf st=kd){left:Bool}{key x:Keyed}{arr:Array Keyed}{i:Nat}(hx:arr[i]?=some x)(hxS:x∈S)(hkS:key∈S){Q:Option Bool->SortSt->Prop}(h:Q (some (bey kf lt left key x)) st) : wpS (model prog w) A E s (elem' arr i>>=fun x=>ite (left=true) (lt' x key) (lt' key x>>=fun r=>pure (r.map not))) Q st:=by
 rw[elem'_eq,hx];refine y0o (y0w ?_);cases left with
 |true =>
  simp only[y2b];exact hA st x key Q hk hxS hkS h
 |false =>
  simp only[y0d,y1m];exact y0o (hA st key x _ hk hkS hxS (y0w h))
def zae(hA:z9T prog w A E s kd S kf lt){st:SortSt}(hk:kindOf st=kd){left:Bool}{key:Keyed}{arr:Array Keyed}{base n hint:Nat}(hkS:key∈S)(hx:∀i,i<n->∃x,arr[base+i]?=some x/\x∈S)(P:Nat->Bool)(hP:∀i x,i<n->arr[base+i]?=some x->bey kf lt left key x=P i)(mono:∀i j,i<=j->j<n->P j=true->P i=true)(hh:hint<n){Q:Option Nat->SortSt->Prop}(h:∀k,k<=n->(∀i,i<k->P i=true)->(∀i,k<=i->i<n->P i=false)->Q (some k) st) : wpS (model prog w) A E s (zcm left key arr base n hint) Q st:=by
 have nmono:∀i j,i<=j->j<n->P i=false->P j=false:=fun i j hij hj hi=>by
  cases e:P j with
  |false=>rfl
  |true=>rw[mono i j hij hj e]at hi;cases hi
 have ask:∀i,i<n->∀{st':SortSt},st'=st->∀{Q:Option Bool->SortSt->Prop},Q (some (P i)) st->wpS (model prog w) A E s (elem' arr (base+i)>>=fun x=>ite (left=true) (lt' x key) (lt' key x>>=fun r=>pure (r.map not))) Q st':=fun i hi st' e Q hq=>by subst e;obtain⟨x,e1,e2⟩:=hx i hi;exact zeB hA hk e1 e2 hkS (by rw[hP i x hi e1];exact hq)
 refine y0o (ask hint hh rfl ?_);dsimp only;cases eh:P hint;rotate_left;focus
  simp only[y2b];refine y0o (y2e (y1j (I:=fun x c st'=>st'=st/\∃lo ofs,c=(none,lo,ofs)/\lo<ofs/\hint+lo<n/\P (hint+lo)=true/\x<ofs)
   (Q:=fun c st'=>st'=st/\∃lo ofs,c=(none,lo,ofs)/\lo<ofs/\hint+lo<n/\P (hint+lo)=true/\(ofs ≥ n-hint\/P (hint+ofs)=false)) ?s1 ?f1 ⟨rfl,0,1,rfl,by lia,by lia,eh,by lia⟩) ?p1)
  case f1 =>
   rintro c st' ⟨rfl,lo,ofs,rfl,a1,a2,a3,a4⟩;exact⟨rfl,lo,ofs,rfl,a1,a2,a3,.inl (by lia)⟩
  case s1 =>
   rintro x c st' _ hxn ⟨rfl,lo,ofs,rfl,a1,a2,a3,a4⟩;dsimp only;by_cases c1:ofs ≥ n-hint
   .rw[if_pos c1];exact y0w ⟨rfl,lo,ofs,rfl,a1,a2,a3,.inl c1⟩
   .rw[if_neg c1];refine y0o (ask (hint+ofs) (by lia) rfl ?_);dsimp only;cases e:P (hint+ofs)with
    |true =>
     simp only[y37,y0d,y1m];exact y0w ⟨rfl,ofs,2*ofs+1,rfl,by lia,by lia,e,by lia⟩
    |false =>
     simp only[Bool.not_false,y2b];exact y0w ⟨rfl,lo,ofs,rfl,a1,a2,a3,.inr e⟩
  rintro c st9 ⟨h9,lo,ofs,rfl,a1,a2,a3,a4⟩;rw[h9];have q1:hint+lo+1<=hint+min ofs (n-hint):=by lia
  have q2:hint+min ofs (n-hint)<=n:=by lia
  have q3:∀i,i<hint+lo+1->P i=true:=fun i hi=>mono i (hint+lo) (by lia) a2 a3;have q4:∀i,hint+min ofs (n-hint)<=i->i<n->P i=false:=fun i h1 h2=>by
   rcases a4 with a4|a4
   .lia
   .exact nmono (hint+ofs) i (by lia) h2 a4
  dsimp only
 rotate_left;focus
  simp only[y0d,y1m];refine y0o (y2e (y1j (I:=fun x c st'=>st'=st/\∃lo ofs,c=(none,lo,ofs)/\lo<ofs/\lo<=hint/\P (hint-lo)=false/\x<ofs)
   (Q:=fun c st'=>st'=st/\∃lo ofs,c=(none,lo,ofs)/\lo<ofs/\lo<=hint/\P (hint-lo)=false/\(ofs ≥ hint+1\/P (hint-ofs)=true)) ?s2 ?f2 ⟨rfl,0,1,rfl,by lia,by lia,eh,by lia⟩) ?p2)
  case f2 =>
   rintro c st' ⟨rfl,lo,ofs,rfl,a1,a2,a3,a4⟩;exact⟨rfl,lo,ofs,rfl,a1,a2,a3,.inl (by lia)⟩
  case s2 =>
   rintro x c st' _ hxn ⟨rfl,lo,ofs,rfl,a1,a2,a3,a4⟩;dsimp only;by_cases c1:ofs ≥ hint+1
   .rw[if_pos c1];exact y0w ⟨rfl,lo,ofs,rfl,a1,a2,a3,.inl c1⟩
   .rw[if_neg c1];refine y0o (ask (hint-ofs) (by lia) rfl ?_);dsimp only;cases e:P (hint-ofs)with
    |true =>
     simp only[y2b];exact y0w ⟨rfl,lo,ofs,rfl,a1,a2,a3,.inr e⟩
    |false =>
     simp only[y0d,y1m];exact y0w ⟨rfl,ofs,2*ofs+1,rfl,by lia,by lia,e,by lia⟩
  rintro c st9 ⟨h9,lo,ofs,rfl,a1,a2,a3,a4⟩;rw[h9];have q1:hint+1-min ofs (hint+1)<=hint-lo:=by lia
  have q2:hint-lo<=n:=by lia
  have q3:∀i,i<hint+1-min ofs (hint+1)->P i=true:=fun i hi=>by
   rcases a4 with a4|a4
   .lia
   .exact mono i (hint-ofs) (by lia) (by lia) a4
  have q4:∀i,hint-lo<=i->i<n->P i=false:=fun i h1 h2=>nmono (hint-lo) i (by lia) h2 a3;dsimp only
 all_goals
  refine y0o (y2e (y1j (I:=fun x c st'=>st'=st/\∃lo hi,c=(none,lo,hi)/\lo<=hi/\hi<=n/\(∀i,i<lo->P i=true)/\(∀i,hi<=i->i<n->P i=false)/\hi-lo<=n-x)
   (Q:=fun c st'=>st'=st/\∃k,c=(none,k,k)/\k<=n/\(∀i,i<k->P i=true)/\(∀i,k<=i->i<n->P i=false)) ?step ?fin' ⟨rfl,_,_,rfl,q1,q2,q3,q4,by lia⟩) ?post)
  case fin' =>
   rintro c st' ⟨rfl,lo,hi,rfl,a1,a2,a3,a4,a5⟩;have:lo=hi:=by lia
   subst this;exact⟨rfl,lo,rfl,a2,a3,a4⟩
  case post =>
   rintro c st' ⟨rfl,k,rfl,a1,a2,a3⟩;exact y0w (h k a1 a2 a3)
  case step =>
   rintro x c st' _ hxn ⟨rfl,lo,hi,rfl,a1,a2,a3,a4,a5⟩;dsimp only;by_cases c1:lo ≥ hi
   .rw[if_pos c1];have:lo=hi:=by lia
    subst this;exact y0w ⟨rfl,lo,rfl,a2,a3,a4⟩
   .rw[if_neg c1];have hm:lo+(hi-lo)/2<hi:=by lia
    have hml:lo<=lo+(hi-lo)/2:=Nat.le_add_right _ _;have hmh:hi-(lo+(hi-lo)/2+1)+1<=hi-lo/\lo+(hi-lo)/2-lo+1<=hi-lo:=by lia
    generalize lo+(hi-lo)/2=m at hm hml hmh⊢;refine y0o (ask m (by lia) rfl ?_);dsimp only;cases e:P m with
    |true =>
     simp only[y2b];exact y0w ⟨rfl,m+1,hi,rfl,by lia,a2,fun i hi'=>mono i m (by lia) (by lia) e,a4,by lia⟩
    |false =>
     simp only[y0d,y1m];exact y0w ⟨rfl,lo,m,rfl,hml,by lia,a3,fun i h1 h2=>nmono m i h1 h2 e,by lia⟩
end
def z6k:Nat->StateT SortSt Sem Unit:=sortPriv% PySem.Builtin.setMinGallop
def zda:Array Keyed->Array Keyed->StateT SortSt Sem (Array Keyed):=sortPriv% PySem.Builtin.mergeLo
section
variable{α:Type}(kf:Keyed->α)(lt:α->α->Bool)
def Sl(l:List Keyed):Prop:=l.Pairwise fun x y=>lt (kf y) (kf x)=false
structure MI(a b:Array Keyed)(out:Array Keyed)(ia ib:Nat):Prop where
 la:ia<=a.size
 lb:ib<=b.size
 so:Sl kf lt out.toList
 le:∀x∈out.toList,∀y∈a.toList.drop ia++b.toList.drop ib,lt (kf y) (kf x)=false
 pm:(out.toList++(a.toList.drop ia++b.toList.drop ib)).Perm (a.toList++b.toList)
end
section
variable{α:Type}{kf:Keyed->α}{lt:α->α->Bool}
def z4O{a:Array Keyed}{i:Nat}(h:i<a.size):a.toList.drop i=a[i]::a.toList.drop (i+1):=by rw[y19 (by simpa using h)];simp
theorem MI.size{a b out:Array Keyed}{ia ib:Nat}(h:MI kf lt a b out ia ib):out.size=ia+ib:=by have:=h.pm.length_eq;have h1:=h.la;have h2:=h.lb;simp at this;lia
def z8u{l:List Keyed}{i:Nat}{x:Keyed}(h:Sl kf lt l)(hx:l[i]?=some x):∀y∈l.drop (i+1),lt (kf y) (kf x)=false:=fun y hy=>by
 obtain⟨j,hj,e⟩:=y0V.mp hy;rw[List.getElem_drop]at e;obtain⟨hi,ei⟩:=y05.mp hx;have hj':i+1+j<l.length:=by simp at hj;lia
 have:=y1h.mp h i (i+1+j) hi hj' (by lia);rw[ei,e]at this;exact this
def z92{l:List Keyed}(h:Sl kf lt l)(i:Nat):Sl kf lt (l.drop i):=h.sublist (y3j _ _)
def z3h(T:z5w lt){l:List Keyed}{i:Nat}{x y:Keyed}(h:Sl kf lt l)(hx:l[i]?=some x)(hy:lt (kf x) (kf y)=false):∀z∈l.drop i,lt (kf z) (kf y)=false:=fun z hz=>by
 obtain⟨hi,ei⟩:=y05.mp hx;rw[y19 hi,ei]at hz;rcases y0x.mp hz with rfl|hz
 .exact hy
 .exact T.tr (kf y) (kf x) (kf z) hy (z8u h hx z hz)
def MI.pushA{a b out:Array Keyed}{ia ib:Nat}(h:MI kf lt a b out ia ib)(sa:Sl kf lt a.toList)(hi:ia<a.size)(hle:∀y∈b.toList.drop ib,lt (kf y) (kf a[ia])=false):MI kf lt a b (out.push a[ia]) (ia+1) ib:=by
 have e:=z4O hi;have hx:a.toList[ia]?=some a[ia]:=by rw[y0B,y0i hi]
 refine⟨hi,h.lb,?_,fun x hx' y hy=>?_,?_⟩
 .rw[y1v];refine y0W.mpr ⟨h.so,y1X _ _,fun x hx' y hy=>?_⟩;rw[y08.mp hy];exact h.le x hx' a[ia] (by rw[e];simp)
 .rw[y1v,y0q,y08]at hx';rcases hx' with hx'|rfl
  .exact h.le x hx' y (by
    rcases y0q.mp hy with z|z
    .rw[e];simp[z]
    .simp[z])
  .rcases y0q.mp hy with z|z
   .exact z8u sa hx y z
   .exact hle y z
 .have:=h.pm;rw[e]at this;rw[y1v,y0p];exact this
def MI.pushB{a b out:Array Keyed}{ia ib:Nat}(h:MI kf lt a b out ia ib)(sb:Sl kf lt b.toList)(hi:ib<b.size)(hle:∀y∈a.toList.drop ia,lt (kf y) (kf b[ib])=false):MI kf lt a b (out.push b[ib]) ia (ib+1):=by
 have e:=z4O hi;have hx:b.toList[ib]?=some b[ib]:=by rw[y0B,y0i hi]
 refine⟨h.la,hi,?_,fun x hx' y hy=>?_,?_⟩
 .rw[y1v];refine y0W.mpr ⟨h.so,y1X _ _,fun x hx' y hy=>?_⟩;rw[y08.mp hy];exact h.le x hx' b[ib] (by rw[e];simp)
 .rw[y1v,y0q,y08]at hx';rcases hx' with hx'|rfl
  .exact h.le x hx' y (by
    rcases y0q.mp hy with z|z
    .simp[z]
    .rw[e];simp[z])
  .rcases y0q.mp hy with z|z
   .exact hle y z
   .exact z8u sb hx y z
 .have:=h.pm;rw[e]at this;rw[y1v,y0p];refine List.Perm.trans ?_ this;refine y1O _ ?_;rw[y3p];exact(List.perm_middle).symm
theorem MI.chunkA{a b out:Array Keyed}{ia ib:Nat}(sa:Sl kf lt a.toList)(h:MI kf lt a b out ia ib):∀(k:Nat),ia+k<=a.size->(∀i (hi:i<a.size),ia<=i->i<ia+k->∀y∈b.toList.drop ib,lt (kf y) (kf a[i])=false)->MI kf lt a b (out++a.extract ia (ia+k)) (ia+k) ib
 |0,_,_=>by
  have:a.extract ia (ia+0)=#[]:=by simp;lia
  rw[this,Array.append_empty];exact h
 |k+1,hk,hle=>by
  have ih:=MI.chunkA sa h k (by lia) fun i hi h1 h2=>hle i hi h1 (by lia);have:=ih.pushA sa (by lia:ia+k<a.size) (hle (ia+k) (by lia) (by lia) (by lia));have e:out++a.extract ia (ia+(k+1))=(out++a.extract ia (ia+k)).push a[ia+k]:=by have e1:=Array.push_extract_getElem (as:=a) (i:=ia) (j:=ia+k) (by lia);rw[y38 (by lia)]at e1;rw[<-Array.append_push,show ia+(k+1)=(ia+k)+1 by lia,e1]
  rw[e];exact this
def MI.swap{a b out:Array Keyed}{ia ib:Nat}(h:MI kf lt a b out ia ib):MI kf lt b a out ib ia:=by
 refine⟨h.lb,h.la,h.so,fun x hx y hy=>h.le x hx y ?_,?_⟩
 .rcases y0q.mp hy with z|z
  .exact y0j _ z
  .exact y0t _ z
 .exact((y1O _ y1B).trans h.pm).trans y1B
def MI.chunkB{a b out:Array Keyed}{ia ib:Nat}(sb:Sl kf lt b.toList)(h:MI kf lt a b out ia ib)(k:Nat)(hk:ib+k<=b.size)(hle:∀i (hi:i<b.size),ib<=i->i<ib+k->∀y∈a.toList.drop ia,lt (kf y) (kf b[i])=false):MI kf lt a b (out++b.extract ib (ib+k)) ia (ib+k) :=
 (MI.chunkA sb h.swap k hk hle).swap
def Mgd(kf:Keyed->α)(lt:α->α->Bool)(a b r:Array Keyed):Prop:=Sl kf lt r.toList/\r.toList.Perm (a.toList++b.toList)
def z22(a:Array Keyed)(i:Nat):(a.extract i a.size).toList=a.toList.drop i:=by rw[y2R,y2d];exact y0M (by simp)
def MI.doneB{a b out:Array Keyed}{ia:Nat}(sa:Sl kf lt a.toList)(h:MI kf lt a b out ia b.size):Mgd kf lt a b (out++a.extract ia a.size++b.extract b.size b.size):=by
 have e:b.toList.drop b.size=[]:=y1l (by simp);have e2:(out++a.extract ia a.size++b.extract b.size b.size).toList=out.toList++a.toList.drop ia:=by rw[y16,y16,z22,z22,e,y1p]
 unfold Mgd;rw[e2];refine⟨y0W.mpr ⟨h.so,z92 sa ia,fun x hx y hy=>h.le x hx y (by simp[hy])⟩,?_⟩;have:=h.pm;rw[e,y1p]at this;exact this
def MI.doneA{a b out:Array Keyed}{ib:Nat}(sb:Sl kf lt b.toList)(h:MI kf lt a b out a.size ib):Mgd kf lt a b (out++a.extract a.size a.size++b.extract ib b.size):=by
 have e:a.toList.drop a.size=[]:=y1l (by simp);have e2:(out++a.extract a.size a.size++b.extract ib b.size).toList=out.toList++b.toList.drop ib:=by rw[y16,y16,z22,z22,e,y1p]
 unfold Mgd;rw[e2];refine⟨y0W.mpr ⟨h.so,z92 sb ib,fun x hx y hy=>h.le x hx y (by simp[hy])⟩,?_⟩;have:=h.pm;rw[e,y1z]at this;exact this
def MI.lastA{a b out:Array Keyed}{ia ib:Nat}(sb:Sl kf lt b.toList)(h:MI kf lt a b out ia ib)(hia:ia+1=a.size)(hl:∀y∈b.toList,∀z,a[a.size-1]?=some z->lt (kf z) (kf y)=false):Mgd kf lt a b (out++b.extract ib b.size++a.extract ia a.size):=by
 have hi:ia<a.size:=by lia
 have e:a.toList.drop ia=[a[ia]]:=by rw[z4O hi,y1l (by simp;lia)]
 have e2:(out++b.extract ib b.size++a.extract ia a.size).toList=out.toList++(b.toList.drop ib++[a[ia]]):=by rw[y16,y16,z22,z22,e,y0p]
 have hz:a[a.size-1]?=some a[ia]:=by rw[show a.size-1=ia by lia,y0i hi]
 unfold Mgd;rw[e2];refine⟨y0W.mpr ⟨h.so,y0W.mpr ⟨z92 sb ib,y1X _ _,fun x hx y hy=>?_⟩,fun x hx y hy=>h.le x hx y ?_⟩,?_⟩
 .rw[y08.mp hy];exact hl x (y1W hx) _ hz
 .rw[e];rcases y0q.mp hy with z|z
  .exact y0j _ z
  .exact y0t _ z
 .have:=h.pm;rw[e]at this;exact(y1O _ y1B).trans this
end
section
variable{prog:Program}{w:World}{A:Around}{E:yyE}{s:Shared}{α:Type}{kf:Keyed->α}{lt:α->α->Bool}{kd:SortKind}{S:List Keyed}
def z0F{st:SortSt}{arr:Array Keyed}{i:Nat}{x:Keyed}{Q:Keyed->SortSt->Prop}(h:arr[i]?=some x)(q:Q x st):wpS (model prog w) A E s (elem' arr i) Q st:=by rw[elem'_eq,h];exact y0w q
def z48(T:z5w lt)(hA:z9T prog w A E s kd S kf lt){st:SortSt}(hk:kindOf st=kd){left:Bool}{key:Keyed}{arr:Array Keyed}{base n hint:Nat}(hkS:key∈S)(hbn:base+n<=arr.size)(hS:∀i (hi:i<arr.size),base<=i->i<base+n->arr[i]∈S)(seg:∀i j (hi:i<arr.size) (hj:j<arr.size),base<=i->i<=j->j<base+n->lt (kf arr[j]) (kf arr[i])=false)(hh:hint<n){Q:Option Nat->SortSt->Prop}(h:∀k,k<=n->(∀i (hi:i<arr.size),base<=i->i<base+k->bey kf lt left key arr[i]=true)->(∀i (hi:i<arr.size),base+k<=i->i<base+n->bey kf lt left key arr[i]=false)->Q (some k) st) : wpS (model prog w) A E s (zcm left key arr base n hint) Q st:=by
 refine zae hA hk hkS (fun i hi=>⟨arr[base+i],y0i (by lia),hS _ (by lia) (by lia) (by lia)⟩) (fun i=>bey kf lt left key (arr[base+i]?.getD key)) (fun i x hi hx=>by rw[hx];rfl) (fun i j hij hj hp=>?_) hh fun k hk1 h1 h2=>?_
 .have ei:arr[base+i]?=some arr[base+i]:=y0i (by lia);have ej:arr[base+j]?=some arr[base+j]:=y0i (by lia);have sg:=seg (base+i) (base+j) (by lia) (by lia) (by lia) (by lia) (by lia);simp only[ej,Option.getD_some]at hp;simp only[ei,Option.getD_some];unfold bey at hp⊢;cases left with
  |true =>
   simp only[y2b]at hp⊢;cases e:lt (kf arr[base+i]) (kf key)with
   |true=>rfl
   |false=>rw[T.tr _ _ _ e sg]at hp;cases hp
  |false =>
   simp only[y0d,y1m,Bool.not_eq_true']at hp⊢;exact T.tr _ _ _ sg hp
 .refine h k hk1 (fun i hi a1 a2=>?_) (fun i hi a1 a2=>?_)
  .have:=h1 (i-base) (by lia);rw[show base+(i-base)=i by lia,y0i hi]at this;exact this
  .have:=h2 (i-base) (by lia) (by lia);rw[show base+(i-base)=i by lia,y0i hi]at this;exact this
def z9H{arr:Array Keyed}(T:z5w lt)(h:Sl kf lt arr.toList){base n:Nat}:∀i j (hi:i<arr.size) (hj:j<arr.size),base<=i->i<=j->j<base+n->lt (kf arr[j]) (kf arr[i])=false:=fun i j hi hj _ hij _=>by
 rcases y2E i j with q|q
 .have:=y1h.mp h i j (by simpa using hi) (by simpa using hj) q;simpa using this
 .have:i=j:=by lia
  subst this;exact T.refl _
def StG(st st':SortSt):Prop:=∃g,st'=SortSt.mk' (kindOf st) (arrOf st) (pendingOf st) g (failedOf st)
def StG.refl(st:SortSt):StG st st:=⟨gallopOf st,rfl⟩
def StG.set{st st':SortSt}(h:StG st st')(g:Nat):StG st (SortSt.mk' (kindOf st') (arrOf st') (pendingOf st') g (failedOf st')):=by obtain⟨g',rfl⟩:=h;exact⟨g,rfl⟩
def z4s{M:Model}{A:Around}{E:yyE}{s:Shared}{st st2:SortSt}(hG:StG st st2){g:Nat}{Q:PUnit->SortSt->Prop}(h:∀st3,StG st st3->Q ⟨⟩ st3):wpS M A E s (z6k g) Q st2:=y3N (h _ (hG.set g))
def StG.kind{st st':SortSt}(h:StG st st'):kindOf st'=kindOf st:=by obtain⟨g,rfl⟩:=h;rfl
def z9e{M:Model}{A:Around}{E:yyE}{s:Shared}{β σ:Type}{m:StateT σ Sem β}{Q:β->σ->Prop}{st:σ}(h:∀QG:β->σ->Prop,(∀r st',Q r st'->QG r st')->wpS M A E s m QG st):wpS M A E s m Q st:=h Q fun _ _ z=>z
def zaZ{M:Model}{A:Around}{E:yyE}{s:Shared}{β σ γ:Type}{c:Prop}[Decidable c]{j:γ->StateT σ Sem β}{u v:γ}{Q:β->σ->Prop}{st:σ}(h:∀z,wpS M A E s (j z) Q st):wpS M A E s (if c then j u else j v) Q st:=by
 split
 .exact h u
 .exact h v
set_option maxHeartbeats 8000000 in
def z8o(T:z5w lt)(hA:z9T prog w A E s kd S kf lt){st:SortSt}(hk:kindOf st=kd){a b:Array Keyed}(haS:∀x∈a.toList,x∈S)(hbS:∀x∈b.toList,x∈S)(sa:Sl kf lt a.toList)(sb:Sl kf lt b.toList)(ha:0<a.size)(hb:0<b.size)(hfirst:lt (kf b[0]) (kf a[0])=true)(hl:∀y∈b.toList,∀z,a[a.size-1]?=some z->lt (kf z) (kf y)=false){Q:Array Keyed->SortSt->Prop}(h:∀r st',StG st st'->Mgd kf lt a b r->Q r st') : wpS (model prog w) A E s (zda a b) Q st:=by
 have M0:MI kf lt a b #[] 0 0:=⟨by lia,by lia,y3c,fun x hx=>by simp at hx,by simp⟩;have eb0:b[0]?=some b[0]:=y0i hb;have M1:MI kf lt a b #[b[0]] 0 1:=M0.pushB sb hb (fun y hy=>z3h T sa (i:=0) (x:=a[0]) (by simp[ha]) (T.asy _ _ hfirst) y hy);have hSa:∀i (hi:i<a.size),a[i]∈S:=fun i hi=>haS _ (by simp);have hSb:∀i (hi:i<b.size),b[i]∈S:=fun i hi=>hbS _ (by simp);have ea:∀i (hi:i<a.size),a[i]?=some a[i]:=fun i hi=>y0i hi;have eb:∀i (hi:i<b.size),b[i]?=some b[i]:=fun i hi=>y0i hi;have leA:∀i (hi:i<a.size) (y:Keyed),lt (kf a[i]) (kf y)=false->∀z∈a.toList.drop i,lt (kf z) (kf y)=false:=fun i hi y q=>z3h T sa (by simp[hi]) q;have leB:∀i (hi:i<b.size) (y:Keyed),lt (kf b[i]) (kf y)=false->∀z∈b.toList.drop i,lt (kf z) (kf y)=false:=fun i hi y q=>z3h T sb (by simp[hi]) q;refine y0o (wpS_lift (y2i ⟨rfl,?_⟩));refine y0o (z0F eb0 ?_);dsimp -zeta only;by_cases c1:1=b.size
 .rw[if_pos (by simpa using c1)];refine y0w (h _ _ (StG.refl st) ?_);rw[c1]at M1;have:=M1.doneB sa;rw[<-c1]at this;rw[<-c1];exact this
 rw[if_neg (by simpa using c1)];by_cases c2:0+1=a.size
 .rw[if_pos (by simpa using c2)];exact y0w (h _ _ (StG.refl st) (M1.lastA sb (by lia) hl))
 rw[if_neg (by simpa using c2)];refine y0o (y3O ?_);refine y0o (y2e (y1j (I:=fun x c st'=>StG st st'/\∃out ia ib mg,c=(none,out,ia,ib,mg)/\MI kf lt a b out ia ib/\ia+1<a.size/\ib<b.size/\x<out.size)
  (Q:=fun c st'=>StG st st'/\∃r,c.1=some r/\Mgd kf lt a b r) ?step ?fin ⟨StG.refl st,_,_,_,_,rfl,M1,by lia,by lia,by simp⟩) ?post)
 case fin =>
  rintro c st' ⟨hG,out,ia,ib,mg,rfl,M,q1,q2,q3⟩;have:=M.size;lia
 case post =>
  rintro⟨c1,c2⟩ st' ⟨hG,r,e,hr⟩;dsimp -zeta only at e⊢;subst e;exact y0w (h r st' hG hr)
 case step =>
  rintro x c st1 _ hx ⟨hG,out,ia,ib,mg,rfl,M,q1,q2,q3⟩;dsimp -zeta only;refine y0o (y2e (y1j (I:=fun y c st'=>st'=st1/\∃out ia ib ac bc,c=(none,out,ia,ib,ac,bc)/\MI kf lt a b out ia ib/\ia+1<a.size/\ib<b.size/\x+y<out.size)
   (Q:=fun c st'=>st'=st1/\((∃r,c.1=some r/\Mgd kf lt a b r)\/∃out ia ib ac bc,c=(none,out,ia,ib,ac,bc)/\MI kf lt a b out ia ib/\ia+1<a.size/\ib<b.size/\x+1<out.size)) ?istep ?ifin ⟨rfl,_,_,_,_,_,rfl,M,q1,q2,by lia⟩) ?ipost)
  case ifin =>
   rintro c st' ⟨rfl,out,ia,ib,ac,bc,rfl,M,q1,q2,q3⟩;exact⟨rfl,.inr ⟨out,ia,ib,ac,bc,rfl,M,q1,q2,by lia⟩⟩
  case istep =>
   rintro y c st' _ hy ⟨rfl,out,ia,ib,ac,bc,rfl,M,q1,q2,q3⟩;dsimp -zeta only;refine y0o (z0F (eb ib q2) ?_);refine y0o (z0F (ea ia (by lia)) ?_);refine y0o (hA _ _ _ _ (hG.kind.trans hk) (hSb ib q2) (hSa ia (by lia)) ?_);dsimp -zeta only;cases e:lt (kf b[ib]) (kf a[ia])with
   |true =>
    simp only[y2b];refine y0o (z0F (eb ib q2) ?_);have M':=M.pushB sb q2 (leA ia (by lia) _ (T.asy _ _ e));have hs:(out.push b[ib]).size=out.size+1:=y1P ..;by_cases d1:ib+1=b.size
    .rw[if_pos (by simpa using d1)];refine y0w ⟨rfl,.inl ⟨_,rfl,?_⟩⟩;rw[d1]at M'⊢;exact M'.doneB sa
    rw[if_neg (by simpa using d1)];split
    .exact y0w ⟨rfl,.inr ⟨_,_,_,_,_,rfl,M',q1,by lia,by lia⟩⟩
    .exact y0w ⟨rfl,_,_,_,_,_,rfl,M',q1,by lia,by lia⟩
   |false =>
    simp only[y0d,y1m];refine y0o (z0F (ea ia (by lia)) ?_);have M':=M.pushA sa (by lia:ia<a.size) (leB ib q2 _ e);have hs:(out.push a[ia]).size=out.size+1:=y1P ..;by_cases d1:ia+1+1=a.size
    .rw[if_pos (by simpa using d1)];exact y0w ⟨rfl,.inl ⟨_,rfl,M'.lastA sb d1 hl⟩⟩
    rw[if_neg (by simpa using d1)];split
    .exact y0w ⟨rfl,.inr ⟨_,_,_,_,_,rfl,M',by lia,q2,by lia⟩⟩
    .exact y0w ⟨rfl,_,_,_,_,_,rfl,M',by lia,q2,by lia⟩
  case ipost =>
   rintro c st' ⟨h9,hc⟩;rw[h9];rcases hc with⟨r,e,hr⟩|⟨out,ia,ib,ac,bc,rfl,M,q1,q2,q3⟩
   .obtain⟨c1,c2⟩:=c;dsimp -zeta only at e⊢;subst e;exact y0w ⟨hG,r,rfl,hr⟩
   dsimp -zeta only;refine y0o (wpS_lift (y2i ⟨rfl,?_⟩));refine y0o (y2e (y1j (I:=fun y c st'=>StG st st'/\∃out ia ib mg ac bc,c=(none,out,ia,ib,mg,ac,bc)/\MI kf lt a b out ia ib/\ia+1<a.size/\ib<b.size/\x+1<out.size)
    (Q:=fun c st'=>StG st st'/\((∃r,c.1=some r/\Mgd kf lt a b r)\/∃out ia ib mg ac bc,c=(none,out,ia,ib,mg,ac,bc)/\MI kf lt a b out ia ib/\ia+1<a.size/\ib<b.size/\x+1<out.size)) ?gstep ?gfin ⟨hG,_,_,_,_,_,_,rfl,M,q1,q2,q3⟩) ?gpost)
   case gfin =>
    rintro c st' ⟨hG,out,ia,ib,mg,ac,bc,rfl,M,q1,q2,q3⟩;exact⟨hG,.inr ⟨out,ia,ib,mg,ac,bc,rfl,M,q1,q2,q3⟩⟩
   case gpost =>
    rintro c st' ⟨hG,hc⟩;rcases hc with⟨r,e,hr⟩|⟨out,ia,ib,mg,ac,bc,rfl,M,q1,q2,q3⟩
    .obtain⟨c1,c2⟩:=c;dsimp -zeta only at e⊢;subst e;exact y0w ⟨hG,r,rfl,hr⟩
    dsimp -zeta only;refine y0o (z4s hG fun st3 hG2=>?_);exact y0w ⟨hG2,out,ia,ib,_,rfl,M,q1,q2,q3⟩
   case gstep =>
    rintro y c st2 _ hy ⟨hG,out,ia,ib,mg,ac,bc,rfl,M,q1,q2,q3⟩;dsimp -zeta only;refine z9e fun QG hQ=>?_
    extract_lets s1 o1 s2 i1 s3 b1 s4 m1 s5 a1 c1 bp jp m2
    subst m2 bp c1 a1 s5 m1 s4 b1 s3 i1 s2 o1 s1;refine zaZ (j:=jp ()) fun m'=>?_;dsimp -zeta only [jp];clear jp;refine y0o (z4s hG fun st3 hG2=>?_);refine y0o (z0F (eb ib q2) ?_);refine y0o (z48 T hA (hG2.kind.trans hk) (hSb ib q2) (by lia) (fun i hi _ _=>hSa i hi) (z9H T sa) (by lia) fun k hk1 f1 f2=>?_);have f1':∀i (hi:i<a.size),ia<=i->i<ia+k->lt (kf b[ib]) (kf a[i])=false:=fun i hi u1 u2=>by have:=f1 i hi u1 u2;unfold bey at this;simpa using this
    have f2':∀i (hi:i<a.size),ia+k<=i->lt (kf b[ib]) (kf a[i])=true:=fun i hi u1=>by have:=f2 i hi u1 (by lia);unfold bey at this;simpa using this
    dsimp -zeta only
    extract_lets k2 jp o2 i2
    subst i2 o2 k2;have hs0:=M.size;have hj:∀(o:Array Keyed)(i:Nat)(hi:i+1<a.size),MI kf lt a b o i ib->lt (kf b[ib]) (kf (a[i]'(by lia)))=true->x+1<o.size+1->wpS (model prog w) A E s (jp () o i) QG st3:=by
     intro o i hi M2 f3 ho;dsimp -zeta only [jp];clear jp;refine y0o (z0F (eb ib q2) ?_);have u3:=Nat.lt_of_succ_lt hi;have M3:=M2.pushB sb q2 (leA _ u3 _ (T.asy _ _ f3))
     extract_lets o3 b3
     subst b3 o3;by_cases d3:ib+1=b.size
     .rw[if_pos (by simpa using d3)];refine y0w (hQ _ _ ⟨hG2,.inl ⟨_,rfl,?_⟩⟩);rw[d3]at M3⊢;exact M3.doneB sa
     rw[if_neg (by simpa using d3)];refine y0o (z0F (ea _ u3) ?_);refine y0o (z48 T hA (hG2.kind.trans hk) (hSa _ u3) (by lia) (fun i hi _ _=>hSb i hi) (z9H T sb) (by lia) fun k1 hk1 g1 g2=>?_);dsimp -zeta only
     extract_lets k3 jp o4 b4
     subst b4 o4 k3;have hj:∀(o':Array Keyed)(b':Nat)(hb':b'<b.size),MI kf lt a b o' i b'->lt (kf (b[b'])) (kf (a[i]'u3))=false->x+1<o'.size+1->wpS (model prog w) A E s (jp () o' b') QG st3:=by
      intro o' b' hb' M4 g3 ho';dsimp -zeta only [jp];clear jp;refine y0o (z0F (ea _ u3) ?_);have M5:=M4.pushA sa u3 (leB _ hb' _ g3);have hs5:(o'.push (a[i]'u3)).size=o'.size+1:=y1P ..;dsimp only;split
      .rename_i d6;exact y0w (hQ _ _ ⟨hG2,.inl ⟨_,rfl,M5.lastA sb (by simpa using d6) hl⟩⟩)
      rename_i d6;rw[y3d]at d6;split
      .exact y0w (hQ _ _ ⟨hG2,.inr ⟨_,_,_,_,_,_,rfl,M5,by lia,hb',by lia⟩⟩)
      .exact y0w (hQ _ _ ⟨hG2,_,_,_,_,_,_,rfl,M5,by lia,hb',by lia⟩)
     clear_value jp
     .have hs3:(o.push b[ib]).size=o.size+1:=y1P ..;by_cases d4:k1>0
      .rw[if_pos d4];have M4:=M3.chunkB sb k1 (by lia) (fun i hi u1 u2=>leA _ u3 _ (T.asy _ _ (g1 i hi u1 u2)));have hs4:=M4.size;have hs2:=M3.size;by_cases d5:ib+1+k1=b.size
       .rw[if_pos (by simpa using d5)];refine y0w (hQ _ _ ⟨hG2,.inl ⟨_,rfl,?_⟩⟩);rw[d5]at M4⊢;exact M4.doneB sa
       rw[if_neg (by simpa using d5)];have u4:ib+1+k1<b.size:=by lia
       exact hj _ _ u4 M4 (g2 (ib+1+k1) u4 (y0f _) (by lia)) (by lia)
      .rw[if_neg d4];have hk0:k1=0:=by lia
       subst hk0;have u4:ib+1<b.size:=by lia
       exact hj _ _ u4 M3 (g2 (ib+1) u4 (by lia) (by lia)) (by lia)
    clear_value jp
    .by_cases d1:k>0
     .rw[if_pos d1];have M2:=M.chunkA sa k (by lia) (fun i hi u1 u2=>leB ib q2 _ (f1' i hi u1 u2));have hs2:=M2.size;by_cases d2:ia+k+1=a.size
      .rw[if_pos (by simpa using d2)];exact y0w (hQ _ _ ⟨hG2,.inl ⟨_,rfl,M2.lastA sb d2 hl⟩⟩)
      rw[if_neg (by simpa using d2)];by_cases d2':ia+k=a.size
      .rw[if_pos (by simpa using d2')];refine y0w (hQ _ _ ⟨hG2,.inl ⟨_,rfl,?_⟩⟩);rw[d2']at M2⊢;exact M2.doneA sb
      rw[if_neg (by simpa using d2')];exact hj _ _ (by lia) M2 (f2' (ia+k) (by lia) (y0f _)) (by lia)
     .rw[if_neg d1];have hk0:k=0:=by lia
      subst hk0;exact hj _ _ q1 M (f2' ia (by lia) (by lia)) (by lia)
end
def zcW:Array Keyed->Array Keyed->StateT SortSt Sem (Array Keyed):=sortPriv% PySem.Builtin.mergeHi
section
variable{α:Type}(kf:Keyed->α)(lt:α->α->Bool)
structure MH(a b:Array Keyed)(out:Array Keyed)(na nb:Nat):Prop where
 la:na<=a.size
 lb:nb<=b.size
 so:Sl kf lt out.toList.reverse
 le:∀y∈out.toList,∀x∈a.toList.take na++b.toList.take nb,lt (kf y) (kf x)=false
 pm:((a.toList.take na++b.toList.take nb)++out.toList.reverse).Perm (a.toList++b.toList)
end
section
variable{α:Type}{kf:Keyed->α}{lt:α->α->Bool}
def z5P{a:Array Keyed}{i:Nat}(h:i<a.size):a.toList.take (i+1)=a.toList.take i++[a[i]]:=by rw[y0v,show a.toList[i]?=some a[i]by rw[y0B,y0i h]];rfl
theorem MH.size{a b out:Array Keyed}{na nb:Nat}(h:MH kf lt a b out na nb):out.size+na+nb=a.size+b.size:=by have:=h.pm.length_eq;have h1:=h.la;have h2:=h.lb;simp at this;lia
def z4b(T:z5w lt){l:List Keyed}{i:Nat}{x y:Keyed}(h:Sl kf lt l)(hx:l[i]?=some x)(hy:lt (kf y) (kf x)=false):∀z∈l.take (i+1),lt (kf y) (kf z)=false:=fun z hz=>by
 obtain⟨j,hj,e⟩:=y0V.mp hz;rw[y1Z]at e;obtain⟨hi,ei⟩:=y05.mp hx;have hji:j<=i:=by simp at hj;lia
 rcases y2E j i with q|q
 .have:=y1h.mp h j i (by lia) hi q;rw[e,ei]at this;exact T.tr (kf z) (kf x) (kf y) this hy
 .have:j=i:=by lia
  subst this;rw[<-e,ei];exact hy
def MH.pushA{a b out:Array Keyed}{na nb:Nat}(h:MH kf lt a b out (na+1) nb)(sa:Sl kf lt a.toList)(T:z5w lt)(hi:na<a.size)(hle:∀x∈b.toList.take nb,lt (kf a[na]) (kf x)=false):MH kf lt a b (out.push a[na]) na nb:=by
 have e:=z5P hi;have hx:a.toList[na]?=some a[na]:=by rw[y0B,y0i hi]
 have hin:∀x∈a.toList.take na++b.toList.take nb,x∈a.toList.take (na+1)++b.toList.take nb:=fun x hx=>by
  rcases y0q.mp hx with z|z
  .rw[e];simp[z]
  .simp[z]
 refine⟨by have:=h.la;lia,h.lb,?_,fun y hy x hx'=>?_,?_⟩
 .rw[y1v,List.reverse_append];refine y0W.mpr ⟨y1X _ _,h.so,fun x hx' y hy=>?_⟩;have hx'':x=a[na]:=by simpa using hx'
  subst hx'';exact h.le y (by simpa using hy) a[na] (by rw[e];simp)
 .rw[y1v,y0q,y08]at hy;rcases hy with hy|rfl
  .exact h.le y hy x (hin x hx')
  .rcases y0q.mp hx' with z|z
   .exact z4b T sa hx (T.refl _) x (by rw[e];simp[z])
   .exact hle x z
 .have:=h.pm;rw[e]at this;rw[y1v,List.reverse_append];refine List.Perm.trans ?_ this;show((a.toList.take na++b.toList.take nb)++([a[na]]++out.toList.reverse)).Perm ((a.toList.take na++[a[na]]++b.toList.take nb)++out.toList.reverse);rw[<-y0p];refine y25 _ ?_;rw[y0p,y0p];exact y1O _ y1B
def MH.swap{a b out:Array Keyed}{na nb:Nat}(h:MH kf lt a b out na nb):MH kf lt b a out nb na:=by
 refine⟨h.lb,h.la,h.so,fun y hy x hx=>h.le y hy x ?_,?_⟩
 .rcases y0q.mp hx with z|z
  .exact y0j _ z
  .exact y0t _ z
 .exact((y25 _ y1B).trans h.pm).trans y1B
def MH.pushB{a b out:Array Keyed}{na nb:Nat}(h:MH kf lt a b out na (nb+1))(sb:Sl kf lt b.toList)(T:z5w lt)(hi:nb<b.size)(hle:∀x∈a.toList.take na,lt (kf b[nb]) (kf x)=false):MH kf lt a b (out.push b[nb]) na nb :=
 (MH.pushA h.swap sb T hi hle).swap
theorem MH.chunkA{a b:Array Keyed}{nb at_:Nat}(sa:Sl kf lt a.toList)(T:z5w lt):∀(na:Nat)(out:Array Keyed),at_<=na->MH kf lt a b out na nb->(∀i (hi:i<a.size),at_<=i->i<na->∀x∈b.toList.take nb,lt (kf a[i]) (kf x)=false)->MH kf lt a b (out++(a.extract at_ na).reverse) at_ nb
 |0,out,h0,h,_=>by
  have:at_=0:=by lia
  subst this;simpa using h
 |na+1,out,h0,h,hle=>by
  by_cases e:at_=na+1
  .subst e;have:(a.extract (na+1) (na+1)).reverse=#[]:=by simp;lia
   rw[this,Array.append_empty];exact h
  .have hi:na<a.size:=by have:=h.la;lia
   have:=MH.chunkA sa T na (out.push a[na]) (by lia) (h.pushA sa T hi (hle na hi (by lia) (by lia))) fun i hi' u1 u2=>hle i hi' u1 (by lia);have e2:out++(a.extract at_ (na+1)).reverse=out.push a[na]++(a.extract at_ na).reverse:=by have e1:=Array.push_extract_getElem (as:=a) (i:=at_) (j:=na) hi;rw[y38 (by lia)]at e1;rw[<-e1,Array.reverse_push];simp
   rw[e2];exact this
def MH.chunkB{a b:Array Keyed}{na at_:Nat}(sb:Sl kf lt b.toList)(T:z5w lt)(nb:Nat)(out:Array Keyed)(h0:at_<=nb)(h:MH kf lt a b out na nb)(hle:∀i (hi:i<b.size),at_<=i->i<nb->∀x∈a.toList.take na,lt (kf b[i]) (kf x)=false):MH kf lt a b (out++(b.extract at_ nb).reverse) na at_ :=
 (MH.chunkA sb T nb out h0 h.swap hle).swap
def z1M(a:Array Keyed)(n:Nat):(a.extract 0 n).toList=a.toList.take n:=by rw[y2R,y2d];simp
def MH.doneA{a b out:Array Keyed}{nb:Nat}(sb:Sl kf lt b.toList)(h:MH kf lt a b out 0 nb):Mgd kf lt a b (a.extract 0 0++b.extract 0 nb++out.reverse):=by
 have e2:(a.extract 0 0++b.extract 0 nb++out.reverse).toList=b.toList.take nb++out.toList.reverse:=by rw[y16,y16,z1M,z1M,y3z];simp
 unfold Mgd;rw[e2];refine⟨y0W.mpr ⟨sb.sublist (y1F _ _),h.so,fun x hx y hy=>h.le y (by simpa using hy) x (by simp[hx])⟩,?_⟩;have:=h.pm;simpa using this
def MH.doneB{a b out:Array Keyed}{na:Nat}(sa:Sl kf lt a.toList)(h:MH kf lt a b out na 0):Mgd kf lt a b (a.extract 0 na++b.extract 0 0++out.reverse):=by
 have e2:(a.extract 0 na++b.extract 0 0++out.reverse).toList=a.toList.take na++out.toList.reverse:=by rw[y16,y16,z1M,z1M,y3z];simp
 unfold Mgd;rw[e2];refine⟨y0W.mpr ⟨sa.sublist (y1F _ _),h.so,fun x hx y hy=>h.le y (by simpa using hy) x (by simp[hx])⟩,?_⟩;have:=h.pm;simpa using this
def MH.firstB{a b out:Array Keyed}{na:Nat}(sa:Sl kf lt a.toList)(hb:0<b.size)(h:MH kf lt a b out na 1)(hf:∀y∈a.toList,lt (kf y) (kf b[0])=false):Mgd kf lt a b (b.extract 0 1++a.extract 0 na++out.reverse):=by
 have e1:b.toList.take 1=[b[0]]:=by have:=z5P (a:=b) (i:=0) hb;simpa using this
 have e2:(b.extract 0 1++a.extract 0 na++out.reverse).toList=[b[0]]++a.toList.take na++out.toList.reverse:=by rw[y16,y16,z1M,z1M,y3z,e1]
 unfold Mgd;rw[e2];refine⟨y0W.mpr ⟨y0W.mpr ⟨y1X _ _,sa.sublist (y1F _ _),fun x hx y hy=>?_⟩,h.so,fun x hx y hy=>h.le y (by simpa using hy) x ?_⟩,?_⟩
 .rw[y08.mp hx];exact hf y (y10 hy)
 .rw[e1];rcases y0q.mp hx with z|z
  .exact y0j _ z
  .exact y0t _ z
 .have:=h.pm;rw[e1]at this;exact(y25 _ y1B).trans this
end
section
variable{prog:Program}{w:World}{A:Around}{E:yyE}{s:Shared}{α:Type}{kf:Keyed->α}{lt:α->α->Bool}{kd:SortKind}{S:List Keyed}
set_option maxHeartbeats 8000000 in
def z8J(T:z5w lt)(hA:z9T prog w A E s kd S kf lt){st:SortSt}(hk:kindOf st=kd){a b:Array Keyed}(haS:∀x∈a.toList,x∈S)(hbS:∀x∈b.toList,x∈S)(sa:Sl kf lt a.toList)(sb:Sl kf lt b.toList)(ha:0<a.size)(hb:0<b.size)(hfirst:lt (kf b[0]) (kf a[0])=true)(hl:∀y∈b.toList,∀z,a[a.size-1]?=some z->lt (kf z) (kf y)=false){Q:Array Keyed->SortSt->Prop}(h:∀r st',StG st st'->Mgd kf lt a b r->Q r st') : wpS (model prog w) A E s (zcW a b) Q st:=by
 have hSa:∀i (hi:i<a.size),a[i]∈S:=fun i hi=>haS _ (by simp);have hSb:∀i (hi:i<b.size),b[i]∈S:=fun i hi=>hbS _ (by simp);have ea:∀i (hi:i<a.size),a[i]?=some a[i]:=fun i hi=>y0i hi;have eb:∀i (hi:i<b.size),b[i]?=some b[i]:=fun i hi=>y0i hi;have hf:∀y∈a.toList,lt (kf y) (kf b[0])=false:=fun y hy=>z3h T sa (i:=0) (x:=a[0]) (by simp[ha]) (T.asy _ _ hfirst) y (by simpa using hy);have leA:∀i (hi:i<a.size) (y:Keyed),lt (kf y) (kf a[i])=false->∀z∈a.toList.take (i+1),lt (kf y) (kf z)=false:=fun i hi y q=>z4b T sa (by simp[hi]) q;have leB:∀i (hi:i<b.size) (y:Keyed),lt (kf y) (kf b[i])=false->∀z∈b.toList.take (i+1),lt (kf y) (kf z)=false:=fun i hi y q=>z4b T sb (by simp[hi]) q;obtain⟨m,hm⟩:∃m,a.size=m+1:=⟨a.size-1,by lia⟩;have hm1:a.size-1=m:=by lia
 have M0:MH kf lt a b #[] (m+1) b.size:=⟨by lia,y0f _,y3c,fun y hy=>by simp at hy,by rw[<-hm,y0M (by simp),y0M (by simp)];simp⟩;have M1:MH kf lt a b #[a[m]] m b.size:=M0.pushA sa T (by lia) (fun x hx=>hl x (y10 hx) _ (by rw[hm1];exact ea m (by lia)));refine y0o (wpS_lift (y2i ⟨rfl,?_⟩));rw[hm1];refine y0o (z0F (ea m (by lia)) ?_);dsimp -zeta only;by_cases c1:m=0
 .rw[if_pos (by simpa using c1)];refine y0w (h _ _ (StG.refl st) ?_);subst c1;exact M1.doneA sb
 rw[if_neg (by simpa using c1)];by_cases c2:b.size=1
 .rw[if_pos (by simpa using c2)];refine y0w (h _ _ (StG.refl st) ?_);rw[c2]at M1;have:=M1.firstB sa hb hf;rw[<-c2]at this;exact this
 rw[if_neg (by simpa using c2)];refine y0o (y3O ?_);refine y0o (y2e (y1j (I:=fun x c st'=>StG st st'/\∃na nb out mg,c=(none,na,nb,out,mg)/\MH kf lt a b out na nb/\1<=na/\2<=nb/\x<out.size)
  (Q:=fun c st'=>StG st st'/\∃r,c.1=some r/\Mgd kf lt a b r) ?step ?fin ⟨StG.refl st,_,_,_,_,rfl,M1,by lia,by lia,by simp⟩) ?post)
 case fin =>
  rintro c st' ⟨hG,na,nb,out,mg,rfl,M,q1,q2,q3⟩;have:=M.size;lia
 case post =>
  rintro⟨c1,c2⟩ st' ⟨hG,r,e,hr⟩;dsimp -zeta only at e⊢;subst e;exact y0w (h r st' hG hr)
 case step =>
  rintro x c st1 _ hx ⟨hG,na,nb,out,mg,rfl,M,q1,q2,q3⟩;dsimp -zeta only;refine y0o (y2e (y1j (I:=fun y c st'=>st'=st1/\∃na nb out ac bc,c=(none,na,nb,out,ac,bc)/\MH kf lt a b out na nb/\1<=na/\2<=nb/\x+y<out.size)
   (Q:=fun c st'=>st'=st1/\((∃r,c.1=some r/\Mgd kf lt a b r)\/∃na nb out ac bc,c=(none,na,nb,out,ac,bc)/\MH kf lt a b out na nb/\1<=na/\2<=nb/\x+1<out.size)) ?istep ?ifin ⟨rfl,_,_,_,_,_,rfl,M,q1,q2,by lia⟩) ?ipost)
  case ifin =>
   rintro c st' ⟨rfl,na,nb,out,ac,bc,rfl,M,q1,q2,q3⟩;exact⟨rfl,.inr ⟨na,nb,out,ac,bc,rfl,M,q1,q2,by lia⟩⟩
  case istep =>
   rintro y c st' _ hy ⟨rfl,na,nb,out,ac,bc,rfl,M,q1,q2,q3⟩;obtain⟨p,rfl⟩:∃p,na=p+1:=⟨na-1,by lia⟩;obtain⟨r,rfl⟩:∃r,nb=r+2:=⟨nb-2,by lia⟩;have hp:p<a.size:=by have:=M.la;lia
   have hr:r+1<b.size:=by have:=M.lb;lia
   have z1:p+1-1=p:=rfl;have z2:r+2-1=r+1:=rfl;dsimp -zeta only;simp only[z1,z2];refine y0o (z0F (eb (r+1) hr) ?_);refine y0o (z0F (ea p hp) ?_);refine y0o (hA _ _ _ _ (hG.kind.trans hk) (hSb (r+1) hr) (hSa p hp) ?_);dsimp -zeta only;cases e:lt (kf b[r+1]) (kf a[p])with
   |true =>
    simp only[y2b];refine y0o (z0F (ea p hp) ?_);have M':=M.pushA sa T hp (leB (r+1) hr _ (T.asy _ _ e));have hs:(out.push a[p]).size=out.size+1:=y1P ..;by_cases d1:p=0
    .rw[if_pos (by simpa using d1)];refine y0w ⟨rfl,.inl ⟨_,rfl,?_⟩⟩;subst d1;exact M'.doneA sb
    rw[if_neg (by simpa using d1)];split
    .exact y0w ⟨rfl,.inr ⟨_,_,_,_,_,rfl,M',by lia,by lia,by lia⟩⟩
    .exact y0w ⟨rfl,_,_,_,_,_,rfl,M',by lia,by lia,by lia⟩
   |false =>
    simp only[y0d,y1m];refine y0o (z0F (eb (r+1) hr) ?_);have M':=M.pushB sb T hr (leA p hp _ e);have hs:(out.push b[r+1]).size=out.size+1:=y1P ..;by_cases d1:r+1=1
    .rw[if_pos (by simpa using d1)];refine y0w ⟨rfl,.inl ⟨_,rfl,?_⟩⟩;have d1':r=0:=by lia
     subst d1';exact M'.firstB sa hb hf
    rw[if_neg (by simpa using d1)];split
    .exact y0w ⟨rfl,.inr ⟨_,_,_,_,_,rfl,M',by lia,by lia,by lia⟩⟩
    .exact y0w ⟨rfl,_,_,_,_,_,rfl,M',by lia,by lia,by lia⟩
  case ipost =>
   rintro c st' ⟨h9,hc⟩;rw[h9];rcases hc with⟨r,e,hr⟩|⟨na,nb,out,ac,bc,rfl,M,q1,q2,q3⟩
   .obtain⟨c1,c2⟩:=c;dsimp -zeta only at e⊢;subst e;exact y0w ⟨hG,r,rfl,hr⟩
   dsimp -zeta only;refine y0o (wpS_lift (y2i ⟨rfl,?_⟩));refine y0o (y2e (y1j (I:=fun y c st'=>StG st st'/\∃na nb out mg ac bc,c=(none,na,nb,out,mg,ac,bc)/\MH kf lt a b out na nb/\1<=na/\2<=nb/\x+1<out.size)
    (Q:=fun c st'=>StG st st'/\((∃r,c.1=some r/\Mgd kf lt a b r)\/∃na nb out mg ac bc,c=(none,na,nb,out,mg,ac,bc)/\MH kf lt a b out na nb/\1<=na/\2<=nb/\x+1<out.size)) ?gstep ?gfin ⟨hG,_,_,_,_,_,_,rfl,M,q1,q2,q3⟩) ?gpost)
   case gfin =>
    rintro c st' ⟨hG,na,nb,out,mg,ac,bc,rfl,M,q1,q2,q3⟩;exact⟨hG,.inr ⟨na,nb,out,mg,ac,bc,rfl,M,q1,q2,q3⟩⟩
   case gpost =>
    rintro c st' ⟨hG,hc⟩;rcases hc with⟨r,e,hr⟩|⟨na,nb,out,mg,ac,bc,rfl,M,q1,q2,q3⟩
    .obtain⟨c1,c2⟩:=c;dsimp -zeta only at e⊢;subst e;exact y0w ⟨hG,r,rfl,hr⟩
    dsimp -zeta only;refine y0o (z4s hG fun st3 hG2=>?_);exact y0w ⟨hG2,na,nb,out,_,rfl,M,q1,q2,q3⟩
   case gstep =>
    rintro y c st2 _ hy ⟨hG,na,nb,out,mg,ac,bc,rfl,M,q1,q2,q3⟩;obtain⟨p,rfl⟩:∃p,na=p+1:=⟨na-1,by lia⟩;obtain⟨r,rfl⟩:∃r,nb=r+2:=⟨nb-2,by lia⟩;have hp:p<a.size:=by have:=M.la;lia
    have hr:r+1<b.size:=by have:=M.lb;lia
    have hs0:=M.size;refine z9e fun QG hQ=>?_;dsimp -zeta only
    extract_lets -underBinder s1 i1 s2 b1 s3 o1 s4 m1 s5 a1 c1 jp
    subst c1 a1 s5 m1 s4 o1 s3 b1 s2 i1 s1;refine zaZ (j:=jp ()) fun m'=>?_;dsimp -zeta only [jp];clear jp;refine y0o (z4s hG fun st3 hG2=>?_);refine y0o (z0F (eb (r+1) hr) ?_);refine y0o (z48 T hA (hG2.kind.trans hk) (hSb (r+1) hr) (by lia) (fun i hi _ _=>hSa i hi) (z9H T sa) (by lia) fun a1 ha1 f1 f2=>?_);have f1':∀i (hi:i<a.size),i<a1->lt (kf b[r+1]) (kf a[i])=false:=fun i hi u=>by have:=f1 i hi (y0y _) (by lia);unfold bey at this;simpa using this
    have f2':∀i (hi:i<a.size),a1<=i->i<p+1->lt (kf b[r+1]) (kf a[i])=true:=fun i hi u1 u2=>by have:=f2 i hi (by lia) (by lia);unfold bey at this;simpa using this
    dsimp -zeta only
    extract_lets -underBinder k1 k2 jp o9 i9
    subst i9 o9 k2 k1;have hj:∀(p1:Nat)(o:Array Keyed),p1+1<=p+1->MH kf lt a b o (p1+1) (r+2)->(∀i (hi:i<a.size),i<p1+1->lt (kf b[r+1]) (kf a[i])=false)->x+1<o.size+1->wpS (model prog w) A E s (jp () (p1+1) o) QG st3:=by
     intro p1 o hp1 M2 f1 ho;dsimp -zeta only [jp];clear jp
     extract_lets -underBinder b2
     subst b2;refine y0o (z0F (eb (r+1) hr) ?_);have HA:∀x∈a.toList.take (p1+1),lt (kf b[r+1]) (kf x)=false:=fun x hx=>by
      obtain⟨j,hj,e⟩:=y0V.mp hx;rw[y1Z]at e;have hj':j<p1+1/\j<a.size:=by simp at hj;lia
      have:=f1 j hj'.2 hj'.1;rw[<-e];simpa using this
     have M3:=M2.pushB sb T hr HA
     extract_lets -underBinder o2
     subst o2;by_cases d3:r+1=1
     .rw[if_pos (by simpa using d3)];refine y0w (hQ _ _ ⟨hG2,.inl ⟨_,rfl,?_⟩⟩);have d3':r=0:=by lia
      subst d3';exact M3.firstB sa hb hf
     rw[if_neg (by simpa using d3)];refine y0o (z0F (ea p1 (by lia)) ?_);refine y0o (z48 T hA (hG2.kind.trans hk) (hSa p1 (by lia)) (by lia) (fun i hi _ _=>hSb i hi) (z9H T sb) (by lia) fun a2 ha2 g1 g2=>?_);have g1':∀i (hi:i<b.size),i<a2->lt (kf b[i]) (kf a[p1])=true:=fun i hi u=>by have:=g1 i hi (y0y _) (by lia);unfold bey at this;simpa using this
     have g2':∀i (hi:i<b.size),a2<=i->i<r+1->lt (kf b[i]) (kf a[p1])=false:=fun i hi u1 u2=>by have:=g2 i hi (by lia) (by lia);unfold bey at this;simpa using this
     dsimp -zeta only
     extract_lets -underBinder k1 k2 jp o9 i9
     subst i9 o9 k2 k1;have hj:∀(b':Nat)(o':Array Keyed),2<=b'+1->MH kf lt a b o' (p1+1) b'->b'=a2->2<=b'->x+1<o'.size+1->wpS (model prog w) A E s (jp () b' o') QG st3:=by
      intro b' o' _ MB eb2 h2 ho';subst eb2;have HB:∀x∈b.toList.take b',lt (kf a[p1]) (kf x)=false:=fun x hx=>by
       obtain⟨j,hj,e⟩:=y0V.mp hx;rw[y1Z]at e;have hj':j<b'/\j<b.size:=by simp at hj;lia
       have:=T.asy _ _ (g1' j hj'.2 hj'.1);rw[<-e];simpa using this
      dsimp only[jp];clear jp;refine y0o (z0F (ea p1 (by lia)) ?_);have M5:=MB.pushA sa T (by lia:p1<a.size) HB;have hs5:(o'.push (a[p1]'(by lia))).size=o'.size+1:=y1P ..;by_cases d6:p1=0
      .rw[if_pos (by simpa using d6)];refine y0w (hQ _ _ ⟨hG2,.inl ⟨_,rfl,?_⟩⟩);subst d6;exact M5.doneA sb
      rw[if_neg (by simpa using d6)];split
      .exact y0w (hQ _ _ ⟨hG2,.inr ⟨_,_,_,_,_,_,rfl,M5,by lia,by lia,by lia⟩⟩)
      .exact y0w (hQ _ _ ⟨hG2,_,_,_,_,_,_,rfl,M5,by lia,by lia,by lia⟩)
     clear_value jp
     have hs3:(o.push b[r+1]).size=o.size+1:=y1P ..;by_cases d4:r+2-1-a2>0
     .rw[if_pos d4];have MB:=MH.chunkB sb T (r+1) _ (by lia:a2<=r+1) M3 (fun i hi u1 u2=>leA p1 (by lia) _ (g2' i hi u1 u2));have hs4:=MB.size;have hs2:=M3.size;by_cases d5:a2=1
      .rw[if_pos (by simpa using d5)];refine y0w (hQ _ _ ⟨hG2,.inl ⟨_,rfl,?_⟩⟩);subst d5;exact MB.firstB sa hb hf
      rw[if_neg (by simpa using d5)];by_cases d5':a2=0
      .rw[if_pos (by simpa using d5')];refine y0w (hQ _ _ ⟨hG2,.inl ⟨_,rfl,?_⟩⟩);subst d5';exact MB.doneB sa
      rw[if_neg (by simpa using d5')];have h9:x+1<(o.push b[r+1]++(b.extract a2 (r+1)).reverse).size+1:=by lia
      exact hj _ _ (by lia) MB rfl (by lia) h9
     .rw[if_neg d4];have hk0:a2=r+1:=by lia
      exact hj _ _ (by lia) M3 hk0.symm (by lia) (by lia)
    clear_value jp
    by_cases d1:p+1-a1>0
    .rw[if_pos d1];have M2:=MH.chunkA sa T (p+1) _ (by lia:a1<=p+1) M (fun i hi u1 u2=>leB (r+1) hr _ (T.asy _ _ (f2' i hi u1 u2)));have hs2:=M2.size;by_cases d2:a1=0
     .rw[if_pos (by simpa using d2)];refine y0w (hQ _ _ ⟨hG2,.inl ⟨_,rfl,?_⟩⟩);subst d2;exact M2.doneA sb
     rw[if_neg (by simpa using d2)];obtain⟨p1,rfl⟩:∃p1,a1=p1+1:=⟨a1-1,by lia⟩;exact hj p1 _ (by lia) M2 f1' (by lia)
    .rw[if_neg d1];have hk0:a1=p+1:=by lia
     subst hk0;exact hj p _ (by lia) M f1' (by lia)
end
section
variable{α:Type}(kf:Keyed->α)(lt:α->α->Bool)
def KA(xs:Array Keyed)(i:Nat):α:=kf (xs[i]?.getD (.none,.none))
def zaP(xs:Array Keyed)(lo n:Nat):Prop:=∀i j,i<=j->j<n->lt (KA kf xs (lo+j)) (KA kf xs (lo+i))=false
def zfo(xs:Array Keyed)(lo n:Nat):Prop:=∀i j,i<=j->j<n->lt (KA kf xs (lo+i)) (KA kf xs (lo+j))=false
end
structure SB(kd:SortKind)(p0:Array (Nat × Nat × Nat))(a₀:Array Keyed)(lo hi:Nat)(st:SortSt):Prop where
 perm:(arrOf st).Perm a₀
 kind:kindOf st=kd
 failed:failedOf st=none
 pend:pendingOf st=p0
 out:∀k:Nat,k<lo\/hi<=k->(arrOf st)[k]?=a₀[k]?
section
variable{α:Type}{kf:Keyed->α}{lt:α->α->Bool}{kd:SortKind}{p0:Array (Nat × Nat × Nat)}{a₀:Array Keyed}{lo hi:Nat}{st:SortSt}
theorem SB.size(h:SB kd p0 a₀ lo hi st):(arrOf st).size=a₀.size:=h.perm.size_eq
def SB.arr(h:SB kd p0 a₀ lo hi st){xs:Array Keyed}(hp:xs.Perm (arrOf st))(ho:∀k:Nat,k<lo\/hi<=k->xs[k]?=(arrOf st)[k]?):SB kd p0 a₀ lo hi (setArr st xs) :=
 ⟨hp.trans h.perm,h.kind,h.failed,h.pend,fun k hk=>(ho k hk).trans (h.out k hk)⟩
def z3F{xs ys:Array Keyed}{i j:Nat}(h:xs[i]?=ys[j]?):KA kf xs i=KA kf ys j:=by unfold KA;rw[h]
def z54{xs:Array Keyed}{i j:Nat}(hj:j<=xs.size)(k:Nat):KA kf (mirror xs i j ((j-i)/2)) k=if i<=k/\k<j then KA kf xs (i+j-1-k)else KA kf xs k:=by
 have e:=getElem?_mirror_all (i:=i) hj k;by_cases h1:i<=k/\k<j
 .rw[if_pos h1]at e⊢;exact z3F e
 .rw[if_neg h1]at e⊢;exact z3F e
def z1l{xs:Array Keyed}{i j:Nat}(hj:j<=xs.size)(heq:∀k,i<=k->k<j->KA kf xs k=KA kf xs (j-1))(k:Nat):KA kf (mirror xs i j ((j-i)/2)) k=KA kf xs k:=by
 rw[z54 hj];split
 .rw[heq _ (by lia) (by lia),heq k (by lia) (by lia)]
 .rfl
def z7W{xs:Array Keyed}{src d:Nat}(hs:src<xs.size)(hd:d<=src)(k:Nat):KA kf (bubble xs src d) k=if k=src-d then KA kf xs src else if src-d<k/\k<=src then KA kf xs (k-1)else KA kf xs k:=by
 have e:=getElem?_bubble hs d hd k;by_cases h1:k=src-d
 .rw[if_pos h1]at e⊢;exact z3F e
 .rw[if_neg h1]at e⊢;by_cases h2:src-d<k/\k<=src
  .rw[if_pos h2]at e⊢;exact z3F e
  .rw[if_neg h2]at e⊢;exact z3F e
def z3b{xs:Array Keyed}{i j:Nat}(hj:j<=xs.size){k:Nat}(hk:k<i\/j<=k):(mirror xs i j ((j-i)/2))[k]?=xs[k]?:=by rw[getElem?_mirror_all hj,if_neg (by lia)]
def zas{xs:Array Keyed}{src d:Nat}(hs:src<xs.size)(hd:d<=src){k:Nat}(hk:k<src-d\/src<k):(bubble xs src d)[k]?=xs[k]?:=by rw[getElem?_bubble hs d hd,if_neg (by lia),if_neg (by lia)]
end
section
variable{prog:Program}{w:World}{A:Around}{E:yyE}{s:Shared}{α:Type}{kf:Keyed->α}{lt:α->α->Bool}{kd:SortKind}{S:List Keyed}{p0:Array (Nat × Nat × Nat)}{a₀:Array Keyed}{lo hi:Nat}
def z3X(hA:z9T prog w A E s kd S kf lt)(h0:∀x∈a₀.toList,x∈S){st:SortSt}(hB:SB kd p0 a₀ lo hi st){i j:Nat}(hi':i<a₀.size)(hj:j<a₀.size){Q:Option Bool->SortSt->Prop}(h:Q (some (lt (KA kf (arrOf st) i) (KA kf (arrOf st) j))) st):wpS (model prog w) A E s (ltAt' i j) Q st:=by
 have e:∀k,k<a₀.size->∃x,(arrOf st)[k]?=some x/\x∈S/\KA kf (arrOf st) k=kf x:=fun k hk=>by
  have hk':k<(arrOf st).size:=by rw[hB.size];exact hk
  refine⟨(arrOf st)[k],y0i hk',h0 _ ((Array.perm_iff_toList_perm.mp hB.perm).mem_iff.mp (by simp)),?_⟩;unfold KA;rw[y0i hk'];rfl
 obtain⟨x,e1,x1,x2⟩:=e i hi';obtain⟨y,e2,y1,y2⟩:=e j hj;rw[ltAt'_eq];refine y0o (y3O ?_);show wpS _ _ _ _ (do let x <-elem' (arrOf st) i;let y <-elem' (arrOf st) j;lt' x y) Q st
 refine y0o (z0F e1 ?_);refine y0o (z0F e2 ?_);exact hA st x y Q hB.kind x1 y1 (by rw[<-x2,<-y2];exact h)
def z4I(T:z5w lt)(hA:z9T prog w A E s kd S kf lt)(h0:∀x∈a₀.toList,x∈S){st:SortSt}{n ok:Nat}{Q:Bool->SortSt->Prop}(hn:lo+n<=a₀.size)(hhi:lo+n<=hi)(hok:ok<=n)(hB:SB kd p0 a₀ lo hi st)(hs:zaP kf lt (arrOf st) lo ok)(h:∀st',SB kd p0 a₀ lo hi st'->zaP kf lt (arrOf st') lo n->Q true st'):wpS (model prog w) A E s (binarySort' lo n ok) Q st:=by
 rw[binarySort'_eq];refine y0o (y2e (y1j (I:=fun k c st'=>c=(none,())/\SB kd p0 a₀ lo hi st'/\zaP kf lt (arrOf st') lo (min k n))
  (Q:=fun c st'=>c=(none,())/\SB kd p0 a₀ lo hi st'/\zaP kf lt (arrOf st') lo n) ?step ?fin ?init) ?post)
 case post =>
  rintro c st' ⟨rfl,hB',hs'⟩;exact y0w (h st' hB' hs')
 case init =>
  refine⟨rfl,hB,fun i j hij hj=>?_⟩;by_cases h1:ok=0
  .have:i=j:=by lia
   subst this;exact T.refl _
  .exact hs i j hij (by lia)
 case fin =>
  rintro c st' ⟨hc,hB',hs'⟩;refine⟨hc,hB',?_⟩
  rwa [show min (max (max ok 1) n) n=n by lia]at hs'
 case step =>
  rintro k c st' hak hkn ⟨rfl,hB',hs'⟩;rw[show min k n=k by lia]at hs';have hk:lo+k<a₀.size:=by lia
  refine y0o (y2e (y1j (I:=fun x c st''=>st''=st'/\∃l r,c=(none,l,r)/\l<=r/\r<=k/\r-l<=k-x /\
    (∀i,i<l->lt (KA kf (arrOf st') (lo+k)) (KA kf (arrOf st') (lo+i))=false)/\(∀i,r<=i->i<k->lt (KA kf (arrOf st') (lo+k)) (KA kf (arrOf st') (lo+i))=true))
   (Q:=fun c st''=>st''=st'/\∃l r,c=(none,l,r)/\l<=k /\
    (∀i,i<l->lt (KA kf (arrOf st') (lo+k)) (KA kf (arrOf st') (lo+i))=false)/\(∀i,l<=i->i<k->lt (KA kf (arrOf st') (lo+k)) (KA kf (arrOf st') (lo+i))=true)) ?istep ?ifin ?iinit) ?ipost)
  case iinit=>exact⟨rfl,0,k,rfl,by lia,by lia,by lia,fun i hi=>by lia,fun i h1 h2=>by lia⟩
  case ifin =>
   rintro c st'' ⟨rfl,l,r,rfl,hlr,hrk,hm,hlo,hhi⟩;have:l=r:=by lia
   subst this;exact⟨rfl,l,l,rfl,hrk,hlo,hhi⟩
  case istep =>
   rintro x c st'' _ hxk ⟨rfl,l,r,rfl,hlr,hrk,hm,hlo,hhi⟩;dsimp only;by_cases hge:l ≥ r
   .rw[if_pos hge];have:l=r:=by lia
    subst this;exact y0w ⟨rfl,l,l,rfl,hrk,hlo,hhi⟩
   .rw[if_neg hge];refine y0o (z3X hA h0 hB' hk (by lia) ?_);cases hless:lt (KA kf (arrOf st'') (lo+k)) (KA kf (arrOf st'') (lo+(l+r)/2));case true =>
     simp only[y2b];refine y0w ⟨rfl,l,(l+r)/2,rfl,by lia,by lia,by lia,hlo,fun i h1 h2=>?_⟩;cases e:lt (KA kf (arrOf st'') (lo+k)) (KA kf (arrOf st'') (lo+i))with
     |true=>rfl
     |false=>rw[T.tr _ _ _ (hs' _ _ h1 h2) e]at hless;cases hless
    case false =>
     simp only[y0d,y1m];refine y0w ⟨rfl,(l+r)/2+1,r,rfl,by lia,by lia,by lia,fun i h1=>?_,hhi⟩;exact T.tr _ _ _ (hs' i ((l+r)/2) (by lia) (by lia)) hless
  case ipost =>
   rintro c st'' ⟨rfl,l,r,rfl,hlk,hlo,hhi'⟩;show wpS _ _ _ _ (do moveDown' (lo+k) (lo+l);pure (ForInStep.yield (none,()))) _ _
   rw[moveDown'_eq];have hks:lo+k<(arrOf st'').size:=by rw[hB'.size];exact hk
   have hd:lo+k-(lo+l)<=lo+k:=by lia
   refine y0o (y3N (y0w ⟨rfl,hB'.arr (bubble_perm _ _ _) (fun k' hk'=>zas hks hd (by lia)),?_⟩));rw[show min (k+1) n=k+1 by lia];intro i j hij hj;show lt (KA kf (bubble (arrOf st'') (lo+k) (lo+k-(lo+l))) (lo+j)) (KA kf (bubble (arrOf st'') (lo+k) (lo+k-(lo+l))) (lo+i))=false;rw[z7W hks hd,z7W hks hd,show lo+k-(lo+k-(lo+l))=lo+l by lia];have z2B:∀i,i<k+1->0<i->lo+i-1=lo+(i-1):=fun i _ _=>by lia
   repeat' split
   all_goals first
    | (exfalso;lia)
    |exact T.refl _
    |exact hlo _ (by lia)
    | (rw[show lo+j-1=lo+(j-1)by lia];exact T.asy _ _ (hhi' _ (by lia) (by lia)))
    | (rw[show lo+j-1=lo+(j-1)by lia,show lo+i-1=lo+(i-1)by lia];exact hs' _ _ (by lia) (by lia))
    | (rw[show lo+j-1=lo+(j-1)by lia];exact hs' _ _ (by lia) (by lia))
    |exact hs' _ _ (by lia) (by lia)
end
section
variable{prog:Program}{w:World}{A:Around}{E:yyE}{s:Shared}{α:Type}{kf:Keyed->α}{lt:α->α->Bool}{kd:SortKind}{S:List Keyed}{p0:Array (Nat × Nat × Nat)}{a₀:Array Keyed}{lo hi:Nat}
def z6h(T:z5w lt)(hA:z9T prog w A E s kd S kf lt)(h0:∀x∈a₀.toList,x∈S){st:SortSt}{nrem:Nat}{Q:Option Nat->SortSt->Prop}(hn:lo+nrem<=a₀.size)(hhi:lo+nrem<=hi)(h1:1<=nrem)(hB:SB kd p0 a₀ lo hi st)(h:∀m st',SB kd p0 a₀ lo hi st'->1<=m->m<=nrem->zaP kf lt (arrOf st') lo m->Q (some m) st'):wpS (model prog w) A E s (countRun' lo nrem) Q st:=by
 rw[countRun'_eq];refine y0o (y2e (y1j (I:=fun x c st'=>st'=st/\c=(none,x)/\zaP kf lt (arrOf st) lo x)
  (Q:=fun c st'=>st'=st/\∃n,c=(none,n)/\1<=n/\n<=nrem/\zaP kf lt (arrOf st) lo n/\(n=nrem\/lt (KA kf (arrOf st) (lo+n)) (KA kf (arrOf st) (lo+n-1))=true)) ?stepA7 ?finA7 ⟨rfl,rfl,(fun i j hij hj=>by have:i=j:=(by lia);subst this;exact T.refl _)⟩) ?postA7)
 case finA7 =>
  rintro c st' ⟨e9,rfl,hs'⟩;rw[show max (1) nrem=nrem by lia]at hs'⊢;exact⟨e9,nrem,rfl,by lia,y0f _,hs',.inl rfl⟩
 case stepA7 =>
  rintro x c st' hax hxn ⟨e9,rfl,hs'⟩;rw[e9];dsimp only;refine y0o (z3X hA h0 hB (by lia) (by lia) ?_);cases hless:lt (KA kf (arrOf st) (lo+x)) (KA kf (arrOf st) (lo+x-1));case true =>
   simp only[y2b];exact y0w ⟨rfl,x,rfl,hax,by lia,hs',.inr hless⟩
  case false =>
   simp only[y0d,y1m];refine y0w ⟨rfl,rfl,fun i j hij hj=>?_⟩;by_cases hjx:j<x
   .exact hs' i j hij hjx
   .have hj':j=x:=by lia
    subst hj';by_cases hi':i=j
    .subst hi';exact T.refl _
    .have:=hs' i (j-1) (by lia) (by lia);rw[show lo+(j-1)=lo+j-1 by lia]at this;exact T.tr _ _ _ this hless
 case postA7 =>
  rintro c st' ⟨e9,n,rfl,hn1,hn2,hsn,hor⟩;rw[e9];dsimp only;by_cases hnn:n=nrem
  .rw[if_pos (by simpa using hnn)];exact y0w (h n st hB hn1 hn2 hsn)
  rw[if_neg (by simpa using hnn)];have hlt:=hor.resolve_left hnn;by_cases hgt:n>1;focus
   rw[if_pos hgt];refine y0o (z3X hA h0 hB (by lia) (by lia) ?_);cases hrose:lt (KA kf (arrOf st) lo) (KA kf (arrOf st) (lo+n-1));case true =>
    simp only[y2b];exact y0w (h n st hB hn1 hn2 hsn)
   simp only[y0d,y1m];have hsz0:lo+n<=(arrOf st).size:=by rw[hB.size];lia
   have hall:∀k,lo<=k->k<lo+n->KA kf (arrOf st) k=KA kf (arrOf st) (lo+n-1):=by intro k u1 u2;have a1:=hsn 0 (k-lo) (by lia) (by lia);have a2:=hsn (k-lo) (n-1) (by lia) (by lia);rw[show lo+(k-lo)=k by lia,y3n]at a1;rw[show lo+(k-lo)=k by lia,show lo+(n-1)=lo+n-1 by lia]at a2;exact T.an _ _ (T.tr _ _ _ hrose a1) a2
   refine y0o (wpS_reverse ?_);have hB5:SB kd p0 a₀ lo hi (setArr st (mirror (arrOf st) lo (lo+n) ((lo+n-lo)/2))):=hB.arr (mirror_perm _ _ _ _) (fun k hk=>z3b hsz0 (by lia));have hs5:zfo kf lt (arrOf (setArr st (mirror (arrOf st) lo (lo+n) ((lo+n-lo)/2)))) lo (n+1):=by
    intro i j hij hj;show lt (KA kf (mirror (arrOf st) _ _ _) (lo+i)) (KA kf (mirror (arrOf st) _ _ _) (lo+j))=false;rw[z1l hsz0 hall,z1l hsz0 hall];by_cases hjn:j<n
    .rw[hall (lo+i) (by lia) (by lia),hall (lo+j) (by lia) (by lia)];exact T.refl _
    .have hj':j=n:=by lia
     subst hj';by_cases hi':i=j
     .subst hi';exact T.refl _
     .rw[hall (lo+i) (by lia) (by lia)];exact T.asy _ _ hlt
   generalize setArr st (mirror (arrOf st) lo (lo+n) ((lo+n-lo)/2))=st5 at hB5 hs5⊢
  rotate_left;focus
   rw[if_neg hgt];have hn1':n=1:=by lia
   have hs5:zfo kf lt (arrOf st) lo (n+1):=by
    subst hn1';intro i j hij hj;by_cases hi':i=j
    .subst hi';exact T.refl _
    .have hi0:i=0:=by lia
     have hj1:j=1:=by lia
     subst hi0;subst hj1;exact T.asy _ _ hlt
   have hB5:=hB;generalize st=st5 at hB5 hs5⊢
  all_goals
   refine y0o (wpS_lift (y2i ⟨rfl,?_⟩));refine y0o (y2e (y1j (I:=fun x c st'=>∃neq,c=(none,x,neq)/\SB kd p0 a₀ lo hi st'/\zfo kf lt (arrOf st') lo x/\neq+1<=x/\(∀i,x-(neq+1)<=i->i<x->KA kf (arrOf st') (lo+i)=KA kf (arrOf st') (lo+x-1)))
    (Q:=fun c st'=>∃m neq,c=(none,m,neq)/\n+1<=m/\m<=nrem/\SB kd p0 a₀ lo hi st'/\zfo kf lt (arrOf st') lo m/\neq+1<=m/\(∀i,m-(neq+1)<=i->i<m->KA kf (arrOf st') (lo+i)=KA kf (arrOf st') (lo+m-1))) ?stepD1 ?finD1 ⟨0,rfl,hB5,hs5,by lia,fun i u1 u2=>by congr 1;lia⟩) ?postD1)
   case finD1 =>
    rintro c st' ⟨neq,rfl,hB',hs',hq,he⟩;rw[show max (n+1) nrem=nrem by lia]at hs' hq he⊢;exact⟨nrem,neq,rfl,by lia,y0f _,hB',hs',hq,he⟩
   case stepD1 =>
    rintro x c st' hax hxn ⟨neq,rfl,hB',hs',hq,he⟩;dsimp only;have hsz:lo+x<=(arrOf st').size:=by rw[hB'.size];lia
    refine y0o (z3X hA h0 hB' (by lia) (by lia) ?_);cases hless:lt (KA kf (arrOf st') (lo+x)) (KA kf (arrOf st') (lo+x-1));case true =>
     simp only[y2b];have step1:∀xs:Array Keyed,(∀k,KA kf xs k=KA kf (arrOf st') k)->zfo kf lt xs lo (x+1):=by
      intro xs hk i j hij hj;rw[hk,hk];by_cases hjx:j<x
      .exact hs' i j hij hjx
      .have hj':j=x:=by lia
       subst hj';by_cases hi':i=j
       .subst hi';exact T.refl _
       .have:=hs' i (j-1) (by lia) (by lia);rw[show lo+(j-1)=lo+j-1 by lia]at this;exact T.tr _ _ _ (T.asy _ _ hless) this
     have heq:∀k,lo+x-(neq+1)<=k->k<lo+x->KA kf (arrOf st') k=KA kf (arrOf st') (lo+x-1):=fun k u1 u2=>by have:=he (k-lo) (by lia) (by lia);rw[show lo+(k-lo)=k by lia]at this;exact this
     by_cases hneq:neq>0
     .rw[if_pos hneq];refine y0o (wpS_reverse (y0w ⟨0,rfl,hB'.arr (mirror_perm _ _ _ _) (fun k hk=>z3b hsz (by lia)),step1 _ (z1l hsz heq),by lia,fun i u1 u2=>by congr 1;lia⟩))
     .rw[if_neg hneq];exact y0w ⟨0,rfl,hB',step1 _ (fun _=>rfl),by lia,fun i u1 u2=>by congr 1;lia⟩
    case false =>
     simp only[y0d,y1m];refine y0o (z3X hA h0 hB' (by lia) (by lia) ?_);cases hlarger:lt (KA kf (arrOf st') (lo+x-1)) (KA kf (arrOf st') (lo+x));case true =>
      simp only[y2b];exact y0w ⟨x,neq,rfl,hax,by lia,hB',hs',hq,he⟩
     case false =>
      simp only[y0d,y1m];have heqx:KA kf (arrOf st') (lo+x)=KA kf (arrOf st') (lo+x-1):=T.an _ _ hless hlarger;refine y0w ⟨neq+1,rfl,hB',fun i j hij hj=>?_,by lia,fun i u1 u2=>?_⟩
      .by_cases hjx:j<x
       .exact hs' i j hij hjx
       .have hj':j=x:=by lia
        subst hj';by_cases hi':i=j
        .subst hi';exact T.refl _
        .have:=hs' i (j-1) (by lia) (by lia);rw[show lo+(j-1)=lo+j-1 by lia]at this;rw[heqx];exact this
      .rw[show lo+(x+1)-1=lo+x by lia];by_cases hix:i=x
       .subst hix;rfl
       .rw[heqx];exact he i (by lia) (by lia)
   case postD1 =>
    rintro c st7 ⟨m,neq,rfl,hm1,hm2,hB7,hs7,hq,he⟩;dsimp only;have hsz:lo+m<=(arrOf st7).size:=by rw[hB7.size];lia
    have heq:∀k,lo+m-(neq+1)<=k->k<lo+m->KA kf (arrOf st7) k=KA kf (arrOf st7) (lo+m-1):=fun k u1 u2=>by have:=he (k-lo) (by lia) (by lia);rw[show lo+(k-lo)=k by lia]at this;exact this
    by_cases hneq:neq>0;focus
     rw[if_pos hneq];refine y0o (wpS_reverse ?_);have hB7':SB kd p0 a₀ lo hi (setArr st7 (mirror (arrOf st7) (lo+m-(neq+1)) (lo+m) ((lo+m-(lo+m-(neq+1)))/2))):=hB7.arr (mirror_perm _ _ _ _) (fun k hk=>z3b hsz (by lia));have hs7':zfo kf lt (arrOf (setArr st7 (mirror (arrOf st7) (lo+m-(neq+1)) (lo+m) ((lo+m-(lo+m-(neq+1)))/2)))) lo m:=by intro i j hij hj;show lt (KA kf (mirror (arrOf st7) _ _ _) (lo+i)) (KA kf (mirror (arrOf st7) _ _ _) (lo+j))=false;rw[z1l hsz heq,z1l hsz heq];exact hs7 i j hij hj
     generalize setArr st7 (mirror (arrOf st7) (lo+m-(neq+1)) (lo+m) ((lo+m-(lo+m-(neq+1)))/2))=st6 at hB7' hs7'⊢
    rotate_left;focus
     rw[if_neg hneq];have hB7':=hB7;have hs7':=hs7;generalize st7=st6 at hB7' hs7'⊢
    all_goals
     have hsz3:lo+m<=(arrOf st6).size:=by rw[(hB7').size];lia
     refine y0o (wpS_reverse ?_);have hB3:SB kd p0 a₀ lo hi (setArr st6 (mirror (arrOf st6) lo (lo+m) ((lo+m-lo)/2))):=(hB7').arr (mirror_perm _ _ _ _) (fun k hk=>z3b hsz3 (by lia));have hs3:zaP kf lt (arrOf (setArr st6 (mirror (arrOf st6) lo (lo+m) ((lo+m-lo)/2)))) lo m:=by intro i j hij hj;show lt (KA kf (mirror (arrOf st6) lo (lo+m) ((lo+m-lo)/2)) (lo+j)) (KA kf (mirror (arrOf st6) lo (lo+m) ((lo+m-lo)/2)) (lo+i))=false;rw[z54 hsz3,z54 hsz3,if_pos (by lia),if_pos (by lia),show lo+(lo+m)-1-(lo+j)=lo+(m-1-j)by lia,show lo+(lo+m)-1-(lo+i)=lo+(m-1-i)by lia];exact hs7' _ _ (by lia) (by lia)
     generalize setArr st6 (mirror (arrOf st6) lo (lo+m) ((lo+m-lo)/2))=st8 at hB3 hs3⊢;refine y0o (y2e (y1j (I:=fun x c st'=>st'=st8/\c=(none,x)/\zaP kf lt (arrOf st8) lo x)
      (Q:=fun c st'=>st'=st8/\∃n,c=(none,n)/\m<=n/\n<=nrem/\zaP kf lt (arrOf st8) lo n/\(n=nrem\/lt (KA kf (arrOf st8) (lo+n)) (KA kf (arrOf st8) (lo+n-1))=true)) ?stepA2 ?finA2 ⟨rfl,rfl,hs3⟩) ?postA2)
     case finA2 =>
      rintro c st' ⟨e9,rfl,hs'⟩;rw[show max (m) nrem=nrem by lia]at hs'⊢;exact⟨e9,nrem,rfl,by lia,y0f _,hs',.inl rfl⟩
     case stepA2 =>
      rintro x c st' hax hxn ⟨e9,rfl,hs'⟩;rw[e9];dsimp only;refine y0o (z3X hA h0 hB3 (by lia) (by lia) ?_);cases hless:lt (KA kf (arrOf st8) (lo+x)) (KA kf (arrOf st8) (lo+x-1));case true =>
       simp only[y2b];exact y0w ⟨rfl,x,rfl,hax,by lia,hs',.inr hless⟩
      case false =>
       simp only[y0d,y1m];refine y0w ⟨rfl,rfl,fun i j hij hj=>?_⟩;by_cases hjx:j<x
       .exact hs' i j hij hjx
       .have hj':j=x:=by lia
        subst hj';by_cases hi':i=j
        .subst hi';exact T.refl _
        .have:=hs' i (j-1) (by lia) (by lia);rw[show lo+(j-1)=lo+j-1 by lia]at this;exact T.tr _ _ _ this hless
     case postA2 =>
      rintro c st' ⟨e9,n,rfl,hn1,hn2,hsn,hor⟩;rw[e9];dsimp only;exact y0w (h n st8 hB3 (by lia) hn2 hsn)
end
def zel{M:Model}{A:Around}{E:yyE}{s:Shared}{σ:Type}{x st:σ}{Q:PUnit->σ->Prop}(h:Q ⟨⟩ x):wpS M A E s (set x:StateT σ Sem PUnit) Q st:=by unfold wpS;rw[StateT.run_set];exact y0g ⟨rfl,h⟩
theorem z64:∀(l:List Keyed)(j:Nat)(pre mid post:List Keyed)(arr:Array Keyed),mid.length=l.length->arr.toList=pre++mid++post->∀base,base+j=pre.length ->
  ((l.zipIdx j).foldl (fun a (q:Keyed × Nat)=>a.setIfInBounds (base+q.2) q.1) arr).toList=pre++l++post
 |[],j,pre,mid,post,arr,hm,e,base,hb=>by
  have:mid=[]:=y1V hm;subst this;simpa using e
 |x::l,j,pre,mid,post,arr,hm,e,base,hb=>by
  cases mid with
  |nil=>cases hm
  |cons y mid =>
   rw[List.zipIdx_cons,y1N];have e2:(arr.setIfInBounds (base+j) x).toList=(pre++[x])++mid++post:=by rw[Array.toList_setIfInBounds,e,hb];simp[List.set_append]
   have:=z64 l (j+1) (pre++[x]) mid post _ (Nat.succ.inj hm) e2 base (by simp;lia);rw[this];simp
section
variable{prog:Program}{w:World}{A:Around}{E:yyE}{s:Shared}{α:Type}{kf:Keyed->α}{lt:α->α->Bool}{kd:SortKind}{S:List Keyed}
def z96{x y:List Keyed}(hx:Sl kf lt x)(hy:Sl kf lt y)(h:∀a∈x,∀b∈y,lt (kf b) (kf a)=false):Sl kf lt (x++y):=y0W.mpr ⟨hx,hy,h⟩
def zcI(T:z5w lt){l:List Keyed}(h:Sl kf lt l){i j:Nat}(hi:i<l.length)(hj:j<l.length)(hij:i<=j):lt (kf l[j]) (kf l[i])=false:=by
 rcases y2E i j with q|q
 .exact y1h.mp h i j hi hj q
 .have:i=j:=by lia
  subst this;exact T.refl _
def z8S(T:z5w lt)(hA:z9T prog w A E s kd S kf lt){st:SortSt}(hk:kindOf st=kd)(hfl:failedOf st=none){pre u v post:List Keyed}(hS:∀x∈(arrOf st).toList,x∈S)(harr:(arrOf st).toList=pre++u++v++post){i pw pw2:Nat}(hp1:(pendingOf st)[i]?=some (pre.length,u.length,pw))(hp2:(pendingOf st)[i+1]?=some (pre.length+u.length,v.length,pw2))(hu0:0<u.length)(hv0:0<v.length)(hu:Sl kf lt u)(hv:Sl kf lt v){Q:Bool->SortSt->Prop}(h:∀r st',Sl kf lt r->r.Perm (u++v)->kindOf st'=kd->failedOf st'=none->pendingOf st'=((pendingOf st).setIfInBounds i (pre.length,u.length+v.length,pw)).eraseIdxIfInBounds (i+1)->(arrOf st').toList=pre++r++post->Q true st') : wpS (model prog w) A E s (mergeAt' i) Q st:=by
 have hsz:(arrOf st).size=pre.length+u.length+v.length+post.length:=by rw[<-y0K,harr];simp;lia
 have hU:∀j (hj:j<u.length),(arrOf st)[pre.length+j]?=some u[j]:=fun j hj=>by rw[<-y0B,harr,y0p,y0p,y13 (by lia),y2m,y11 hj,y00 hj]
 have hV:∀j (hj:j<v.length),(arrOf st)[pre.length+u.length+j]?=some v[j]:=fun j hj=>by rw[<-y0B,harr,y0p,y13 (by simp)];rw[show pre.length+u.length+j-(pre++u).length=j by simp,y11 hj,y00 hj]
 have gU:∀j (hj:j<(arrOf st).size) (h1:pre.length<=j) (h2:j<pre.length+u.length),(arrOf st)[j]=u[j-pre.length]'(by lia):=fun j hj h1 h2=>by have:=hU (j-pre.length) (by lia);rw[show pre.length+(j-pre.length)=j by lia,y0i hj]at this;exact y07 this
 have gV:∀j (hj:j<(arrOf st).size) (h1:pre.length+u.length<=j) (h2:j<pre.length+u.length+v.length),(arrOf st)[j]=v[j-(pre.length+u.length)]'(by lia):=fun j hj h1 h2=>by have:=hV (j-(pre.length+u.length)) (by lia);rw[show pre.length+u.length+(j-(pre.length+u.length))=j by lia,y0i hj]at this;exact y07 this
 have hSi:∀j (hj:j<(arrOf st).size),(arrOf st)[j]∈S:=fun j hj=>hS _ (by simp);have hSu:∀x∈u,x∈S:=fun x hx=>hS x (by rw[harr];simp[hx]);have hSv:∀x∈v,x∈S:=fun x hx=>hS x (by rw[harr];simp[hx]);refine y0o (y3O ?_);rw[hp1,hp2];dsimp only;refine y0o (zel ?_);generalize hP:((pendingOf st).setIfInBounds i (pre.length,u.length+v.length,pw)).eraseIdxIfInBounds (i+1)=P at h⊢;have hk1:kindOf (setPending st P)=kd:=hk;have hv00:=hV 0 hv0;rw[y3n]at hv00;refine y0o (z0F hv00 ?_);refine y0o (z48 T hA hk1 (hSv _ (y0c _)) (by lia) (fun j hj _ _=>hSi j hj) (fun a b ha hb u1 u2 u3=>by rw[gU a ha u1 (by lia),gU b hb (by lia) u3];exact zcI T hu _ _ (by lia)) hu0 fun k hk2 f1 f2=>?_);have f1':∀j (hj:j<u.length),j<k->lt (kf v[0]) (kf u[j])=false:=fun j hj hjk=>by have:=f1 (pre.length+j) (by lia) (by lia) (by lia);rw[gU (pre.length+j) (by lia) (by lia) (by lia)]at this;unfold bey at this;simpa using this
 have f2':∀j (hj:j<u.length),k<=j->lt (kf v[0]) (kf u[j])=true:=fun j hj hjk=>by have:=f2 (pre.length+j) (by lia) (by lia) (by lia);rw[gU (pre.length+j) (by lia) (by lia) (by lia)]at this;unfold bey at this;simpa using this
 have uv0:∀x∈u.take k,lt (kf v[0]) (kf x)=false:=fun x hx=>by
  obtain⟨j,hj,e⟩:=y0V.mp hx;rw[y1Z]at e;have hj':j<k/\j<u.length:=by simp at hj;lia
  rw[<-e];exact f1' j hj'.2 hj'.1
 have v0v:∀y∈v,lt (kf y) (kf v[0])=false:=fun y hy=>by obtain⟨j,hj,e⟩:=y0V.mp hy;rw[<-e];exact zcI T hv hv0 hj (by lia)
 have utv:∀x∈u.take k,∀y∈v,lt (kf y) (kf x)=false:=fun x hx y hy=>T.tr _ _ _ (uv0 x hx) (v0v y hy);have stay:(arrOf (setPending st P)).toList=pre++(u++v)++post:=by show(arrOf st).toList=_;rw[harr];simp
 dsimp only;by_cases c1:u.length-k=0
 .rw[if_pos (by simpa using c1)];have hku:u.take k=u:=y0M (by lia);rw[hku]at utv;exact y0w (h (u++v) _ (z96 hu hv utv) .rfl hk hfl rfl stay)
 rw[if_neg (by simpa using c1)];have hlast:pre.length+k+(u.length-k)-1=pre.length+(u.length-1):=by lia
 rw[hlast];refine y0o (z0F (hU (u.length-1) (by lia)) ?_);refine y0o (z48 T hA hk1 (hSu _ (y0c _)) (by lia) (fun j hj _ _=>hSi j hj) (fun a b ha hb u1 u2 u3=>by rw[gV a ha u1 (by lia),gV b hb (by lia) u3];exact zcI T hv _ _ (by lia)) (by lia) fun m hm2 g1 g2=>?_);have g1':∀j (hj:j<v.length),j<m->lt (kf v[j]) (kf (u[u.length-1]'(by lia)))=true:=fun j hj hjk=>by have:=g1 (pre.length+u.length+j) (by lia) (by lia) (by lia);rw[gV (pre.length+u.length+j) (by lia) (by lia) (by lia)]at this;unfold bey at this;simpa using this
 have g2':∀j (hj:j<v.length),m<=j->lt (kf v[j]) (kf (u[u.length-1]'(by lia)))=false:=fun j hj hjk=>by have:=g2 (pre.length+u.length+j) (by lia) (by lia) (by lia);rw[gV (pre.length+u.length+j) (by lia) (by lia) (by lia)]at this;unfold bey at this;simpa using this
 have ul:∀x∈u,lt (kf (u[u.length-1]'(by lia))) (kf x)=false:=fun x hx=>by obtain⟨j,hj,e⟩:=y0V.mp hx;rw[<-e];exact zcI T hu hj (by lia) (by lia)
 have lv:∀y∈v.drop m,lt (kf y) (kf (u[u.length-1]'(by lia)))=false:=fun y hy=>by
  obtain⟨j,hj,e⟩:=y0V.mp hy;rw[List.getElem_drop]at e;have hj':m+j<v.length:=by simp at hj;lia
  rw[<-e];exact g2' (m+j) hj' (by lia)
 have uvd:∀x∈u,∀y∈v.drop m,lt (kf y) (kf x)=false:=fun x hx y hy=>T.tr _ _ _ (ul x hx) (lv y hy);dsimp only;by_cases c2:m=0
 .rw[if_pos (by simpa using c2)];subst c2;rw[List.drop_zero]at uvd;exact y0w (h (u++v) _ (z96 hu hv uvd) .rfl hk hfl rfl stay)
 rw[if_neg (by simpa using c2)];have ex:((arrOf st).extract (pre.length+k) (pre.length+u.length)).toList=u.drop k:=by rw[y2R,y2d,harr,y0p,y0p,List.drop_append,y1l (by lia),y1z,y2m,List.drop_append_of_le_length (by lia)];rw[show pre.length+u.length-(pre.length+k)=(u.drop k).length by simp;lia];exact List.take_left
 have ey:((arrOf st).extract (pre.length+u.length) (pre.length+u.length+m)).toList=v.take m:=by rw[y2R,y2d,harr,y0p,List.drop_append,show(pre++u).length=pre.length+u.length by simp,y1l (by simp),y1z,y3M,List.drop_zero,y2m,y2o hm2]
 generalize hx:(arrOf st).extract (pre.length+k) (pre.length+u.length)=X at ex⊢;generalize hy:(arrOf st).extract (pre.length+u.length) (pre.length+u.length+m)=Y at ey⊢;have hXs:X.size=u.length-k:=by rw[<-y0K,ex];simp
 have hYs:Y.size=m:=by rw[<-y0K,ey];simp;lia
 have x0:X[0]'(by lia)=u[k]'(by lia):=by
  have:X.toList[0]?=some (u[k]'(by lia)):=by rw[ex,y2y,y3n,y00 (by lia)]
  rw[y0B,y0i (by lia)]at this;exact y07 this
 have y0:Y[0]'(by lia)=v[0]:=by
  have:Y.toList[0]?=some v[0]:=by rw[ey,y1Q (by lia),y00 hv0]
  rw[y0B,y0i (by lia)]at this;exact y07 this
 have hfirst:lt (kf (Y[0]'(by lia))) (kf (X[0]'(by lia)))=true:=by rw[x0,y0];exact f2' k (by lia) (y0f _)
 have hl:∀y∈Y.toList,∀z,X[X.size-1]?=some z->lt (kf z) (kf y)=false:=fun y hy z hz=>by
  have ez:z=u[u.length-1]'(by lia):=by rw[<-y0B,ex,y2y,show k+(X.size-1)=u.length-1 by lia,y00 (by lia)]at hz;exact(y07 hz).symm
  rw[ey]at hy;obtain⟨j,hj,e⟩:=y0V.mp hy;rw[y1Z]at e;have hj':j<m/\j<v.length:=by simp at hj;lia
  rw[ez,<-e];exact T.asy _ _ (g1' j hj'.2 hj'.1)
 have fin:∀r st',StG (setPending st P) st'->Mgd kf lt X Y r->wpS (model prog w) A E s (do
   modify fun s=>setArr s (r.toList.zipIdx.foldl (fun a (q:Keyed × Nat)=>a.setIfInBounds (pre.length+k+q.2) q.1) (arrOf s))
   let __do_lift <-get
   pure (failedOf __do_lift).isNone) Q st':=fun r st' hG hr=>by
  obtain⟨g,rfl⟩:=hG;obtain⟨hr1,hr2⟩:=hr;rw[ex,ey]at hr2;refine y0o (y3N ?_);refine y0o (y3O (y0w ?_));have hfn:failedOf (setArr (SortSt.mk' (kindOf (setPending st P)) (arrOf (setPending st P)) (pendingOf (setPending st P)) g (failedOf (setPending st P))) (r.toList.zipIdx.foldl (fun a (q:Keyed × Nat)=>a.setIfInBounds (pre.length+k+q.2) q.1) (arrOf st)))=none:=hfl;have hw:=z64 r.toList 0 (pre++u.take k) (u.drop k++v.take m) (v.drop m++post) (arrOf st) (by rw[<-hr2.length_eq]) (by rw[harr];simp only[y0p];rw[<-y0p (u.take k) (u.drop k),y0T,<-y0p (v.take m) (v.drop m),y0T]) (pre.length+k) (by simp;lia)
  have memr:∀y∈r.toList,y∈u.drop k\/y∈v.take m:=fun y hy=>y0q.mp (hr2.mem_iff.mp hy);rw[show(failedOf (setArr (SortSt.mk' (kindOf (setPending st P)) (arrOf (setPending st P)) (pendingOf (setPending st P)) g (failedOf (setPending st P))) (r.toList.zipIdx.foldl (fun a (q:Keyed × Nat)=>a.setIfInBounds (pre.length+k+q.2) q.1) (arrOf st)))).isNone=true by rw[hfn];rfl];refine h (u.take k++(r.toList++v.drop m)) _ (z96 (hu.sublist (y1F _ _)) (z96 hr1 (hv.sublist (y3j _ _)) fun x hx y hy=>?_) fun x hx y hy=>?_) ?_ hk hfl rfl ?_
  .rcases memr x hx with z|z
   .exact uvd x (y1W z) y hy
   .have hvv:Sl kf lt (v.take m++v.drop m):=by rw[y0T];exact hv
    exact(y0W.mp hvv).2.2 x z y hy
  .rcases y0q.mp hy with z|z
   .rcases memr y z with z|z
    .have huu:Sl kf lt (u.take k++u.drop k):=by rw[y0T];exact hu
     exact(y0W.mp huu).2.2 x hx y z
    .exact utv x hx y (y10 z)
   .exact utv x hx y (y1W z)
  .have e1:(u++v).Perm (u.take k++((u.drop k++v.take m)++v.drop m)):=by
    simp only[y0p];rw[y0T,<-y0p (u.take k) (u.drop k),y0T]
   exact(y1O _ (y25 _ hr2)).trans e1.symm
  .show(r.toList.zipIdx.foldl (fun a (q:Keyed × Nat)=>a.setIfInBounds (pre.length+k+q.2) q.1) (arrOf st)).toList=_;rw[hw];simp
 split
 .exact y0o (z8o T hA hk1 (fun x hx=>hSu x (y1W (by rw[ex]at hx;exact hx))) (fun x hx=>hSv x (y10 (by rw[ey]at hx;exact hx))) (by rw[ex];exact hu.sublist (y3j _ _)) (by rw[ey];exact hv.sublist (y1F _ _)) (by lia) (by lia) hfirst hl fin)
 .exact y0o (z8J T hA hk1 (fun x hx=>hSu x (y1W (by rw[ex]at hx;exact hx))) (fun x hx=>hSv x (y10 (by rw[ey]at hx;exact hx))) (by rw[ex];exact hu.sublist (y3j _ _)) (by rw[ey];exact hv.sublist (y1F _ _)) (by lia) (by lia) hfirst hl fin)
end
def z4q:Nat->List (List Keyed)->List (Nat × Nat)
 |_,[]=>[]
 |off,r::rs=>(off,r.length)::z4q (off+r.length) rs
theorem z3C:∀(R1 R2:List (List Keyed))(off:Nat),z4q off (R1++R2)=z4q off R1++z4q (off+R1.flatten.length) R2
 |[],R2,off=>by simp[z4q]
 |r::R1,R2,off=>by simp only[y3v,z4q,y1s,y0a];rw[z3C R1 R2,y2K]
theorem z2P:∀(R:List (List Keyed))(off:Nat),(z4q off R).length=R.length
 |[],_=>rfl
 |r::R,off=>by simp only[z4q,y0X,z2P R]
theorem zdM{β:Type}:∀(P1 P2:List β)(a a' b:β),((P1++a::b::P2).set P1.length a').eraseIdx (P1.length+1)=P1++a'::P2
 |[],P2,a,a',b=>rfl
 |x::P1,P2,a,a',b=>by show x::((P1++a::b::P2).set P1.length a').eraseIdx (P1.length+1)=x::(P1++a'::P2);rw[zdM P1 P2]
def mk2(t:Nat × Nat × Nat):Nat × Nat:=(t.1,t.2.1)
section
variable{α:Type}{kf:Keyed->α}{lt:α->α->Bool}{kd:SortKind}
structure RI(kf:Keyed->α)(lt:α->α->Bool)(kd:SortKind)(a0:List Keyed)(runs:List (List Keyed))(z1T:List Keyed)(st:SortSt):Prop where
 arr:(arrOf st).toList=runs.flatten++z1T
 perm:(arrOf st).toList.Perm a0
 kind:kindOf st=kd
 failed:failedOf st=none
 pend:(pendingOf st).toList.map mk2=z4q 0 runs
 srt:∀r∈runs,0<r.length/\Sl kf lt r
theorem RI.size{a0:List Keyed}{runs:List (List Keyed)}{z1T:List Keyed}{st:SortSt}(h:RI kf lt kd a0 runs z1T st):(arrOf st).size=a0.length:=by rw[<-y0K];exact h.perm.length_eq
def RI.len{a0:List Keyed}{runs:List (List Keyed)}{z1T:List Keyed}{st:SortSt}(h:RI kf lt kd a0 runs z1T st):runs.flatten.length+z1T.length=a0.length:=by rw[<-h.perm.length_eq,h.arr,y0a]
def RI.psize{a0:List Keyed}{runs:List (List Keyed)}{z1T:List Keyed}{st:SortSt}(h:RI kf lt kd a0 runs z1T st):(pendingOf st).size=runs.length:=by have:=y28 List.length h.pend;rw[y01,z2P,y0K]at this;exact this
theorem z9i:∀(R:List (List Keyed)),(∀r∈R,0<r.length)->R.length<=R.flatten.length
 |[],_=>y0y _
 |r::R,h=>by have h1:=h r y0m;have h2:=z9i R fun q hq=>h q (y09 _ hq);simp only[y0X,y1s,y0a];lia
theorem RI.push{a0:List Keyed}{runs:List (List Keyed)}{z1T r:List Keyed}{st:SortSt}(h:RI kf lt kd a0 runs (r++z1T) st)(hr:0<r.length)(hs:Sl kf lt r){pw:Nat}{lo n:Nat}(hlo:lo=runs.flatten.length)(hn:n=r.length) : RI kf lt kd a0 (runs++[r]) z1T (setPending st ((pendingOf st).push (lo,n,pw))):=by
 subst hlo hn;refine⟨?_,h.perm,h.kind,h.failed,?_,fun q hq=>?_⟩
 .show(arrOf st).toList=_;rw[h.arr];simp
 .show((pendingOf st).push _).toList.map mk2=_;rw[y1v,y0e,h.pend,z3C];simp[z4q,mk2]
 .rcases y0q.mp hq with z|z
  .exact h.srt q z
  .rw[y08]at z;rw[z];exact⟨hr,hs⟩
def RI.power{a0:List Keyed}{runs:List (List Keyed)}{z1T:List Keyed}{st:SortSt}(h:RI kf lt kd a0 runs z1T st)(i pw:Nat) : RI kf lt kd a0 runs z1T (setPending st ((pendingOf st).modify i fun(st,len,_)=>(st,len,pw))):=by
 refine⟨h.arr,h.perm,h.kind,h.failed,?_,h.srt⟩;show((pendingOf st).modify i _).toList.map mk2=_;rw[<-h.pend];apply y1f;intro j;rw[y04,y04,y0B,y0B,Array.getElem?_modify];split
 .cases(pendingOf st)[j]? with
  |none=>rfl
  |some t=>rfl
 .rfl
end
section
variable{prog:Program}{w:World}{A:Around}{E:yyE}{s:Shared}{α:Type}{kf:Keyed->α}{lt:α->α->Bool}{kd:SortKind}{S:List Keyed}
def z4U(T:z5w lt)(hA:z9T prog w A E s kd S kf lt){a0:List Keyed}(hS:∀x∈a0,x∈S){runs:List (List Keyed)}{z1T:List Keyed}{st:SortSt}(h:RI kf lt kd a0 runs z1T st){i:Nat}(hi:i+1<(pendingOf st).size){Q:Bool->SortSt->Prop}(hQ:∀runs' st',RI kf lt kd a0 runs' z1T st'->(pendingOf st').size+1=(pendingOf st).size->Q true st'):wpS (model prog w) A E s (mergeAt' i) Q st:=by
 have hrl:i+1<runs.length:=by rw[<-h.psize];exact hi
 obtain⟨R1,u,v,R2,e,hR1⟩:∃R1 u v R2,runs=R1++u::v::R2/\R1.length=i:=by refine⟨runs.take i,runs[i],runs[i+1],runs.drop (i+2),?_,by rw[y0s];lia⟩;rw[<-y19 hrl,<-y19 (by lia),y0T]
 have hp:=h.pend;rw[e,z3C]at hp;simp only[z4q,y2F]at hp;obtain⟨P1,P2',ep,e1,e2⟩:=List.map_eq_append_iff.mp hp;obtain⟨a,P3,ep2,e3,e4⟩:=List.map_eq_cons_iff.mp e2;obtain⟨b,P2,ep3,e5,e6⟩:=List.map_eq_cons_iff.mp e4;subst ep3 ep2;obtain⟨a1,a2,pa⟩:=a;obtain⟨b1,b2,pb⟩:=b;simp only[mk2,Prod.mk.injEq]at e3 e5;obtain⟨rfl,rfl⟩:=e3;obtain⟨rfl,rfl⟩:=e5;have hP1:P1.length=i:=by have:=y28 List.length e1;rw[y01,z2P]at this;rw[this,hR1]
 have g1:(pendingOf st)[i]?=some (R1.flatten.length,u.length,pa):=by rw[<-y0B,ep,y13 (by lia),hP1,y3M];rfl
 have g2:(pendingOf st)[i+1]?=some (R1.flatten.length+u.length,v.length,pb):=by rw[<-y0B,ep,y13 (by lia),hP1,y2m];rfl
 have hu:=h.srt u (by rw[e];simp);have hv:=h.srt v (by rw[e];simp);have harr:=h.arr;rw[e]at harr;refine z8S T hA h.kind h.failed (pre:=R1.flatten) (u:=u) (v:=v) (post:=R2.flatten++z1T) (fun x hx=>hS x (h.perm.mem_iff.mp hx)) (by rw[harr];simp) g1 g2 hu.1 hv.1 hu.2 hv.2 fun r st' hr1 hr2 k1 k2 k3 k4=>?_;have hel:(pendingOf st').toList=P1++(R1.flatten.length,u.length+v.length,pa)::P2:=by rw[k3,Array.toList_eraseIdxIfInBounds,Array.toList_setIfInBounds,ep,<-hP1];exact zdM P1 P2 _ _ _
 refine hQ (R1++r::R2) st' ⟨?_,?_,k1,k2,?_,fun q hq=>?_⟩ ?_
 .rw[k4];simp
 .refine List.Perm.trans ?_ h.perm;rw[k4,harr];simp only[List.flatten_append,y1s,y0p];refine y1O _ ?_;rw[<-y0p u v];exact y25 _ hr2
 .rw[hel,y0e,y0l,e1,e6,z3C];simp only[z4q,mk2,y2F];rw[hr2.length_eq,y0a,y2K]
 .rcases y0q.mp hq with z|z
  .exact h.srt q (by rw[e];exact y0t _ z)
  .rcases y0x.mp z with z|z
   .rw[z,hr2.length_eq,y0a];exact⟨by lia,hr1⟩
   .exact h.srt q (by rw[e];simp[z])
 .rw[<-y0K,<-y0K,hel,ep];simp only[y0a,y0X];lia
def RI.cut{a0:List Keyed}{runs:List (List Keyed)}{z1T:List Keyed}{st st':SortSt}(h:RI kf lt kd a0 runs z1T st){n:Nat}(hn:n<=z1T.length)(hB:SB kd (pendingOf st) (arrOf st) runs.flatten.length a0.length st')(hs:zaP kf lt (arrOf st') runs.flatten.length n) : ∃r rest',r.length=n/\Sl kf lt r/\r.length+rest'.length=z1T.length/\RI kf lt kd a0 runs (r++rest') st':=by
 have hsz:(arrOf st').size=a0.length:=by rw[hB.size];exact h.size
 have hl:=h.len;have ht:(arrOf st').toList.take runs.flatten.length=runs.flatten:=by
  apply y1f;intro j;rcases y2E j runs.flatten.length with q|q
  .rw[y1Q q,y0B,hB.out j (.inl q),<-y0B,h.arr,y11 q]
  .rw[List.getElem?_take_eq_none q,y0n q]
 have hdl:((arrOf st').toList.drop runs.flatten.length).length=z1T.length:=by rw[y3r,y0K,hsz];lia
 refine⟨((arrOf st').toList.drop runs.flatten.length).take n,((arrOf st').toList.drop runs.flatten.length).drop n,by rw[y0s,hdl];lia,?_,by rw[<-y0a,y0T,hdl],?_,?_,hB.kind,hB.failed,by rw[hB.pend];exact h.pend,h.srt⟩
 .refine y1h.mpr fun i j hi hj hij=>?_;have hj':j<n:=by rw[y0s]at hj;lia
  have g:∀k (hk:k<(((arrOf st').toList.drop runs.flatten.length).take n).length),KA kf (arrOf st') (runs.flatten.length+k)=kf ((((arrOf st').toList.drop runs.flatten.length).take n)[k]):=fun k hk=>by
   have hk':k<n:=by rw[y0s]at hk;lia
   have hkl:runs.flatten.length+k<(arrOf st').toList.length:=by have:=y0K (xs:=arrOf st');lia
   unfold KA;rw[y1Z,List.getElem_drop,<-y0B,y00 hkl];rfl
  rw[<-g i hi,<-g j hj];exact hs i j (by lia) hj'
 .rw[y0T];conv=>lhs;rw[<-y0T runs.flatten.length (arrOf st').toList,ht]
 .exact(Array.perm_iff_toList_perm.mp hB.perm).trans h.perm
def z3A(T:z5w lt)(hA:z9T prog w A E s kd S kf lt){st:SortSt}{Q:Unit->SortSt->Prop}(hS:∀x∈(arrOf st).toList,x∈S)(hk:kindOf st=kd)(hf:failedOf st=none)(hp:pendingOf st=#[])(h:∀st',(arrOf st').toList.Perm (arrOf st).toList->failedOf st'=none->Sl kf lt (arrOf st').toList->Q () st'):wpS (model prog w) A E s sortRuns' Q st:=by
 generalize ha0:(arrOf st).toList=a0 at h hS;have hsz0:(arrOf st).size=a0.length:=by rw[<-ha0,y0K]
 have hR:RI kf lt kd a0 [] a0 st:=⟨ha0,by rw[ha0],hk,hf,by rw[hp];rfl,fun r hr=>nomatch hr⟩;rw[sortRuns'_eq];refine y0o (y3O ?_);dsimp only;simp only[hsz0];generalize hmr:minRun' a0.length a0.length 0=mr;refine y0o (y2e (y1j
  (I:=fun x c st'=>∃runs z1T lo,c=(none,lo)/\RI kf lt kd a0 runs z1T st'/\lo=runs.flatten.length/\(x<=lo\/lo=a0.length))
  (Q:=fun c st'=>∃runs lo,c=(none,lo)/\RI kf lt kd a0 runs [] st') ?step ?fin ⟨[],a0,0,rfl,hR,rfl,.inl (y0f _)⟩) ?post)
 case fin =>
  rintro c st' ⟨runs,z1T,lo,rfl,hR,hlo,hx⟩;have:=hR.len;have:z1T=[]:=y1V (by lia);subst this;exact⟨runs,lo,rfl,hR⟩
 case step =>
  rintro x c st' _ hx ⟨runs,z1T,lo,rfl,hR,hlo,hx⟩;have hlen:=hR.len;dsimp only;by_cases hge:lo ≥ a0.length
  .rw[if_pos hge];have:z1T=[]:=y1V (by lia);subst this;exact y0w ⟨runs,lo,rfl,hR⟩
  rw[if_neg hge];subst hlo;have hSx:∀x∈(arrOf st').toList,x∈S:=fun x hx=>hS x (hR.perm.mem_iff.mp hx);have hsz:=hR.size;refine y0o (z6h T hA hSx (lo:=runs.flatten.length) (hi:=a0.length) (p0:=pendingOf st') (a₀:=arrOf st') (by lia) (by lia) (by lia) ⟨.rfl,hR.kind,hR.failed,rfl,fun _ _=>rfl⟩ fun m st2 hB2 hm1 hm2 hs2=>?_);dsimp only;by_cases hlt:m<mr;focus
   rw[if_pos hlt];refine y0o (wpS_lift (y2i ⟨rfl,?_⟩));refine y0o (z4I T hA hSx (by lia) (by lia) (by lia) hB2 hs2 fun st3 hB3 hs3=>?_);simp only[y37,y0d,y1m];obtain⟨r,rest',r1,r2,r3,hR3⟩:=hR.cut (by lia) hB3 hs3
  rotate_left;focus
   rw[if_neg hlt];obtain⟨st3,rfl⟩:∃s,s=st2:=⟨_,rfl⟩;obtain⟨r,rest',r1,r2,r3,hR3⟩:=hR.cut (by lia) hB2 hs2
  all_goals
   refine y0o (y3O ?_);cases hbk:(pendingOf st3).back? with
   |none =>
    dsimp only;refine y0o (y3N (y0w ⟨runs++[r],rest',_,rfl,hR3.push (by lia) r2 rfl (by lia),by rw[List.flatten_append,y0a];simp only[y1s,List.flatten_nil,y1p];lia,?_⟩));lia
   |some t =>
    obtain⟨s1,n1,p1⟩:=t;dsimp only;generalize power' _ _ _ _=pw;refine y0o (y2e (y1j (I:=fun x c st''=>c=(none,())/\∃runs',RI kf lt kd a0 runs' (r++rest') st'') (Q:=fun c st''=>c=(none,())/\∃runs',RI kf lt kd a0 runs' (r++rest') st'') ?stA (fun _ _ hh=>hh) ⟨rfl,runs,hR3⟩) ?poA);case stA =>
     rintro x c st4 _ hx ⟨rfl,runs',hR4⟩;refine y0o (y3O ?_);by_cases h1:(pendingOf st4).size>1
     .rw[if_pos h1];rw[y0i (by lia)];generalize(pendingOf st4)[(pendingOf st4).size-2]'(by lia)=t;obtain⟨t1,t2,older⟩:=t;dsimp only;by_cases h2:older<=pw
      .rw[if_pos h2];exact y0w ⟨rfl,runs',hR4⟩
      rw[if_neg h2];refine y0o (z4U T hA hS hR4 (by lia) fun runs5 st5 hR5 hsz=>?_);simp only[y37,y0d,y1m];exact y0w ⟨rfl,runs5,hR5⟩
     .rw[if_neg h1];exact y0w ⟨rfl,runs',hR4⟩
    case poA =>
     rintro c st4 ⟨rfl,runs',hR4⟩;dsimp only;have hl4:=hR4.len;rw[y0a]at hl4;refine y0o (y3N ?_);refine y0o (y3N (y0w ⟨runs'++[r],rest',_,rfl,(hR4.power _ pw).push (by lia) r2 (by lia) (by lia),by rw[List.flatten_append,y0a];simp only[y1s,List.flatten_nil,y1p];lia,?_⟩));lia
 case post =>
  rintro c st' ⟨runs,lo,rfl,hR⟩;dsimp only;refine y0o (y2e (y1j (I:=fun x c st''=>c=(none,())/\(∃runs,RI kf lt kd a0 runs [] st'')/\(pendingOf st'').size<=max 1 (a0.length-x)) (Q:=fun c st''=>c=(none,())/\(∃runs,RI kf lt kd a0 runs [] st'')/\(pendingOf st'').size<=1) ?_ ?_ ⟨rfl,⟨runs,hR⟩,?_⟩) ?_)
  .rintro x c st'' _ hx ⟨rfl,⟨runs,hR⟩,hm⟩;refine y0o (y3O ?_);by_cases h1:(pendingOf st'').size<=1
   .rw[if_pos h1];exact y0w ⟨rfl,⟨runs,hR⟩,h1⟩
   rw[if_neg h1];refine y0o (z4U T hA hS hR (by(repeat' split)<;>lia) fun runs' st3 hR' hsz=>?_);simp only[y37,y0d,y1m];exact y0w ⟨rfl,⟨runs',hR'⟩,by lia⟩
  .rintro c st'' ⟨rfl,hh,hm⟩;exact⟨rfl,hh,by lia⟩
  .have h1:=z9i runs fun r hr=>(hR.srt r hr).1;have h2:=hR.len;rw[hR.psize];simp only[y31]at h2;lia
  .rintro c st'' ⟨rfl,⟨runs,hR⟩,hm⟩;dsimp only;refine y0w (h _ hR.perm hR.failed ?_);rw[hR.psize]at hm;rw[hR.arr,y1p];match runs,hm,hR.srt with
   |[],_,_=>exact y3c
   |[r],_,hs =>
    rw[show[r].flatten=r by simp];exact(hs r (y08.mpr rfl)).2
end
open PySem.Spec
section
variable{X:Cx}{e st:Expr}{te ts:TE}{pos p2:Pos}
end
end L2
namespace Gu
open PySem L2
def lit(n:Int):Nat->Int->List Int
 |0,_=>[]
 |k+1,x=>x%n::lit n k (x/n)
def fits(n:Nat)(one:List Row)(m:Nat):Prop:=∀i,i<=m->(pw n one i).length<=60
def zew{α:Type}{us:List α}(h:us.length=1):∃a,us=[a]:=by
 cases us with
 |nil=>cases h
 |cons a r =>
  cases r with
  |nil=>exact⟨a,rfl⟩
  |cons _ _=>simp at h
def zgC{α:Type}{us:List α}(h:us.length=2):∃a b,us=[a,b]:=by
 cases us with
 |nil=>cases h
 |cons a r =>
  obtain⟨b,rfl⟩:=zew (show r.length=1 by simpa using h);exact⟨a,b,rfl⟩
def zhU{α:Type}{us:List α}(h:us.length=3):∃a b c,us=[a,b,c]:=by
 cases us with
 |nil=>cases h
 |cons a r =>
  obtain⟨b,c,rfl⟩:=zgC (show r.length=2 by simpa using h);exact⟨a,b,c,rfl⟩
section
variable(P:Program)(w:World)(K:yyF)(mg:yyS)(base:Heap)(CX:CXT)(k:Nat)
def z8x(Cm:V->Addr->Hp->List Row->Prop):Sp:=fun vs H Q _=>∃(f:Addr)(v0:V)(n:Nat)(rows:List Row),vs=[v0,.ref f]/\Cm v0 f H rows/\z0e n rows/\n<=60/\∀(r:Addr)(H':Hp),z0d H H'->z3x K H' r (z0G rows)->Q (.ref r) H'
def z6m(Cm:V->Addr->Hp->List Row->Prop)(Ct:Addr):Sp:=fun vs H Q E=>∃(f:Addr)(v0:V)(n:Nat)(rows:List Row),vs=[v0,.ref f]/\Cm v0 f H rows/\z0e n rows/\n<=60 /\
 ((shr rows).length<=60->z3E K H Q (D.tup (z0i (shr rows))))/\(60<(shr rows).length->TMx Ct E H)
def CmF:V->Addr->Hp->List Row->Prop:=fun v0 f H rows=>∃nm:Int->Int,v0=.int (nm 0)/\(∀x y,nm x=nm y->x=y)/\z2D P w K mg base CX k H f (zcL K rows nm)
def CmP:V->Addr->Hp->List Row->Prop:=fun v0 f H rows=>∃m:Nat,Dr K H (pr m 0) v0/\z2D P w K mg base CX k H f (z9f K rows m)
end
section
variable{P:Program}{w:World}{K:yyF}{mg:yyS}{base:Heap}{CX:CXT}{k:Nat}{Ct:Addr}
def zgt(vs:List V)(H:Hp)(Q:VK)(E:XK)(h:z8x K (CmF P w K mg base CX k) vs H Q E):z8G P w K mg base CX k vs H Q E:=by obtain⟨f,v0,n,rows,rfl,⟨nm,rfl,ni,hV⟩,G,hn,q⟩:=h;exact⟨f,n,rows,nm,rfl,ni,hV,G,hn,q⟩
def zfV(vs:List V)(H:Hp)(Q:VK)(E:XK)(h:z8x K (CmP P w K mg base CX k) vs H Q E):z8p P w K mg base CX k vs H Q E:=by obtain⟨f,v0,n,rows,rfl,⟨m,d,hV⟩,G,hn,q⟩:=h;exact⟨f,v0,n,rows,m,rfl,d,hV,G,hn,q⟩
def zf7(vs:List V)(H:Hp)(Q:VK)(E:XK)(h:z4t P w K mg base CX k Ct vs H Q E):z6m K (CmF P w K mg base CX k) Ct vs H Q E:=by obtain⟨f,n,rows,nm,rfl,ni,hV,G,hn,q⟩:=h;exact⟨f,_,n,rows,rfl,⟨nm,rfl,ni,hV⟩,G,hn,q⟩
def zem(vs:List V)(H:Hp)(Q:VK)(E:XK)(h:z6w P w K mg base CX k Ct vs H Q E):z6m K (CmP P w K mg base CX k) Ct vs H Q E:=by obtain⟨f,v0,n,rows,m,rfl,d,hV,G,hn,q⟩:=h;exact⟨f,v0,n,rows,rfl,⟨m,d,hV⟩,G,hn,q⟩
end
end Gu
namespace L2
open PySem PySem.Spec PyProof.Rows
section
variable{prog:Program}{w:World}{A:Around}{R:Result->Shared->Prop}{s:Shared}
def z8E{elt tg iter cx:Expr}{scope:Scope}{pos:Pos}{it acc:Value}{env:Env}(I:Nat->Shared->Prop)
  (z3u:∀n s,I n s->wpAny (model prog w) A (pyNext it) (fun r s1=>match r with
   |none=>R (.ok .next) s1
   |some v=>wpAny (model prog w) A (letOwnedTupleGo tg it v) (fun _ s2=>wpAny (model prog w) A (assign tg env v) (fun _ s3=>wpAny (model prog w) A (isTrue cx env (eval cx env)) (fun ok s35 =>
     match ok with
     |true=>wpAny (model prog w) A (eval elt env) (fun x s4=>wpAny (model prog w) A (call (.builtin "list.append") [acc,x]) (fun _ s5=>∃m,m<n/\I m s5) noE s4) noE s35
     |false=>∃m,m<n/\I m s35) noE s3) noE s2) noE s1) noE s)
  (n:Nat) (h:I n s):codeAny (model prog w) A (.compLoop (.ListComp elt [⟨tg,iter,[cx],0⟩] scope pos) 0 it acc env) R s:=by
 have no:∀(P:yyE)(a:Value)(b:Shared),noE a b->P a b:=fun _ _ _ z=>False.elim z;refine codeAny_loop rfl I (fun n s hI=>?_) n h;show wpAny _ _ ((compTurn (.ListComp elt [⟨tg,iter,[cx],0⟩] scope pos) 0 it acc env).onRaise
  (fun x=>do noteFrame x env;theTreesLotGoes x)) _ _ s
 refine wpAny_noted ?_;rw[compTurn_list];refine y03 (y2H (y03 (y0Y (z3u n s hI) (fun r s1 h1=>?_) (no _))));cases r with
 |none=>exact y0g h1
 |some v =>
  refine y03 (y0Y h1 (fun _ s2 h2=>?_) (no _));refine y03 (y0Y h2 (fun _ s3 h3=>y03 (wpAny_tests_one (y0Y h3 (fun ok s35 h35=>?_) (no _)))) (no _));cases ok with
  |false=>exact y0g ⟨rfl,h35⟩
  |true=>exact y03 (y03 (y0Y h35 (fun x s4 h4=>y03 (y0Y h4 (fun _ s5 h5=>y0g (y0g ⟨rfl,h5⟩)) (no _))) (no _)))
end
def zbD(ix:List (Option Nat))(J:It)(g:TG)(tt:TT)(te:TE)(σ:St)(l:Addr)(H0:Hp)(Qe:Hp->Prop):Prop :=
 ∃W:Nat->Nat->List V->Hp->Prop,(∃m,W 0 m [] H0)/\∀i m ys H,W i m ys H->H l=some (.lst ys) ->
  (J.stop i H/\Qe H)\/(J.go i H/\ys.length<sizeLine/\∃N:List V->Hp->Prop,(∀zs H',N zs H'->∃m',m'<m/\W (i+1) m' zs H')/\∀x H',J.yld i H x H'->g x (z0T ix σ) H' fun σ2 H2=>tt σ2 H2 fun b H3 =>
   match b with
   |true=>te σ2 H3 fun v H4=>H4 l=some (.lst ys)/\N (ys++[v]) (upd H4 l (.lst (ys++[v])))
   |false=>H3 l=some (.lst ys)/\N ys H3)
def zfB(ix:List (Option Nat))(wi:TI)(g:TG)(tt:TT)(te:TE):TE:=fun σ H Q=>wi σ H fun J H1=>∀l,H1 l=none->zbD ix J g tt te σ l (upd H1 l (.lst [])) fun H'=>Q (.ref l) H'
section
variable{X:Cx}{pins:yyP}{σ:St}{H:Hp}{s:Shared}{N:List Str}{ix:List (Option Nat)}{scope:Scope}{elt iter tg cx:Expr}{pos:Pos}{g:TG}{tt:TT}{te:TE}{E:yyE}
def z8O{it:Addr}{fp:List Addr}{tn:Nat->Heap->Prop}{J:It}{Qe:Addr->Hp->Prop}{RR:Value->Addr->Result->Shared->Prop}(hc:X.calm=true)(S:z0W X.N X.env.scope N ix scope)(hg:∀cl C ex s H,PG (z0E X N scope cl C ex s H) tg g)(ht:∀cl C ex s H,PT (z0E X N scope cl C ex s H) cx tt)(he:∀cl C ex s H,PE (z0E X N scope cl C ex s H) elt te)(I:Inv X pins σ H s)(T:zcE X.prog X.w X.K tg J fp it tn)(st:tn 0 s.heap)(hf:∀b∈fp,z3O X pins H b)(hw:∀l,H l=none->zbD ix J g tt te σ l (upd H l (.lst [])) (Qe l))(hRR:∀l C s' H' m,s'.heap.Ns C m->Inv X pins σ H' s'->z3O X pins H' C->Qe l H'->RR (.ref l) C (.ok .next) s') : wpAny (model X.prog X.w) X.A (newList []) (fun acc s3=>wpAny (model X.prog X.w) X.A (newFunctionEnv scope X.env.globals (z0r X.env.cells scope.names []) [] X.env.qual none .none (some X.env)) (fun cenv s4 => codeAny (model X.prog X.w) X.A (.compStart (.ListComp elt [⟨tg,iter,[cx],0⟩] scope pos) 0 (.ref it) acc { cenv with scope:=relabel scope X.env }) (RR acc cenv.locals) s4) E s3) E s:=by
 have hlt:∀b∈fp,b<s.heap.objs.size:=fun b hb=>by obtain⟨o,e,_⟩:=T.obj 0 s.heap st b hb;exact y0h e
 have hl0:H s.heap.objs.size=none:=I.fresh;obtain⟨W,⟨m0,w0⟩,z3u⟩:=hw s.heap.objs.size hl0;refine y1e ?_;generalize hs3:({ s with heap:=s.heap.push { cls:=.type "list",dict:=none,data:=.seq ([]:List Value).toArray } }:Shared)=s3;have I3:Inv X pins σ (upd H s.heap.objs.size (.lst [])) s3:=by rw[<-hs3];exact I.lnew (its:=[]) (t':=s.toks) .nil (y0y _)
 have k3:∀b o,s.heap.get? b=some o->s3.heap.get? b=some o:=fun b o e=>by rw[<-hs3];exact y06 _ e
 have sz3:s3.heap.objs.size=s.heap.objs.size+1:=by rw[<-hs3];exact y1K ..
 have lnfp:s.heap.objs.size∉fp:=fun hb=>y1H _ (hlt _ hb);have st3:tn 0 s3.heap:=T.keep 0 _ _ st fun b _ o e=>k3 b o e;have hf3:∀b∈fp,z3O X pins (upd H s.heap.objs.size (.lst [])) b:=fun b hb=>by obtain⟨f0,f⟩:=hf b hb;have nb:b≠s.heap.objs.size:=fun e=>lnfp (by rw[<-e];exact hb);exact⟨by rw[z06 nb];exact f0,f⟩
 have hlt3:∀b∈fp,b<s3.heap.objs.size:=fun b hb=>by rw[sz3];exact y3e (hlt b hb)
 clear hs3;refine y2P S.nocell (by intro y hy;simp at hy) (fun h1 hn1 hb1=>?_) S.kind;have hk1:∀b o,s3.heap.get? b=some o->h1.get? b=some o:=fun b o e =>
  (hb1.2 b (y0C (y0h e))).trans (y06 _ e)
 have J0:Inv (z0E X N scope (z0r X.env.cells scope.names []) s3.heap.objs.size fp s3 (upd H s.heap.objs.size (.lst []))) [] (z0T ix σ) (upd H s.heap.objs.size (.lst [])) { s3 with heap:=h1,toks:=s3.toks+([]:List (Str × Value)).length } :=
  z6Y I3 S rfl hf3 hlt3 hn1 hk1
 have st1:tn 0 h1:=T.keep 0 _ _ st3 fun b _ o e=>hk1 b o e;have fpY:∀{Hc:Hp},(∀b∈fp,Hc b=none)->∀b∈fp,z3O (z0E X N scope (z0r X.env.cells scope.names []) s3.heap.objs.size fp s3 (upd H s.heap.objs.size (.lst []))) [] Hc b:=fun{Hc} hn b hb=>by obtain⟨_,f1,f2,_,f4,_⟩:=hf3 b hb;refine⟨hn b hb,y0C (hlt3 b hb),fun hb2=>(y0x.mp (I3.stkSub b hb2)).elim f1 f2,.inl hb,fun x c e=>f4 x c (z1C I3 S e),fun p hp=>absurd (show p∈([]:yyP)from hp) (by simp)⟩
 have loop:∀s4:Shared,s4=({ s3 with heap:=h1,toks:=s3.toks+([]:List (Str × Value)).length }:Shared)->codeAny (model X.prog X.w) X.A (.compLoop (.ListComp elt [⟨tg,iter,[cx],0⟩] scope pos) 0 (.ref it) (.ref s.heap.objs.size)
   (compEnvC scope (z0r X.env.cells scope.names []) s3.heap.objs.size X.env)) (RR (.ref s.heap.objs.size) s3.heap.objs.size) s4:=by
  intro s4 hs4;subst hs4;refine z8E (fun n s'=>∃i ys Hc,Inv (z0E X N scope (z0r X.env.cells scope.names []) s3.heap.objs.size fp s3 (upd H s.heap.objs.size (.lst []))) [] (z0T ix σ) Hc s'/\tn i s'.heap/\(∀b∈fp,Hc b=none)/\Hc s.heap.objs.size=some (.lst ys)/\W i n ys Hc) ?_ m0 ⟨0,[],_,J0,st1,fun b hb=>(hf3 b hb).1,z01,w0⟩;rintro n s5 ⟨i,ys,Hc,J5,st5,fr5,hl5,w5⟩;rcases z3u i n ys Hc w5 hl5 with⟨stop,qe⟩|⟨go,hz,NN,hNN,step⟩
  .refine thn (T.done (z0E X N scope (z0r X.env.cells scope.names []) s3.heap.objs.size fp s3 (upd H s.heap.objs.size (.lst []))) rfl rfl rfl hc i [] s5 _ Hc noE J5 (fpY fr5) st5 stop) fun r s6 hz8=>?_;obtain⟨hr,J6⟩:=hz8;subst hr;have I6:Inv X pins σ Hc s6:=I3.call' (ch:=fp) J6.os J6.base J6.hok J6.bare fun b hb=>by
    obtain⟨_,f1,f2,f3,f4,f5⟩:=hf3 b hb;exact⟨f3,f1,f4,f5⟩
   obtain⟨m6,hn6,_⟩:=J6.loc;exact hRR _ _ s6 Hc m6 hn6 I6 (I3.fpOk (y0f _) J6.free) qe
  .refine thn (T.item (z0E X N scope (z0r X.env.cells scope.names []) s3.heap.objs.size fp s3 (upd H s.heap.objs.size (.lst []))) rfl rfl rfl hc i [] s5 _ Hc noE J5 (fpY fr5) st5 go) fun r s6 hz8=>?_;obtain⟨u,hr,h6⟩:=hz8;subst hr;refine thn h6 fun _ s7 hz8=>?_;obtain⟨x,H7,J7,r7,y7,st7,fr7⟩:=hz8;have J7':=J7.pinned (fpY fr7) (T.obj _ _ st7);refine thn (hg _ _ _ _ _ _ s7 _ H7 x u _ J7' r7 (step x H7 y7)) fun _ s8 hz8=>?_;obtain⟨σ8,H8,J8,q8⟩:=hz8;refine thn (ht _ _ _ _ _ _ s8 σ8 H8 _ J8 q8) fun ok s85 hz8=>?_;obtain⟨H85,J85,q85⟩:=hz8;cases ok with
   |false =>
    have q85':H85 s.heap.objs.size=some (.lst ys)/\NN ys H85:=q85;obtain⟨hl85,n85⟩:=q85';obtain⟨m',hm',w9⟩:=hNN _ _ n85;refine⟨m',hm',i+1,ys,_,?_,T.keep _ _ _ st7 fun b hb o e=>(J85.pin (b,o) (y0j _ (y0j _ (z1i hb e)))).1,fun b hb=>?_,hl85,w9⟩
    .exact z3a I3 S J85
    .obtain⟨o,e,d⟩:=T.obj _ _ st7 b hb;exact(J85.pin (b,o) (y0j _ (y0j _ (z1i hb e)))).2.1
   |true =>
    refine z1Y (he _ _ _ _ _ _ s85 σ8 H85 _ J85 q85) fun y s9 v H9 J9 r9 hz9=>?_;obtain⟨hl9,n9⟩:=hz9;obtain⟨m',hm',w9⟩:=hNN _ _ n9;refine thn (z0R (X:=z0E X N scope (z0r X.env.cells scope.names []) s3.heap.objs.size fp s3 (upd H s.heap.objs.size (.lst []))) _ s9 σ8 H9 (.ref s.heap.objs.size) [v] (.ref s.heap.objs.size) [y]
     (fun z Hz=>z=.non/\Hz=upd H9 s.heap.objs.size (.lst (ys++[v]))) J9 rfl (.cons r9 .nil) ⟨_,ys,v,rfl,rfl,hl9,hz,rfl,rfl⟩) fun _ s10 ⟨_,H10,J10,_,_,e10⟩=>?_
    subst e10;refine⟨m',hm',i+1,ys++[v],_,?_,T.keep _ _ _ st7 fun b hb o e=>(J10.pin (b,o) (y0j _ (y0j _ (z1i hb e)))).1,fun b hb=>?_,z01,w9⟩
    .exact z3a I3 S J10
    .obtain⟨o,e,d⟩:=T.obj _ _ st7 b hb;exact(J10.pin (b,o) (y0j _ (y0j _ (z1i hb e)))).2.1
 exact codeAny_compStart_list (loop _ rfl) (T.self _ 0 _ _ _ st1 (loop _ rfl))
def zdc{wi:TI}(hc:X.calm=true)(S:z0W X.N X.env.scope N ix scope)(hi:PI X tg iter wi)(hg:∀cl C ex s H,PG (z0E X N scope cl C ex s H) tg g)(ht:∀cl C ex s H,PT (z0E X N scope cl C ex s H) cx tt)(he:∀cl C ex s H,PE (z0E X N scope cl C ex s H) elt te)(hs:∀x,foldedSetIterable iter X.env x=pure x:=by intro _;rfl):PE X (.ListComp elt [⟨tg,iter,[cx],0⟩] scope pos) (zfB ix wi g tt te):=by intro pins s σ H Q I h;rw[eval_ListComp];refine y2h (use:=none) rfl hs (z1s (z0P I S)) S.kind S.names (thn (hi pins s σ H _ I h) fun v s1 h1=>thn h1 fun itv s2 h2=>?_);obtain⟨it,fp,tn,J,H2,e,I2,T,st2,f2,hw⟩:=h2;subst e;refine z8O (RR:=fun acc C=>compPost (model X.prog X.w) X.A X.xe none (EP X pins σ Q) acc C) hc S hg ht he I2 T st2 f2 hw fun l C s' H' m hn I' fC q=>⟨m,hn,fun h' hs'=>?_⟩;obtain⟨c0,c1,_,c3,c4,c5⟩:=fC;exact⟨.ref l,H',I'.turned (t':=s'.toks) (fun b o hb e=>(hs'.2 b hb).trans e) c0 c1 c3 c4 c5,rfl,q⟩
end
def z8M{lo:Int}{n:Nat}{l:Addr}{ix:List (Option Nat)}{g:TG}{tt:TT}{te:TE}{σ:St}{H0:Hp}{Qe:Hp->Prop}(Pv:Nat->List V->Hp->Prop)(h0:Pv 0 [] H0)(hz:n<=sizeLine)
  (hn:∀i ys H,Pv i ys H->ys.length<=i)
  (hs:∀i ys H,i<n->Pv i ys H->H l=some (.lst ys)->g (.int (lo+i)) (z0T ix σ) H fun σ2 H2=>tt σ2 H2 fun b H3=>match b with
   |true=>te σ2 H3 fun v H4=>H4 l=some (.lst ys)/\Pv (i+1) (ys++[v]) (upd H4 l (.lst (ys++[v])))
   |false=>H3 l=some (.lst ys)/\Pv (i+1) ys H3)
  (hd:∀ys H,Pv n ys H->H l=some (.lst ys)->Qe H):zbD ix (Itr lo n) g tt te σ l H0 Qe:=by
 refine⟨fun i m ys H=>m=n-i/\i<=n/\Pv i ys H,⟨n,by simp,y0y _,h0⟩,?_⟩;rintro i m ys H ⟨rfl,hi,p⟩ hy;by_cases hlt:i<n
 .refine .inr ⟨hlt,y33 (hn i ys H p) (y0u hlt hz),Pv (i+1),fun zs H' r=>⟨n-(i+1),by lia,rfl,hlt,r⟩,fun x H' y=>?_⟩;obtain⟨e,y⟩:=y;subst e y;exact hs i ys _ hlt p hy
 .have e:i=n:=by lia
  subst e;exact .inl ⟨y0f _,hd ys H p hy⟩
section
variable{X:Cx}{pins:yyP}{σ:St}{H:Hp}{s:Shared}{N:List Str}{ix:List (Option Nat)}{scope:Scope}{elt iter tg cx:Expr}{pos:Pos}{te:TE}{E:yyE}
end
section
variable{X:Cx}{CX:CXT}{k:Nat}{f C:Addr}{fd:FuncData}{ps:List Str}{sp:Sp}{dvs:List V}{ds:List Value}{E:XK}{x m:Str}{p pos apos:Pos}{e o:Expr}{es:List Expr}{ta:TE}{t:TA}{σ0:St}
end
open PySem.SeqAt
open PySem.AutoSeq1 (wpAny_loadPart')
section
variable{X:Cx}(K:yyF)
end
def Ris(xs:Array Nat):Prop:=xs.toList.Pairwise (· < ·)
section
variable{M:Model}{A:Around}{E:yyE}
end
def zi0(w:World):Bool:=!w.params.followText "set-order"
structure Sit(prog:Program)(w:World)(es:Array (Int × Value))(t:SetTable)(ks:List Int):Prop where
 elems:ElemsOf (intKind prog w) es.toList
 keysI:IntsAre (es.toList.map (·.2)) ks
 fits:t.fits es.size=true
 led:t.led=zi0 w
 ris:Ris t.place
def zir(prog:Program)(w:World)(h:Heap)(a:Addr)(ks:List Int):Prop :=
 ∃o es ep t,h.get? a=some o/\o.ExactSet/\o.data=.set es ep t/\Sit prog w es t ks
section
variable{prog:Program}{w:World}{A:Around}{E:yyE}{s:Shared}
end
section
variable{prog:Program}{w:World}{A:Around}{R:Result->Shared->Prop}{I:Addr}{fp wr:List Addr}{G:Array GenState->Array GenState->Prop}{n:Nat}{P:Nat->Value->Prop}{St:Nat->Shared->Prop}
end
section
variable{prog:Program}{w:World}{A:Around}{E:yyE}{s:Shared}
end
namespace SF
end SF
section
variable{prog:Program}{w:World}{A:Around}{E:yyE}{s:Shared}{it a:Addr}{es:Array (Int × Value)}{ep:Nat}{t:SetTable}{i:Nat}
end
end L2
namespace L2
open PySem PySem.Spec PyProof.Rows
section
variable{prog:Program}{w:World}{A:Around}{E:yyE}{s:Shared}{it a:Addr}{es:Array (Int × Value)}{ep:Nat}{t:SetTable}{i:Nat}
end
section
variable{prog:Program}{w:World}{A:Around}{es:Array (Int × Value)}{ep:Nat}{t:SetTable}
end
section
variable{prog:Program}{w:World}{A:Around}{E:yyE}{s:Shared}{it a:Addr}{es:Array (Int × Value)}{ep:Nat}{t:SetTable}{i:Nat}
end
section
variable{prog:Program}{w:World}{A:Around}{E:yyE}{s:Shared}{a:Nat}{es:Array (Int × Value)}{ep:Nat}{t:SetTable}
end
open PySem.SeqAt
open PySem.AutoSeq1 (wpAny_loadPart')
def zix(P:Program)(w:World)(a:Addr)(ks:List Int):HO:=.ext fun h=>zir P w h a ks
section
variable{X:Cx}(K:yyF)
end
def z0N(h:Heap)(a:Addr)(vs:List Value):Heap :=
 ((h.update a (Obj.mapSeq fun _=>#[])).push (seqObj "tuple" vs.toArray 0)).push (seqObj "list" #[] 0)
section
variable{prog:Program}{w:World}{A:Around}{E:yyE}{s:Shared}{α:Type}{kf:Keyed->α}{lt:α->α->Bool}{kd:SortKind}
def z8g{a:Addr}{vs:List Value}{n:Nat}{P:Fin->Shared->Prop}(T:z5w lt)(ho:s.heap.get? a=some (seqObj "list" vs.toArray n))(hz:vs.length<=sizeLine)(hkk:2<=vs.length->wpAny (model prog w) A (keyKind' vs.toArray) (fun k s'=>s'={ s with heap:=z0N s.heap a vs }/\k=kd) E { s with heap:=z0N s.heap a vs })(hA:z9T prog w A E { s with heap:=z0N s.heap a vs } kd (vs.zip vs) kf lt)(h:∀xs:List Keyed,xs.Perm (vs.zip vs)->Sl kf lt xs->P (.done (.ret .none)) { s with heap:=sortedHeap s.heap a vs (xs.map (·.2)).toArray }) : wpAny (model prog w) A (Builtin.«list.sort» ⟨[.ref a],[]⟩) P E s:=by
 rw[list_sort_plain];have ha:a<s.heap.objs.size:=y0h ho;refine y03 (listItems_at ho rfl ?_);refine y03 (y2M ho rfl ?_ (by simpa using hz) (by simp));obtain⟨e1,ho1⟩:∃e1,(s.heap.update a (Obj.mapSeq fun _=>#[])).get? a=some (seqObj "list" #[] e1):=⟨_,get?_update_seq ho (fun _=>#[])⟩;refine y03 (seqEpoch_at ho1 rfl ?_);refine y03 (wpAny_newTuple ?_ (by simpa using hz));refine y03 (wpAny_newList ?_);refine y1I ?_;have ho6:(z0N s.heap a vs).get? a=some (seqObj "list" #[] e1):=by unfold z0N;rw[Heap.get?_push_ne _ _ _ (by rw[size_push',Heap.size_update];exact y0C (y3e ha)),Heap.get?_push_ne _ _ _ (by rw[Heap.size_update];exact y0C ha)];exact ho1
 show wpAny (model prog w) A _ P E { s with heap:=z0N s.heap a vs };dsimp only;have hsz:vs.toArray.size=vs.length:=by simp
 by_cases h2:vs.toArray.size<2
 .rw[if_pos h2,if_pos h2];refine y03 (y0g ?_);rw[StateT.run_pure];refine y03 (y0g ?_);dsimp only;refine y03 (seqEpoch_at ho6 rfl ?_);refine y03 (y2M ho6 rfl ?_ (hsz2:=by rw[Array.size_map];show(pairsOf vs).size<=_;rw[pairsOf_size];lia));simp only[bne_self_eq_false,y0d,y1m];have hs:Sl kf lt (vs.zip vs):=by
   refine y1h.mpr fun i j hi hj hij=>?_;have:(vs.zip vs).length=vs.length:=by simp
   lia
  have e:(Array.map (·.2) (vs.toArray.zip vs.toArray))=((vs.zip vs).map (·.2)).toArray:=by simp
  have:=h (vs.zip vs) .rfl hs;rw[<-e]at this;exact y0g this
 .rw[if_neg h2,if_neg h2];refine y03 (y0Y (hkk (by lia)) ?_ fun _ _ e=>e);rintro k s' ⟨rfl,rfl⟩;refine y03 (y0Y (z3A T hA (st:=SortSt.mk' k (vs.toArray.zip vs.toArray) #[] 7 none)
   (Q:=fun _ st'=>(arrOf st').toList.Perm (vs.zip vs)/\failedOf st'=none/\Sl kf lt (arrOf st').toList)
   (fun x hx=>by have:x∈(pairsOf vs).toList:=hx;rw[pairsOf_toList]at this;exact this) rfl rfl rfl fun st' a1 a2 a3=>⟨by have e:(arrOf st').toList.Perm (pairsOf vs).toList:=a1;rw[pairsOf_toList]at e;exact e,a2,a3⟩) ?_ fun _ _ e=>e)
  rintro⟨⟨⟩,st'⟩ s' ⟨rfl,hp,hf,hs⟩;dsimp only;refine y03 (seqEpoch_at ho6 rfl ?_);have hl:(arrOf st').size=vs.length:=by rw[<-y0K,hp.length_eq];simp
  refine y03 (y2M ho6 rfl ?_ (hsz2:=by rw[Array.size_map];lia));rw[hf];simp only[bne_self_eq_false,y0d,y1m];have e:(Array.map (·.2) (arrOf st'))=(((arrOf st').toList).map (·.2)).toArray:=by rw[<-Array.toList_map]
  have:=h _ hp hs;rw[<-e]at this;exact y0g this
end
end L2
namespace Gu
open PySem L2
def z5t{K:yyF}{a:Addr}{xs:List V}{g:TG}{tb:TS}{D:z3Q}{σ:St}{H:Hp}(Pv:Nat->St->Hp->Prop)(h0:Pv 0 σ H)(hl:∀i σ H,i<=xs.length->Pv i σ H->SqL K H a xs)(hs:∀i x σ H,xs[i]?=some x->Pv i σ H->∀Ed:z3Q,(∀σ' H',Pv (i+1) σ' H'->Ed.nx σ' H')->g x σ H fun σ2 H2=>tb Ed σ2 H2)(hd:∀σ H,Pv xs.length σ H->D.nx σ H) : ∃W:Nat->Nat->St->Hp->Prop,(∃m,W 0 m σ H)/\∀i m σ H,W i m σ H -> ((Itl K a).stop i H/\D.nx σ H)\/((Itl K a).go i H/\∃N:St->Hp->Prop,(∀σ' H',N σ' H'->∃m',m'<m/\W (i+1) m' σ' H')/\∀x H',(Itl K a).yld i H x H'->g x σ H' fun σ2 H2=>tb { D with nx:=N,ct:=N,bk:=D.nx } σ2 H2) :=
 zdz Pv h0 hl (fun i x σ H hx p=>hs i x σ H hx p _ fun _ _ z=>z) hd
def zgA{K:yyF}{a:Addr}{xs:List V}{g:TG}{tb:TS}{D:z3Q}{σ:St}{H:Hp}(Pv:Nat->St->Hp->Prop)(h0:Pv 0 σ H)(hl:∀i σ H,i<=xs.length->Pv i σ H->SqT K H a xs)(hs:∀i x σ H,xs[i]?=some x->Pv i σ H->∀Ed:z3Q,(∀σ' H',Pv (i+1) σ' H'->Ed.nx σ' H')->g x σ H fun σ2 H2=>tb Ed σ2 H2)(hd:∀σ H,Pv xs.length σ H->D.nx σ H) : ∃W:Nat->Nat->St->Hp->Prop,(∃m,W 0 m σ H)/\∀i m σ H,W i m σ H -> ((Itt K a).stop i H/\D.nx σ H)\/((Itt K a).go i H/\∃N:St->Hp->Prop,(∀σ' H',N σ' H'->∃m',m'<m/\W (i+1) m' σ' H')/\∀x H',(Itt K a).yld i H x H'->g x σ H' fun σ2 H2=>tb { D with nx:=N,ct:=N,bk:=D.nx } σ2 H2) :=
 zaU Pv h0 hl (fun i x σ H hx p=>hs i x σ H hx p _ fun _ _ z=>z) hd
def zed{W:Nat->St->Hp->Prop}{m:Nat}{T:(St->Hp->Prop)->Prop}(h:∀N:St->Hp->Prop,(∀m' σ' H',m'<m->W m' σ' H'->N σ' H')->T N):∃N:St->Hp->Prop,(∀σ' H',N σ' H'->∃m',m'<m/\W m' σ' H')/\T N :=
 ⟨fun σ' H'=>∃m',m'<m/\W m' σ' H',fun _ _ z=>z,h _ fun m' σ' H' a b=>⟨m',a,b⟩⟩
def zcr{lo:Int}{n:Nat}{g:TG}{tb:TS}{D:z3Q}{σ:St}{H:Hp}(Pv:Nat->St->Hp->Prop)(h0:Pv 0 σ H)(hs:∀i σ H,i<n->Pv i σ H->∀Ed:z3Q,(∀σ' H',Pv (i+1) σ' H'->Ed.nx σ' H')->g (.int (lo+i)) σ H fun σ2 H2=>tb Ed σ2 H2)(hd:∀σ H,Pv n σ H->D.nx σ H) : ∃W:Nat->Nat->St->Hp->Prop,(∃m,W 0 m σ H)/\∀i m σ H,W i m σ H -> ((Itr lo n).stop i H/\D.nx σ H)\/((Itr lo n).go i H/\∃N:St->Hp->Prop,(∀σ' H',N σ' H'->∃m',m'<m/\W (i+1) m' σ' H')/\∀x H',(Itr lo n).yld i H x H'->g x σ H' fun σ2 H2=>tb { D with nx:=N,ct:=N,bk:=D.nx } σ2 H2) :=
 zch Pv h0 (fun i σ H hi p=>hs i σ H hi p _ fun _ _ z=>z) hd
def zhJ{c:TT}{tb:TS}{D:z3Q}{σ:St}{H:Hp}(Post:St->Hp->Prop)(h1:∀Ed:z3Q,(∀σ' H',Post σ' H'->Ed.nx σ' H')->z7A c tb Ed σ H)(h2:∀σ' H',Post σ' H'->D.nx σ' H'):z7A c tb D σ H:=h1 D h2
def zgx{t1 t2:TS}{D:z3Q}{σ:St}{H:Hp}(Post:St->Hp->Prop)(h1:∀Ed:z3Q,(∀σ' H',Post σ' H'->Ed.nx σ' H')->t1 Ed σ H)(h2:∀σ' H',Post σ' H'->t2 D σ' H'):zgy t1 t2 D σ H:=h1 _ h2
def zi6{K:yyF}{a b:Addr}{xs ys:List V}{g:TG}{tb:TS}{D:z3Q}{σ:St}{H:Hp}(hlen:xs.length=ys.length)(Pv:Nat->St->Hp->Prop)(h0:Pv 0 σ H)(hl:∀i σ H,i<=xs.length->Pv i σ H->SqL K H a xs/\SqL K H b ys)(hs:∀i x y p σ H,xs[i]?=some x->ys[i]?=some y->Pv i σ H->H p=none->∀Ed:z3Q,(∀σ' H',Pv (i+1) σ' H'->Ed.nx σ' H')->g (.ref p) σ (upd H p (.tup [x,y])) fun σ2 H2=>tb Ed σ2 H2)(hd:∀σ H,Pv xs.length σ H->D.nx σ H) : ∃W:Nat->Nat->St->Hp->Prop,(∃m,W 0 m σ H)/\∀i m σ H,W i m σ H -> ((Itz K a b).stop i H/\D.nx σ H)\/((Itz K a b).go i H/\∃N:St->Hp->Prop,(∀σ' H',N σ' H'->∃m',m'<m/\W (i+1) m' σ' H')/\∀x H',(Itz K a b).yld i H x H'->g x σ H' fun σ2 H2=>tb { D with nx:=N,ct:=N,bk:=D.nx } σ2 H2) :=
 zeS hlen Pv h0 hl (fun i x y p σ H hx hy h hp=>hs i x y p σ H hx hy h hp _ fun _ _ z=>z) hd
def zgX{K:yyF}{a:Addr}{xs:List V}{g:TG}{tb:TS}{D:z3Q}{σ:St}{H:Hp}(Pv:Nat->St->Hp->Prop)(h0:Pv 0 σ H)(hl:∀i σ H,i<=xs.length->Pv i σ H->SqT K H a xs)(hs:∀i x p σ H,xs[i]?=some x->Pv i σ H->H p=none->∀Ed:z3Q,(∀σ' H',Pv (i+1) σ' H'->Ed.nx σ' H')->g (.ref p) σ (upd H p (.tup [.int (i:Nat),x])) fun σ2 H2=>tb Ed σ2 H2)(hd:∀σ H,Pv xs.length σ H->D.nx σ H) : ∃W:Nat->Nat->St->Hp->Prop,(∃m,W 0 m σ H)/\∀i m σ H,W i m σ H -> ((Ite K a).stop i H/\D.nx σ H)\/((Ite K a).go i H/\∃N:St->Hp->Prop,(∀σ' H',N σ' H'->∃m',m'<m/\W (i+1) m' σ' H')/\∀x H',(Ite K a).yld i H x H'->g x σ H' fun σ2 H2=>tb { D with nx:=N,ct:=N,bk:=D.nx } σ2 H2) :=
 zdy Pv h0 hl (fun i x p σ H hx h hp=>hs i x p σ H hx h hp _ fun _ _ z=>z) hd
def zf3{n:Nat}{A B:List Row}(GA:z0e n A)(GB:z0e n B){a b:Int}(a0:0<=a)(a1:a<(A.length:Int))(b0:0<=b)(b1:b<(B.length:Int)):row (z0u A B) (a*(B.length:Int)+b)=zej B.length (row A a) (row B b):=by obtain⟨v0,v1⟩:=z9X a0 a1 b0 b1;rw[z5p v0 v1,(dvm b0 b1).1,(dvm b0 b1).2]
def fuL:List Int->List Int->Nat
 |a::as,b::bs=>if a=b then fuL as bs+1 else 0
 |_,_=>0
def pgo(m:Nat)(R S:Row):List Int:=(List.range R.2.length).map fun k=>R.2.getD k 0*(m:Int)+S.2.getD k 0
def prM(one other:List Row):List Row:=(z0y (one.length*other.length)).map fun c=>((row one (c/(other.length:Int))).1,pgo other.length (row one (c/(other.length:Int))) (row other (c%(other.length:Int))))
def z2O(one other:List Row):(prM one other).length=one.length*other.length:=by unfold prM;rw[y01,z0H]
def z93{one other:List Row}{i:Int}(h0:0<=i)(h1:i<((one.length*other.length:Nat):Int)):row (prM one other) i=((row one (i/(other.length:Int))).1,pgo other.length (row one (i/(other.length:Int))) (row other (i%(other.length:Int)))):=by unfold prM;show(List.map _ _).getD _ _=_;rw[y02,y04,z32 h0 h1];rfl
def z3T{n N:Nat}{gs:List Int}(hl:gs.length=n)(hg:∀g∈gs,0<=g/\g<(N:Int)){k:Nat}(hk:k<n):gs[k]?=some (gs.getD k 0)/\0<=gs.getD k 0/\gs.getD k 0<(N:Int):=by have e:gs[k]?=some gs[k]:=y00 (by lia);rw[y02,e];exact⟨rfl,hg _ (y0c (by lia))⟩
def zdh{n:Nat}{one other:List Row}(G:z0e n one)(G':z0e n other)(h4:one.length*other.length<=4000):z0e n (prM one other):=by
 have h1:=G.some;have h2:=G'.some;have hm:∀r∈prM one other,∃R∈one,∃S∈other,r=(R.1,pgo other.length R S):=fun r hr=>by unfold prM at hr;obtain⟨i,hi,e⟩:=y0b.mp hr;obtain⟨i0,i1⟩:=z0J.mp hi;obtain⟨⟨a0,a1⟩,b0,b1⟩:=pix (one:=one) (other:=other) i0 i1;exact⟨_,z0c a0 a1,_,z0c b0 b1,e.symm⟩
 refine⟨by rw[z2O];exact h4,by rw[z2O];exact Nat.mul_pos h1 h2,fun r hr=>?_,fun r hr=>?_,fun r hr g hg=>?_⟩
 .obtain⟨R,hR,S,hS,rfl⟩:=hm r hr;exact G.perm R hR
 .obtain⟨R,hR,S,hS,rfl⟩:=hm r hr;show(List.map _ _).length=n;rw[y01,y1G,G.len R hR]
 .obtain⟨R,hR,S,hS,rfl⟩:=hm r hr;obtain⟨k,hk,rfl⟩:=y0b.mp (show g∈(List.range R.2.length).map _ from hg);have hk':k<n:=by have:=y1d.mp hk;rw[G.len R hR]at this;exact this
  obtain⟨_,g0,g1⟩:=z3T (G.len R hR) (G.go R hR) hk';obtain⟨_,e0,e1⟩:=z3T (G'.len S hS) (G'.go S hS) hk';rw[z2O];exact z9X g0 g1 e0 e1
def ze8{m:Nat}{g e:Int}(e0:0<=e)(e1:e<(m:Int)):(g*(m:Int)+e)/(m:Int)=g/\(g*(m:Int)+e)%(m:Int)=e:=by
 constructor
 .rw[y2G,y2s _ _ (by lia),y2t e0 e1];lia
 .rw[y2G,y24,y3i e0 e1]
def zfe(w:List Int):List Int->List (List Int)->Nat->List Int->List (List Int)
 |_,ws,_,[]=>ws
 |o,ws,k,g::gs=>if g∈o then zfe w o ws (k+1) gs else zfe w (o++[g]) (ws++[w++[(k:Int)]]) (k+1) gs
def pb(one other:List Row):Nat->List Int->List (List Int)->Nat->Option (List Int)
 |0,_,_,_=>none
 |f+1,o,ws,i=>match o[i]?,ws[i]? with
  |some c,some w=>if(row one (c/(other.length:Int))).1=(row other (c%(other.length:Int))).1 then pb one other f (z08 o (row (prM one other) c).2) (zfe w o ws 0 (row (prM one other) c).2) (i+1)
   else some (w++[((fuL (row one (c/(other.length:Int))).1 (row other (c%(other.length:Int))).1:Nat):Int)])
  |_,_=>none
def zhc(one other:List Row):Option (List Int):=pb one other (one.length*other.length+1) [0] [[]] 0
end Gu
namespace L2
open PySem PySem.Spec PyProof.Rows
section
variable{prog:Program}{w:World}{A:Around}{E:yyE}{s:Shared}{z TI TO i1 i2:Addr}{fp1 fp2:List Addr}{n1 n2:Nat}{P1 P2:Nat->Value->Prop}{S1 S2:Nat->Heap->Prop}
end
section
variable{X:Cx}{elts:List Expr}{tk:Nat}{tp:Pos}
end
end L2
namespace Gu
open PySem L2
def zb5{n:Nat}{v:List Int}{k:Nat}(h:LW n v)(hk:k<n):LW n (v++[(k:Int)]):=fun x hx=>by
 rcases y0q.mp hx with z|z
 .exact h x z
 .have:x=(k:Int):=by simpa using z
  lia
def zeR(M:List Row)(v:List Int)(l:Int):goW M 0 (v++[l])=(row M (goW M 0 v)).2.getD l.toNat 0:=by rw[z2W];rfl
end Gu
namespace L2
open PySem PySem.Spec PyProof.Rows
variable{X:Cx}
end L2
namespace Gu
open PySem L2
end Gu
namespace L2
open PySem PySem.Spec PyProof.Rows
section
variable{prog:Program}{w:World}{A:Around}{R:Result->Shared->Prop}{s:Shared}
end
section
variable{X:Cx}{pins:yyP}{σ:St}{H:Hp}{s:Shared}{N:List Str}{ix:List (Option Nat)}{scope:Scope}{elt iter tg iter2 tg2:Expr}{pos:Pos}{g g2:TG}{wi2:TI}{te:TE}{E:yyE}
end
end L2
namespace Gu
open PySem L2
def zhq(M:List Row)(e:Row):Nat->Int
 |0=>goW M 0 e.1
 |t+1=>goW M (zhq M e t) e.2
end Gu
namespace L2
open PySem PySem.Spec PyProof.Rows PySem.SeqAt
section
variable{X:Cx}
end
open PySem.AutoSeq1 (wpAny_loadPart')
section
variable{X:Cx}
end
end L2
namespace Gu
open PySem L2
def zhx(M:List Row)(e:Row)(t:Nat):List Int:=(List.range t).map (zhq M e)
end Gu
namespace L2
open PySem PySem.Spec PyProof.Rows PySem.SeqAt
section
variable{X:Cx}(K:yyF)
end
end L2
namespace Gu
open PySem L2
def z7Z(A B:List Row):D:=if(shr (z0u A B)).length<=60 then .tup (z0i (shr (z0u A B)))else .non
def zcz(Ts:List Tb)(K:yyF):Sp:=fun vs H Q _=>∃(v1 v2:V)(n:Nat)(one other:List Row),vs=[v1,v2]/\z3P Ts H/\Dr K H (D.tup (z0i one)) v1/\Dr K H (D.tup (z0i other)) v2/\z0e n one/\z0e n other/\n<=60/\one.length*other.length<=4000 /\
 z7U Ts K H Q (z7Z one other)
def z4A{A B:List Row}(h:(shr (z0u A B)).length<=60):z7Z A B=.tup (z0i (shr (z0u A B))):=if_pos h
def z6S{A B:List Row}(h:60<(shr (z0u A B)).length):z7Z A B=.non:=if_neg (by lia)
def zev{K:yyF}{H:Hp}{ds:List D}{v:V}(h:Dr K H (.tup ds) v):∃a,v=.ref a:=by simp only[Dr]at h;obtain⟨a,_,e,_⟩:=h;exact⟨a,e⟩
def zfS{K:yyF}{H:Hp}{v:V}(h:Dr K H .non v):v=.non:=by simpa only[Dr]using h
theorem zcj{n:Nat}{M' M:List Row}{o:List Int}{h:Int->Int}(mo:Mor M' M o h)(cl:∀r∈o,∀g∈(row M' r).2,g∈o)(hl:∀r∈o,(row M' r).2.length=n):∀(w:List Int)(x:Int),x∈o->LW n w->z1E M (h x) w=z1E M' x w
 |[],_,_,_=>rfl
 |l::w,x,hx,hw=>by
  obtain⟨l0,l1⟩:=hw l y0m;have hk:l.toNat<(row M' x).2.length:=by rw[hl x hx];lia
  show(row M (h x)).1.getD l.toNat 0::z1E M ((row M (h x)).2.getD l.toNat 0) w=(row M' x).1.getD l.toNat 0::z1E M' ((row M' x).2.getD l.toNat 0) w;rw[mo x hx];show(row M' x).1.getD l.toNat 0::z1E M (((row M' x).2.map h).getD l.toNat 0) w=_;rw[z95 hk,zcj mo cl hl w _ (cl x hx _ (by rw[zeQ hk];exact y0c hk)) hw.tail]
def z3V{n:Nat}{M:List Row}(G:z0e n M){w:List Int}(hw:LW n w):z1E (shr M) 0 w=z1E M 0 w:=by obtain⟨h,h0,mo⟩:=z4D G;obtain⟨L,cl⟩:=z0m G;have:=zcj mo cl (fun r hr=>G.len _ (z0c (L.rg r hr).1 (L.rg r hr).2)) w 0 (by obtain⟨t,ht⟩:=L.hd;rw[ht];exact y0m) hw;rw[h0]at this;exact this
theorem z9O{n:Nat}{A B:List Row}(GA:z0e n A)(GB:z0e n B):∀(w:List Int)(a b:Int),LW n w->0<=a->a<(A.length:Int)->0<=b->b<(B.length:Int)->z1E (z0u A B) (a*(B.length:Int)+b) w=z1E B b (z1E A a w)
 |[],_,_,_,_,_,_,_=>rfl
 |l::w,a,b,hw,a0,a1,b0,b1=>by obtain⟨l0,l1⟩:=hw l y0m;have hR:=z0c a0 a1;have hS:=z0c b0 b1;obtain⟨k,g,e,q1,q2,q3,q4,q5,q6,g0,g1,e0,e1⟩:=z8s (m:=B.length) (N:=A.length) (GA.perm _ hR) (GA.len _ hR) (GA.go _ hR) (GB.len _ hS) (GB.go _ hS) (k:=l.toNat) (by lia);have hl:=(GA.perm _ hR).len;show(row (z0u A B) (a*(B.length:Int)+b)).1.getD l.toNat 0::z1E (z0u A B) ((row (z0u A B) (a*(B.length:Int)+b)).2.getD l.toNat 0) w=(row B b).1.getD ((row A a).1.getD l.toNat 0).toNat 0::z1E B ((row B b).2.getD ((row A a).1.getD l.toNat 0).toNat 0) (z1E A ((row A a).2.getD l.toNat 0) w);rw[zf3 GA GB a0 a1 b0 b1,zaQ (by lia),q5,q6,z9O GA GB w g e hw.tail g0 g1 e0 e1];congr 1;show(z3u (row A a).1 (row B b).1).getD l.toNat 0=_;rw[zaR (by lia)]
def z6z{n:Nat}{A B:List Row}(GA:z0e n A)(GB:z0e n B)(h4:A.length*B.length<=4000){w:List Int}(hw:LW n w):z1E (shr (z0u A B)) 0 w=z1E B 0 (z1E A 0 w):=by rw[z3V (z18 GA GB h4) hw];have:=z9O GA GB w 0 0 hw (y0Q 0) (by have:=GA.some;lia) (y0Q 0) (by have:=GB.some;lia);rw[Int.zero_mul,Int.add_zero]at this;exact this
theorem z7k{n:Nat}:∀{w:List Int},LW n w->z1E (z9R n) 0 w=w
 |[],_=>rfl
 |l::w,hw=>by obtain⟨l0,l1⟩:=hw l y0m;show(z0y n).getD l.toNat 0::z1E (z9R n) ((List.replicate n (0:Int)).getD l.toNat 0) w=l::w;rw[y02,zh5 (by lia),y02,y30,if_pos (by lia)];show((l.toNat:Int))::z1E (z9R n) 0 w=l::w;rw[z7k hw.tail,y2n l0]
def z9N{n:Nat}{A:List Row}(GA:z0e n A)(h8:A.length<=8){w:List Int}(hw:LW n w):z1E (shr (z1H A)) 0 (z1E A 0 w)=w:=by
 have GC:=z0I (z0v GA);have hc:(shr (z1H A)).length<=8:=by have:=z26 (z0v GA);rw[z1m]at this;lia
 have h4:A.length*(shr (z1H A)).length<=4000:=y0r (y1i h8 hc) (by decide);rw[<-z6z GA GC h4 hw,zb6 GA h4];exact z7k hw
def zcG{a b:TS}{D:z3Q}{σ:St}{H:Hp}(h:∀R:TS,R=b->zgy a R D σ H):zgy a b D σ H:=h b rfl
def atR{R b:TS}{D:z3Q}{σ:St}{H:Hp}(e:R=b)(h:b D σ H):R D σ H:=by rw[e];exact h
theorem z8c{α:Type}[DecidableEq α]:∀(l:List α),(z0w l.reverse).length=l.length->l.reverse.Nodup
 |[],_=>by simp
 |x::l,h=>by
  rw[y2j,z1y]at h;rw[y2j];have hl:=z3W l.reverse;rw[List.length_reverse]at hl;by_cases hx:x∈z0w l.reverse
  .rw[z0o hx]at h;simp at h;lia
  .rw[z0p hx]at h;simp at h;have ih:=z8c l h;refine y3h.mpr ⟨ih,by simp,fun a ha b hb=>?_⟩;rw[y08]at hb;subst hb;exact fun z=>hx (z0x.mpr (by rw[<-z];exact ha))
def zaq{α:Type}[DecidableEq α]{l:List α}(h:(z0w l).length=l.length):l.Nodup:=by
 have:=z8c l.reverse (by rw[y1w,List.length_reverse];exact h)
 rwa [y1w]at this
def z5Z{n:Nat}{F:List Row}(G:z0e n F)(hf:shr F=F):(∀x,0<=x->x<(F.length:Int)->x∈z0b F)/\∀x∈z0b F,∀y∈z0b F,beh F x=beh F y->x=y:=by
 obtain⟨L,cl⟩:=z0m G;obtain⟨h1,h2,h3⟩:=z1g (kOf F) (z0b F);have e1:(z0z (kOf F) (z0b F)).length=F.length:=by
  have:(shr F).length=(z0z (kOf F) (z0b F)).length:=by unfold shr z1J;rw[y01]
  rw[<-this,hf]
 have e2:=L.len;have e3:(z0w ((z0b F).map (kOf F))).length=((z0b F).map (kOf F)).length:=by rw[<-z1R,y01,y01];lia
 have nd:=zaq e3;refine⟨fun x x0 x1=>y1M fun z=>?_,fun x hx y hy e=>?_⟩
 .have:=z23 (n:=F.length) (y1y.mpr ⟨z,L.nd⟩) fun y hy=>by
   rcases y0x.mp hy with r|r
   .rw[r];exact⟨x0,x1⟩
   .exact L.rg y r
  rw[y0X]at this;lia
 .have ek:=(z2z G x hx y hy).mpr e;obtain⟨i,hi,rfl⟩:=y0V.mp hx;obtain⟨j,hj,rfl⟩:=y0V.mp hy;have:i=j:=by
   refine(y3q (h₀:=by rw[y01];exact hi) (h₁:=by rw[y01];exact hj) nd).mp ?_;rw[y18,y18];exact ek
  subst this;rfl
def Alk(n:Nat)(M:List Row)(x y:Int):Prop:=∀w,LW n w->(row M (goW M x w)).1=(row M (goW M y w)).1
theorem zaM{n:Nat}{M:List Row}(G:z0e n M):∀(w:List Nat)(x y:Int),0<=x->x<(M.length:Int)->0<=y->y<(M.length:Int)->Alk n M x y->beh M x w=beh M y w
 |[],x,y,_,_,_,_,h=>h [] (fun _ z=>by simp at z)
 |i::w,x,y,x0,x1,y0,y1,h=>by
  show beh M ((row M x).2.getD i 0) w=beh M ((row M y).2.getD i 0) w;by_cases hi:i<n
  .obtain⟨a0,a1,_⟩:=zbQ G x0 x1 hi;obtain⟨b0,b1,_⟩:=zbQ G y0 y1 hi;refine zaM G w _ _ a0 a1 b0 b1 fun u hu=>?_;have:=h ((i:Int)::u) (fun z hz=>by
    rcases y0x.mp hz with r|r
    .rw[r];lia
    .exact hu z r)
   simpa[goW]using this
  .have hx:=G.len _ (z0c x0 x1);have hy:=G.len _ (z0c y0 y1);rw[y02,y0n (by lia),y02,y0n (by lia)]
def zdE{n:Nat}{F:List Row}(G:z0e n F)(hf:shr F=F){x y:Int}(x0:0<=x)(x1:x<(F.length:Int))(y0:0<=y)(y1:y<(F.length:Int))(h:Alk n F x y):x=y:=by obtain⟨c,i⟩:=z5Z G hf;exact i x (c x x0 x1) y (c y y0 y1) (funext fun w=>zaM G w x y x0 x1 y0 y1 h)
def z9V{n:Nat}{M:List Row}(G:z0e n M){x:Int}(x0:0<=x)(x1:x<(M.length:Int)){w:List Int}(hw:LW n w):(row (shr (swM M x)) (goW (shr (swM M x)) 0 w)).1=(row M (goW M x w)).1:=by
 have G1:=z0O G x0 x1;obtain⟨h,h0,mo⟩:=z4D G1;obtain⟨L,cl⟩:=z0m G1;have hz:(0:Int)∈z0b (swM M x):=by obtain⟨t,ht⟩:=L.hd;rw[ht];exact y0m
 have e1:=z8V (n:=n) (M':=swM M x) (M:=shr (swM M x)) (h:=h) (C:=fun z=>z∈z0b (swM M x)) (fun z hz=>G1.len _ (z0c (L.rg z hz).1 (L.rg z hz).2)) (fun z hz g hg=>cl z hz g hg) (fun z hz=>mo z hz) w 0 hw hz;have m1:=z6P (n:=n) (M:=swM M x) (C:=fun z=>z∈z0b (swM M x)) (fun z hz=>G1.len _ (z0c (L.rg z hz).1 (L.rg z hz).2)) (fun z hz g hg=>cl z hz g hg) w 0 hw hz;rw[h0]at e1;rw[e1,mo _ m1];have e2:=z8V (n:=n) (M':=M) (M:=swM M x) (h:=sw x) (C:=fun z=>0<=z/\z<(M.length:Int)) (fun z hz=>G.len _ (z0c hz.1 hz.2)) (fun z hz g hg=>G.go _ (z0c hz.1 hz.2) g hg) (fun z hz=>by obtain⟨s0,s1⟩:=z8k x0 x1 hz.1 hz.2;rw[z6q s0 s1,z8W]) w x hw ⟨x0,x1⟩
 rw[z6c]at e2;rw[e2];obtain⟨t0,t1⟩:=z1I G hw x0 x1;obtain⟨s0,s1⟩:=z8k x0 x1 t0 t1;rw[z6q s0 s1,z8W];rfl
def StR(n:Nat)(M:List Row)(r:Int):Prop:=row M r=(z0y n,List.replicate n r)
instance(n:Nat)(M:List Row)(r:Int):Decidable (StR n M r):=inferInstanceAs (Decidable (_=_))
def z33(M:List Row)(rs:List Int):List Int:=z0w (rs.flatMap fun r=>(row M r).2)
def zaa{M:List Row}{rs:List Int}{x:Int}:x∈z33 M rs↔∃r∈rs,x∈(row M r).2:=by unfold z33;rw[z0x,List.mem_flatMap]
def mvF(n:Nat)(M:List Row)(rs:List Int):List Int:=rs.filter fun r=>!decide (StR n M r)
def mvs(n:Nat)(M:List Row):Nat->List Int
 |0=>[0]
 |k+1=>z33 M (mvF n M (mvs n M k))
def dlp(n:Nat)(M:List Row):Nat->Nat->Option Nat
 |0,_=>none
 |f+1,k=>if mvF n M (mvs n M k)=[]then some k else dlp n M f (k+1)
def dep(n:Nat)(M:List Row):Option Nat:=dlp n M M.length 0
def Lp(n:Nat)(M:List Row)(r:Int):Prop:=∃v,v≠[]/\LW n v/\goW M r v=r
def zbt{n:Nat}{l:Nat}{w:List Int}(h:l<n)(lw:LW n w):LW n ((l:Int)::w):=fun x hx=>by
 rcases y0x.mp hx with q|q
 .rw[q];lia
 .exact lw x q
def z37{n:Nat}{F:List Row}(G:z0e n F)(hf:shr F=F){x:Int}(x0:0<=x)(x1:x<(F.length:Int)):∃u,LW n u/\goW F 0 u=x:=by
 have hp:=G.some;refine(z3g G).all (C:=fun x=>(0<=x/\x<(F.length:Int))/\∃u,LW n u/\goW F 0 u=x) (fun y hy g hg=>?_) (fun y hy=>?_) x ((z5Z G hf).1 x x0 x1) |>.2
 .obtain⟨⟨a,b⟩,u,lu,e⟩:=hy;refine⟨G.go _ (z0c a b) g hg,?_⟩;obtain⟨i,hi,ei⟩:=y0V.mp hg;have hn:=G.len _ (z0c a b);refine⟨u++[(i:Int)],zb5 lu (by lia),?_⟩;rw[zeR,e,y0E,y02,y00 hi];exact ei
 .rw[y08.mp hy];exact⟨⟨y0Q 0,by lia⟩,[],fun _ z=>by simp at z,rfl⟩
noncomputable def lpB(n:Nat)(M:List Row)(j:Nat):Bool:=@decide (Lp n M (j:Int)) (Classical.propDecidable _)
def z6e{n:Nat}{M:List Row}{j:Nat}:lpB n M j=true↔Lp n M (j:Int):=by unfold lpB;exact @decide_eq_true_iff _ (Classical.propDecidable _)
noncomputable def z0U(n:Nat)(M:List Row)(i:Nat):List (List Row):=((List.range i).filter (lpB n M)).map fun(j:Nat)=>shr (swM M (j:Int))
def zcl{n:Nat}{M:List Row}{i:Nat}(h:lpB n M i=true):z0U n M (i+1)=z0U n M i++[shr (swM M (i:Int))]:=by unfold z0U;rw[y3a,List.filter_append,y0e];simp[h]
def zdv{n:Nat}{M:List Row}{i:Nat}(h:lpB n M i=false):z0U n M (i+1)=z0U n M i:=by unfold z0U;rw[y3a,List.filter_append,y0e];simp[h]
def z4z(n:Nat)(M:List Row)(i:Nat):(z0U n M i).length<=i:=by unfold z0U;rw[y01];exact y0r (List.length_filter_le _ _) (by rw[y1G];lia)
end Gu
namespace L2
open PySem PySem.Spec PyProof.Rows
section
variable{X:Cx}
theorem zcy:∀{xs:List V}{us:List Value},us.length=xs.length->(∀(i:Nat)(u:Value),us[i]?=some u->∃x,xs[i]?=some x/\z0Z x u)->z1h xs us
 |[],[],_,_=>.nil
 |[],_::_,h,_=>by cases h
 |_::_,[],h,_=>by cases h
 |x::xs,u::us,h,f=>by obtain⟨y,e,r⟩:=f 0 u rfl;have e':x=y:=y07 e;subst e';exact .cons r (zcy (Nat.succ.inj h) fun i v hv=>f (i+1) v hv)
theorem z5e{α β:Type}{F:α->β->Prop}:∀{l:List α}{r:List β}{i:Nat}{a:α}{b:β},Paired F l r->l[i]?=some a->r[i]?=some b->F a b
 |_,_,0,_,_,.cons q _,ha,hb=>by
  have e1:=y07 ha;have e2:=y07 hb;rw[<-e1,<-e2];exact q
 |_,_,_+1,_,_,.cons _ t,ha,hb=>z5e t ha hb
def z8d(hc:X.calm=true):z3j X (.type "list") (fun xs H Q=>∃(p:Addr) (kvs:List (Key × V)),xs=[.ref p]/\H p=some (.dK kvs)/\∀l,H l=none->Q (.ref l) (upd H l (.lst (kvs.map fun e=>kV e.1)))):=by
 intro pins s σ H xs us Q I r h;obtain⟨p,kvs,rfl,hp,q⟩:=h;obtain⟨u,rfl,ru⟩:=z4r r;cases ru;obtain⟨hz,hsm,vs,hkv,hd⟩:=I.hok p _ hp;obtain⟨ep,hat⟩:=hd.dictAt;have hlen:vs.length=kvs.length:=hkv.length.symm;refine PySem.W.kdl_call (PySem.W.kdl_dict (knd:=z1o X.prog X.w) (kvs:=vs) (ep:=ep) hsm) (I.ok.hd hc) hat (by rw[hlen];exact hz) fun h' tk acc c' hk hl hacc=>?_;have hv:z1h (kvs.map fun e=>kV e.1) acc.toList:=by
  refine zcy (by rw[y0K,hacc.1,hlen,y01]) fun i v hi=>?_;obtain⟨k,x,hx,hks⟩:=hacc.2 i v (by rw[<-y0B];exact hi);have hil:i<kvs.length:=by rw[<-hlen];exact(y05.mp hx).1
  refine⟨kV kvs[i].1,by rw[y04,y00 hil];rfl,?_⟩;have hp2:=z5e hkv (y00 hil) hx;rw[hp2.1];rcases z0X hks with⟨j,t,e1,rfl⟩|⟨y,t,e1,rfl⟩
  .have:k=Sum.inl j:=e1;rw[this];exact⟨t,rfl⟩
  .have:k=Sum.inr y:=e1;rw[this];exact⟨t,rfl⟩
 exact⟨.ref _,_,I.laid (o:=.lst (kvs.map fun e=>kV e.1)) (fun b u e=>hk b u e) (y0f _) ⟨by rw[y01];exact hz,acc.toList,c',hv,by simpa using hl⟩,rfl,q _ I.fresh⟩
end
section
variable{prog:Program}{w:World}{A:Around}{R:Result->Shared->Prop}{s:Shared}
def z8v{kx vx tg iter:Expr}{scope:Scope}{pos:Pos}{it:Value}{d:Addr}{env:Env}(I:Nat->Shared->Prop)
  (z3u:∀n s,I n s->wpAny (model prog w) A (pyNext it) (fun r s1=>match r with
   |none=>R (.ok .next) s1
   |some v=>wpAny (model prog w) A (letOwnedTupleGo tg it v) (fun _ s2=>wpAny (model prog w) A (assign tg env v) (fun _ s3=>wpAny (model prog w) A (eval kx env) (fun x s4=>wpAny (model prog w) A (eval vx env) (fun y s5 =>
     wpAny (model prog w) A (dictSet d x y) (fun _ s6=>∃m,m<n/\I m s6) noE s5) noE s4) noE s3) noE s2) noE s1) noE s)
  (n:Nat) (h:I n s):codeAny (model prog w) A (.compLoop (.DictComp kx vx [⟨tg,iter,[],0⟩] scope pos) 0 it (.ref d) env) R s:=by
 have no:∀(P:yyE)(a:Value)(b:Shared),noE a b->P a b:=fun _ _ _ z=>False.elim z;refine codeAny_loop rfl I (fun n s hI=>?_) n h;show wpAny _ _ ((compTurn (.DictComp kx vx [⟨tg,iter,[],0⟩] scope pos) 0 it (.ref d) env).onRaise
  (fun x=>do noteFrame x env;theTreesLotGoes x)) _ _ s
 refine wpAny_noted ?_;rw[compTurn_dict];refine y03 (y2H (y03 (y0Y (z3u n s hI) (fun r s1 h1=>?_) (no _))));cases r with
 |none=>exact y0g h1
 |some v =>
  refine y03 (y0Y h1 (fun _ s2 h2=>?_) (no _));refine y03 (y0Y h2 (fun _ s3 h3=>?_) (no _));refine y03 (y0g ?_);exact y03 (y03 (y0Y h3 (fun x s4 h4=>y03 (y1I (y0Y h4 (fun y s5 h5=>y03 (y2H (y1I (y0Y h5 (fun _ s6 h6=>y0g ⟨rfl,h6⟩) (no _))))) (no _)))) (no _)))
end
def zbG(ix:List (Option Nat))(J:It)(g:TG)(tk tv:TE)(σ:St)(l:Addr)(H0:Hp)(Qe:Hp->Prop):Prop :=
 ∃W:Nat->Nat->List (Key × V)->Hp->Prop,(∃m,W 0 m [] H0)/\∀i m ys H,W i m ys H->H l=some (.dK ys) ->
  (J.stop i H/\Qe H)\/(J.go i H/\ys.length<sizeLine/\∃N:List (Key × V)->Hp->Prop,(∀zs H',N zs H'->∃m',m'<m/\W (i+1) m' zs H')/\∀x H',J.yld i H x H'->g x (z0T ix σ) H' fun σ2 H2=>tk σ2 H2 fun y H3=>tv σ2 H3 fun v H4 =>
   ∃k,y=kV k/\H4 l=some (.dK ys)/\N (z2c ys k v) (upd H4 l (.dK (z2c ys k v))))
def zgl(ix:List (Option Nat))(wi:TI)(g:TG)(tk tv:TE):TE:=fun σ H Q=>wi σ H fun J H1=>∀l,H1 l=none->zbG ix J g tk tv σ l (upd H1 l (.dK [])) fun H'=>Q (.ref l) H'
section
variable{X:Cx}{pins:yyP}{σ:St}{H:Hp}{s:Shared}{N:List Str}{ix:List (Option Nat)}{scope:Scope}{kx vx iter tg:Expr}{pos:Pos}{g:TG}{tk tv:TE}{E:yyE}
def zbZ{a:Addr}{kvs:List (Key × V)}{k:Key}{u r:Value}{v:V}{A:Around}{Q:Unit->Shared->Prop}(I:Inv X pins σ H s)(e:H a=some (.dK kvs))(hl:kvs.length<sizeLine)(ry:z0Z (kV k) u)(rv:z0Z v r)(h:∀s',Inv X pins σ (upd H a (.dK (z2c kvs k v))) s'->Q () s') : wpAny (model X.prog X.w) A (dictSet a u r) Q E s:=by
 obtain⟨z,hd,vs,rel,dd⟩:=zeL I.hok e;have hz:vs.length<=sizeLine:=by rw[<-rel.length];exact z
 have hl:(z2c kvs k v).length<=sizeLine:=by have:=z1L kvs k v;lia
 refine wpAny_dictSet_pairs (hsz:=hz) (z94 ry) dd fun h' dd' hs=>h _ ?_;have he:∃q,h'.get? a=some q:=let⟨q,_,_,hq,_⟩:=dd';⟨q,hq⟩;exact z4c I (by rw[e];exact y2I) hs he (zcn hl hd (rel.put k rv) dd')
def z8i{it:Addr}{fp:List Addr}{tn:Nat->Heap->Prop}{J:It}{Qe:Addr->Hp->Prop}{RR:Value->Addr->Result->Shared->Prop}(hc:X.calm=true)(S:z0W X.N X.env.scope N ix scope)(hg:∀cl C ex s H,PG (z0E X N scope cl C ex s H) tg g)(hk:∀cl C ex s H,PE (z0E X N scope cl C ex s H) kx tk)(hv:∀cl C ex s H,PE (z0E X N scope cl C ex s H) vx tv)(I:Inv X pins σ H s)(T:zcE X.prog X.w X.K tg J fp it tn)(st:tn 0 s.heap)(hf:∀b∈fp,z3O X pins H b)(hw:∀l,H l=none->zbG ix J g tk tv σ l (upd H l (.dK [])) (Qe l))(hRR:∀l C s' H' m,s'.heap.Ns C m->Inv X pins σ H' s'->z3O X pins H' C->Qe l H'->RR (.ref l) C (.ok .next) s') : wpAny (model X.prog X.w) X.A newDict (fun acc s3=>wpAny (model X.prog X.w) X.A (newFunctionEnv scope X.env.globals (z0r X.env.cells scope.names []) [] X.env.qual none .none (some X.env)) (fun cenv s4 => codeAny (model X.prog X.w) X.A (.compStart (.DictComp kx vx [⟨tg,iter,[],0⟩] scope pos) 0 (.ref it) acc { cenv with scope:=relabel scope X.env }) (RR acc cenv.locals) s4) E s3) E s:=by
 have hlt:∀b∈fp,b<s.heap.objs.size:=fun b hb=>by obtain⟨o,e,_⟩:=T.obj 0 s.heap st b hb;exact y0h e
 have hl0:H s.heap.objs.size=none:=I.fresh;obtain⟨W,⟨m0,w0⟩,z3u⟩:=hw s.heap.objs.size hl0;refine y1e ?_;generalize hs3:({ s with heap:=s.heap.push { cls:=.type "dict",data:=.dict #[] } }:Shared)=s3;have I3:Inv X pins σ (upd H s.heap.objs.size (.dK [])) s3:=by rw[<-hs3];exact I.laid (a:=s.heap.objs.size) (o:=.dK []) (t':=s.toks) (fun _ _ q=>y06 _ q) (y0f _) (z6j s.heap I.big)
 have k3:∀b o,s.heap.get? b=some o->s3.heap.get? b=some o:=fun b o e=>by rw[<-hs3];exact y06 _ e
 have sz3:s3.heap.objs.size=s.heap.objs.size+1:=by rw[<-hs3];exact y1K ..
 have lnfp:s.heap.objs.size∉fp:=fun hb=>y1H _ (hlt _ hb);have st3:tn 0 s3.heap:=T.keep 0 _ _ st fun b _ o e=>k3 b o e;have hf3:∀b∈fp,z3O X pins (upd H s.heap.objs.size (.dK [])) b:=fun b hb=>by obtain⟨f0,f⟩:=hf b hb;have nb:b≠s.heap.objs.size:=fun e=>lnfp (by rw[<-e];exact hb);exact⟨by rw[z06 nb];exact f0,f⟩
 have hlt3:∀b∈fp,b<s3.heap.objs.size:=fun b hb=>by rw[sz3];exact y3e (hlt b hb)
 clear hs3;refine y2P S.nocell (by intro y hy;simp at hy) (fun h1 hn1 hb1=>?_) S.kind;have hk1:∀b o,s3.heap.get? b=some o->h1.get? b=some o:=fun b o e =>
  (hb1.2 b (y0C (y0h e))).trans (y06 _ e)
 have J0:Inv (z0E X N scope (z0r X.env.cells scope.names []) s3.heap.objs.size fp s3 (upd H s.heap.objs.size (.dK []))) [] (z0T ix σ) (upd H s.heap.objs.size (.dK [])) { s3 with heap:=h1,toks:=s3.toks+([]:List (Str × Value)).length } :=
  z6Y I3 S rfl hf3 hlt3 hn1 hk1
 have st1:tn 0 h1:=T.keep 0 _ _ st3 fun b _ o e=>hk1 b o e;have fpY:∀{Hc:Hp},(∀b∈fp,Hc b=none)->∀b∈fp,z3O (z0E X N scope (z0r X.env.cells scope.names []) s3.heap.objs.size fp s3 (upd H s.heap.objs.size (.dK []))) [] Hc b:=fun{Hc} hn b hb=>by obtain⟨_,f1,f2,_,f4,_⟩:=hf3 b hb;refine⟨hn b hb,y0C (hlt3 b hb),fun hb2=>(y0x.mp (I3.stkSub b hb2)).elim f1 f2,.inl hb,fun x c e=>f4 x c (z1C I3 S e),fun p hp=>absurd (show p∈([]:yyP)from hp) (by simp)⟩
 have loop:∀s4:Shared,s4=({ s3 with heap:=h1,toks:=s3.toks+([]:List (Str × Value)).length }:Shared)->codeAny (model X.prog X.w) X.A (.compLoop (.DictComp kx vx [⟨tg,iter,[],0⟩] scope pos) 0 (.ref it) (.ref s.heap.objs.size)
   (compEnvC scope (z0r X.env.cells scope.names []) s3.heap.objs.size X.env)) (RR (.ref s.heap.objs.size) s3.heap.objs.size) s4:=by
  intro s4 hs4;subst hs4;refine z8v (fun n s'=>∃i ys Hc,Inv (z0E X N scope (z0r X.env.cells scope.names []) s3.heap.objs.size fp s3 (upd H s.heap.objs.size (.dK []))) [] (z0T ix σ) Hc s'/\tn i s'.heap/\(∀b∈fp,Hc b=none)/\Hc s.heap.objs.size=some (.dK ys)/\W i n ys Hc) ?_ m0 ⟨0,[],_,J0,st1,fun b hb=>(hf3 b hb).1,z01,w0⟩;rintro n s5 ⟨i,ys,Hc,J5,st5,fr5,hl5,w5⟩;rcases z3u i n ys Hc w5 hl5 with⟨stop,qe⟩|⟨go,hz,NN,hNN,step⟩
  .refine thn (T.done (z0E X N scope (z0r X.env.cells scope.names []) s3.heap.objs.size fp s3 (upd H s.heap.objs.size (.dK []))) rfl rfl rfl hc i [] s5 _ Hc noE J5 (fpY fr5) st5 stop) fun r s6 hz8=>?_;obtain⟨hr,J6⟩:=hz8;subst hr;have I6:Inv X pins σ Hc s6:=I3.call' (ch:=fp) J6.os J6.base J6.hok J6.bare fun b hb=>by
    obtain⟨_,f1,f2,f3,f4,f5⟩:=hf3 b hb;exact⟨f3,f1,f4,f5⟩
   obtain⟨m6,hn6,_⟩:=J6.loc;exact hRR _ _ s6 Hc m6 hn6 I6 (I3.fpOk (y0f _) J6.free) qe
  .refine thn (T.item (z0E X N scope (z0r X.env.cells scope.names []) s3.heap.objs.size fp s3 (upd H s.heap.objs.size (.dK []))) rfl rfl rfl hc i [] s5 _ Hc noE J5 (fpY fr5) st5 go) fun r s6 hz8=>?_;obtain⟨u,hr,h6⟩:=hz8;subst hr;refine thn h6 fun _ s7 hz8=>?_;obtain⟨x,H7,J7,r7,y7,st7,fr7⟩:=hz8;have J7':=J7.pinned (fpY fr7) (T.obj _ _ st7);refine thn (hg _ _ _ _ _ _ s7 _ H7 x u _ J7' r7 (step x H7 y7)) fun _ s8 hz8=>?_;obtain⟨σ8,H8,J8,q8⟩:=hz8;refine thn (hk _ _ _ _ _ _ s8 σ8 H8 _ J8 q8) fun yk s9 hz8=>?_;obtain⟨vk,H9,J9,r9,q9⟩:=hz8;refine thn (hv _ _ _ _ _ _ s9 σ8 H9 _ J9 q9) fun yv s95 hz8=>?_;obtain⟨v,H95,J95,r95,kk,ek,hl9,n9⟩:=hz8;obtain⟨m',hm',w9⟩:=hNN _ _ n9;subst ek;refine zbZ (X:=z0E X N scope (z0r X.env.cells scope.names []) s3.heap.objs.size fp s3 (upd H s.heap.objs.size (.dK []))) J95 hl9 hz r9 r95 fun s10 J10=>?_;have len8:(z0T ix σ).length=σ8.length:=by
    rw[J10.len];unfold z0T;rw[y01];exact S.len
   refine⟨m',hm',i+1,z2c ys kk v,_,?_,T.keep _ _ _ st7 fun b hb o e=>(J10.pin (b,o) (y0j _ (y0j _ (z1i hb e)))).1,fun b hb=>?_,z01,w9⟩
   .exact z3a I3 S J10
   .obtain⟨o,e,d⟩:=T.obj _ _ st7 b hb;exact(J10.pin (b,o) (y0j _ (y0j _ (z1i hb e)))).2.1
 exact codeAny_compStart_dict (loop _ rfl) (T.self _ 0 _ _ _ st1 (loop _ rfl))
def zdF{wi:TI}{i:Nat}{x:Str}{spos pos':Pos}(hc:X.calm=true)(S:z0W X.N X.env.scope N ix scope)(hi:PI X tg iter wi)(hg:∀cl C ex s H,PG (z0E X N scope cl C ex s H) tg g)(hk:∀cl C ex s H,PE (z0E X N scope cl C ex s H) kx tk)(hv:∀cl C ex s H,PE (z0E X N scope cl C ex s H) vx tv)(hN:X.N.Nodup)(hx:X.N[i]?=some x)(hl:X.env.scope.names.lookup x=some .local)(hsw:swapsWith (.DictComp kx vx [⟨tg,iter,[],0⟩] scope pos) (some (.Name x pos')) spos.line X.env=pure true:=by rfl)(hs:∀x,foldedSetIterable iter X.env x=pure x:=by intro _;rfl):PS X (.Assign [.Name x pos'] (.DictComp kx vx [⟨tg,iter,[],0⟩] scope pos) spos) (zgB (zgl ix wi g tk tv) (zcx i)):=by
 intro pins s σ H D I h;rw[exec_Assign_Name_used _ _ _ _ hsw];refine y03 (y2H (y03 ?_));show wpAny _ _ (comprehension (.DictComp kx vx [⟨tg,iter,[],0⟩] scope pos) scope X.env _ newDict false (eval iter X.env) (some (assign (.Name x pos') X.env))>>=fun _=>pure ()) _ _ s;refine y03 (y0Y (y2h (use:=some (assign (.Name x pos') X.env)) (Q:=fun _ s'=>SP X pins D .next s') rfl hs (z1s (z0P I S)) S.kind S.names
  (thn (hi pins s σ H _ I h) fun v s1 h1=>thn h1 fun itv s2 h2=>?_)) (fun _ s' q=>y0g (y0g q)) fun _ _ e=>e)
 obtain⟨it,fp,tn,J,H2,e,I2,T,st2,f2,hw⟩:=h2;subst e;refine z8i (RR:=fun acc C=>compPost (model X.prog X.w) X.A X.xe (some (assign (.Name x pos') X.env)) (fun _ s'=>SP X pins D .next s') acc C) hc S hg hk hv I2 T st2 f2 hw fun l C s' H' m hn I' fC q=>?_;obtain⟨c0,c1,c2,c3,c4,c5⟩:=fC;show wpAny _ _ (assign (.Name x pos') X.env (.ref l)) _ _ _;refine wpAny_assign_Name (z4T I' hN hx (.inl hl) (v:=.ref l) rfl (fun s'' I'' hz8=>?_) (.inr hl));obtain⟨a,sb,ha⟩:=hz8;have haC:C≠a:=by
  rcases ha with ha|ha
  .rw[ha];exact c1
  .exact fun z=>c4 x a ha z.symm
 refine⟨m,hn.sameBut sb haC,fun h' hs'=>?_⟩;exact⟨_,H',I''.turned (t':=s''.toks) (fun b o hb e=>(hs'.2 b hb).trans e) c0 c1 c3 c4 c5,q⟩
end
section
variable{X:Cx}{pins:yyP}{σ:St}{H:Hp}{s:Shared}{N:List Str}{ix:List (Option Nat)}{scope:Scope}{elt iter tg cx:Expr}{pos:Pos}{g:TG}{tt:TT}{te:TE}{E:yyE}
end
def za2{K:yyF}{a l:Addr}{xs:List V}{ix:List (Option Nat)}{g:TG}{tk tv:TE}{σ:St}{H0:Hp}{Qe:Hp->Prop}(Pv:Nat->List (Key × V)->Hp->Prop)(h0:Pv 0 [] H0)(hl:∀i ys H,i<=xs.length->Pv i ys H->SqL K H a xs)(hz:∀i ys H,i<xs.length->Pv i ys H->ys.length<sizeLine)(hs:∀i x ys H,xs[i]?=some x->Pv i ys H->H l=some (.dK ys)->g x (z0T ix σ) H fun σ2 H2=>tk σ2 H2 fun y H3=>tv σ2 H3 fun v H4=>∃k,y=kV k/\H4 l=some (.dK ys)/\Pv (i+1) (z2c ys k v) (upd H4 l (.dK (z2c ys k v))))(hd:∀ys H,Pv xs.length ys H->H l=some (.dK ys)->Qe H):zbG ix (Itl K a) g tk tv σ l H0 Qe:=by
 refine⟨fun i m ys H=>m=xs.length-i/\i<=xs.length/\Pv i ys H,⟨_,rfl,y0y _,h0⟩,fun i m ys H w hy=>?_⟩;obtain⟨rfl,hi,p⟩:=w;have q:=hl i ys H hi p;by_cases e:i=xs.length
 .subst e;exact .inl ⟨⟨xs,q,y0f _⟩,hd ys H p hy⟩
 .have hi':i<xs.length:=by lia
  refine .inr ⟨⟨xs,xs[i],q,by simp[hi']⟩,hz i ys H hi' p,fun zs H'=>Pv (i+1) zs H',fun zs H' z=>⟨xs.length-(i+1),by lia,rfl,by lia,z⟩,fun x H' y=>?_⟩;obtain⟨e',y⟩:=y;subst e';exact hs i x ys _ (y xs q) p hy
open PySem.SeqAt
section
variable{X:Cx}(K:yyF)
def zfa(hK:X.K=K)(hu:X.A.units+64<cLine):OpR X (compareOp .NotEq) (fun x y H Q=>∃(ds es:List D),Dr K H (.lst ds) x/\Dr K H (.lst es) y/\ds.length=es.length/\D.okL ds es/\D.depL ds<=50/\Q (.bl (!D.eq (.lst ds) (.lst es))) H):=by
 subst hK;intro pins s σ H x y v u Q I rx ry h;obtain⟨ds,es,hx,hy,hln,o,hd,q⟩:=h;simp only[Dr]at hx hy;obtain⟨l,vs,rfl,q1,r⟩:=hx;obtain⟨b,us,rfl,q2,r'⟩:=hy;cases rx;cases ry;obtain⟨its,rv,pl,_⟩:=I.list q1;obtain⟨itt,rv',pl',_⟩:=I.list q2;have e1:its.toArray.size=ds.length:=by rw[r.length,rv.length];simp
 have e2:itt.toArray.size=es.length:=by rw[r'.length,rv'.length];simp
 have R:=RcNeAt.lists (A:=X.A) (e:=D.at_ ds es) pl.isList pl'.isList (by rw[e1,e2,hln]) (by lia) (fun j h1 h2=>by
  have l1:=rv.length;have l2:=rv'.length;have l3:=r.length;have l4:=r'.length;have h1':j<its.length:=by simpa using h1
  have h2':j<itt.length:=by simpa using h2
  have e1:ds[j]?=some ds[j]:=y00 (by lia);have e2:es[j]?=some es[j]:=y00 (by lia);obtain⟨x1,g1,d1⟩:=r.get e1;obtain⟨x2,g2,d2⟩:=r'.get e2;obtain⟨u1,k1,z5⟩:=rv.get g1;obtain⟨u2,k2,z6⟩:=rv'.get g2;have z1:u1=its.toArray[j]:=by rw[y00 h1']at k1;have:=y07 k1;simpa using this.symm
  have z2:u2=itt.toArray[j]:=by rw[y00 h2']at k2;have:=y07 k2;simpa using this.symm
  have z3:D.at_ ds es j=D.eq ds[j] es[j]:=by unfold D.at_;rw[e1,e2]
  rw[z3,<-z1,<-z2];exact(zgo I 50 X.A.in1 (y0r (D.depL_get e1) hd) (by show X.A.units+1+50<cLine;lia) d1 d2 (D.okL_get o e1 e2) z5 z6).1)
 rw[e1,D.all_eqL' hln]at R;have e3:D.eq (.lst ds) (.lst es)=D.eqL ds es:=by simp only[D.eq]
 rw[e3]at q;exact R _ _ _ _ ⟨.bl _,H,I,rfl,q⟩
end
end L2
namespace Gu
open PySem L2
def z1v(rows:List Row)(i:Nat):List (List Row):=(List.range i).map fun(j:Nat)=>shr (swM rows (j:Int))
def zcv(rows:List Row)(i:Nat):z1v rows (i+1)=z1v rows i++[shr (swM rows (i:Int))]:=by unfold z1v;rw[y3a,y0e];rfl
def z39(rows:List Row)(i:Nat):(z1v rows i).length=i:=by unfold z1v;rw[y01,y1G]
def fmD(gs:List (List Row)):List D:=gs.map fun g=>D.tup (z0i g)
def z4B(gs:List (List Row))(g:List Row):fmD (gs++[g])=fmD gs++[D.tup (z0i g)]:=by unfold fmD;rw[y0e];rfl
def z1G(gs:List (List Row)):(fmD gs).length=gs.length:=y01 _
theorem D.depL_le{k:Nat}:∀{ds:List D},(∀d∈ds,D.dep d<=k)->D.depL ds<=k
 |[],_=>by simp only[D.depL];lia
 |d::ds,h=>by have h1:=h d (by simp);have h2:=D.depL_le (ds:=ds) fun x hx=>h x (by simp[hx]);simp only[D.depL];lia
def z17{H:Hp}{l:Addr}{ys:List V}{o:HO}(e:H l=some (.lst ys)):∀b xs,H b=some (.tup xs)->upd H l o b=some (.tup xs):=fun b xs h=>by rw[z06 (fun z=>by subst z;rw[e]at h;cases h)];exact h
def kvT(o:List Int):List (Key × V):=o.map fun r=>(Sum.inl r,V.bl true)
def z8X(o:List Int):(kvT o).length=o.length:=y01 _
def zdg(o:List Int):(kvT o).map (fun e=>kV e.1)=o.map V.int:=by unfold kvT;rw[y0L];rfl
def zb3(o:List Int)(g:Int):((kvT o).any fun kv=>decide (kv.1=Sum.inl g))=decide (g∈o):=by
 unfold kvT;rw[List.any_map,y20];simp only[y1S,Function.comp,y2J];constructor
 .rintro⟨x,hx,e⟩;rw[<-y3B e];exact hx
 .intro h;exact⟨g,h,rfl⟩
def z8l(o:List Int)(g:Int):z2c (kvT o) (Sum.inl g) (V.bl true)=kvT (z2b o g):=by
 unfold z2c;rw[zb3];by_cases h:g∈o
 .rw[if_pos (y1J h),z0o h];unfold kvT;rw[y0L];refine y0H fun x _=>?_;simp
 .rw[if_neg (by simp[h]),z0p h];unfold kvT;rw[y0e];rfl
def zbI(o:List Int)(g:Int):(z2N (kvT o) (Sum.inl g)).isSome=decide (g∈o):=by unfold z2N;rw[y2g,<-zb3,y20,List.find?_isSome,y1S]
def z81{l:List Int}{i:Nat}{x:Int}(h:l[i]?=some x)(o:List Int):z08 o (l.take (i+1))=z2b (z08 o (l.take i)) x:=by rw[y0v,h];exact z1w _ _ _
def z6D(K:yyF):Sp:=fun vs H Q _=>∃(v:V)(a:Addr)(rows:List Row)(n:Nat)(rs:List Int),vs=[v,.ref a]/\Dr K H (D.tup (z0i rows)) v/\H a=some (.lst (rs.map V.int))/\z0e n rows/\rows.length<=60/\(∀r∈rs,0<=r/\r<(rows.length:Int))/\∀(b:Addr)(H':Hp),z0d H H'->H b=none->H' b=some (.lst ((z33 rows rs).map V.int))->Q (.ref b) H'
def z6x(K:yyF):Sp:=fun vs H Q _=>∃(v:V)(rows:List Row)(n:Nat)(r:Int),vs=[v,.int r]/\Dr K H (D.tup (z0i rows)) v/\z0e n rows/\2<=n/\rows.length<=60/\0<=r/\r<(rows.length:Int)/\∀b:Bool,(b=true↔Lp n rows r)->∀H',z0d H H'->Q (.bl b) H'
def z5J(M:List Row)(r:Int):z33 M [r]=z0w (row M r).2:=by unfold z33;simp
def zbc{n:Nat}{M:List Row}(G:z0e n M){rs:List Int}(h:∀r∈rs,0<=r/\r<(M.length:Int)):∀x∈z33 M rs,0<=x/\x<(M.length:Int):=fun x hx=>by obtain⟨r,hr,hg⟩:=zaa.mp hx;obtain⟨a,b⟩:=h r hr;exact G.go _ (z0c a b) x hg
end Gu
namespace L2
open PySem PySem.Spec PyProof.Rows
end L2
namespace Gu
open PySem L2
end Gu
namespace L2
open PySem PySem.Spec PyProof.Rows PySem.SeqAt
open PySem.AutoSeq1 (wpAny_loadPart')
section
variable{X:Cx}(K:yyF)
end
section
variable{X:Cx}{e st:Expr}{te ts:TE}{pos p2:Pos}
end
end L2
namespace Gu
open PySem L2
def z7p{n:Nat}{M:List Row}(G:z0e n M){g:Int}(g0:0<=g)(g1:g<(M.length:Int)):∀(w:List Int),LW n w->z1E (shr (swM M g)) 0 w=z1E M g w:=fun w hw=>by
 have Gs:=z0O G g0 g1;rw[z3V Gs hw];have key:∀(w:List Int)(x:Int),LW n w->0<=x->x<(M.length:Int)->z1E (swM M g) x w=z1E M (sw g x) w:=fun w=>by
  induction w with
  |nil=>intro x _ _ _;rfl
  |cons l w ih =>
   intro x h x0 x1;have hl:=h l y0m;have hs:=z8k g0 g1 x0 x1;have hm:=z0c hs.1 hs.2;show(row (swM M g) x).1.getD l.toNat 0::z1E (swM M g) ((row (swM M g) x).2.getD l.toNat 0) w=_;rw[z6q x0 x1];have hgl:=G.len _ hm;have e2:(z7N (sw g) (row M (sw g x))).2.getD l.toNat 0=sw g ((row M (sw g x)).2.getD l.toNat 0):=by unfold z7N;rw[y02,y02,y04,y00 (by rw[hgl];lia)];rfl
   have hgo:=G.go _ hm ((row M (sw g x)).2.getD l.toNat 0) (by rw[y02,y00 (by rw[hgl];lia)];exact y0c _);have hsg:=z8k g0 g1 hgo.1 hgo.2;rw[e2,ih _ (fun q hq=>h q (y09 _ hq)) hsg.1 hsg.2,z8W];rfl
 rw[key w 0 hw (y0Q 0) (by have:=G.some;lia)];have:sw g 0=g:=by have h1:=z6c g;have h2:=z8W g g;rw[h1]at h2;exact h2
 rw[this]
theorem zgf{M:List Row}{P:Int->Prop}(hP:∀c,P c->∀g∈(row M c).2,P g):∀(f i:Nat)(o:List Int),(∀c∈o,P c)->∀c∈bfs M f i o,P c
 |0,_,_,h=>h
 |f+1,i,o,h=>by
  cases eo:o[i]? with
  |none=>rw[z35 (by rw[y1L]at eo;exact eo)];exact h
  |some r =>
   rw[z36 eo];refine zgf hP f (i+1) _ fun c hc=>?_;rcases z0A.mp hc with z|z
   .exact h c z
   .exact hP r (h r (y0z eo)) c z
def z6b{n:Nat}{one other:List Row}(G:z0e n one)(G':z0e n other)(h4:one.length*other.length<=4000)(h:∀w,LW n w->z1E one 0 w=z1E other 0 w):shr one=shr other:=by
 have GP:=zdh G G' h4;obtain⟨L,cl⟩:=z0m GP;have hP:∀c∈z0b (prM one other),(0<=c/\c<((one.length*other.length:Nat):Int))/\∀w,LW n w->z1E one (c/(other.length:Int)) w=z1E other (c%(other.length:Int)) w:=by
  refine zgf (fun c ⟨rc,hc⟩ g hg=>?_) _ _ _ fun c hc=>?_
  .have:c=0:=by simpa using hc
   subst this;refine⟨⟨y0Q 0,?_⟩,fun w hw=>by rw[Int.zero_ediv,Int.zero_emod];exact h w hw⟩;have:=GP.some;rw[z2O]at this;lia
  .have rg:=GP.go _ (z0c rc.1 (by rw[z2O];exact rc.2)) g hg;rw[z2O]at rg;refine⟨rg,fun w hw=>?_⟩;rw[z93 rc.1 rc.2]at hg;obtain⟨⟨a0,a1⟩,b0,b1⟩:=pix (one:=one) (other:=other) rc.1 rc.2;have hR:=z0c a0 a1;have hS:=z0c b0 b1;obtain⟨k,hk,rfl⟩:=y0b.mp (show g∈(List.range (row one (c/(other.length:Int))).2.length).map _ from hg);have hk':k<n:=by have:=y1d.mp hk;rw[G.len _ hR]at this;exact this
   obtain⟨_,e0,e1⟩:=z3T (G'.len _ hS) (G'.go _ hS) hk';rw[(ze8 e0 e1).1,(ze8 e0 e1).2];have:=hc ((k:Int)::w) (zbt hk' hw);exact(List.cons.inj this).2
 have hall:∀c∈z0b (prM one other),(row one (c/(other.length:Int))).1=(row other (c%(other.length:Int))).1:=fun c hc=>by obtain⟨rc,hw⟩:=hP c hc;obtain⟨⟨a0,a1⟩,b0,b1⟩:=pix (one:=one) (other:=other) rc.1 rc.2;have l1:=(G.perm _ (z0c a0 a1)).len;have l2:=(G'.perm _ (z0c b0 b1)).len;refine y1U (by rw[l1,l2]) fun k k1 k2=>?_;have:=(List.cons.inj (hw [(k:Int)] (zbt (by lia) fun _ z=>by simp at z))).1;rw[y0E,y02,y02,y00 k1,y00 k2]at this;exact this
 have m1:Mor (prM one other) one (z0b (prM one other)) fun c=>c/(other.length:Int):=fun c hc=>by
  have rc:=L.rg c hc;rw[z2O]at rc;rw[z93 rc.1 rc.2];obtain⟨⟨a0,a1⟩,b0,b1⟩:=pix (one:=one) (other:=other) rc.1 rc.2;have hR:=z0c a0 a1;have hS:=z0c b0 b1;show row one (c/(other.length:Int))=_;generalize row one (c/(other.length:Int))=R at *;generalize row other (c%(other.length:Int))=S at *;show R=(R.1,(pgo _ R S).map _);unfold pgo;rw[y0L];refine y2x rfl ?_;refine y1U (by rw[y01,y1G]) fun k k1 k2=>?_;have hk':k<n:=by rw[G.len R hR]at k1;exact k1
  obtain⟨q,_,_⟩:=z3T (G.len R hR) (G.go R hR) hk';obtain⟨_,e0,e1⟩:=z3T (G'.len S hS) (G'.go S hS) hk';rw[y18,List.getElem_range];show _=(R.2.getD k 0*_+S.2.getD k 0)/_;rw[(ze8 e0 e1).1];rw[y00 k1]at q;exact y07 q
 have m2:Mor (prM one other) other (z0b (prM one other)) fun c=>c%(other.length:Int):=fun c hc=>by
  have rc:=L.rg c hc;rw[z2O]at rc;rw[z93 rc.1 rc.2];have ha:=hall c hc;obtain⟨⟨a0,a1⟩,b0,b1⟩:=pix (one:=one) (other:=other) rc.1 rc.2;have hR:=z0c a0 a1;have hS:=z0c b0 b1;show row other (c%(other.length:Int))=_;generalize row one (c/(other.length:Int))=R at *;generalize row other (c%(other.length:Int))=S at *;show S=(R.1,(pgo _ R S).map _);unfold pgo;rw[y0L,ha];refine y2x rfl ?_;refine y1U (by rw[y01,y1G,G.len R hR,G'.len S hS]) fun k k1 k2=>?_;have hk':k<n:=by rw[G'.len S hS]at k1;exact k1
  obtain⟨q,e0,e1⟩:=z3T (G'.len S hS) (G'.go S hS) hk';rw[y18,List.getElem_range];show _=(R.2.getD k 0*_+S.2.getD k 0)%_;rw[(ze8 e0 e1).2];rw[y00 k1]at q;exact y07 q
 rw[<-z5i GP G (by rw[Int.zero_ediv]) m1,<-z5i GP G' (by rw[Int.zero_emod]) m2]
end Gu
namespace L2
open PySem PySem.Spec PyProof.Rows
def base(m:Nat)(q:Nat × Nat)(d:Option Nat):SetTable.Probe:={ j:=q.1,more:=SetTable.runEnd m q.1-q.1,i:=q.1,perturb:=q.2,dummy:=d }
def Within(t:SetTable)(p:SetTable.Probe):Prop:=p.j+p.more<=t.mask/\p.dummy=none
section
variable{prog:Program}{w:World}{A:Around}{E:yyE}{s:Shared}
end
section
variable{prog:Program}{w:World}{A:Around}{E:yyE}{s:Shared}{a x:Addr}{es:Array (Int × Value)}{ep:Nat}{t:SetTable}{zhx:List D}{d:D}
end
section
variable{prog:Program}{w:World}{A:Around}{E:yyE}{s:Shared}{a x:Addr}{zhx:List D}{d:D}
end
section
variable{prog:Program}{w:World}{A:Around}{R:Result->Shared->Prop}{I:Addr}{fp wr:List Addr}{G:Array GenState->Array GenState->Prop}{n:Nat}{P:Nat->Value->Prop}{St:Nat->Shared->Prop}
end
section
variable{prog:Program}{w:World}{A:Around}{E:yyE}{s:Shared}
end
open PySem.SeqAt
section
variable{X:Cx}(K:yyF)
end
end L2
namespace Gu
open PySem L2
def zal{n:Nat}{F:List Row}(G:z0e n F)(hf:shr F=F):∀i,i<=F.length->(z1v F i).Nodup:=fun i hi=>by
 unfold z1v;rw[y1b,y1u];refine y1R (fun{a b} ha hb hab e=>?_) List.pairwise_lt_range;have ha':=y1d.mp ha;have hb':=y1d.mp hb;have alk:Alk n F (a:Int) (b:Int):=fun w lw=>by rw[<-z9V G (by lia) (by lia) lw,<-z9V G (by lia) (by lia) lw,e]
 have:=zdE G hf (by lia) (by lia) (by lia) (by lia) alk;lia
def zfX(Ts:List Tb)(K:yyF)(H:Hp)(Q:VK)(ds:List D):Prop:=∀(l:Addr)(H':Hp)(us:List V),H l=none->SameL Ts H H'->H' l=some (.lst us)->DrL K H' ds us->Q (.ref l) H'
def z2J(Ts:List Tb)(K:yyF):Sp:=fun vs H Q _=>∃(v:V)(rows:List Row)(n:Nat),vs=[v]/\z3P Ts H/\Dr K H (D.tup (z0i rows)) v/\z0e n rows/\n<=60/\rows.length<=60/\zfX Ts K H Q (fmD (z1v rows rows.length))
def z3U(Ts:List Tb)(K:yyF):Sp:=fun vs H Q _=>∃(v:V)(rows:List Row)(n:Nat),vs=[v]/\z3P Ts H/\Dr K H (D.tup (z0i rows)) v/\z0e n rows/\2<=n/\n<=60/\rows.length<=60/\zfX Ts K H Q (fmD (z0U n rows rows.length))
def zdL{n:Nat}{rows:List Row}(G:z0e n rows)(hn:n<=60):∀d∈fmD (z1v rows rows.length),D.key d/\D.dep d<=8/\∃l,d=D.tup l:=fun d hd=>by obtain⟨g,hg,rfl⟩:=y0b.mp hd;obtain⟨j,hj,rfl⟩:=y0b.mp hg;have hj':=y1d.mp hj;obtain⟨a,b⟩:=zaO (z0O G (s:=(j:Int)) (by lia) (by lia)) hn;have:=z2S [shr (swM rows (j:Int))];simp only[y0l,y0S,D.keyL]at this;exact⟨this.1,by lia,_,rfl⟩
end Gu
namespace L2
open PySem
def SameL.free2{Ts:List Tb}{H H':Hp}{l:Addr}(s:SameL Ts H H')(h:H' l=none):H l=none\/∃ps,H l=some (.tbl ps):=by
 cases e:H l with
 |none=>exact .inl rfl
 |some o =>
  by_cases c:∃ps,o=.tbl ps
  .obtain⟨ps,rfl⟩:=c;exact .inr ⟨ps,rfl⟩
  .have:=s.at_ l o (fun ps z=>c ⟨ps,z⟩) e;rw[h]at this;cases this
end L2
namespace Gu
open PySem L2
def z6o{n:Nat}{M:List Row}(G:z0e n M){g:Int}(g0:0<=g)(g1:g<(M.length:Int)){w:List Int}(hw:LW n w):z1E (swM M g) 0 w=z1E M g w:=by rw[<-z3V (z0O G g0 g1) hw,z7p G g0 g1 w hw]
def zfc{n:Nat}{A:List Row}(G:z0e n A)(h60:A.length<=60){r:Int}(r0:0<=r)(r1:r<(A.length:Int)){w:List Int}(hw:LW n w):shr (swM (shr (swM A r)) (goW (shr (swM A r)) 0 w))=shr (swM A (goW A r w)):=by have Gg:=z0I (z0O G r0 r1);have hg:=z26 (z0O G r0 r1);rw[z1z]at hg;have e1:=fun(v:List Int)(hv:LW n v)=>z7p G r0 r1 (w++v) (hw.app hv);generalize shr (swM A r)=g at Gg hg e1⊢;obtain⟨x0,x1⟩:=z1I Gg hw (y0Q 0) (by have:=Gg.some;lia);obtain⟨y0,y1⟩:=z1I G hw r0 r1;refine z6b (z0O Gg x0 x1) (z0O G y0 y1) (by rw[z1z,z1z];exact y0r (y1i (y0r hg h60) h60) (by decide)) fun v hv=>?_;rw[z6o Gg x0 x1 hv,z6o G y0 y1 hv];have e:=e1 v hv;rw[z1Q,z1Q]at e;exact(List.append_inj e (by rw[z1O,z1O])).2
def z7z{n:Nat}{A:List Row}(G:z0e n A)(h8:A.length<=8){v:List Int}(hv:LW n v):z1E A 0 (z1E (shr (z1H A)) 0 v)=v:=by
 have GC:=z0I (z0v G);have hc:(shr (z1H A)).length<=8:=by have:=z26 (z0v G);rw[z1m]at this;lia
 have e:=z9N GC hc hv;rw[z8n (z0v G),z5g G,z3V G (z29 GC v 0 hv (y0Q 0) (by have:=GC.some;lia))]at e;exact e
def z7m{n:Nat}{A:List Row}(G:z0e n A)(h8:A.length<=8){u:List Int}(hu:LW n u):shr (swM (shr (z1H A)) (goW (shr (z1H A)) 0 (z1E A 0 u)))=shr (z1H (shr (swM A (goW A 0 u)))):=by
 have GC:=z0I (z0v G);have hc:(shr (z1H A)).length<=8:=by have:=z26 (z0v G);rw[z1m]at this;lia
 have hw:=z29 G u 0 hu (y0Q 0) (by have:=G.some;lia);obtain⟨r0,r1⟩:=z1I G hu (y0Q 0) (by have:=G.some;lia);have e1:=fun(v:List Int)(hv:LW n v)=>z9N G h8 (hu.app hv);generalize shr (z1H A)=C at GC hc e1⊢;have Gg:=z0I (z0O G r0 r1);have hg:=z26 (z0O G r0 r1);rw[z1z]at hg;have e2:=fun(v:List Int)(hv:LW n v)=>z7p G r0 r1 v hv;generalize shr (swM A (goW A 0 u))=g at Gg hg e2⊢;obtain⟨j0,j1⟩:=z1I GC hw (y0Q 0) (by have:=GC.some;lia);refine z6b (z0O GC j0 j1) (z0v Gg) (by rw[z1z,z1m];exact y0r (y1i hc (y0r hg h8)) (by decide)) fun v hv=>?_;rw[z6o GC j0 j1 hv,<-z3V (z0v Gg) hv];have Gz:=z0I (z0v Gg);have hz:=z29 Gz v 0 hv (y0Q 0) (by have:=Gz.some;lia);have e3:=z7z Gg (by lia) hv;generalize z1E (shr (z1H g)) 0 v=z at hz e3⊢;rw[e2 z hz]at e3;have e:=e1 z hz;rw[z1Q A,z1Q,e3]at e;exact(List.append_inj e (by rw[z1O,z1O])).2
def z1u{F f:List Row}:f∈z1v F F.length↔∃r:Int,0<=r/\r<(F.length:Int)/\f=shr (swM F r):=by
 unfold z1v;rw[y0b];constructor
 .rintro⟨j,hj,rfl⟩;exact⟨(j:Int),by lia,by have:=y1d.mp hj;lia,rfl⟩
 .rintro⟨r,r0,r1,rfl⟩;exact⟨r.toNat,y1d.mpr (by lia),by rw[y2n r0]⟩
def z7E{n:Nat}{A:List Row}(G:z0e n A)(hf:shr A=A)(h8:A.length<=8)(f:List Row):f∈z1v (shr (z1H A)) (shr (z1H A)).length↔∃g∈z1v A A.length,f=shr (z1H g):=by
 have GC:=z0I (z0v G);constructor
 .intro h;obtain⟨j,j0,j1,rfl⟩:=z1u.mp h;obtain⟨w,hw,rfl⟩:=z37 GC (z3m (z0v G)) j0 j1;have hu:=z29 GC w 0 hw (y0Q 0) (by have:=GC.some;lia);have e:=z7m G h8 hu;rw[z7z G h8 hw]at e;obtain⟨r0,r1⟩:=z1I G hu (y0Q 0) (by have:=G.some;lia);exact⟨_,z1u.mpr ⟨_,r0,r1,rfl⟩,e⟩
 .rintro⟨g,hg,rfl⟩;obtain⟨r,r0,r1,rfl⟩:=z1u.mp hg;obtain⟨u,hu,rfl⟩:=z37 G hf r0 r1;have hw:=z29 G u 0 hu (y0Q 0) (by have:=G.some;lia);obtain⟨j0,j1⟩:=z1I GC hw (y0Q 0) (by have:=GC.some;lia);exact z1u.mpr ⟨_,j0,j1,(z7m G h8 hu).symm⟩
def z7h{n:Nat}{A B:List Row}(GA:z0e n A)(GB:z0e n B)(hA:A.length<=8)(hB:B.length<=8)(hP:(shr (z0u A B)).length<=60){w:List Int}(hw:LW n w) : shr (swM (shr (z0u A B)) (goW (shr (z0u A B)) 0 w))=shr (z0u (shr (swM A (goW A 0 w))) (shr (swM B (goW B 0 (z1E A 0 w))))):=by have h4:A.length*B.length<=4000:=y0r (y1i hA hB) (by decide);have GP:=z0I (z18 GA GB h4);have e1:=fun(v:List Int)(hv:LW n v)=>z6z GA GB h4 (hw.app hv);generalize shr (z0u A B)=P at GP hP e1⊢;have hz:=z29 GA w 0 hw (y0Q 0) (by have:=GA.some;lia);obtain⟨a0,a1⟩:=z1I GA hw (y0Q 0) (by have:=GA.some;lia);obtain⟨b0,b1⟩:=z1I GB hz (y0Q 0) (by have:=GB.some;lia);obtain⟨x0,x1⟩:=z1I GP hw (y0Q 0) (by have:=GP.some;lia);have Ga:=z0I (z0O GA a0 a1);have Gb:=z0I (z0O GB b0 b1);have la:=z26 (z0O GA a0 a1);have lb:=z26 (z0O GB b0 b1);rw[z1z]at la lb;have e2:=fun(v:List Int)(hv:LW n v)=>z7p GA a0 a1 v hv;have e3:=fun(v:List Int)(hv:LW n v)=>z7p GB b0 b1 v hv;generalize shr (swM A (goW A 0 w))=sa at Ga la e2⊢;generalize shr (swM B (goW B 0 (z1E A 0 w)))=sb at Gb lb e3⊢;have h64:sa.length*sb.length<=64:=y1i (y0r la hA) (y0r lb hB);refine z6b (z0O GP x0 x1) (z18 Ga Gb (by lia)) (by rw[z1z,z31];exact y0r (y1i hP h64) (by decide)) fun v hv=>?_;rw[z6o GP x0 x1 hv,<-z3V (z18 Ga Gb (by lia)) hv,z6z Ga Gb (by lia) hv,e2 v hv,e3 _ (z29 GA v _ hv a0 a1)];have e:=e1 v hv;rw[z1Q,z1Q A,z1Q B]at e;exact(List.append_inj e (by rw[z1O,z1O,z1O])).2
def z3L{n:Nat}{F f:List Row}:f∈z0U n F F.length↔∃r:Int,0<=r/\r<(F.length:Int)/\Lp n F r/\f=shr (swM F r):=by
 unfold z0U;rw[y0b];constructor
 .rintro⟨j,hj,rfl⟩;obtain⟨h1,h2⟩:=y3C.mp hj;exact⟨(j:Int),by lia,by have:=y1d.mp h1;lia,z6e.mp h2,rfl⟩
 .rintro⟨r,r0,r1,h,rfl⟩;refine⟨r.toNat,y3C.mpr ⟨y1d.mpr (by lia),z6e.mpr ?_⟩,by rw[y2n r0]⟩;rw[y2n r0];exact h
def z3c(u:List Int):Nat->List Int
 |0=>[]
 |k+1=>z3c u k++u
theorem z76{n:Nat}{u:List Int}(h:LW n u):∀k,LW n (z3c u k)
 |0=>fun _ z=>by simp[z3c]at z
 |k+1=>(z76 h k).app h
theorem z71(u:List Int):∀k,(z3c u k).length=k*u.length
 |0=>by simp[z3c]
 |k+1=>by rw[z3c,y0a,z71 u k,Nat.succ_mul]
theorem z9M(u:List Int)(i:Nat):∀k,z3c u (i+k)=z3c u i++z3c u k
 |0=>by simp[z3c]
 |k+1=>by rw[<-y2K,z3c,z9M u i k,y0p];rfl
theorem zdW{M:List Row}{x:Int}{u:List Int}(h:goW M x u=x):∀k,goW M x (z3c u k)=x
 |0=>rfl
 |k+1=>by rw[z3c,z2W,zdW h k,h]
def zhm{f:Nat->Int}{m:Nat}(h:∀k,0<=f k/\f k<(m:Int)):∃i j,i<j/\f i=f j:=by
 refine y1M fun no=>?_;have nd:((List.range (m+1)).map f).Nodup:=by rw[y1b,y1u];exact List.Pairwise.imp (fun{a b} hab e=>no ⟨a,b,hab,e⟩) List.pairwise_lt_range
 have:=z23 (n:=m) nd fun x hx=>by obtain⟨k,_,rfl⟩:=y0b.mp hx;exact h k
 rw[y01,y1G]at this;lia
def zap{n:Nat}{A B:List Row}(GA:z0e n A)(GB:z0e n B)(hA:A.length<=8)(hB:B.length<=8)(hP:(shr (z0u A B)).length<=60){f:List Row}(h:f∈z0U n (shr (z0u A B)) (shr (z0u A B)).length) : ∃g∈z0U n A A.length,∃e∈z0U n B B.length,f=shr (z0u g e):=by
 have h4:A.length*B.length<=4000:=y0r (y1i hA hB) (by decide);have GP:=z0I (z18 GA GB h4);have sect:=fun(w:List Int)(hw:LW n w)=>z7h GA GB hA hB hP hw;obtain⟨x,x0,x1,⟨u,une,lu,eu⟩,rfl⟩:=z3L.mp h;obtain⟨w,hw,ex⟩:=z37 GP (z3m (z18 GA GB h4)) x0 x1;have wk:∀k,LW n (w++z3c u k):=fun k=>hw.app (z76 lu k);have xk:∀k,goW (shr (z0u A B)) 0 (w++z3c u k)=x:=fun k=>by rw[z2W,ex,zdW eu]
 have zk:=fun k=>z29 GA (w++z3c u k) 0 (wk k) (y0Q 0) (by have:=GA.some;lia);have ra:=fun k=>z1I GA (wk k) (y0Q 0) (by have:=GA.some;lia);have rb:=fun k=>z1I GB (zk k) (y0Q 0) (by have:=GB.some;lia);obtain⟨i,j,hij,e⟩:=zhm (f:=fun k=>goW A 0 (w++z3c u k)*(B.length:Int)+goW B 0 (z1E A 0 (w++z3c u k))) (m:=A.length*B.length) fun k=>by
  obtain⟨a0,a1⟩:=ra k;obtain⟨b0,b1⟩:=rb k;exact⟨by have:=Int.mul_nonneg a0 (Int.natCast_nonneg B.length);lia,by have:(goW A 0 (w++z3c u k)+1)*(B.length:Int)<=(A.length:Int)*(B.length:Int):=Int.mul_le_mul_of_nonneg_right (by lia) (by lia);rw[Int.add_mul,Int.one_mul]at this;rw[Int.natCast_mul];lia⟩
 have ea:goW A 0 (w++z3c u i)=goW A 0 (w++z3c u j):=by have h1:=ze8 (g:=goW A 0 (w++z3c u i)) (rb i).1 (rb i).2;have h2:=ze8 (g:=goW A 0 (w++z3c u j)) (rb j).1 (rb j).2;rw[<-h1.1,<-h2.1,e]
 have eb:goW B 0 (z1E A 0 (w++z3c u i))=goW B 0 (z1E A 0 (w++z3c u j)):=by have h1:=ze8 (g:=goW A 0 (w++z3c u i)) (rb i).1 (rb i).2;have h2:=ze8 (g:=goW A 0 (w++z3c u j)) (rb j).1 (rb j).2;rw[<-h1.2,<-h2.2,e]
 obtain⟨d,rfl⟩:∃d,j=i+(d+1):=⟨j-i-1,by lia⟩;have ejw:w++z3c u (i+(d+1))=(w++z3c u i)++z3c u (d+1):=by rw[z9M,y0p]
 have ne:∀v:List Int,v.length=(d+1)*u.length->v≠[]:=fun v hv z=>by
  rw[z,y31,Nat.succ_mul]at hv;have:u.length=0:=by lia
  exact une (List.length_eq_zero_iff.mp this)
 rw[ejw,z2W A (w++z3c u i)]at ea;rw[ejw,z1Q A (w++z3c u i),z2W B (z1E A 0 (w++z3c u i))]at eb;have hs:=sect _ (wk i);rw[xk i]at hs;obtain⟨a0,a1⟩:=ra i;obtain⟨b0,b1⟩:=rb i;refine⟨_,z3L.mpr ⟨_,a0,a1,⟨z3c u (d+1),ne _ (z71 _ _),z76 lu _,ea.symm⟩,rfl⟩,_,z3L.mpr ⟨_,b0,b1,⟨_,ne _ ?_,z29 GA _ _ (z76 lu (d+1)) a0 a1,eb.symm⟩,rfl⟩,hs⟩;rw[z1O,z71]
def zbp{n:Nat}{A B:List Row}(GA:z0e n A)(GB:z0e n B)(hA:A.length<=8)(hB:B.length<=8)(hP:(shr (z0u A B)).length<=60){f:List Row}(h:f∈z1v (shr (z0u A B)) (shr (z0u A B)).length) : ∃g∈z1v A A.length,∃e∈z1v B B.length,f=shr (z0u g e):=by have h4:A.length*B.length<=4000:=y0r (y1i hA hB) (by decide);have GP:=z0I (z18 GA GB h4);obtain⟨x,x0,x1,rfl⟩:=z1u.mp h;obtain⟨w,hw,rfl⟩:=z37 GP (z3m (z18 GA GB h4)) x0 x1;have hz:=z29 GA w 0 hw (y0Q 0) (by have:=GA.some;lia);obtain⟨a0,a1⟩:=z1I GA hw (y0Q 0) (by have:=GA.some;lia);obtain⟨b0,b1⟩:=z1I GB hz (y0Q 0) (by have:=GB.some;lia);exact⟨_,z1u.mpr ⟨_,a0,a1,rfl⟩,_,z1u.mpr ⟨_,b0,b1,rfl⟩,z7h GA GB hA hB hP hw⟩
end Gu
namespace L2
open PySem PySem.Spec PyProof.Rows PySem.SeqAt
open PySem.AutoSeq1 (wpAny_loadPart')
def zdk(A:Around)(s:Shared)(y x:Value)(b:Bool):Prop :=
 ∀(prog:Program)(w:World)(E:yyE)(Q:yyE),Q (.bool b) s->wpAny (model prog w) A (richCompare .Lt y x) Q E s
def zdk.ints{A:Around}{s:Shared}(a:Int)(t:Tok)(b:Int)(u:Tok):zdk A s (.int a t) (.int b u) (decide (a<b)):=fun prog w E Q h =>
 richCompare_gives (op:=.Lt) (typeIs_int s _ t) (typeIs_int s _ u) F.slot_int_lt F.entry_int_lt (F.args_int_lt_2 _ _) (gives_int_lt _ _ t u) (fun x=>nomatch x) h
def zc6(e r:Nat->Bool)(fin:Bool):Nat->Nat->Bool
 |0,_=>fin
 |k+1,i=>if e i=true then zc6 e r fin k (i+1)else r i
def za7(l b:Addr)(xs ys:Array Value)(n n2:Nat)(dd dd2:Option Addr)(sl sl2:Array (Option Value))(e r:Nat->Bool) : Meets (Builtin.«tuple.__lt__» ⟨[.ref l,.ref b],[]⟩) (fun A R s=>s.heap.get? l=some { cls:=.type "tuple",dict:=dd,data:=.seq xs n,slots:=sl }/\s.heap.get? b=some { cls:=.type "tuple",dict:=dd2,data:=.seq ys n2,slots:=sl2 } /\ (∀j (h1:j<xs.size) (h2:j<ys.size),EqAt A.in1 s xs[j] ys[j] (e j))/\(∀j (h1:j<xs.size) (h2:j<ys.size),e j=false->zdk A.in1 s xs[j] ys[j] (r j)) /\ R (.ok (.ret (.bool (zc6 e r (decide (xs.size<ys.size)) (min xs.size ys.size) 0)))) s) :=
 .of_wp fun prog w A R s h=>by
  obtain⟨hp,g,d,tk,os⟩:=s;obtain⟨hl,hb,he,hlt,h⟩:=h;have f2:=AutoSeq1.sub_tuple_tuple
  wp_walk using wpAny_loadPart' hl,wpAny_loadPart' hb,wpAny_forIn_list _ (fun z1T b s'=>b.1=none/\s'=⟨hp,g,d,tk,os⟩/\∃i k,i+k=min xs.size ys.size/\z1T=(xs.toList.zip ys.toList).drop i/\R (.ok (.ret (.bool (zc6 e r (decide (xs.size<ys.size)) k i)))) ⟨hp,g,d,tk,os⟩) _
  case _ =>
   rintro⟨y,x⟩ z1T b' s' ⟨hn,rfl,i,k,hik,hz,hR⟩;have hi:i<(xs.toList.zip ys.toList).length:=by
    rcases y2E i (xs.toList.zip ys.toList).length with q|q
    .exact q
    .rw[y1l q]at hz;cases hz
   have hm:i<min xs.size ys.size:=by simpa using hi
   have h1:i<xs.size:=by lia
   have h2:i<ys.size:=by lia
   rw[y19 hi]at hz;injection hz with hyx hrest;obtain⟨e1,e2⟩:y=xs[i]/\x=ys[i]:=by simpa using hyx
   subst e1 e2;obtain⟨k,rfl⟩:∃k',k=k'+1:=⟨k-1,by lia⟩;refine y03 (he i h1 h2 prog w _ _ ?_);unfold zc6 at hR;cases c:e i with
   |true =>
    rw[c,if_pos rfl]at hR
    wp_walk
    exact⟨rfl,rfl,i+1,k,by lia,hrest,hR⟩
   |false =>
    rw[c,if_neg (by decide)]at hR;simp only[Bool.not_false,y2b];refine y03 (y2i (y03 (hlt i h1 h2 c prog w _ _ ?_)));refine y03 (y0g (y0g ?_));exact y0g ⟨_,rfl,hR⟩
  case fin =>
   rintro⟨b1,b2⟩ s' ⟨hn,rfl,i,k,hik,hz,hR⟩;simp only at hn;subst hn;have hk:k=0:=by
    rcases Nat.eq_zero_or_pos k with q|q
    .exact q
    .have hi:i<(xs.toList.zip ys.toList).length:=by simp;lia
     rw[y19 hi]at hz;cases hz
   subst hk
   wp_walk
   exact⟨_,rfl,by simpa[Builtin.Tuple.tupleCompareSizes,zc6]using hR⟩
  case h =>
   exact⟨rfl,rfl,0,_,y2F _,rfl,h⟩
def zdk.tuples{A:Around}{s:Shared}{l b:Addr}{xs ys:Array Value}{e r:Nat->Bool}(hl:s.heap.IsTuple l xs)(hb:s.heap.IsTuple b ys)(hu:A.units<cLine)(he:∀j (h1:j<xs.size) (h2:j<ys.size),EqAt A.in1 s xs[j] ys[j] (e j))(hlt:∀j (h1:j<xs.size) (h2:j<ys.size),e j=false->zdk A.in1 s xs[j] ys[j] (r j)) : zdk A s (.ref l) (.ref b) (zc6 e r (decide (xs.size<ys.size)) (min xs.size ys.size) 0):=fun prog w E Q h=>by
 obtain⟨⟨cls,dd,data,sl⟩,ho,hc,n,hd⟩:=id hl;obtain⟨⟨cls2,dd2,data2,sl2⟩,ho2,hc2,n2,hd2⟩:=id hb;simp only at hc hd hc2 hd2;subst hc hd hc2 hd2;exact richCompare_meets_room (op:=.Lt) ⟨_,ho,rfl⟩ ⟨_,ho2,rfl⟩ F.slot_tuple_lt F.entry_tuple_lt (F.args_tuple_lt_2 _ _) (za7 l b xs ys n n2 dd dd2 sl sl2 e r)
  ⟨ho,ho2,he,hlt,show Value.bool _≠Value.notImplemented/\Q (.bool _) s from⟨(fun z=>nomatch z),h⟩⟩ hu
mutual
def D.lt:D->D->Bool
 |.int a,.int b=>decide (a<b)
 |.tup a,.tup b=>D.ltL a b
 |_,_=>false
def D.ltL:List D->List D->Bool
 |d::ds,e::es=>if D.eq d e=true then D.ltL ds es else D.lt d e
 |[],_::_=>true
 |_,[]=>false
end
theorem D.keyL_get:∀{ds:List D}{j:Nat}{d:D},D.keyL ds->ds[j]?=some d->D.key d
 |[],_,_,_,h=>by simp at h
 |_::_,0,_,h,e=>by
  simp only[D.keyL]at h;simp at e;subst e;exact h.1
 |_::ds,j+1,_,h,e=>by simp only[D.keyL]at h;exact D.keyL_get (ds:=ds) h.2 (by simpa using e)
def D.ltAt(ds es:List D)(j:Nat):Bool:=D.lt (ds.getD j .non) (es.getD j .non)
theorem z9q:∀(ds es:List D)(n:Nat)(d0 e0:List D),d0.length=n->e0.length=n->zc6 (D.at_ (d0++ds) (e0++es)) (D.ltAt (d0++ds) (e0++es)) (decide (ds.length<es.length)) (min ds.length es.length) n=D.ltL ds es
 |[],[],n,d0,e0,_,_=>by simp[zc6,D.ltL]
 |[],e::es,n,d0,e0,_,_=>by simp[zc6,D.ltL]
 |d::ds,[],n,d0,e0,_,_=>by simp[zc6,D.ltL]
 |d::ds,e::es,n,d0,e0,hd,he=>by
  have ih:=z9q ds es (n+1) (d0++[d]) (e0++[e]) (by simp[hd]) (by simp[he]);rw[y0p,y0p,y3p,y3p]at ih;have hm:min (d::ds).length (e::es).length=min ds.length es.length+1:=by simp only[y0X];lia
  have hf:decide ((d::ds).length<(e::es).length)=decide (ds.length<es.length):=by simp
  rw[hm,hf];unfold zc6;have g1:(d0++d::ds)[n]?=some d:=by rw[y13 (by lia),hd,y3M];rfl
  have g2:(e0++e::es)[n]?=some e:=by rw[y13 (by lia),he,y3M];rfl
  have g3:D.at_ (d0++d::ds) (e0++e::es) n=D.eq d e:=by unfold D.at_;rw[g1,g2]
  have g4:D.ltAt (d0++d::ds) (e0++e::es) n=D.lt d e:=by unfold D.ltAt;rw[y02,y02,g1,g2];rfl
  rw[g3,g4,ih];simp only[D.ltL]
section
variable{X:Cx}{pins:yyP}{s:Shared}{σ:St}{H:Hp}
def zh2(I:Inv X pins σ H s):∀(n:Nat)(A:Around){d e:D}{x y:V}{v u:Value},D.dep d<=n->A.units+n+1<cLine->Dr X.K H d x->Dr X.K H e y->D.ok d e->D.key d->z0Z x v->z0Z y u->zdk A s v u (D.lt d e):=by
 intro n;induction n with
 |zero =>
  intro A d e x y v u hd hu hx hy o hord rx ry;cases d<;>simp only[D.key]at hord
  .cases e<;>simp only[D.ok]at o;simp only[Dr]at hx hy;subst hx hy;obtain⟨t,rfl⟩:=rx;obtain⟨t',rfl⟩:=ry;simp only[D.lt];exact zdk.ints _ _ _ _
  .simp only[D.dep]at hd;lia
 |succ n ih =>
  intro A d e x y v u hd hu hx hy o hord rx ry;cases d with
  |int a=>exact ih A (by simp only[D.dep];lia) (by lia) hx hy o hord rx ry
  |tup ds =>
   cases e<;>simp only[D.ok]at o;rename_i es;have hdp:D.depL ds<=n:=by simp only[D.dep]at hd;lia
   simp only[D.key]at hord;simp only[Dr]at hx hy;obtain⟨l,vs,rfl,q,r⟩:=hx;obtain⟨b,us,rfl,q',r'⟩:=hy;cases rx;cases ry;obtain⟨its,rv,pl,_⟩:=I.tuple (SqT.of q);obtain⟨itt,rv',pl',_⟩:=I.tuple (SqT.of q');have e1:its.toArray.size=ds.length:=by rw[r.length,rv.length];simp
   have e2:itt.toArray.size=es.length:=by rw[r'.length,rv'.length];simp
   have hin:A.in1.units+n+1<cLine:=by show A.units+1+n+1<cLine;lia
   have at2:∀j (h1:j<its.toArray.size) (h2:j<itt.toArray.size),∃(dj ej:D)(x1 x2:V),ds[j]?=some dj/\es[j]?=some ej/\Dr X.K H dj x1/\Dr X.K H ej x2/\z0Z x1 its.toArray[j]/\z0Z x2 itt.toArray[j]:=fun j h1 h2=>by
    have g1:ds[j]?=some (ds[j]'(by lia)):=y00 (by lia);have g2:es[j]?=some (es[j]'(by lia)):=y00 (by lia);obtain⟨x1,k1,d1⟩:=r.get g1;obtain⟨x2,k2,d2⟩:=r'.get g2;obtain⟨u1,m1,q1⟩:=rv.get k1;obtain⟨u2,m2,q2⟩:=rv'.get k2;have h1':j<its.length:=by simpa using h1
    have h2':j<itt.length:=by simpa using h2
    rw[y00 h1']at m1;rw[y00 h2']at m2;cases m1;cases m2;exact⟨_,_,x1,x2,g1,g2,d1,d2,by simpa using q1,by simpa using q2⟩
   have z:=zdk.tuples (A:=A) (e:=D.at_ ds es) (r:=D.ltAt ds es) pl pl' (by lia) (fun j h1 h2=>?_) (fun j h1 h2 _=>?_)
   .rw[e1,e2]at z;have:=z9q ds es 0 [] [] rfl rfl;rw[y1z,y1z]at this;rw[this]at z;simp only[D.lt];exact z
   .obtain⟨dj,ej,x1,x2,g1,g2,d1,d2,q1,q2⟩:=at2 j h1 h2;have z3:D.at_ ds es j=D.eq dj ej:=by unfold D.at_;rw[g1,g2]
    rw[z3];exact(zgo I n A.in1 (y0r (D.depL_get g1) hdp) (by lia) d1 d2 (D.okL_get o g1 g2) q1 q2).1
   .obtain⟨dj,ej,x1,x2,g1,g2,d1,d2,q1,q2⟩:=at2 j h1 h2;have z3:D.ltAt ds es j=D.lt dj ej:=by unfold D.ltAt;rw[y02,y02,g1,g2];rfl
    rw[z3];exact ih A.in1 (y0r (D.depL_get g1) hdp) hin d1 d2 (D.okL_get o g1 g2) (D.keyL_get hord g1) q1 q2
  |non=>simp only[D.key]at hord
  |bl _=>simp only[D.key]at hord
  |str _=>simp only[D.key]at hord
  |lst _=>simp only[D.key]at hord
end
end L2
namespace L2
open PySem PySem.Spec PyProof.Rows PySem.SeqAt PySem.W
open PySem.AutoSeq1 (wpAny_loadPart')
section
variable{prog:Program}{w:World}{A:Around}{E:yyE}{s:Shared}{α:Type}{kf:Keyed->α}{lt:α->α->Bool}{kd:SortKind}
def za0{a kS:Addr}{vs ks:List Value}{e e1:Nat}{P:PySem.Fin->Shared->Prop}(T:z5w lt)(ha:s.heap.get? a=some (seqObj "list" #[] e1))(hk:s.heap.get? kS=some (seqObj "list" ks.toArray e))(hka:kS≠a)(hl:ks.length=vs.length)(hz:vs.length<=sizeLine)(hkk:2<=vs.length->wpAny (model prog w) A (keyKind' ks.toArray) (fun k s'=>s'=s/\k=kd) E s)(hA:z9T prog w A E s kd (ks.zip vs) kf lt)(h:∀xs:List Keyed,xs.Perm (ks.zip vs)->Sl kf lt xs->P (.done (.ret .none)) { s with heap:=(s.heap.update kS (Obj.mapSeq fun _=>#[])).update a (Obj.mapSeq fun _=>(xs.map (·.2)).toArray) }) : wpAny (model prog w) A (ksk_end a false vs.toArray e1 (.ref kS) ks.toArray) P E s:=by
 have hzl:(ks.zip vs).length=vs.length:=by simp[hl]
 have s1:=y1r s.heap kS (Obj.mapSeq fun _=>(#[]:Array Value));have na1:(s.heap.update kS (Obj.mapSeq fun _=>(#[]:Array Value))).get? a=some (seqObj "list" #[] e1):=(s1.2 a hka.symm).trans ha;have tail:∀st:SortSt,(arrOf st).toList.Perm (ks.zip vs)->Sl kf lt (arrOf st).toList->failedOf st=none->wpAny (model prog w) A (ksk_tail a false e1 (.ref kS) st) P E s:=fun st hp hs hf=>by
  have hsz:(arrOf st).size=vs.length:=by rw[<-y0K,hp.length_eq,hzl]
  unfold ksk_tail;dsimp only;refine y03 (y2M hk rfl ?_ (by simpa[hl]using hz) (y0y _));refine y03 (wpAny_letGo ?_);refine y03 (seqEpoch_at na1 rfl ?_);refine y03 (y2M na1 rfl ?_ (y0y _) (by simp only[y0d,y1m,Array.size_map];lia));rw[hf];simp only[bne_self_eq_false,y0d,y1m];have e2:(Array.map (·.2) (arrOf st))=(((arrOf st).toList).map (·.2)).toArray:=by rw[<-Array.toList_map]
  have:=h _ hp hs;rw[<-e2]at this;exact y0g this
 unfold ksk_end;dsimp only;simp only[y0d,y1m];have hv:vs.toArray.size=vs.length:=by simp
 have ez:(ks.toArray.zip vs.toArray).toList=ks.zip vs:=by simp
 by_cases h2:vs.toArray.size<2
 .rw[if_pos h2,if_pos h2];refine y03 (y0g ?_);rw[StateT.run_pure];refine y03 (y0g ?_);refine tail (SortSt.mk' general' (ks.toArray.zip vs.toArray) #[] 7 none) ?_ ?_ rfl
  .show(ks.toArray.zip vs.toArray).toList.Perm _;rw[ez]
  .show Sl kf lt (ks.toArray.zip vs.toArray).toList;rw[ez];exact y1h.mpr fun i j hi hj hij=>by lia
 .rw[if_neg h2,if_neg h2];refine y03 (y0Y (hkk (by lia)) ?_ fun _ _ z=>z);rintro k s' ⟨rfl,rfl⟩;refine y03 (y0Y (z3A T hA (st:=SortSt.mk' k (ks.toArray.zip vs.toArray) #[] 7 none)
   (Q:=fun _ st'=>(arrOf st').toList.Perm (ks.zip vs)/\failedOf st'=none/\Sl kf lt (arrOf st').toList)
   (fun x hx=>by have:x∈(ks.toArray.zip vs.toArray).toList:=hx;rw[ez]at this;exact this) rfl rfl rfl fun st' a1 a2 a3=>⟨by have q:(arrOf st').toList.Perm (ks.toArray.zip vs.toArray).toList:=a1;rw[ez]at q;exact q,a2,a3⟩) ?_ fun _ _ z=>z)
  rintro⟨⟨⟩,st'⟩ s'' ⟨rfl,hp,hf,hs⟩;exact tail st' hp hs hf
end
section
variable{X:Cx}(K:yyF)
end
section
variable{P:Program}{w:World}
section
variable{M:Model}{A:Around}{E:yyE}{Q:Unit->Shared->Prop}{s:Shared}{fr:List Addr}{H1 H':Hp}{h1:Heap}{env:Env}{outer:List Env}{L ea C:Addr}{base:Heap}{fl:Value}
end
end
section
variable{X:Cx}{N:List Str}{scope:Scope}{cl:List (Str × Addr)}{C:Addr}{ex:List Addr}{s:Shared}{H:Hp}{E:XK}{pins:yyP}{σ:St}{H':Hp}{s':Shared}
end
section
variable{prog:Program}{w:World}{A:Around}{R:Result->Shared->Prop}{s:Shared}
end
section
variable{X:Cx}{pins:yyP}{σ:St}{H:Hp}{s:Shared}{N:List Str}{ix:List (Option Nat)}{scope:Scope}{elt iter tg:Expr}{pos:Pos}{g:TG}{te:TE}{E:yyE}
end
end L2
namespace Gu
open PySem L2
def lbf(g:Int->List Int):Nat->Nat->List Int->List Int
 |0,_,o=>o
 |f+1,i,o=>match o[i]? with
  |none=>o
  |some r=>lbf g f (i+1) (z08 o (g r))
def gof(W:List (List Int))(x:Int):List Int:=W.map fun w=>w.getD x.toNat 0
def cmp(L:Nat)(W:List (List Int))(x:Int):List Int:=lbf (gof W) (L+1) 0 [x]
section
variable{L:Nat}{W:List (List Int)}(hW:∀w∈W,IsP L w)
include hW
end
def led(L:Nat)(W:List (List Int))(x:Int):List Int:=(z0y L).filter fun y=>decide (y∈cmp L W x)
end Gu
namespace L2
open PySem PySem.Spec PyProof.Rows PySem.SeqAt
section
variable{prog:Program}{w:World}{A:Around}{E:yyE}{s:Shared}{T:String}{r d:Addr}{n:Nat}{P:Nat->Value->Prop}{OK:Heap->Prop}
def z8H{Q:List Value->Shared->Prop}(K:PySem.W.KdlSrc prog w T r d n P OK)(hh:A.handled=none)(hok:OK s.heap)(hn:n<=sizeLine)(hQ:∀h' tk acc,(∀b o,s.heap.get? b=some o->h'.get? b=some o)->ItemsOf P acc n->Q acc.toList { s with heap:=h',toks:=tk }):wpAny (model prog w) A (collect (.ref r)) Q E s:=by
 obtain⟨hr,hd⟩:=K.there _ hok;unfold collect;refine y03 (wpAny_runValue (y3F F.entry_proto_collect ?_));rw[y2Q F.plain_proto_collect _];show wpAny _ A.in1 (newList []>>=fun l=>again (.builtin "list.__iadd__" ⟨[l,.ref r],[]⟩)) _ _ s;refine y03 (y1e ?_);refine y0g ⟨plainId_quiet y3f _,y3F F.entry_list_iadd ?_⟩;rw[y2Q y3f _];have hS:(s.heap.push { cls:=.type "list",data:=.seq ([]:List Value).toArray }).get? s.heap.objs.size=some { cls:=.type "list",data:=.seq ([]:List Value).toArray }:=y0k _ rfl;show wpAny _ A.in1 (Builtin.List.listExtendWith (.ref s.heap.objs.size) (.ref r) (.ref s.heap.objs.size)) _ _ _;refine PySem.W.kdl_extend (R:=wants (fun v s'=>wpAny (model prog w) A (match v with
    |Value.ref a=>do
     match (<-load a).data with
      |Data.seq xs _=>pure xs.toList
      |_=>unsupported "internal:collect"
    |_=>unsupported "internal:collect") Q E s') E) (s:={ s with heap:=s.heap.push { cls:=.type "list",data:=.seq ([]:List Value).toArray } }) K hh (K.keep _ _ hok fun b _ o e=>y06 _ e) s.heap.objs.size (y2B hr) (y2B hd) _ 0 hS (fun h' tk acc c' hk hl hacc=>?_) hn
 show wpAny _ A (load s.heap.objs.size>>=_) _ _ _;refine y03 (wpAny_load hl (y0g (hQ h' tk acc (fun b o e=>hk b o (y0C (y0h e)) (y06 _ e)) hacc)))
end
section
variable{X:Cx}(K:yyF)
end
def zay(h:Heap)(d:Addr)(ks:List Value)(ep:Nat):Prop:=∃o es,h.get? d=some o/\o.ExactDict/\o.data=.dict es ep/\es.toList.map (·.key)=ks
section
variable{prog:Program}{w:World}{A:Around}{E:yyE}{s:Shared}{d it:Addr}{ks:List Value}{ep i:Nat}
def zay.at'{h h':Heap}(x:zay h d ks ep)(k:∀o,h.get? d=some o->h'.get? d=some o):zay h' d ks ep:=let⟨o,es,e,r⟩:=x;⟨o,es,k o e,r⟩
def zay.typeIs(x:zay s.heap d ks ep):s.TypeIs (.ref d) "dict":=let⟨o,_,ho,hc,_⟩:=x;⟨o,ho,hc.1⟩
def zay.lt{h:Heap}(x:zay h d ks ep):d<h.objs.size:=let⟨_,_,ho,_⟩:=x;y0h ho
def zey{Q:yyE}(hd:(d==sysModules)=false)(hm:zay s.heap d ks ep)(hQ:Q (.ref s.heap.objs.size) { s with heap:=s.heap.push { cls:=.type "dict_keyiterator",data:=.fields #[.ref d,.int 0 0,.int ks.length 0,.int ep 0] } }):wpAny (model prog w) A (pyIter (.ref d)) Q E s:=by
 have hT:=hm.typeIs;obtain⟨o,es,ho,hc,hdat,hp⟩:=hm;have hsz:es.size=ks.length:=by rw[<-hp,y01,y0K]
 refine wpAny_pyIter_slot hT F.slot_dict_iter (y1A F.slot_dict_iter hT F.entry_dict_iter ?_ (F.args_dict_iter_1 _));unfold Builtin.«dict.__iter__» Builtin.Dict.dictSlotNone;refine y03 (y03 (wpAny_notOrdered_dict hT (y0g ?_)));show wpAny _ _ (Builtin.Dict.showsAll d>>=_) _ _ s;unfold Builtin.Dict.showsAll;rw[if_neg (by rw[hd];exact y0R)];refine y03 (y0g (y03 (wpAny_dictEntries ho hdat (y03 (wpAny_dictEpoch ho hdat ?_)))));refine y03 (y1e (y0g ⟨_,rfl,"dict_keyiterator",_,⟨_,y0k _ rfl,rfl⟩,y2A.lookup,?_⟩));simpa[rawInt,hsz]using hQ
def zaD{Q:Option Value->Shared->Prop}(hh:A.handled=none)(hit:s.heap.IsKeyIter it d i ks.length ep)(hm:zay s.heap d ks ep)(h1:∀v h',ks[i]?=some v->h'.IsKeyIter it d (i+1) ks.length ep->Heap.SameBut it s.heap h'->Q (some v) { s with heap:=h' })(h2:ks[i]?=none->∀h',Heap.ExtBut it s.heap h'->Q none { s with heap:=h' }):wpAny (model prog w) A (pyNext (.ref it)) Q E s:=by
 have hT:=hit.typeIs;obtain⟨o,ho,hc,hd⟩:=id hit;obtain⟨od,es,hod,hcd,hdd,hp⟩:=hm;have hsz:es.size=ks.length:=by rw[<-hp,y01,y0K]
 unfold pyNext;refine y03 (y35 (y1t (name:=Str.ofString "__next__") hT y2A
  (y1A y2A hT F.entry_dict_keyiterator_next ?_ (F.args_dict_keyiterator_next_1 _))))
 refine y03 (y0g (y03 (y03 ?_)));first|refine y03 (y2p hT (y0g ?_))|refine y03 (y2W hT (y0g ?_))
 refine y03 (wpAny_fieldsOf ho hd ?_);simp only[show Builtin.Dict_items.ownsTuple "dict_keyiterator"=false by decide,y0d,y1m];show wpAny _ _ (if(Value.ref d==Value.none)=true then _ else _) _ _ s;rw[if_neg (show ¬((Value.ref d==Value.none)=true)from y0R)];refine y03 (y0g (y03 (wpAny_dictEntries hod hdd ?_)));rw[if_neg (by rw[hsz];simp)];refine y03 (y0g (y03 (wpAny_dictEpoch hod hdd ?_)));rw[if_neg (by simp)];refine y0g ?_;rcases y2E i es.size with hlt|hge
 .simp only[show ¬((i:Int)<0)from by lia,y1m,y0E,y0i hlt];refine y03 ?_;first|refine y03 (y2p hT (y0g ?_))|refine y03 (y2W hT (y0g ?_))
  refine y03 (wpAny_isOneOf_keyiter hT ?_);show wpAny _ _ (setField (.ref it) 1 (rawInt ((i:Int)+1))>>=_) _ _ s;refine y03 (wpAny_setField ho hd (by simp) ?_);have hit':(s.heap.update it (Obj.mapFields (·.setIfInBounds 1 (rawInt ((i:Int)+1))))).IsKeyIter it d (i+1) ks.length ep :=
   ⟨_,y3l _ ho (Obj.isFreed_of_fields (y34 hd _)),(Obj.cls_mapFields ..).trans hc,by rw[y34 hd];simp[rawInt]⟩
  refine y03 (y1I ?_);refine y03 (wpAny_isOneOf_keyiter (s:={ s with heap:=s.heap.update it (Obj.mapFields (·.setIfInBounds 1 (rawInt ((i:Int)+1)))) }) hit'.typeIs ?_);show wpAny _ _ (pure es[i].key) _ _ _;have hk:ks[i]?=some es[i].key:=by rw[<-hp,y04,y0B,y0i hlt];rfl
  exact y0g (y0g ⟨_,rfl,y0g (h1 _ _ hk hit' (y1r ..))⟩)
 .simp only[show ¬((i:Int)<0)from by lia,y1m,y0E,Array.getElem?_eq_none hge];refine y03 ?_;first|refine y03 (y2p hT (y0g ?_))|refine y03 (y2W hT (y0g ?_))
  show wpAny _ _ (setField (.ref it) 0 .none>>=_) _ _ s;refine y03 (wpAny_setField ho hd (by simp) ?_);show wpAny _ _ (newExc (.type "StopIteration") []>>=_) _ _ _;refine y03 ?_;simp only[newExc,newTuple];refine y03 (y1e ?_ (by size_fits));refine y03 (m:=firstArgMember _ _) (wpAny_of_eq (a:=Value.none) (by first|rfl|(simp only[firstArgMember];rfl)) ?_);refine y1e ?_ (by size_fits);simp only[raiseNew];refine y03 (wpAny_handled ?_);rw[show A.in1.handled=none from hh];refine y03 (y0g (wpAny_throw ?_));refine y03 (y3t (T:="StopIteration") (b:=true) ⟨_,y0k _ rfl,rfl⟩ isSubtype_stop ?_);exact y0g (h2 (y0n (by lia)) _ (((y1r ..).extBut.push _).push _))
def zfw(lo:(d==sysModules)=false):PySem.W.KdlSrc prog w "dict" d d ks.length (fun i v=>ks[i]?=some v) (fun h=>zay h d ks ep) where
 type:=fun _ hm=>hm.typeIs
 there:=fun _ hm=>⟨hm.lt,hm.lt⟩
 keep:=fun _ _ hm hk=>hm.at' fun o e=>hk d (.inl rfl) o e
 notList:=by decide
 notTuple:=by decide
 hint:=fun _ _ _ _ hm hq=>PySem.W.kdl_hint_dict hm.typeIs hq
 iter:=fun A s hh hm=>⟨_,(fun i h=>h.IsKeyIter s.heap.objs.size d i ks.length ep/\zay h d ks ep),(fun _ _ hq=>zey lo hm hq),
  { sub:=fun b hb=>(by simp at hb;simp[hb]),frame:=(fun _ _ _ st hk=>⟨st.1.at fun o e=>hk _ (by simp) o e,st.2.at' fun o e=>hk d (by simp) o e⟩),item:=(fun i s' Q E hi st hQ=>zaD hh st.1 st.2 (fun v h' hv a b=>hQ v h' s'.toks hv ⟨a,st.2.at' fun o e=>b.extBut d o (y0C hm.lt) e⟩ fun c o hb e=>b.extBut c o (fun h=>hb (by simp[h])) e) fun hn=>by rw[y00 hi]at hn;cases hn),done:=(fun s' Q E st hQ=>zaD hh st.1 st.2 (fun v h' hv=>by rw[y0n (y0f _)]at hv;cases hv) fun _ h' he=>hQ h' s'.toks fun b o hb e=>he b o (fun h=>hb (by simp[h])) e),self:=fun _ _ _ _ st hQ=>wpAny_pyIter_keyiter st.1 hQ },⟨⟨_,y0k _ rfl,rfl,rfl⟩,hm.at' fun o e=>y06 _ e⟩⟩
end
open PySem.W
mutual
def D.ltK:D->D->Bool
 |.int a,.int b=>decide (a<b)
 |.int _,.tup _=>true
 |.tup a,.tup b=>D.ltKL a b
 |_,_=>false
def D.ltKL:List D->List D->Bool
 |d::ds,e::es=>if D.eq d e=true then D.ltKL ds es else D.ltK d e
 |[],_::_=>true
 |_,[]=>false
end
def D.neq{a b:D}(h:a≠b):D.eq a b=false:=by
 cases e:D.eq a b with
 |false=>rfl
 |true=>exact absurd (D.eq_of e) h
mutual
theorem D.ltK_irr:∀a:D,D.ltK a a=false
 |.int a=>by simp[D.ltK]
 |.tup a=>by simp only[D.ltK];exact D.ltKL_irr a
 |.non=>rfl
 |.bl _=>rfl
 |.str _=>rfl
 |.lst _=>rfl
theorem D.ltKL_irr:∀a:List D,D.ltKL a a=false
 |[]=>rfl
 |d::ds=>by simp only[D.ltKL];rw[if_pos (D.eq_refl d)];exact D.ltKL_irr ds
end
mutual
theorem D.ltK_asy:∀a b:D,D.ltK a b=true->D.ltK b a=false
 |.int a,b,h=>by
  cases b<;>simp only[D.ltK,y2J,y0d]at h⊢;simp only[y3b];lia
 |.tup a,b,h=>by
  cases b with
  |tup b=>simp only[D.ltK]at h⊢;exact D.ltKL_asy a b h
  |_=>simp only[D.ltK,y0d]at h
 |.non,b,h=>by cases b<;>simp only[D.ltK,y0d]at h
 |.bl _,b,h=>by cases b<;>simp only[D.ltK,y0d]at h
 |.str _,b,h=>by cases b<;>simp only[D.ltK,y0d]at h
 |.lst _,b,h=>by cases b<;>simp only[D.ltK,y0d]at h
theorem D.ltKL_asy:∀a b:List D,D.ltKL a b=true->D.ltKL b a=false
 |[],[],h=>by simp[D.ltKL]at h
 |[],_::_,_=>by simp[D.ltKL]
 |_::_,[],h=>by simp[D.ltKL]at h
 |d::ds,e::es,h=>by
  simp only[D.ltKL]at h⊢;by_cases q:d=e
  .subst q;rw[if_pos (D.eq_refl d)]at h⊢;exact D.ltKL_asy ds es h
  .rw[if_neg (by rw[D.neq q];decide)]at h;rw[if_neg (by rw[D.neq (y1k q)];decide)];exact D.ltK_asy d e h
end
mutual
theorem D.ltK_an:∀a b:D,D.key a->D.key b->D.ltK a b=false->D.ltK b a=false->a=b
 |.int a,b,_,kb,h,g=>by
  cases b<;>simp only[D.key]at kb<;>simp only[D.ltK,y3b,Bool.true_eq_false]at h g;exact y28 D.int (by lia)
 |.tup a,b,ka,kb,h,g=>by
  cases b<;>simp only[D.key]at ka kb<;>simp only[D.ltK,Bool.true_eq_false]at h g;rw[D.ltKL_an a _ ka kb h g]
 |.non,_,k,_,_,_=>by simp only[D.key]at k
 |.bl _,_,k,_,_,_=>by simp only[D.key]at k
 |.str _,_,k,_,_,_=>by simp only[D.key]at k
 |.lst _,_,k,_,_,_=>by simp only[D.key]at k
theorem D.ltKL_an:∀a b:List D,D.keyL a->D.keyL b->D.ltKL a b=false->D.ltKL b a=false->a=b
 |[],[],_,_,_,_=>rfl
 |[],_::_,_,_,h,_=>by simp[D.ltKL]at h
 |_::_,[],_,_,_,h=>by simp[D.ltKL]at h
 |d::ds,e::es,ka,kb,h,g=>by
  simp only[D.ltKL]at h g;simp only[D.keyL]at ka kb;by_cases q:d=e
  .subst q;rw[if_pos (D.eq_refl d)]at h g;rw[D.ltKL_an ds es ka.2 kb.2 h g]
  .rw[if_neg (by rw[D.neq q];decide)]at h;rw[if_neg (by rw[D.neq (y1k q)];decide)]at g;exact absurd (D.ltK_an d e ka.1 kb.1 h g) q
end
mutual
theorem D.ltK_tr:∀a b c:D,D.ltK a b=true->D.ltK b c=true->D.ltK a c=true
 |.int a,b,c,h,g=>by
  cases b<;>simp only[D.ltK,y2J,y0d]at h<;>cases c<;>simp only[D.ltK,y2J,y0d]at g⊢;lia
 |.tup a,b,c,h,g=>by
  cases b<;>simp only[D.ltK,y0d]at h;cases c<;>simp only[D.ltK,y0d]at g⊢;exact D.ltKL_tr a _ _ h g
 |.non,b,_,h,_=>by cases b<;>simp only[D.ltK,y0d]at h
 |.bl _,b,_,h,_=>by cases b<;>simp only[D.ltK,y0d]at h
 |.str _,b,_,h,_=>by cases b<;>simp only[D.ltK,y0d]at h
 |.lst _,b,_,h,_=>by cases b<;>simp only[D.ltK,y0d]at h
theorem D.ltKL_tr:∀a b c:List D,D.ltKL a b=true->D.ltKL b c=true->D.ltKL a c=true
 |_,_,[],_,g=>by simp[D.ltKL]at g
 |_,[],_::_,h,_=>by simp[D.ltKL]at h
 |[],_::_,_::_,_,_=>by simp[D.ltKL]
 |d::ds,e::es,f::fs,h,g=>by
  simp only[D.ltKL]at h g⊢;by_cases q:d=e
  .subst q;rw[if_pos (D.eq_refl d)]at h;by_cases r:d=f
   .subst r;rw[if_pos (D.eq_refl d)]at g⊢;exact D.ltKL_tr ds es fs h g
   .rw[if_neg (by rw[D.neq r];decide)]at g⊢;exact g
  .rw[if_neg (by rw[D.neq q];decide)]at h;by_cases r:e=f
   .subst r;rw[if_neg (by rw[D.neq q];decide)];exact h
   .rw[if_neg (by rw[D.neq r];decide)]at g;have z:=D.ltK_tr d e f h g;rw[if_neg (fun w=>by rw[<-D.eq_of w]at z;rw[D.ltK_irr]at z;cases z)];exact z
end
mutual
theorem D.ltK_lt:∀a b:D,D.ok a b->D.key a->D.lt a b=D.ltK a b
 |.int a,b,o,_=>by cases b<;>simp only[D.ok]at o<;>simp only[D.lt,D.ltK]
 |.tup a,b,o,k=>by
  cases b<;>simp only[D.ok]at o<;>simp only[D.lt,D.ltK];simp only[D.key]at k;exact D.ltKL_lt a _ o k
 |.non,_,_,k=>by simp only[D.key]at k
 |.bl _,_,_,k=>by simp only[D.key]at k
 |.str _,_,_,k=>by simp only[D.key]at k
 |.lst _,_,_,k=>by simp only[D.key]at k
theorem D.ltKL_lt:∀a b:List D,D.okL a b->D.keyL a->D.ltL a b=D.ltKL a b
 |[],[],_,_=>rfl
 |[],_::_,_,_=>rfl
 |_::_,[],_,_=>rfl
 |d::ds,e::es,o,k=>by simp only[D.ltL,D.ltKL];simp only[D.okL]at o;simp only[D.keyL]at k;rw[D.ltK_lt d e o.1 k.1,D.ltKL_lt ds es o.2 k.2]
end
def D.ltK_pair(n m:Int)(d e:D):D.ltK (.tup [.int n,d]) (.tup [.int m,e])=if n=m then if D.eq d e=true then false else D.ltK d e else decide (n<m):=by
 simp only[D.ltK,D.ltKL];by_cases q:n=m
 .rw[if_pos q,if_pos (by subst q;exact D.eq_refl _)]
 .rw[if_neg q,if_neg (fun z=>q (D.int.inj (D.eq_of z)))]
abbrev DK:={ d:D // D.key d }
def DK.lt(a b:DK):Bool:=D.ltK a.1 b.1
def DK.ord:z5w DK.lt where
 asy:=fun a b h=>D.ltK_asy a.1 b.1 h
 an:=fun a b h g=>Subtype.ext (D.ltK_an a.1 b.1 a.2 b.2 h g)
 tr:=fun a b c h g=>by
  cases e:DK.lt c a with
  |false=>rfl
  |true =>
   cases e1:DK.lt a b with
   |false =>
    have:=D.ltK_an a.1 b.1 a.2 b.2 e1 h;rw[show a=b from Subtype.ext this]at e;rw[e]at g;cases g
   |true =>
    have:=D.ltK_tr c.1 a.1 b.1 e e1;rw[show DK.lt c b=true from this]at g;cases g
noncomputable def kfH(h:Heap)(x:Keyed):DK:=open Classical in if z:∃d:DK,Hd h d.1 x.1 then z.choose else⟨.int 0,by simp only[D.key]⟩
def z3H{h:Heap}{x:Keyed}{d:D}(k:D.key d)(e:Hd h d x.1):kfH h x=⟨d,k⟩:=by have z:∃d:DK,Hd h d.1 x.1:=⟨⟨d,k⟩,e⟩;unfold kfH;rw[dif_pos z];exact Subtype.ext (Hd.inj z.choose_spec e)
section
variable{X:Cx}{pins:yyP}{s:Shared}{σ:St}{H:Hp}{prog:Program}{w:World}{A:Around}{E:yyE}
def z8t(I:Inv X pins σ H s){n:Int}{d:D}{x:V}{k:Value}(hx:Dr X.K H (.tup [.int n,d]) x)(rx:z0Z x k) : ∃(a:Addr) (o:Obj) (m:Nat) (t:Tok) (y:V) (u:Value),k=.ref a/\s.heap.get? a=some o/\o.cls=.type "tuple"/\o.data=.seq #[.int n t,u] m/\Dr X.K H d y/\z0Z y u:=by simp only[Dr]at hx;obtain⟨a,vs,rfl,ha,hL⟩:=hx;simp only[DrL,Dr]at hL;obtain⟨v,r,rfl,rfl,y,q,rfl,hd,rfl⟩:=hL;obtain rfl:k=.ref a:=rx;obtain⟨_,its,m,hv,e⟩:=I.hok a _ ha;obtain⟨u1,u2,rfl,⟨t,rfl⟩,ru2⟩:=zdH hv;exact⟨a,_,m,t,y,u2,rfl,e,rfl,rfl,hd,ru2⟩
def zen(I:Inv X pins σ H s)(hu:A.units+10<cLine){n m:Int}{d e:D}{x y:V}{k l:Value}(hx:Dr X.K H (.tup [.int n,d]) x)(hy:Dr X.K H (.tup [.int m,e]) y)(rx:z0Z x k)(ry:z0Z y l)(o:D.ok d e)(kd:D.key d)(ke:D.key e)(h8:D.dep d<=8){Q:Bool->Shared->Prop}(h:Q (D.ltK (.tup [.int n,d]) (.tup [.int m,e])) s):wpAny (model prog w) A (keyLt' (tuples' true) k l) Q E s:=by
 obtain⟨a,oa,ma,ta,xa,ua,rfl,ga,ca,da,dra,ra⟩:=z8t I hx rx;obtain⟨b,ob,mb,tb,xb,ub,rfl,gb,cb,db,drb,rb⟩:=z8t I hy ry;rw[D.ltK_pair]at h;refine kat_lt ga da gb db (kat_cons (EqAt.int_int n ta m tb prog w _ _ (kat_go (fun q=>kat_yes (kat_cons (z8K 8 A h8 (by lia) (Dr.hd I.hok kd dra ra) (Dr.hd I.hok ke drb rb) prog w _ _ (kat_go (fun q2=>kat_yes (kat_nil ?_)) fun q2=>kat_no ?_)))) fun q=>kat_no ?_)))
 .rw[if_pos (by simpa using q),if_pos q2]at h;simpa using h
 .rw[if_pos (by simpa using q),if_neg (by rw[q2];decide),<-D.ltK_lt d e o kd]at h;exact kat_one _ _ (zh2 I 8 A h8 (by lia) dra drb o kd ra rb prog w _ _ h)
 .rw[if_neg (by simpa using q)]at h;exact oneLt_int h
def z5M(I:Inv X pins σ H s)(hu:A.units+10<cLine){S:List Keyed}{sz:D->Int}(hS:∀x∈S,∃d y,Dr X.K H (.tup [.int (sz d),d]) y/\z0Z y x.1/\D.key d/\D.dep d<=8)(ho:∀x∈S,∀y∈S,∀d e,Hd s.heap (.tup [.int (sz d),d]) x.1->Hd s.heap (.tup [.int (sz e),e]) y.1->D.ok d e):z9T prog w A E s (tuples' true) S (kfH s.heap) DK.lt:=by
 intro st x y Q hk hx hy h;obtain⟨d,vx,dx,rx,kx,px⟩:=hS x hx;obtain⟨e,vy,dy,ry,ky,py⟩:=hS y hy;have kx':D.key (.tup [.int (sz d),d]):=by simp only[D.key,D.keyL];exact⟨trivial,kx,trivial⟩
 have ky':D.key (.tup [.int (sz e),e]):=by simp only[D.key,D.keyL];exact⟨trivial,ky,trivial⟩
 have gx:=Dr.hd I.hok kx' dx rx;have gy:=Dr.hd I.hok ky' dy ry;rw[z3H kx' gx,z3H ky' gy]at h;rw[lt'_eq];refine y0o (y3O ?_);rw[hk];refine y0o (wpS_lift (y35 (zen I hu dx dy rx ry (ho x hx y hy d e gx gy) kx ky px ?_)));exact⟨rfl,y0w h⟩
def z5V(I:Inv X pins σ H s){ks:List Value}(h2:0<ks.length)(hS:∀k∈ks,∃n d y,Dr X.K H (.tup [.int n,d]) y/\z0Z y k){Q:SortKind->Shared->Prop}(h:Q (tuples' true) s):wpAny (model prog w) A (keyKind' ks.toArray) Q E s:=by
 have key:∀l:List Value,(∀k∈l,∃n d y,Dr X.K H (.tup [.int n,d]) y/\z0Z y k)->∃fs:List Value,KatTups s.heap l fs/\fs.length=l.length/\∀v∈fs,∃n t,v=.int n t:=by
  intro l;induction l with
  |nil=>intro _;exact⟨[],.nil,rfl,by simp⟩
  |cons k l ih =>
   intro q;obtain⟨n,d,y,dr,r⟩:=q k y0m;obtain⟨a,o,m,t,x,u,rfl,g,c,da,_⟩:=z8t I dr r;obtain⟨fs,h1,h2,h3⟩:=ih fun k hk=>q k (y09 _ hk);refine⟨.int n t::fs,.cons g c da rfl h1,by simp[h2],fun v hv=>?_⟩;rcases y0x.mp hv with z|z
   .exact⟨n,t,z⟩
   .exact h3 v z
 obtain⟨fs,a1,a2,a3⟩:=key ks hS;refine kat_kind a1 (by lia) (T:=.type "int") (fun v hv=>?_) rfl h;obtain⟨n,t,rfl⟩:=a3 v hv;exact .now
end
open PySem PySem.Spec PyProof.Rows PySem.SeqAt PySem.W
abbrev prD(sz:D->Int)(d:D):D:=.tup [.int (sz d),d]
def zf6(K:yyF)(ds:List D)(sz:D->Int):List V->Hp->VK->Prop:=fun vs H Q=>∃x d,vs=[x]/\d∈ds/\Dr K H d x/\∀v H',z0d H H'->Dr K H' (prD sz d) v->Q v H'
def Inv.adopt{X:Cx}{pins:yyP}{σ:St}{H:Hp}{s:Shared}{p:Addr}{o:HO}{h':Heap}{t':Nat}(I:Inv X pins σ H s)(k:∀b u,b≠p->s.heap.get? b=some u->h'.get? b=some u)(hf:z3O X pins H p)(new:z1V X.prog X.w (upd H p o) h' p o):Inv X pins σ (upd H p o) { s with heap:=h',toks:=t' }:=by
 obtain⟨hn,f1,f2,f3,f4,f5⟩:=hf;have k':∀b u,b∉[p]->s.heap.get? b=some u->h'.get? b=some u:=fun b u hb=>k b u (fun z=>hb (by simp[z]));have nc:∀b u,H b=some u->b∉[p]:=fun b u e z=>by rw[y08.mp z,hn]at e;cases e
 have ne:∀b u,H b=some u->b≠p:=fun b u e z=>by rw[z,hn]at e;cases e
 refine I.step (g':=s.gens) (d':=s.drawn) (ch:=[p]) (fun b hb=>?_) (fun b u _ _ hc e _=>k' b u hc e) (fun b u _ _ hc e _=>⟨u.slots,k' b u hc e⟩) (fun b u hc _ n=>by rw[z06 (fun z=>hc (by simp[z]))];exact n) (fun b u hc e=>⟨u,k' b u hc e⟩)
  (fun b xs e=>by rw[z06 (ne _ _ e)];exact e) (fun b u xs e=>by rw[z06 (ne _ _ e)];exact e) (fun b ps e=>⟨#[],by rw[z06 (ne _ _ e),e];simp⟩) (fun m hm=>?_) (fun b u e=>?_) I.bare
 .rw[y08.mp hb];exact⟨f3,f1,f4,f5⟩
 .obtain⟨ob,es,ep,ho,r⟩:=hm;exact⟨ob,es,ep,k _ ob (y1k f1) ho,r⟩
 .by_cases hb:b=p
  .subst hb;rw[z01]at e;cases e;exact new
  .rw[z06 hb]at e;refine(I.hok b u e).stay (fun c v hc q=>k' c v ?_ q) (fun c q=>by rw[z06 (ne _ _ q)];exact q) fun c xs q=>by rw[z06 (ne _ _ q)];exact q
   rcases hc with z|z
   .rw[z];exact nc b u e
   .exact nc c _ z
def z3O.un{X:Cx}{pins:yyP}{H H':Hp}{b:Addr}(h:z3O X pins H b)(n:H' b=none):z3O X pins H' b:=⟨n,h.2⟩
theorem DrL.map{K:yyF}{H:Hp}{α:Type}(f:α->D)(g:α->V):∀l:List α,(∀x∈l,Dr K H (f x) (g x))->DrL K H (l.map f) (l.map g)
 |[],_=>by simp only[y0S,DrL]
 |x::l,h=>by simp only[y0l,DrL];exact⟨g x,l.map g,rfl,h x y0m,DrL.map f g l fun y hy=>h y (y09 _ hy)⟩
def z6Z{l:List D}(h:∀d∈l,D.key d):D.keyL l:=by
 induction l with
 |nil=>simp only[D.keyL]
 |cons d l ih =>
  simp only[D.keyL];exact⟨h d y0m,ih fun e he=>h e (y09 _ he)⟩
noncomputable def unK(h:Heap)(x:Keyed):D × Addr:=(match (kfH h x).1 with|.tup [_,d]=>d|_=>.non,match x.2 with|.ref a=>a|_=>0)
def z9s{α:Type}(f:α->V)(g:α->Value)(l:List α)(h:∀x,z0Z (f x) (g x)):z1h (l.map f) (l.map g):=by
 induction l with
 |nil=>exact .nil
 |cons x l ih=>exact .cons (h x) ih
section
variable{X:Cx}{CX:CXT}{k:Nat}{pins:yyP}{s:Shared}{σ:St}{H:Hp}{p fa:Addr}{sz:D->Int}{E:yyE}
def zb2[N:NoE CX]{A:Around}{a:Addr}{qs:List (D × Addr)}{n:Nat}{P:PySem.Fin->Shared->Prop}(I:Inv X pins σ H s)(hr:z38 k A)(hEA:∀s' H',zaz X.prog X.w X.K X.mg X.base X.A X.stack s' H'->zaz X.prog X.w X.K X.mg X.base A X.stack s' H')(ho:s.heap.get? a=some (seqObj "list" (qs.map fun q=>Value.ref q.2).toArray n))(hfp:z3O X pins H a)(hz:qs.length<=sizeLine)(hq:∀q∈qs,D.key q.1/\D.dep q.1<=8/\Dr X.K H q.1 (.ref q.2))(hok:∀q∈qs,∀r∈qs,D.ok q.1 r.1)(hf:z2D X.prog X.w X.K X.mg X.base CX k H fa (zf6 X.K (qs.map (·.1)) sz))(h:∀(rs:List (D × Addr)) (H':Hp) (s':Shared),rs.Perm qs->rs.Pairwise (fun x y=>D.ltK (prD sz y.1) (prD sz x.1)=false)->z0d H H'->H' a=none->Inv X pins σ (upd H' a (.lst (rs.map fun q=>.ref q.2))) s'->P (.done (.ret .none)) s') : wpAny (model X.prog X.w) A (ksk_tree a (.ref fa) false) P E s:=by
 have hu:A.units+10<cLine:=by have:=hr.un;lia
 have hvl:(qs.map fun q=>Value.ref q.2).length=qs.length:=y01 ..;have ha:a<s.heap.objs.size:=y0h ho;have s1:=y1r s.heap a (Obj.mapSeq fun _=>(#[]:Array Value));obtain⟨e1,ho1⟩:∃e1,(s.heap.update a (Obj.mapSeq fun _=>(#[]:Array Value))).get? a=some (seqObj "list" #[] e1):=⟨_,get?_update_seq ho fun _=>#[]⟩;have I1:Inv X pins σ H { s with heap:=s.heap.update a (Obj.mapSeq fun _=>(#[]:Array Value)) }:=I.turnedL (ch:=[a]) (t':=s.toks) (fun b u hb e=>s1.extBut b u (fun z=>hb (by simp[z])) e) fun b hb=>by rw[y08.mp hb];exact hfp
 unfold ksk_tree;refine y03 (listItems_at ho rfl ?_);refine y03 (y2M ho rfl ?_ (by rw[y0D,hvl];exact hz) (y0y _));refine y03 (seqEpoch_at ho1 rfl ?_);refine y03 (wpAny_newTuple ?_ (by rw[hvl];exact hz));refine y03 (wpAny_newList ?_ (y0y _));refine y1I ?_;show wpAny _ _ (ksk_rest a (.ref fa) false (qs.map fun q=>Value.ref q.2).toArray e1 (.ref ((s.heap.update a (Obj.mapSeq fun _=>(#[]:Array Value))).push (seqObj "tuple" (qs.map fun q=>Value.ref q.2).toArray 0)).objs.size)) P E
  { s with heap:=((s.heap.update a (Obj.mapSeq fun _=>(#[]:Array Value))).push (seqObj "tuple" (qs.map fun q=>Value.ref q.2).toArray 0)).push (seqObj "list" #[] 0) }
 have I2:=I1.kept (t':=s.toks) (h':=(s.heap.update a (Obj.mapSeq fun _=>(#[]:Array Value))).push (seqObj "tuple" (qs.map fun q=>Value.ref q.2).toArray 0)) fun b o e=>y06 _ e;have ho2:=y06 (seqObj "tuple" (qs.map fun q=>Value.ref q.2).toArray 0) ho1;generalize(s.heap.update a (Obj.mapSeq fun _=>(#[]:Array Value))).push (seqObj "tuple" (qs.map fun q=>Value.ref q.2).toArray 0)=h2 at I2 ho2⊢;have hna:a≠h2.objs.size:=y0C (y0h ho2);have I3:=I2.lnew (t':=s.toks) (ys:=[]) (its:=[]) .nil (y0y _);have hfr:H h2.objs.size=none:=I2.fresh;have I4:Inv X (pins++[(a,seqObj "list" #[] e1)]) σ (upd H h2.objs.size (.lst [])) { s with heap:=h2.push (seqObj "list" #[] 0) }:=I3.pins_of fun q hq=>by
  rcases y0q.mp hq with z|z
  .exact I3.pin q (y0j _ z)
  .rw[y08.mp z];exact⟨y06 _ ho2,by show upd H _ _ a=none;rw[z06 hna];exact hfp.1,hfp.2.1,hfp.2.2.1,fun v z=>by cases z⟩
 have hfp4:z3O X pins (upd H h2.objs.size (.lst [])) a:=hfp.un (by rw[z06 hna];exact hfp.1);generalize h2.objs.size=kS at I4 hna hfr hfp4⊢;generalize({ s with heap:=h2.push (seqObj "list" #[] 0) }:Shared)=s4 at I4⊢;have sm:∀{H':Hp},(∀b o,b≠kS->H b=some o->H' b=some o)->z0d H H':=fun f b o e=>f b o (fun z=>by rw[z,hfr]at e;cases e) e;have up:∀{H':Hp}{ws:List V}{o:HO},H' kS=some (.lst ws)->∀b xs,H' b=some (.tup xs)->upd H' kS o b=some (.tup xs):=fun e b xs q=>by rw[z06 (fun z=>by rw[z,e]at q;cases q)];exact q
 have kp:∀q∈qs,D.key (prD sz q.1):=fun q hqm=>by simp only[prD,D.key,D.keyL];exact⟨trivial,(hq q hqm).1,trivial⟩
 unfold ksk_rest;refine y03 (y2i ?_);first
  |rw[List.forIn_toArray]
  | (rw[<-Array.forIn_toList];simp only[List.toList_toArray])
 refine y03 (ksk_fold (fun i s'=>∃(H':Hp) (ws:List V),Inv X (pins++[(a,seqObj "list" #[] e1)]) σ H' s'/\z0d H H'/\H' kS=some (.lst ws)/\DrL X.K H' ((qs.take i).map fun q=>prD sz q.1) ws) _ 0 s4
  ⟨_,[],I4,sm fun b o hb e=>by rw[z06 hb];exact e,z01,by simp only[List.take_zero,y0S,DrL]⟩ ?tgd ?tge)
 case tgd =>
  rintro j x s' hx ⟨H',ws,I',sm',hkS,hw⟩;simp only[y2F]at hw⊢;rw[y04]at hx;obtain⟨q,hqj,rfl⟩:=y1a.mp hx;have hqm:q∈qs:=y0z hqj;obtain⟨k1,k2,k3⟩:=hq q hqm;refine y03 (y35 ?_);refine wpAny_call (y2V (hf.2 H' sm' A X.stack s' [.ref q.2] [.ref q.2] (fun v H2=>z0d H' H2/\Dr X.K H2 (prD sz q.1) v) hr (hEA _ _ I'.env0) (.cons rfl .nil) ⟨_,q.1,rfl,y0b.mpr ⟨q,hqm,rfl⟩,k3.mono sm',fun v H2 a b=>⟨a,b⟩⟩) fun r s2 hq2=>?_);cases r with
  |error e=>exact absurd hq2 N.no
  |ok fl =>
   cases fl with
   |next=>exact False.elim hq2
   |brk=>exact False.elim hq2
   |cont=>exact False.elim hq2
   |ret u =>
    obtain⟨v,H2,I2',rv,sm2,dv⟩:=I'.after hq2;have hk2:H2 kS=some (.lst ws):=sm2 _ _ hkS;obtain⟨_,its,m,hv,hl,ek⟩:=I2'.lstM hk2;have hj:j<qs.length:=(y05.mp hqj).1;have hwl:ws.length=j:=by have:=hw.length;rw[y01,y0s]at this;lia
    have hw1:(ws++[v]).length<=sizeLine:=by rw[y0a,y3m];lia
    have et:qs.take (j+1)=qs.take j++[q]:=by rw[y0v,hqj];rfl
    refine y03 (y2M ek rfl ?_ (by rw[y0D];lia) (by rw[y1P,y0D];lia));refine y0g ⟨rfl,_,ws++[v],I2'.lset (t':=s2.toks) (its':=its++[u]) hk2 ek (by simp) (Paired.snoc hv rv) hw1,sm fun b o hb e=>by rw[z06 hb];exact sm2 _ _ (sm' _ _ e),z01,?_⟩;rw[et,y0e,y2a];refine DrL.append ?_ (DrL.one ?_)
    .exact(hw.mono sm2).keyed (up hk2) (z6Z fun d hd=>by obtain⟨q',hq',rfl⟩:=y0b.mp hd;exact kp q' (y10 hq'))
    .exact dv.keyed (up hk2) (kp q hqm)
 case tge =>
  rintro s' ⟨H',ws,I',sm',hkS,hw⟩;rw[y2F,hvl,y0A]at hw;obtain⟨_,its,m,hv,hl,ek⟩:=I'.lstM hkS;have hwl:ws.length=qs.length:=by have:=hw.length;rw[y01]at this;lia
  refine y03 (listItems_at ek rfl ?_);have ga:s'.heap.get? a=some (seqObj "list" #[] e1):=(I'.pin (a,seqObj "list" #[] e1) (by simp)).1;have at_:∀(i:Nat)(q:D × Addr),qs[i]?=some q->∃y u,its[i]?=some u/\Dr X.K H' (prD sz q.1) y/\z0Z y u:=fun i q hi=>by obtain⟨y,hy,dy⟩:=hw.get (i:=i) (d:=prD sz q.1) (by rw[y04,hi];rfl);obtain⟨u,hu',ru⟩:=hv.get hy;exact⟨y,u,hu',dy,ru⟩
  have mem:∀x∈its.zip (qs.map fun q=>Value.ref q.2),∃q y,q∈qs/\x.2=.ref q.2/\Dr X.K H' (prD sz q.1) y/\z0Z y x.1:=fun x hx=>by obtain⟨i,hi⟩:=y1D hx;obtain⟨x1,x2⟩:=x;rw[y12,y04]at hi;obtain⟨q,hq',e⟩:=y1a.mp hi.2;obtain⟨y,u,eu,dy,ru⟩:=at_ i q hq';rw[hi.1]at eu;cases eu;exact⟨q,y,y0z hq',e.symm,dy,ru⟩
  have hdm:∀{q:D × Addr}{y:V}{u:Value},q∈qs->Dr X.K H' (prD sz q.1) y->z0Z y u->Hd s'.heap (prD sz q.1) u:=fun hqm dy ru=>Dr.hd I'.hok (kp _ hqm) dy ru;have gq:∀x∈its.zip (qs.map fun q=>Value.ref q.2),∀q,q∈qs->x.2=.ref q.2->Hd s'.heap (prD sz q.1) x.1->unK s'.heap x=q:=fun x _ q hqm e hd=>by unfold unK;rw[z3H (kp q hqm) hd,e]
  refine za0 (kf:=kfH s'.heap) (lt:=DK.lt) (kd:=tuples' true) DK.ord ga ek (y1k hna) (by rw[hvl];lia) (by rw[hvl];exact hz) (fun h2=>z5V I' (by rw[hvl]at h2;lia) (fun u hu'=>?_) ⟨rfl,rfl⟩) (z5M (sz:=sz) I' hu (fun x hx=>?_) fun x hx y hy d e hd he=>?_) fun xs hp hs=>?_
  .obtain⟨i,hi⟩:=y1D hu';have hil:i<qs.length:=by have:=(y05.mp hi).1;lia
   obtain⟨y,u',e,dy,ru⟩:=at_ i qs[i] (y00 hil);rw[hi]at e;cases e;exact⟨_,_,y,dy,ru⟩
  .obtain⟨q,y,hqm,_,dy,ru⟩:=mem x hx;exact⟨q.1,y,dy,ru,(hq q hqm).1,(hq q hqm).2.1⟩
  .obtain⟨q,vx,hqm,_,dx,rx⟩:=mem x hx;obtain⟨r,vy,hrm,_,dy,ry⟩:=mem y hy;have z1:=Hd.inj hd (hdm hqm dx rx);have z2:=Hd.inj he (hdm hrm dy ry);injection z1 with z1;injection z2 with z2;simp only[y3K,and_true]at z1 z2;rw[z1.2,z2.2];exact hok q hqm r hrm
  .have mx:∀x∈xs,∃q,q∈qs/\x.2=.ref q.2/\Hd s'.heap (prD sz q.1) x.1/\unK s'.heap x=q:=fun x hx=>by
    have hx':=hp.mem_iff.mp hx;obtain⟨q,y,hqm,e,dy,ry⟩:=mem x hx';exact⟨q,hqm,e,hdm hqm dy ry,gq x hx' q hqm e (hdm hqm dy ry)⟩
   have ez:(its.zip (qs.map fun q=>Value.ref q.2)).map (unK s'.heap)=qs:=by
    refine y1f fun i=>?_;rw[y04];by_cases hi:i<qs.length
    .obtain⟨y,u,e,dy,ru⟩:=at_ i qs[i] (y00 hi);have ez':(its.zip (qs.map fun q=>Value.ref q.2))[i]?=some (u,.ref qs[i].2):=by
      rw[y12,y04,y00 hi];exact⟨e,rfl⟩
     rw[ez',y00 hi,y3I,gq _ (y0z ez') qs[i] (y0c hi) rfl (hdm (y0c hi) dy ru)]
    .rw[y0n (l:=qs) (by lia),y0n (by rw[y23,y01];lia)];rfl
   have ev:xs.map (·.2)=(xs.map (unK s'.heap)).map fun q=>Value.ref q.2:=by rw[y0L];refine y0H fun x hx=>?_;obtain⟨q,_,e,_,g⟩:=mx x hx;rw[Function.comp,g];exact e
   have hpr:(xs.map (unK s'.heap)).Perm qs:=by have:=hp.map (unK s'.heap);rwa [ez]at this
   have J:=(I'.pins_of (pins':=pins) fun q hq=>I'.pin q (y0j _ (y0t _ hq))).lset (t':=s'.toks) (f:=fun _=>#[]) (its':=[]) (ys:=[]) hkS ek rfl .nil (y0y _);have hHa:upd H' kS (.lst []) a=none:=by rw[z06 hna];exact(I'.pin (a,seqObj "list" #[] e1) (by simp)).2.1
   have s5:=y1r s'.heap kS (Obj.mapSeq fun _=>(#[]:Array Value));have na5:=(s5.2 a hna).trans ga;obtain⟨e5,g5⟩:∃e5,((s'.heap.update kS (Obj.mapSeq fun _=>(#[]:Array Value))).update a (Obj.mapSeq fun _=>(xs.map (·.2)).toArray)).get? a=some (seqObj "list" (xs.map (·.2)).toArray e5):=⟨_,get?_update_seq na5 fun _=>_⟩;have s6:=y1r (s'.heap.update kS (Obj.mapSeq fun _=>(#[]:Array Value))) a (Obj.mapSeq fun _=>(xs.map (·.2)).toArray);refine h (xs.map (unK s'.heap)) (upd H' kS (.lst [])) _ hpr ?_ (sm fun b o hb e=>by rw[z06 hb];exact sm' _ _ e) hHa
    (J.adopt (p:=a) (o:=.lst ((xs.map (unK s'.heap)).map fun q=>.ref q.2)) (t':=s'.toks) (fun b u hb e=>s6.extBut b u hb e) (hfp.un hHa) ⟨by rw[y01,hpr.length_eq];exact hz,xs.map (·.2),e5,?_,g5⟩)
   .refine y1u.mpr (y1R ?_ hs);intro x y hx hy z;obtain⟨q,hqm,_,hd,g⟩:=mx x hx;obtain⟨r,hrm,_,he,g'⟩:=mx y hy;rw[z3H (kp q hqm) hd,z3H (kp r hrm) he]at z;rw[g,g'];exact z
   .rw[ev,y0L,y0L];exact z9s _ _ _ fun x=>rfl
def zat[N:NoE CX]{kvs:List (D × V)}{Q:VK}(I:Inv X pins σ H s)(hc:X.calm=true)(hr:z38 (k+2) X.A)(hD:DD X.prog X.w X.K H p kvs)(hf:z2D X.prog X.w X.K X.mg X.base CX k H fa (zf6 X.K (kvs.map (·.1)) sz))(hok:∀d∈kvs.map (·.1),∀e∈kvs.map (·.1),D.ok d e)(h:∀(xs:List D) (H':Hp) (l:Addr) (vs:List V),xs.Perm (kvs.map (·.1))->xs.Pairwise (fun a b=>D.ltK (prD sz b) (prD sz a)=false)->z0d H H'->H' l=none->DrL X.K H' xs vs->Q (.ref l) (upd H' l (.lst vs))) : wpAny (model X.prog X.w) X.A (call (.builtin "sorted") [.ref p] [(Str.ofString "key",.ref fa)]) (EP X pins σ Q) E s:=by
 obtain⟨xs,hp,kr,nd,hz⟩:=hD;obtain⟨⟨lo,o,es,ep,ho,hex,hda,hes⟩,_,_⟩:=I.hok p _ hp;have hxl:xs.length=kvs.length:=kr.length.symm;have hraw:zay s.heap p (xs.map fun q=>.ref q.2.1) ep:=⟨o,es,ho,hex,hda,by rw[hes,y0L];rfl⟩;refine call_function_entry_kw kind_sorted plain_sorted entry_sorted (ksk_s1 _ _) ?_;unfold Builtin.«sorted»;refine y03 (m:=checkCount "sorted" 1 1 _) (y0g ?_);refine y03 (z8H (zfw lo) (I.ok.hd hc) hraw (by rw[y01,hxl];exact hz) fun h1 tk acc hk hacc=>?_);have ea:acc.toList=(xs.map fun q=>(q.1,q.2.1)).map fun q=>Value.ref q.2:=by
  rw[y0L];refine y1f fun i=>?_;by_cases hi:i<acc.size
  .rw[y0B,y0i hi];exact(hacc.2 i _ (y0i hi)).symm
  .rw[y0n (by rw[y0K];lia),y0n (by have:=hacc.1;rw[y01]at this⊢;lia)]
 rw[ea];have hql:(xs.map fun q=>(q.1,q.2.1)).length=kvs.length:=by rw[y01];exact hxl
 have hq:∀q∈(xs.map fun q=>(q.1,q.2.1)),(D.key q.1/\D.dep q.1<=8/\Dr X.K H q.1 (.ref q.2)):=fun q hq=>by
  obtain⟨r,hr,rfl⟩:=y0b.mp hq;obtain⟨i,hi⟩:=y1D hr;have hil:i<kvs.length:=by rw[<-hxl];exact(y05.mp hi).1
  have z:=z5e kr (y00 hil) hi;rw[<-z.1];exact z.2.1
 have ek:(xs.map fun q=>(q.1,q.2.1)).map (·.1)=kvs.map (·.1):=by rw[y0L,kr.keys];rfl
 generalize xs.map (fun q=>(q.1,q.2.1))=qs at hql hq ek⊢;refine y03 (wpAny_newList ?_ (by rw[y01,hql];exact hz));have I1:Inv X pins σ H { s with heap:=h1,toks:=tk }:=I.kept (t':=tk) hk;have I2:Inv X pins σ H { s with heap:=h1.push (seqObj "list" (qs.map fun q=>Value.ref q.2).toArray 0),toks:=tk }:=I1.kept (t':=tk) fun b o e=>y06 _ e;have hoL:(h1.push (seqObj "list" (qs.map fun q=>Value.ref q.2).toArray 0)).get? h1.objs.size=some (seqObj "list" (qs.map fun q=>Value.ref q.2).toArray 0):=y0k _ rfl;show wpAny _ _ _ _ _ { s with heap:=h1.push (seqObj "list" (qs.map fun q=>Value.ref q.2).toArray 0),toks:=tk };refine y03 (y1I (wpAny_call_entry_kw slot_list_sort ⟨_,hoL,rfl⟩ entry_list_sort ?tgf (ksk_l1 _ _)));case tgf =>
  show wpAny (model X.prog X.w) X.A.in1.in1 (Builtin.«list.sort» ⟨[.ref h1.objs.size],[(Str.ofString "key",.ref fa)]⟩) _ _ _;rw[ksk_t1];refine zb2 (CX:=CX) (sz:=sz) (qs:=qs) I2 hr.in1.in1 (fun _ _ e=>e.in1.in1) hoL (I1.fpOk (y0f _) I1.fresh) (by lia) hq (fun q hqm r hrm=>hok _ (by rw[<-ek];exact List.mem_map_of_mem hqm) _ (by rw[<-ek];exact List.mem_map_of_mem hrm)) (by rw[ek];exact hf) fun rs H' s' a1 a2 a3 a4 a5=>⟨_,rfl,?_⟩;refine y0g ⟨_,rfl,.ref h1.objs.size,_,a5,rfl,h (rs.map (·.1)) H' _ _ (by rw[<-ek];exact a1.map _) (y1u.mpr a2) a3 a4 (DrL.map _ _ rs fun q hqm=>(hq q (a1.mem_iff.mp hqm)).2.2.mono a3)⟩
end
open PySem PySem.Spec PyProof.Rows PySem.SeqAt PySem.W
theorem DD.monoL{P:Program}{w:World}{K:yyF}{H H':Hp}{a:Addr}{kvs:List (D × V)}{Ts:List Tb}(h:DD P w K H a kvs)(s:SameL Ts H H'):DD P w K H' a kvs:=by obtain⟨xs,e,r,n,z⟩:=h;exact⟨xs,s.at_ _ _ (fun _ z=>by cases z) e,r.mono fun _ _ _ q=>q.monoL s,n,z⟩
def zec(P:Program)(w:World)(K:yyF)(mg:yyS)(base:Heap)(CX:CXT)(k:Nat)(Ts:List Tb)(params:Arguments)(body:Expr)(lsc:Scope)(qual:Str)(N:List Str)(sz:D->Int)(Q:VK)(v:V)(H1:Hp):Prop :=
 ∃(p:Addr)(kvs:List (D × V)),v=.ref p/\DD P w K H1 p kvs/\z3P Ts H1/\(∀d∈kvs.map (·.1),∀e∈kvs.map (·.1),D.ok d e)/\∀(fa:Addr)(H2:Hp),SameL Ts H1 H2->z69 H2 fa params body lsc qual N (N.map fun _=>none) ->
  z2D P w K mg base CX k H2 fa (zf6 K (kvs.map (·.1)) sz)/\∀(xs:List D)(H3:Hp)(l:Addr)(vs:List V),xs.Perm (kvs.map (·.1))->xs.Pairwise (fun a b=>D.ltK (prD sz b) (prD sz a)=false)->z0d H2 H3->H3 l=none->DrL K H3 xs vs->Q (.ref l) (upd H3 l (.lst vs))
def zg4(P:Program)(w:World)(K:yyF)(mg:yyS)(base:Heap)(CX:CXT)(k:Nat)(Ts:List Tb)(params:Arguments)(body:Expr)(lsc:Scope)(qual:Str)(N:List Str)(sz:D->Int)(t0:TE):TE:=fun σ H Q=>t0 σ H (zec P w K mg base CX k Ts params body lsc qual N sz Q)
section
variable{X:Cx}{CX:CXT}{k:Nat}{N:List Str}{ix:List (Option Nat)}{params:Arguments}{body:Expr}{lsc:Scope}{lpos:Pos}{c:Addr}{T:Tb}{Ts:List Tb}{p pos kp:Pos}{e0:Expr}{t0:TE}{sz:D->Int}
def zdu[NE:NoE CX](hc:X.calm=true)(hr:z38 (k+2) X.A)(hg:Gl X "sorted")(hm:X.mg "sorted"=none)(h0:PE X e0 t0)(m0:∀σ H (Q Q':VK),(∀v H1,Q v H1->Q' v H1)->t0 σ H Q->t0 σ H Q')(S:z0W X.N X.env.scope N ix lsc)(hcode:X.env.code=.ref c)(hC:PySem.W.CodeHd X.base c T.at_)(hB:z43 X.base X.mg)(hT:T∈Ts)(hTn:∀T'∈Ts,T'.at_=T.at_->T'=T)(hTp:T.pos=lpos)(hTq:T.qual=X.env.qual++"<lambda>")(hnf:∀y∈lsc.names,y.2≠.free)(hdef:defaultsOf params X.env=([],[]):=by rfl)(he:starEach [e0] X.env=(false,eval e0 X.env)::starEach [] X.env:=by rfl)(he':backTo pos (starEach [e0] X.env)=(false,eval e0 X.env)::backTo pos (starEach [] X.env):=by rfl)(hpl:(backTo pos (starEach [e0] X.env)).any (·.1)=false:=by rfl)  : PE X (.Call (.Name "sorted" p) [e0] [⟨some "key",.Lambda params body lsc lpos,kp⟩] pos) (zg4 X.prog X.w X.K X.mg X.base CX k Ts params body lsc T.qual N sz t0):=by
 intro pins s σ H Q I h;refine y29 (z4Z I hg hm (u:=.builtin "sorted") (by rfl) ?_);refine callWith_kw (kws:=[⟨some "key",.Lambda params body lsc lpos,kp⟩]) ?_ he' hpl rfl rfl;refine thn (z00 h0 z03 he pos pins s σ H (fun vs H1=>∃v,vs=[v]/\zec X.prog X.w X.K X.mg X.base CX k Ts params body lsc T.qual N sz Q v H1) I (m0 σ H _ _ (fun v H1 q=>⟨v,rfl,q⟩) h)) fun us s1 hz8=>?_;obtain⟨vs,H1,I1,r,v,ev,a,kvs,ea,dd,tb,hok,q⟩:=hz8;subst ev ea;obtain⟨u,rfl,ru⟩:=z4r r;cases ru;refine kws_cons (thn (ze6 S hcode hC hB hT hTn hTp hTq hdef pins s1 σ H1 (fun v H2=>∃fa,v=.ref fa/\z8L Ts H1 H2 fa (z0r X.env.cells lsc.names []) params body lsc T.qual) I1 ⟨tb,fun fa H' made=>⟨fa,rfl,made⟩⟩) fun u s2 ⟨v,H2,I2,r2,fa,ef,mfr,mtb,pm,c',ctv,oc,vsc,t,m1,m2,m3,m4⟩=>kws_nil ?_);subst ef;cases r2;have sl:SameL Ts H1 H2:=⟨mfr,fun _=>mtb⟩;have no:∀x c,(z0r X.env.cells lsc.names []).lookup x=some c->False:=fun x c e=>by have:=z3f (cells:=X.env.cells) lsc.names [] x fun z=>hnf _ z rfl;rw[e]at this;cases this
 have C:z69 H2 fa params body lsc T.qual N (N.map fun _=>none):=by
  refine⟨z0r X.env.cells lsc.names [],[],pm,c',ctv,oc,vsc,t,m1,m2,m3,m4,fun x y c e=>(no x c e).elim,fun x c e=>(no x c e).elim,fun c hc=>absurd hc (by simp),fun x hx=>absurd rfl (hnf _ (y15 hx)),fun i x v _ e=>?_⟩;rw[y04]at e;cases z:N[i]? with
  |none=>rw[z]at e;cases e
  |some y=>rw[z]at e;cases e
 obtain⟨cv,q2⟩:=q fa H2 sl C;exact zat (CX:=CX) I2 hc hr (dd.monoL sl) cv hok q2
end
open PySem PySem.Spec PyProof.Rows PySem.SeqAt PySem.W
section
variable{X:Cx}(K:yyF)
def z5m(hK:X.K=K)(hu:X.A.units+12<cLine):OpR X (compareOp .NotIn) (fun x y H Q=>∃(t:List D)(ds:List D)(l:Addr)(vs:List V),Dr K H (.tup t) x/\y=.ref l/\SqL K H l vs/\DrL K H ds vs/\D.key (.tup t)/\(∀e∈ds,e=.non\/D.key e/\D.dep e<=8)/\.tup t∈ds/\Q (.bl false) H):=by
 subst hK;intro pins s σ H x y v u Q I rx ry h;obtain⟨t,ds,l,vs,hx,rfl,hl,hd,kt,hok,hin,q⟩:=h;cases ry;obtain⟨its,rv,pl,_⟩:=I.list hl;have hv:=Dr.hd I.hok kt hx rx;obtain⟨b,o,tt,m,rfl,ob,oc,od,_⟩:∃(a:Addr) (o:Obj) (its:Array Value) (n:Nat),v=.ref a/\s.heap.get? a=some o/\o.cls=.type "tuple"/\o.data=.seq its n/\HdL s.heap t its.toList:=by simpa only[Hd]using hv
 have tb:s.heap.IsTuple b tt:=⟨o,ob,oc,m,od⟩;have hu2:X.A.in1.units+8<cLine:=by show X.A.units+1+8<cLine;lia
 have one:∀(i:Nat)(e:D),ds[i]?=some e->∃u,its[i]?=some u/\EqAt X.A.in1 s u (.ref b) (D.eq e (.tup t)):=fun i e hi=>by
  obtain⟨y,hy,dy⟩:=hd.get hi;obtain⟨u,hu',ru⟩:=rv.get hy;refine⟨u,hu',?_⟩;rcases hok e (y0z hi)with rfl|⟨k,h8⟩
  .simp only[Dr]at dy;subst dy;cases ru;simp only[D.eq];exact EqAt.none_tuple tb (by lia)
  .exact z8K 8 X.A.in1 h8 hu2 (Dr.hd I.hok k dy ru) hv
 have hl1:=hd.length;have hl2:=rv.length;refine SeqAt.notIn_listAt (fun u=>@decide (EqAt X.A.in1 s u (.ref b) true) (Classical.propDecidable _)) pl.isList (fun w hw=>?_) ⟨.bl false,H,I,?_,q⟩
 .obtain⟨i,hi,ei⟩:=y1q (show w∈its by simpa using hw);obtain⟨u,hu',he⟩:=one i (ds[i]'(by lia)) (y00 (by lia));rw[y00 hi,ei]at hu';cases hu';by_cases c:EqAt X.A.in1 s w (.ref b) true
  .show EqAt X.A.in1 s w (.ref b) (@decide _ (Classical.propDecidable _));rw[@decide_eq_true _ (Classical.propDecidable _) c];exact c
  .show EqAt X.A.in1 s w (.ref b) (@decide _ (Classical.propDecidable _));rw[@decide_eq_false _ (Classical.propDecidable _) c];cases z:D.eq (ds[i]'(by lia)) (.tup t)with
   |true=>rw[z]at he;exact absurd he c
   |false=>rw[z]at he;exact he
 .obtain⟨i,hi⟩:=y1D hin;obtain⟨u,hu',he⟩:=one i _ hi;rw[D.eq_refl]at he;rw[show(its.toArray.any fun u=>@decide (EqAt X.A.in1 s u (.ref b) true) (Classical.propDecidable _))=its.any fun u=>@decide (EqAt X.A.in1 s u (.ref b) true) (Classical.propDecidable _)by simp,
   y1S.mpr ⟨u,y0z hu',@decide_eq_true _ (Classical.propDecidable _) he⟩]
  rfl
end
section
variable{X:Cx}{pins:yyP}{s:Shared}{σ:St}{H:Hp}{sz:D->Int}{E:yyE}
def zau{A:Around}{a:Addr}{ds:List D}{vs:List V}{us:List Value}{n:Nat}{P:PySem.Fin->Shared->Prop}(I:Inv X pins σ H s)(hu:A.units+10<cLine)(ho:s.heap.get? a=some (seqObj "list" us.toArray n))(hfp:z3O X pins H a)(hz:us.length<=sizeLine)(hv:z1h vs us)(hd:DrL X.K H (ds.map (prD sz)) vs)(hq:∀d∈ds,D.key d/\D.dep d<=8)(hok:∀d∈ds,∀e∈ds,D.ok d e)(h:∀(rs:List D) (vs':List V) (s':Shared),rs.Perm ds->rs.Pairwise (fun x y=>D.ltK (prD sz y) (prD sz x)=false)->DrL X.K H (rs.map (prD sz)) vs'->Inv X pins σ (upd H a (.lst vs')) s'->P (.done (.ret .none)) s') : wpAny (model X.prog X.w) A (Builtin.«list.sort» ⟨[.ref a],[]⟩) P E s:=by
 have ha:a<s.heap.objs.size:=y0h ho;have s1:=y1r s.heap a (Obj.mapSeq fun _=>(#[]:Array Value));have I0:Inv X pins σ H { s with heap:=z0N s.heap a us }:=I.turnedL (ch:=[a]) (t':=s.toks) (fun b u hb e=>y06 _ (y06 _ (s1.extBut b u (fun z=>hb (by simp[z])) e))) fun b hb=>by rw[y08.mp hb];exact hfp
 have kp:∀d∈ds,D.key (prD sz d):=fun d hm=>by simp only[prD,D.key,D.keyL];exact⟨trivial,(hq d hm).1,trivial⟩
 have l1:=hd.length;have l2:=hv.length;rw[y01]at l1;have at_:∀(i:Nat)(d:D),ds[i]?=some d->∃b,us[i]?=some (.ref b)/\Dr X.K H (prD sz d) (.ref b):=fun i d hi=>by
  obtain⟨y,hy,dy⟩:=hd.get (i:=i) (d:=prD sz d) (by rw[y04,hi];rfl);obtain⟨u,hu',ru⟩:=hv.get hy;obtain⟨b,vs,e,r⟩:∃(a:Addr)(vs:List V),y=.ref a/\H a=some (.tup vs)/\DrL X.K H [.int (sz d),d] vs:=by simpa only[prD,Dr]using dy
  subst e;cases ru;exact⟨b,hu',dy⟩
 have mem:∀x∈us.zip us,∃d b,d∈ds/\x=(.ref b,.ref b)/\Dr X.K H (prD sz d) (.ref b):=fun x hx=>by
  obtain⟨i,hi⟩:=y1D hx;obtain⟨x1,x2⟩:=x;rw[y12]at hi;have hil:i<ds.length:=by have:=(y05.mp hi.1).1;lia
  obtain⟨b,eb,db⟩:=at_ i ds[i] (y00 hil);refine⟨ds[i],b,y0c hil,?_,db⟩;rw[eb]at hi;exact y2x (y07 hi.1).symm (y07 hi.2).symm
 have hdm:∀{d:D}{b:Addr},d∈ds->Dr X.K H (prD sz d) (.ref b)->Hd (z0N s.heap a us) (prD sz d) (.ref b):=fun hm dy=>Dr.hd I0.hok (kp _ hm) dy rfl;refine z8g (kf:=kfH (z0N s.heap a us)) (lt:=DK.lt) (kd:=tuples' true) DK.ord ho hz (fun h2=>z5V I0 (by lia) (fun u hu'=>?_) ⟨rfl,rfl⟩) (z5M (sz:=sz) I0 hu (fun x hx=>?_) fun x hx y hy d e hd he=>?_) fun xs hp hs=>?_
 .obtain⟨i,hi⟩:=y1D hu';have hil:i<ds.length:=by have:=(y05.mp hi).1;lia
  obtain⟨b,e,db⟩:=at_ i ds[i] (y00 hil);rw[hi]at e;cases e;exact⟨_,_,_,db,rfl⟩
 .obtain⟨d,b,hm,rfl,db⟩:=mem x hx;exact⟨d,_,db,rfl,hq d hm⟩
 .obtain⟨d',b,hm,rfl,db⟩:=mem x hx;obtain⟨e',c,hm',rfl,dc⟩:=mem y hy;have z1:=Hd.inj hd (hdm hm db);have z2:=Hd.inj he (hdm hm' dc);injection z1 with z1;injection z2 with z2;simp only[y3K,and_true]at z1 z2;rw[z1.2,z2.2];exact hok d' hm e' hm'
 .have mx:∀x∈xs,∃d b,d∈ds/\x=(.ref b,.ref b)/\Dr X.K H (prD sz d) (.ref b)/\unK (z0N s.heap a us) x=(d,b):=fun x hx=>by
   obtain⟨d,b,hm,rfl,db⟩:=mem x (hp.mem_iff.mp hx);refine⟨d,b,hm,rfl,db,?_⟩;unfold unK;rw[z3H (kp d hm) (hdm hm db)]
  have ez:(us.zip us).map (fun x=>(unK (z0N s.heap a us) x).1)=ds:=by
   refine y1f fun i=>?_;rw[y04];by_cases hi:i<ds.length
   .obtain⟨b,e,db⟩:=at_ i ds[i] (y00 hi);have ez':(us.zip us)[i]?=some (.ref b,.ref b):=by rw[y12];exact⟨e,e⟩
    rw[ez',y00 hi,y3I];unfold unK;rw[z3H (kp _ (y0c hi)) (hdm (y0c hi) db)]
   .rw[y0n (l:=ds) (by lia),y0n (by rw[y23];lia)];rfl
  have hpr:(xs.map fun x=>(unK (z0N s.heap a us) x).1).Perm ds:=by have:=hp.map fun x=>(unK (z0N s.heap a us) x).1;rwa [ez]at this
  obtain⟨e5,g5⟩:=sortedHeap_at (out:=(xs.map (·.2)).toArray) ho;have xl:xs.length=us.length:=by rw[hp.length_eq,y23,Nat.min_self]
  refine h _ (xs.map fun x=>V.ref (unK (z0N s.heap a us) x).2) _ hpr ?_ ?_ (I.adopt (p:=a) (o:=.lst (xs.map fun x=>V.ref (unK (z0N s.heap a us) x).2)) (t':=s.toks) (fun b u hb e=>?_) hfp ⟨by rw[y01,xl];exact hz,xs.map (·.2),e5,?_,g5⟩)
  .refine y1u.mpr (y1R ?_ hs);intro x y hx hy z;obtain⟨d,b,hm,rfl,db,g⟩:=mx x hx;obtain⟨e,c,hm',rfl,dc,g'⟩:=mx y hy;have z1:=z3H (x:=(Value.ref b,Value.ref b)) (kp d hm) (hdm hm db);have z2:=z3H (x:=(Value.ref c,Value.ref c)) (kp e hm') (hdm hm' dc);rw[z1,z2]at z;rw[g,g'];exact z
  .rw[y0L];refine DrL.map _ _ xs fun x hx=>?_;obtain⟨d,b,hm,rfl,db,g⟩:=mx x hx;rw[Function.comp,g];exact db
  .rw[sortedHeap_old hb (y0h e)];exact e
  .have ev:xs.map (·.2)=xs.map fun x=>Value.ref (unK (z0N s.heap a us) x).2:=y0H fun x hx=>by
    obtain⟨d,b,hm,rfl,db,g⟩:=mx x hx;rw[g]
   rw[ev];exact z9s _ _ _ fun x=>rfl
end
section
variable{X:Cx}(K:yyF)
def zfQ(sz:D->Int)(hK:X.K=K)(hu:X.A.units+12<cLine):z3j X (.builtin "sorted") (fun xs H Q=>∃(p:Addr) (vs:List V) (ds:List D),xs=[.ref p]/\SqL K H p vs/\DrL K H (ds.map (prD sz)) vs/\(∀d∈ds,D.key d/\D.dep d<=8)/\(∀d∈ds,∀e∈ds,D.ok d e) /\ ∀(rs:List D) (vs':List V) (l:Addr),rs.Perm ds->rs.Pairwise (fun x y=>D.ltK (prD sz y) (prD sz x)=false)->DrL K H (rs.map (prD sz)) vs'->H l=none->Q (.ref l) (upd H l (.lst vs'))):=by
 subst hK;intro pins s σ H xs us Q I r h;obtain⟨p,vs,ds,rfl,hp,hd,hq,hok,q⟩:=h;obtain⟨u,rfl,ru⟩:=z4r r;cases ru;obtain⟨its,rv,⟨o,n,ho,hc,_,hdat⟩,hz⟩:=I.list hp;have hz':its.length<=sizeLine:=by rw[<-rv.length];exact hz
 refine Calls.call_function_entry kind_sorted plain_sorted entry_sorted (args_sorted1 _) ?_;unfold Builtin.«sorted»;refine y03 (m:=checkCount "sorted" 1 1 _) (y0g ?_);refine y03 (wpAny_collect_seq (T:="list") p (.inl rfl) ho hc hdat (fun h1 hk1=>?_) (by simp only[y0D];exact hz'));refine y03 (wpAny_newList ?_ (by simpa using hz'));have I1:Inv X pins σ H { s with heap:=h1 }:=I.kept (t':=s.toks) hk1;have e0:its.toArray.toList=its:=by simp
 rw[e0];have I2:Inv X pins σ H { s with heap:=h1.push (seqObj "list" its.toArray 0) }:=I1.kept (t':=s.toks) fun b o e=>y06 _ e;have hoL:(h1.push (seqObj "list" its.toArray 0)).get? h1.objs.size=some (seqObj "list" its.toArray 0):=y0k _ rfl;show wpAny _ _ _ _ _ { s with heap:=h1.push (seqObj "list" its.toArray 0) };refine y03 (y1I (y1A slot_list_sort ⟨_,hoL,rfl⟩ entry_list_sort
  (zau (sz:=sz) I2 (by show X.A.units+1+1+10<cLine;lia) hoL (I1.fpOk (y0f _) I1.fresh) hz' rv hd hq hok fun rs vs' s' a1 a2 a3 a4=>⟨_,rfl,?_⟩) (args_list_sort _)))
 exact y0g ⟨_,rfl,.ref h1.objs.size,_,a4,rfl,q rs vs' _ a1 a2 a3 I1.fresh⟩
end
end L2
namespace Gu
open PySem L2
def szD:D->Int
 |.tup ds=>(ds.length:Int)
 |_=>0
abbrev fD(g:List Row):D:=D.tup (z0i g)
def zci{a b:List Row}(e:fD a=fD b):a=b:=by have:=zeE a b;rw[show D.tup (z0i a)=D.tup (z0i b)from e,D.eq_refl]at this;exact y14 this.symm
def z3y(g:List Row):D.key (fD g):=by have:=z2S [g];simp only[y0l,y0S,D.keyL]at this;exact this.1
def zeT(a b:List Row):D.ok (fD a) (fD b):=by simp only[D.ok];exact z9v a b
abbrev UpF(fs:List (List Row)):Prop:=fs.Pairwise fun a b=>D.ltK (prD szD (fD b)) (prD szD (fD a))=false
structure z7O(gs fs:List (List Row)):Prop where
 nd:fs.Nodup
 mem:∀f,f∈fs↔∃g∈gs,f∈z1v g g.length
 up:UpF fs
def zg1{fs fs':List (List Row)}(h:fs.Perm fs')(u:UpF fs)(u':UpF fs'):fs=fs':=by
 refine List.Perm.eq_of_pairwise (fun a b _ _ h1 h2=>?_) u u' h;have k:∀g:List Row,D.key (prD szD (fD g)):=fun g=>by simp only[prD,D.key,D.keyL];exact⟨trivial,z3y g,trivial⟩
 have e:=D.ltK_an _ _ (k a) (k b) h2 h1;injection e with e;simp only[y3K,and_true]at e;exact zci e.2
def zck{ks:List (List Row)}{xs:List D}(h:xs.Perm (fmD ks)):∃fs,xs=fmD fs/\fs.Perm ks:=by
 have un:∃u:D->List Row,∀g,u (fD g)=g:=⟨fun d=>open Classical in if z:∃g,fD g=d then z.choose else[],fun g=>by have z:∃g',fD g'=fD g:=⟨g,rfl⟩;simp only[dif_pos z];exact zci z.choose_spec⟩
 obtain⟨u,hu⟩:=un;refine⟨xs.map u,?_,?_⟩
 .unfold fmD;rw[y0L];refine(List.map_id xs).symm.trans (y0H fun x hx=>?_);obtain⟨g,_,rfl⟩:=y0b.mp (h.mem_iff.mp hx);show fD g=fD (u (fD g));rw[hu]
 .have:=h.map u;unfold fmD at this;rw[y0L]at this;refine this.trans (List.Perm.of_eq ?_);refine(y0H fun g _=>hu g).trans (List.map_id ks)
def z8y:List Stmt->Pos
 |[.Return (some (.Call _ _ [⟨_,.Lambda _ _ _ p,_⟩] _)) _]=>p
 |_::r=>z8y r
 |[]=>⟨0,0,0,0⟩
def zfH{k:Nat}{A:Around}(h:z38 k A):A.units+9<cLine:=by have:=h.un;lia
def zf0{k:Nat}{A:Around}(h:z38 k A):A.units+12<cLine:=by have:=h.un;lia
abbrev kvF(ks:List (List Row)):List (D × V):=ks.map fun g=>(fD g,V.bl true)
def z4v(ks:List (List Row)):(kvF ks).map (·.1)=fmD ks:=by unfold kvF fmD;rw[y0L];rfl
def zeI(ks:List (List Row))(f:List Row):z2c (kvF ks) (fD f) (.bl true)=kvF (if f∈ks then ks else ks++[f]):=by
 by_cases h:f∈ks
 .rw[if_pos h];unfold z2c;rw[if_pos (y1S.mpr ⟨(fD f,V.bl true),y0b.mpr ⟨f,h,rfl⟩,y1J rfl⟩)];refine(y0H fun kv hkv=>?_).trans (List.map_id _);obtain⟨g,_,rfl⟩:=y0b.mp hkv;by_cases e:fD g=fD f
  .rw[if_pos e];rfl
  .rw[if_neg e];rfl
 .rw[if_neg h];have:z2N (kvF ks) (fD f)=none:=by
   cases z:z2N (kvF ks) (fD f)with
   |none=>rfl
   |some v =>
    have:=zfh z;rw[z4v]at this;obtain⟨g,hg,e⟩:=y0b.mp this;rw[zci e]at hg;exact absurd hg h
  rw[z6B _ this];unfold kvF;rw[y0e];rfl
def SameL.overD{P:Program}{w:World}{K:yyF}{Ts:List Tb}{H H':Hp}{p:Addr}{kvs:List (D × V)}{ob:HO}(s:SameL Ts H H')(h:H p=none)(d:DD P w K H' p kvs):SameL Ts H (upd H' p ob):=by
 obtain⟨xs,e,_⟩:=d;have up:∀{b:Addr}{o:HO},H' b=some o->o≠zaB P w p xs->upd H' p ob b=some o:=fun{b o} q ne=>by rw[z06 (fun z=>by rw[z,e]at q;exact ne (y07 q).symm)];exact q
 refine⟨fun b o no q=>by rw[z06 (fun z=>by rw[z,h]at q;cases q)];exact s.at_ b o no q,fun ht T hT=>?_⟩;rcases s.tabs ht T hT with q|⟨c',oc,vs,t,q1,q2,q3⟩
 .exact .inl (up q fun z=>by cases z)
 .exact .inr ⟨c',oc,vs,t,up q1 (fun z=>by cases z),up q2 (fun z=>by cases z),q3⟩
def zhi(Ts:List Tb)(K:yyF)(H:Hp)(Q:VK)(ds:List D):Prop:=∀(l:Addr)(H':Hp)(us:List V),(H l=none\/∃ps,H l=some (.tbl ps))->SameL Ts H H'->H' l=some (.lst us)->DrL K H' ds us->Q (.ref l) H'
def zaY(Ts:List Tb)(K:yyF):Sp:=fun vs H Q _=>∃(a:Addr)(us:List V)(gs:List (List Row))(n:Nat),vs=[.ref a]/\z3P Ts H/\H a=some (.lst us)/\DrL K H (fmD gs) us/\(∀g∈gs,z0e n g/\g.length<=60)/\n<=60/\gs.length<=60/\∀fs,z7O gs fs->zhi Ts K H Q (fmD fs)
def z3K{n:Nat}{gs fs:List (List Row)}(h:z7O gs fs)(hg:∀g∈gs,z0e n g/\g.length<=60):∀f∈fs,z0e n f/\shr f=f/\f.length<=60:=fun f hf=>by obtain⟨g,hm,hs⟩:=(h.mem f).mp hf;obtain⟨G,h60⟩:=hg g hm;obtain⟨r,r0,r1,rfl⟩:=z1u.mp hs;have GS:=z0O G r0 r1;have hl:=z26 GS;rw[z1z]at hl;exact⟨z0I GS,z3m GS,by lia⟩
def z8r{n:Nat}{gs fs:List (List Row)}(h:z7O gs fs)(hg:∀g∈gs,z0e n g/\g.length<=60){f:List Row}(hf:f∈fs){w:List Int}(hw:LW n w):shr (swM f (goW f 0 w))∈fs:=by obtain⟨g,hm,hs⟩:=(h.mem f).mp hf;obtain⟨G,h60⟩:=hg g hm;obtain⟨r,r0,r1,rfl⟩:=z1u.mp hs;obtain⟨y0,y1⟩:=z1I G hw r0 r1;rw[zfc G h60 r0 r1 hw];exact(h.mem _).mpr ⟨g,hm,z1u.mpr ⟨_,y0,y1,rfl⟩⟩
def zfi{n:Nat}{g e:List Row}(G:z0e n g)(G':z0e n e)(hg:shr g=g)(he:shr e=e)(h:shr (z1H g)=shr (z1H e)):g=e:=by have h1:=z8n (z0v G);have h2:=z8n (z0v G');rw[z5g G]at h1;rw[z5g G']at h2;rw[<-hg,<-he,<-h1,<-h2,h]
def zbA{n:Nat}{A:List Row}(G:z0e n A)(hf:shr A=A)(h8:A.length<=8){fs rs cs:List (List Row)}(h:z7O [A] fs)(hr:rs.Perm (fs.map fun g=>shr (z1H g)))(hu:UpF rs)(hc:z7O [shr (z1H A)] cs):rs=cs:=by
 have hs:=z3K (n:=n) h fun g hg=>by rw[y08.mp hg];exact⟨G,by lia⟩
 have nd:(fs.map fun g=>shr (z1H g)).Nodup:=by rw[y1b,y1u];refine y1R (fun{a b} ha hb hab e=>hab ?_) (y1b.mp h.nd);obtain⟨a1,a2,_⟩:=hs a ha;obtain⟨b1,b2,_⟩:=hs b hb;exact zfi a1 b1 a2 b2 e
 refine zg1 (hr.trans ((List.perm_ext_iff_of_nodup nd hc.nd).mpr fun f=>?_)) hu hc.up;rw[hc.mem,y0b];constructor
 .rintro⟨g,hg,rfl⟩;obtain⟨a,ha,hga⟩:=(h.mem g).mp hg;rw[y08.mp ha]at hga;exact⟨_,y08.mpr rfl,(z7E G hf h8 _).mpr ⟨g,hga,rfl⟩⟩
 .rintro⟨a,ha,hfa⟩;rw[y08.mp ha]at hfa;obtain⟨g,hg,rfl⟩:=(z7E G hf h8 f).mp hfa;exact⟨g,(h.mem g).mpr ⟨A,y08.mpr rfl,hg⟩,rfl⟩
def zaA(ds es:List D):List D:=ds.flatMap fun d=>es.map fun e=>.tup [d,e]
def z4p(gs es:List (List Row)):List (List Row × List Row):=gs.flatMap fun g=>es.map fun e=>(g,e)
def zbm(ds es:List D)(d:D):zaA (ds++[d]) es=zaA ds es++es.map fun e=>.tup [d,e]:=by unfold zaA;rw[List.flatMap_append];simp
def z9D(ds es:List D):(zaA ds es).length=ds.length*es.length:=by
 unfold zaA;induction ds with
 |nil=>simp
 |cons x xs ih=>rw[List.flatMap_cons,y0a,ih,y01,y0X,Nat.succ_mul,Nat.add_comm]
def z8C(gs es:List (List Row)):zaA (fmD gs) (fmD es)=(z4p gs es).map fun p=>.tup [fD p.1,fD p.2]:=by unfold zaA z4p fmD;rw[List.flatMap_map,List.map_flatMap];congr 1;funext g;rw[y0L,y0L];rfl
def z6H{gs es:List (List Row)}{p:List Row × List Row}:p∈z4p gs es↔p.1∈gs/\p.2∈es:=by
 unfold z4p;rw[List.mem_flatMap];constructor
 .rintro⟨g,hg,h⟩;obtain⟨e,he,rfl⟩:=y0b.mp h;exact⟨hg,he⟩
 .rintro⟨h1,h2⟩;exact⟨p.1,h1,y0b.mpr ⟨p.2,h2,rfl⟩⟩
def z4P{d:D}{es:List D}(kd:D.key d)(ke:D.keyL es):D.keyL (es.map fun e=>.tup [d,e]):=by
 induction es with
 |nil=>simp only[y0S,D.keyL]
 |cons e es ih =>
  simp only[D.keyL]at ke;simp only[y0l,D.keyL,D.key];exact⟨⟨kd,ke.1,trivial⟩,ih ke.2⟩
def z9p{a b:List D}(h:D.keyL a)(h':D.keyL b):D.keyL (a++b):=by
 induction a with
 |nil=>exact h'
 |cons d a ih =>
  simp only[D.keyL]at h;simp only[y3v,D.keyL];exact⟨h.1,ih h.2⟩
def zdl{ds es:List D}(kd:D.keyL ds)(ke:D.keyL es):D.keyL (zaA ds es):=by
 unfold zaA;induction ds with
 |nil=>simp only[List.flatMap_nil,D.keyL]
 |cons d ds ih =>
  simp only[D.keyL]at kd;rw[List.flatMap_cons];exact z9p (z4P kd.1 ke) (ih kd.2)
def z7r{ds:List D}(k:D.keyL ds)(i:Nat):D.keyL (ds.take i):=z6Z fun d hd=>by obtain⟨j,hj⟩:=y1D (y10 hd);exact D.keyL_get k hj
def zbh(K:yyF):Sp:=fun vs H Q _=>∃(a b:Addr)(xs ys:List V)(ds es:List D),vs=[.ref a,.ref b]/\H a=some (.lst xs)/\H b=some (.lst ys)/\DrL K H ds xs/\DrL K H es ys/\D.keyL ds/\D.keyL es/\xs.length<=60/\ys.length<=60/\∀(l:Addr)(H':Hp)(ps:List V),z0d H H'->H' l=some (.lst ps)->DrL K H' (zaA ds es) ps->Q (.ref l) H'
theorem DrL.keyedN{K:yyF}{H H':Hp}(k:∀b xs,H b=some (.tup xs)->H' b=some (.tup xs)):∀{ds:List D}{vs:List V},(∀d∈ds,d=.non\/D.key d/\D.dep d<=8)->DrL K H ds vs->DrL K H' ds vs
 |[],_,_,h=>by simp only[DrL]at h⊢;exact h
 |d::ds,_,q,h=>by
  simp only[DrL]at h⊢;obtain⟨v,r,e,q1,q2⟩:=h;refine⟨v,r,e,?_,DrL.keyedN k (fun x hx=>q x (y09 _ hx)) q2⟩;rcases q d y0m with rfl|⟨z,_⟩
  .simp only[Dr]at q1⊢;exact q1
  .exact q1.keyed k z
def zbu(A B:List Row):z7Z A B=.non\/D.key (z7Z A B)/\D.dep (z7Z A B)<=8:=by
 by_cases h:(shr (z0u A B)).length<=60
 .rw[z4A h];refine .inr ⟨z3y _,?_⟩;have:=z34 (shr (z0u A B));simp only[D.dep];lia
 .exact .inl (z6S (by lia))
def zai(ps:List (List Row × List Row)):List D:=ps.map fun p=>z7Z p.1 p.2
def z2u(ps:List (List Row × List Row)):∀d∈zai ps,d=.non\/D.key d/\D.dep d<=8:=fun d hd=>by obtain⟨p,_,rfl⟩:=y0b.mp hd;exact zbu p.1 p.2
def z9S{gs es:List (List Row)}{g e f:List Row}(hg:g∈gs)(he:e∈es)(hf:f=shr (z0u g e))(h60:f.length<=60):fD f∈zai (z4p gs es):=by refine y0b.mpr ⟨(g,e),z6H.mpr ⟨hg,he⟩,?_⟩;show z7Z g e=_;rw[z4A (by rw[<-hf];exact h60),<-hf]
def z97(gs es:List (List Row)):(z4p gs es).length=gs.length*es.length:=by have:=z9D (fmD gs) (fmD es);rw[z8C,y01,z1G,z1G]at this;exact this
def z99{gs:List (List Row)}:D.keyL (fmD gs):=z2S gs
def z3d{n:Nat}{A:List Row}(G:z0e n A)(h60:A.length<=60):∀f∈z1v A A.length,z0e n f/\shr f=f/\f.length<=A.length:=fun f hf=>by obtain⟨r,r0,r1,rfl⟩:=z1u.mp hf;have GS:=z0O G r0 r1;have hl:=z26 GS;rw[z1z]at hl;exact⟨z0I GS,z3m GS,hl⟩
def z4a{n:Nat}{A f:List Row}(h:f∈z0U n A A.length):f∈z1v A A.length:=by obtain⟨r,r0,r1,_,e⟩:=z3L.mp h;exact z1u.mpr ⟨r,r0,r1,e⟩
def zgi(gs:List (List Row)):D.okL (fmD gs) (fmD gs):=by
 have:∀a b:List (List Row),D.okL (fmD a) (fmD b):=fun a=>by
  induction a with
  |nil=>intro b;cases b<;>simp[fmD,D.okL]
  |cons x a ih =>
   intro b;cases b with
   |nil=>simp[fmD,D.okL]
   |cons y b =>
    have h1:=zeT x y;have h2:=ih b;unfold fmD at h2⊢;simp only[y0l,D.okL];exact⟨h1,h2⟩
 exact this gs gs
def zf8(gs:List (List Row)):D.depL (fmD gs)<=50:=D.depL_le fun d hd=>by obtain⟨g,_,rfl⟩:=y0b.mp hd;exact zaf g
section
variable{P:Program}{w:World}{K:yyF}{mg:yyS}{base:Heap}{f g:Addr}{fd gd:FuncData}{CX:CXT}[NoE CX]
abbrev nGt:List Str:=["guise","rows","seen","row","rearranging","goings","going"]
def zft:z0q nGt ["guise","rows"] (z05 z7c):={}
def zba(mli:mg "list"=none)(F:Fun K "gone_to" "gone_to" z7c f fd):z0C P w K mg base CX 1 f fd ["guise","rows"] (z6D K):=by
 refine F.okc zft (fun vs H Q E h=>?_) (fun cdv A outer s H vs Q E hr h=>?_)
 .obtain⟨v,a,rows,n,rs,rfl,_⟩:=h;rfl
 obtain⟨v,a,rows,n,rs,rfl,dv,ea,GM,h60,hrs,q⟩:=h;have hu:=zan hr;refine⟨_,z02 (z0k (i:=2) zft.nd rfl (Or.inl rfl) z6V)
  (z02 (z1r y0I rfl (z0Y (pv 1)) (z09 (i:=3) zft.nd rfl (Or.inl rfl))
   (z02 (z2U (z1c z24 (pv 0) (pv 3) (fun _ _=>rfl)) (z2l rfl (z0l (z09 (i:=4) zft.nd rfl (Or.inl rfl)) (z0l (z09 (i:=5) zft.nd rfl (Or.inl rfl)) z1b))))
   (z07 (z1r y0I rfl (z2y (pv 5)) (z09 (i:=6) zft.nd rfl (Or.inl rfl))
    (z07 (z42 hu (pv 2) (pv 6) z5f rfl))))))
  (z07 (z0D (z0B (z8d rfl) rfl mli PyProof.Rows.boot_list (z00 (pv 2) z03))))),?_⟩
 obtain⟨av,us,rfl,eav,dus⟩:∃(av:Addr)(us:List V),v=.ref av/\H av=some (.tup us)/\DrL K H (z0i rows) us:=by simp only[Dr]at dv;exact dv
 intro d hd0;have s0:z0d H (upd H d (.dK [])):=z04 (z0d.refl H) hd0;have few:∀o:List Int,o.Nodup->(∀x∈o,0<=x/\x<(rows.length:Int))->o.length<=60:=fun o h1 h2=>y0r (z23 h1 h2) h60;refine⟨_,rfl,a,rfl,⟨_,SqL.of (s0 _ _ ea)⟩,z5t (xs:=rs.map V.int) (fun i σ H2=>∃u3 u4 u5 u6:Option V,σ=[some (.ref av),some (.ref a),some (.ref d),u3,u4,u5,u6]/\z0d H H2/\H2 d=some (.dK (kvT (z33 rows (rs.take i)))))
  ⟨none,none,none,none,rfl,s0,z01⟩ (fun i σ H2 _ h=>by obtain⟨_,_,_,_,_,s2,_⟩:=h;exact SqL.of (s2 _ _ ea)) (fun i x σ H2 hx h Ed nx=>?_) (fun σ H2 h=>?_)⟩
 .obtain⟨u3,u4,u5,u6,rfl,s2,ed⟩:=h;rw[y04]at hx;obtain⟨r,er,rfl⟩:=y1a.mp hx;have hrm:r∈rs:=y0z er;obtain⟨r0,r1⟩:=hrs r hrm;have hti:∀y∈rs.take i,0<=y/\y<(rows.length:Int):=fun y hy=>hrs y (y10 hy);obtain⟨x0,ex0,dx0⟩:=z2m dus (z2Y r0 r1);obtain⟨t,b,c,rfl,et,eb,ec⟩:=z1d dx0;refine(exA rfl (exA rfl ⟨av,_,_,.ref t,rfl,rfl,SqT.of (s2 _ _ eav),(by have:=z0L (j:=r.toNat) ex0;rw[y2n r0]at this;exact this),exF t rfl (SqT.of (s2 _ _ et)) rfl (exB rfl (exC rfl rfl ?_))⟩));refine⟨_,rfl,c,rfl,⟨_,SqT.of (s2 _ _ ec)⟩,zgA (xs:=(row rows r).2.map V.int) (fun j σ H3=>∃u:Option V,σ=[some (.ref av),some (.ref a),some (.ref d),some (.int r),some (.ref b),some (.ref c),u]/\z0d H H3/\H3 d=some (.dK (kvT (z08 (z33 rows (rs.take i)) ((row rows r).2.take j)))))
   ⟨_,rfl,s2,ed⟩ (fun j σ H3 _ h=>by obtain⟨_,_,s3,_⟩:=h;exact SqT.of (s3 _ _ ec)) (fun j x σ H3 hx h Ed2 nx2=>?_) (fun σ H3 h=>?_)⟩
  .obtain⟨u,rfl,s3,ed3⟩:=h;rw[y04]at hx;obtain⟨g,eg,rfl⟩:=y1a.mp hx;have hl:(z08 (z33 rows (rs.take i)) ((row rows r).2.take j)).length<=60:=few _ (z1S _ _ (z58 _)) fun y hy=>by
    rcases z0A.mp hy with z|z
    .exact zbc GM hti y z
    .exact GM.go _ (z0c r0 r1) y (y10 z)
   refine(exA rfl (exA rfl ⟨d,exA rfl ⟨zcB.k (k:=Sum.inl g) ed3 (by rw[z8X];exact z1F (by lia)),?_⟩⟩));refine nx2 _ _ (exA rfl ⟨z0a s3 hd0,?_⟩);rw[z81 eg,<-z8l];exact z01
  .obtain⟨u,rfl,s3,ed3⟩:=h;refine nx _ _ ⟨_,_,exB rfl ⟨s3,?_⟩⟩;rw[y01,y0A]at ed3;rw[ed3];unfold z33;rw[y0v,er,List.flatMap_append,z6U];simp
 .obtain⟨u3,u4,u5,u6,rfl,s2,ed⟩:=h;rw[y01,y0A]at ed;refine(exA rfl ⟨d,exA rfl ⟨ed,fun l hl=>?_⟩⟩);rw[zdg];exact q l _ (z04 s2 hl) (s2.free hl) z01
abbrev zg6:Scope:=csc [("at",.local),("guise",.free)]
def zgT:z0q ["guise","row"] ["guise","row"] (z05 z5B):={}
def zgI:z0W ["guise","row"] (z05 z5B) ["at","guise"] [none,some 0] zg6:={}
def zhh:zfq ["at","guise"] ["at"] zg6:={}
def zep{k Ct cc:Addr}{kd:FuncData}{Ts:List Tb}{T0:Tb}(F:Fun K "section_at" "section_at" z5B f fd)(hcd:fd.code=.ref cc)(hC:PySem.W.CodeHd base cc T0.at_)(hB:z43 base mg)(hT:T0∈Ts)(hTn:∀T'∈Ts,T'.at_=T0.at_->T'=T0)(hTp:T0.pos=z4V (z0M z5B))(hTq:T0.qual=("section_at.<locals>."++"<lambda>":Str))(T:z0C P w K mg base (CXx P w) 6 k kd ["first","row_at"] (z4t P w K mg base (CXx P w) 4 Ct))(bT:z0t K kd ["first","row_at"] [])(kT:PySem.W.keepIn K (.ref k)=true)(mT:mg "least_form"=some (.ref k)):z0C P w K mg base (CXx P w) 7 f fd ["guise","row"] (z8b Ts K):=by
 refine F.okL hcd zgT (fun vs H Q E h=>?_) (fun A outer s H vs Q E hr h=>?_)
 .obtain⟨v,rows,n,g,rfl,_⟩:=h;rfl
 obtain⟨v,rows,n,g,rfl,hTb,dv,GM,hn,h60,g0,g1,gv⟩:=h;refine⟨_,z07 (z0D (z6A (Ts:=Ts) (T:=T0) T hr rfl mT kT bT (zbl fun _ _ _ z=>z) (pv 1) (fun σ H Q Q' h ⟨v,e,q⟩=>⟨v,e,h _ _ q⟩) zgI rfl hC hB (fun _=>rfl) hT hTn hTp hTq)),?_⟩;obtain⟨av,us,rfl,eav,dus⟩:∃(av:Addr)(us:List V),v=.ref av/\H av=some (.tup us)/\DrL K H (z0i rows) us:=by simp only[Dr]at dv;exact dv
 have G2:=z0O GM g0 g1;refine(exA rfl ⟨hTb,fun fa H4 cs f1 f2 f3 C=>?_⟩);have fin:∀{H5:Hp},z0d H4 H5->SameL Ts H (utk H5 cs):=fun s5=>(z0d.l (z0d.refl H)).trans (f2 _ s5);have eav4:=f1 _ _ (fun _ z=>by cases z) ((z0d.refl H) _ _ eav);have dus4:DrL K H4 (z0i rows) us:=(dus.mono (z0d.refl H)).monoL (Ts:=[]) ⟨f1,fun _ _ h=>absurd h (by simp)⟩;have RN:=zbP (s:=g) g0 g1 dus4;refine⟨fa,n,swM rows g,sw g,(by rw[z8h]),zge g,?_,G2,hn,fun h6 v H5 s5 d=>gv v _ (fin s5) (d.nfr (NFr.utk f3 s5)),fun h6=>absurd h6 (by have:=z26 G2;rw[z1z]at this;lia)⟩;refine z2D.lam (k:=3) C zhh (fun _ _ _ _ us hl=>by obtain⟨a9,rfl⟩:=zew hl;rfl) rfl (fun vs H Q h=>?_) (fun H' s' A outer s cd clos cs vs Q hr nf h=>?_)
 .obtain⟨i,rfl,_⟩:=h;rfl
 obtain⟨i,rfl,h0,h1',gq⟩:=h;obtain⟨j0,v,ev,dv'⟩:=RN i h0 h1';refine⟨_,z1c z24 (pv 1) (pv 0) (fun _ _=>rfl),?_⟩;refine(exA rfl (exA rfl (exD av us (sw g i) v rfl rfl (SqT.of (nf _ _ (fun _ z=>by cases z) (s' _ _ eav4))) (z27 j0 ev) (fun hc=>?_))));have sr:=z0d.rtk (H:=H') (H1:=utk H' cs) (cs:=cs) (z0d.refl _);exact gq v _ sr ((dv'.mono s').mono sr)
abbrev zim:List Str:=["guise","word","made","at"]
def zfd:z0q zim ["guise","word"] (z05 z70):={}
def zca{k b c Cw:Addr}{kd bd cd:FuncData}{Ts:List Tb}(F:Fun K "behind" "behind" z70 f fd)(G:z0C P w K mg base (CXx P w) 7 g gd ["letters","word"] (z6M K Cw))(bG:z0t K gd ["letters","word"] [])(kG:PySem.W.keepIn K (.ref g)=true)(mG:mg "check_word"=some (.ref g))(R:z0C P w K mg base (CXx P w) 7 b bd ["guise"] (z4W K))(bR:z0t K bd ["guise"] [])(kR:PySem.W.keepIn K (.ref b)=true)(mR:mg "breadth"=some (.ref b))(U:z0C P w K mg base (CXx P w) 7 c cd ["guise","row","word"] (z8z K))(bU:z0t K cd ["guise","row","word"] [])(kU:PySem.W.keepIn K (.ref c)=true)(mU:mg "read_from"=some (.ref c))(T:z0C P w K mg base (CXx P w) 7 k kd ["guise","row"] (z8b Ts K))(bT:z0t K kd ["guise","row"] [])(kT:PySem.W.keepIn K (.ref k)=true)(mT:mg "section_at"=some (.ref k)):z0C P w K mg base (CXx P w) 8 f fd ["guise","word"] (z6O Ts K Cw):=by
 refine F.okx zfd (fun vs H Q E h=>?_) (fun cdv A outer s H vs Q E hr h=>?_)
 .obtain⟨v,u,rows,n,w,rfl,_⟩:=h;rfl
 obtain⟨v,u,rows,n,wd,rfl,hTb,dv,dw,GM,hn,h60,h5,gv,gx⟩:=h;refine⟨_,z02 (z1x (z0j G hr rfl mG kG bG .nil (zbl fun _ _ _ z=>z) (z00 (z0j R hr rfl mR kR bR .nil z0Q (z00 (pv 0) z03)) (z00 (pv 1) z03))))
  (z02 (z2U (z0j U hr rfl mU kU bU .nil z0Q (z00 (pv 0) (z00 z0h (z00 (pv 1) z03)))) (z2l rfl (z0l (z09 (i:=2) zfd.nd rfl (Or.inl rfl)) (z0l (z09 (i:=3) zfd.nd rfl (Or.inl rfl)) z1b))))
  (z07 (z0D (z0j T hr rfl mT kT bT .nil z0Q (z00 (pv 0) (z00 (pv 3) z03)))))),?_⟩
 have h1:=GM.some;obtain⟨r0,rt,er⟩:∃r0 rt,rows=r0::rt:=by
  cases rows with
  |nil=>simp at h1
  |cons r0 rt=>exact⟨r0,rt,rfl⟩
 have hp0:=GM.perm r0 (by rw[er];simp);have hl0:=hp0.len;refine(exA rfl ⟨v,r0,z0i rt,rfl,(by rw[er]at dv;exact dv),by lia,fun H1 s1=>(exA rfl ⟨n,u,wd,(by rw[hl0];rfl),dw.mono s1,by lia,fun hw H2 s2=>?_,fun hw ea H2 s2=>gx hw ea H2 (z0d.l (s1.trans s2))⟩)⟩);have s02:=s1.trans s2;obtain⟨g0,g1⟩:=z1I GM hw (y0Q 0) (by lia);refine(exA rfl (exA rfl ⟨v,u,rows,n,wd,0,rfl,dv.mono s02,dw.mono s02,GM,hn,by lia,hw,y0Q 0,by lia,fun r t H3 s3 er' et=>?_⟩));refine(exF r rfl (SqT.of er') rfl (exB rfl (exC rfl rfl ?_)));have s03:=s02.trans s3;exact(exA rfl (exA rfl ⟨v,rows,n,exA rfl ⟨z3P.mono hTb s03,dv.mono s03,GM,hn,h60,g0,g1,fun x H4 s4 d4=>gv hw x H4 ((z0d.l s03).trans s4) d4⟩⟩))
abbrev zhN:List Str:=["guise"]
def zgO:z0q zhN ["guise"] (z05 z2X):={}
def zfA:z0W zhN (z05 z2X) ["row","guise"] [none,some 0] (csc [(".0",.local),("row",.local),("section_at",.globalImplicit),("guise",.free)]):={}
def z7u{k:Addr}{kd:FuncData}{Ts:List Tb}(ml:mg "len"=none)(mr:mg "range"=none)(F:Fun K "sections" "sections" z2X f fd)(T:z0C P w K mg base (CXx P w) 7 k kd ["guise","row"] (z8b Ts K))(bT:z0t K kd ["guise","row"] [])(kT:PySem.W.keepIn K (.ref k)=true)(mT:mg "section_at"=some (.ref k)):z0C P w K mg base (CXx P w) 8 f fd ["guise"] (z2J Ts K):=by
 refine F.okc zgO (fun vs H Q E h=>?_) (fun cdv A outer s H vs Q E hr h=>?_)
 .obtain⟨v,rows,n,rfl,_⟩:=h;rfl
 obtain⟨v,rows,n,rfl,hTb,dv,GM,hn,h60,gv⟩:=h;refine⟨_,z07 (z0D (z1e rfl zfA (z2a rfl mr (z00 (z0n z0g rfl ml y0G (z00 (pv 0) z03)) z03)) (fun _ _ _ _ _=>z09 (i:=0) zfA.nd rfl (Or.inl rfl)) (fun _ _ _ _ _=>z0j T hr rfl mT kT bT .nil z0Q (z00 (pv 1) (z00 (pv 0) z03))))),?_⟩;obtain⟨av,us,rfl,eav,dus⟩:∃(av:Addr)(us:List V),v=.ref av/\H av=some (.tup us)/\DrL K H (z0i rows) us:=by simp only[Dr]at dv;exact dv
 have hlu:us.length=rows.length:=by rw[<-dus.length];unfold z0i;rw[y01]
 refine(exA rfl (exG av rfl (.inr (SqT.of eav)) ?_));rw[hlu];refine⟨((rows.length:Nat):Int),rfl,by lia,by lia,fun l hl=>z49 (n:=((rows.length:Nat):Int).toNat) (fun i ys H2=>ys.length=i/\i<=rows.length/\SameL Ts H H2/\DrL K H2 (fmD (z1v rows i)) ys) ⟨rfl,y0y _,z0d.l (z04 (z0d.refl H) hl),DrL.nil⟩ (by rw[y0E];exact z19 (by lia)) (fun i ys H2 h=>h.1) (fun i ys H2 hi h hy=>?_) (fun ys H2 h hy=>?_)⟩
 .obtain⟨hyl,_,s2,d2⟩:=h;have hi':i<rows.length:=by lia
  refine(exA rfl (exA rfl ⟨.ref av,rows,n,(i:Int),(by rw[Int.zero_add];rfl),s2.tabs hTb,dv.monoL s2,GM,hn,h60,by lia,by lia,fun x H3 s3 d3=>?_⟩));have e3:=s3.g hy;refine⟨e3,by rw[y0a,hyl];rfl,by lia,SameL.over (s2.trans s3) hl e3,?_⟩;rw[zcv,z4B];refine DrL.append ((d2.monoL s3).keyed (z17 e3) (z2S _)) (DrL.one (d3.keyed (z17 e3) ?_));have:=z2S [shr (swM rows (i:Int))];simp only[y0l,y0S,D.keyL]at this;exact this.1
 .obtain⟨hyl,_,s2,d2⟩:=h;rw[y0E]at d2;exact gv l _ _ hl s2 hy d2
abbrev nLs:List Str:=["guise"]
def zhY:z0q nLs ["guise"] (z05 z3M):={}
def zhR:z0W nLs (z05 z3M) ["row","guise"] [none,some 0] (csc [(".0",.local),("row",.local),("comes_again",.globalImplicit),("section_at",.globalImplicit),("guise",.free)]):={}
def z8f{Ts:List Tb}(ml:mg "len"=none)(mr:mg "range"=none)(F:Fun K "lasting" "lasting" z3M f fd){aT:Addr}{dT:FuncData}(T:z0C P w K mg base (CXx P w) 7 aT dT ["guise","row"] (z8b Ts K))(bT:z0t K dT ["guise","row"] [])(kT:PySem.W.keepIn K (.ref aT)=true)(mT:mg "section_at"=some (.ref aT)){aC:Addr}{dC:FuncData}(C:z0C P w K mg base (CXx P w) 7 aC dC ["guise","row"] (z6x K))(bC:z0t K dC ["guise","row"] [])(kC:PySem.W.keepIn K (.ref aC)=true)(mC:mg "comes_again"=some (.ref aC)):z0C P w K mg base (CXx P w) 8 f fd ["guise"] (z3U Ts K):=by
 refine F.okc zhY (fun vs H Q E h=>?_) (fun cdv A outer s H vs Q E hr h=>?_)
 .obtain⟨v,rows,n,rfl,_⟩:=h;rfl
 obtain⟨v,rows,n,rfl,hTb,dv,GM,n2,hn,h60,gv⟩:=h;refine⟨_,z07 (z0D (zdc rfl zhR (z2a rfl mr (z00 (z0n z0g rfl ml y0G (z00 (pv 0) z03)) z03)) (fun _ _ _ _ _=>z09 (i:=0) zhR.nd rfl (Or.inl rfl)) (fun _ _ _ _ _=>zbv (z0j C hr rfl mC kC bC .nil z0Q (z00 (pv 1) (z00 (pv 0) z03)))) (fun _ _ _ _ _=>z0j T hr rfl mT kT bT .nil z0Q (z00 (pv 1) (z00 (pv 0) z03))))),?_⟩;obtain⟨av,us,rfl,eav,dus⟩:∃(av:Addr)(us:List V),v=.ref av/\H av=some (.tup us)/\DrL K H (z0i rows) us:=by simp only[Dr]at dv;exact dv
 have hlu:us.length=rows.length:=by rw[<-dus.length];unfold z0i;rw[y01]
 refine(exA rfl (exG av rfl (.inr (SqT.of eav)) ?_));rw[hlu];refine⟨((rows.length:Nat):Int),rfl,by lia,by lia,fun l hl=>z8M (n:=((rows.length:Nat):Int).toNat) (fun i ys H2=>ys.length<=i/\i<=rows.length/\SameL Ts H H2/\DrL K H2 (fmD (z0U n rows i)) ys) ⟨y0f _,y0y _,z0d.l (z04 (z0d.refl H) hl),DrL.nil⟩ (by rw[y0E];exact z19 (by lia)) (fun i ys H2 h=>h.1) (fun i ys H2 hi h hy=>?_) (fun ys H2 h hy=>?_)⟩
 .obtain⟨hyl,_,s2,d2⟩:=h;have hi':i<rows.length:=by lia
  refine(exA rfl (exA rfl ⟨.ref av,rows,n,(i:Int),(by rw[Int.zero_add];rfl),dv.monoL s2,GM,n2,h60,by lia,by lia,fun b hb H3 s3=>(exA rfl ?_)⟩));have e3:=s3 _ _ hy;have s23:=s2.trans (z0d.l s3);cases b with
  |false =>
   have eb:lpB n rows i=false:=by
    cases z:lpB n rows i with
    |false=>rfl
    |true=>exact absurd (hb.mpr (z6e.mp z)) (by simp)
   exact⟨e3,by lia,by lia,s23,by rw[zdv eb];exact d2.mono s3⟩
  |true =>
   have eb:lpB n rows i=true:=z6e.mpr (hb.mp rfl);refine(exA rfl (exA rfl ⟨.ref av,rows,n,(i:Int),(by rw[Int.zero_add];rfl),s23.tabs hTb,dv.monoL s23,GM,hn,h60,by lia,by lia,fun x H4 s4 d4=>?_⟩));have e4:=s4.g e3;refine⟨e4,by rw[y0a];simp;lia,by lia,SameL.over (s23.trans s4) hl e4,?_⟩;rw[zcl eb,z4B];refine DrL.append (((d2.mono s3).monoL s4).keyed (z17 e4) (z2S _)) (DrL.one (d4.keyed (z17 e4) ?_));have:=z2S [shr (swM rows (i:Int))];simp only[y0l,y0S,D.keyL]at this;exact this.1
 .obtain⟨hyl,_,s2,d2⟩:=h;rw[y0E]at d2;exact gv l _ _ hl s2 hy d2
abbrev nCa:List Str:=["guise","row","found","seen","at","going"]
def zfs:z0q nCa ["guise","row"] (z05 z4N):={}
def zhy:z0W nCa (z05 z4N) ["going"] [none] (csc [(".0",.local),("going",.local)]):={}
def zcA{n:Nat}{M:List Row}(G:z0e n M){r x g:Int}{v:List Int}(lv:LW n v)(r0:0<=r)(r1:r<(M.length:Int))(e:goW M r v=x)(hg:g∈(row M x).2):∃u,u≠[]/\LW n u/\goW M r u=g:=by obtain⟨a,b⟩:=z1I G lv r0 r1;rw[e]at a b;obtain⟨i,hi,ei⟩:=y0V.mp hg;have hn:=G.len _ (z0c a b);refine⟨v++[(i:Int)],by simp,zb5 lv (by lia),?_⟩;rw[z2W,e];show(row M x).2.getD ((i:Int)).toNat 0=g;rw[y0E,y02,y00 hi];exact ei
structure Fnd(n:Nat)(M:List Row)(r:Int)(o:List Int):Prop where
 nd:o.Nodup
 rg:∀x∈o,0<=x/\x<(M.length:Int)
 st:∀g∈(row M r).2,g∈o
 re:∀x∈o,∃u,u≠[]/\LW n u/\goW M r u=x
def Fnd.add{n:Nat}{M:List Row}(G:z0e n M){r:Int}(r0:0<=r)(r1:r<(M.length:Int)){o:List Int}(h:Fnd n M r o){x g:Int}(hx:x∈o)(hg:g∈(row M x).2):Fnd n M r (z2b o g):=by
 obtain⟨a,b⟩:=h.rg x hx;obtain⟨u,une,lu,eu⟩:=h.re x hx;refine⟨z5K h.nd,fun y hy=>?_,fun y hy=>z1k.mpr (.inl (h.st y hy)),fun y hy=>?_⟩
 .rcases z1k.mp hy with z|z
  .exact h.rg y z
  .rw[z];exact G.go _ (z0c a b) g hg
 .rcases z1k.mp hy with z|z
  .exact h.re y z
  .rw[z];exact zcA G lu r0 r1 eu hg
theorem Fnd.all{n:Nat}{M:List Row}(G:z0e n M){r:Int}(r0:0<=r)(r1:r<(M.length:Int)){x:Int}:∀(gs:List Int)(o:List Int),Fnd n M r o->x∈o->(∀g∈gs,g∈(row M x).2)->Fnd n M r (z08 o gs)
 |[],_,h,_,_=>h
 |g::gs,o,h,hx,hg=>Fnd.all G r0 r1 gs (z2b o g) (h.add G r0 r1 hx (hg g y0m)) (z1k.mpr (.inl hx)) fun y hy=>hg y (y09 _ hy)
def zfk{n:Nat}{M:List Row}(G:z0e n M){r:Int}(r0:0<=r)(r1:r<(M.length:Int)){o:List Int}(h:Fnd n M r o)(cl:∀x∈o,∀g∈(row M x).2,g∈o):decide (r∈o)=true↔Lp n M r:=by
 rw[decide_eq_true_iff];constructor
 .exact fun hr=>h.re r hr
 .rintro⟨v,vne,lv,e⟩;cases v with
  |nil=>exact absurd rfl vne
  |cons l v =>
   obtain⟨l0,l1⟩:=lv l y0m;obtain⟨_,_,g2⟩:=zbQ G r0 r1 (show l.toNat<n by lia);have:=z6P (n:=n) (M:=M) (C:=fun z=>z∈o) (fun z hz=>G.len _ (z0c (h.rg z hz).1 (h.rg z hz).2)) (fun z hz g hg=>cl z hz g hg) v _ lv.tail (h.st _ g2);have e':goW M ((row M r).2.getD l.toNat 0) v=r:=e;rw[e']at this;exact this
def zaX(ml:mg "len"=none)(F:Fun K "comes_again" "comes_again" z4N f fd){aG:Addr}{dG:FuncData}(G:z0C P w K mg base CX 1 aG dG ["guise","rows"] (z6D K))(bG:z0t K dG ["guise","rows"] [])(kG:PySem.W.keepIn K (.ref aG)=true)(mG:mg "gone_to"=some (.ref aG)):z0C P w K mg base CX 2 f fd ["guise","row"] (z6x K):=by
 refine F.okc zfs (fun vs H Q E h=>?_) (fun cdv A outer s H vs Q E hr h=>?_)
 .obtain⟨v,rows,n,r,rfl,_⟩:=h;rfl
 obtain⟨v,rows,n,r,rfl,dv,GM,n2,h60,r0,r1,q⟩:=h;have hu:=zan hr;refine⟨_,z02 (z0k (i:=2) zfs.nd rfl (Or.inl rfl) (z0j G hr rfl mG kG bG .nil z0Q (z00 (pv 0) (z00 (z1B (z00 (pv 1) z03)) z03))))
  (z02 (zdF (i:=3) rfl zhy (z0Y (pv 2)) (fun _ _ _ _ _=>z09 (i:=0) zhy.nd rfl (Or.inl rfl)) (fun _ _ _ _ _=>pv 0) (fun _ _ _ _ _=>z5f) zfs.nd rfl rfl)
  (z02 (z0k (i:=4) zfs.nd rfl (Or.inl rfl) z0h)
  (z02 (z2f y0I (z1n z6t (pv 4) (z0n z0g rfl ml y0G (z00 (pv 2) z03)) (z2g _))
   (z02 (z1r y0I rfl (z0Y (z0j G hr rfl mG kG bG .nil z0Q (z00 (pv 0) (z00 (z1B (z00 (z1c z1U (pv 2) (pv 4) (fun _ _=>rfl)) z03)) z03)))) (z09 (i:=5) zfs.nd rfl (Or.inl rfl))
    (z07 (z2x (z2e (z3I hu (pv 5) (pv 3))) (z02 (z42 hu (pv 3) (pv 5) z5f rfl)
     (z07 (z1x (z3o y0J y0N y0O z0R (pv 2) (z00 (pv 5) z03))))) z1a)))
   (z07 (zdN (i:=4) zfs.nd rfl (Or.inl rfl) z0h ze3))))
  (z07 (z0D (zgh (zfE hu (pv 1) (pv 3)))))))),?_⟩
 have hrow:=z0c r0 r1;have hgo:=GM.go _ hrow;have few:∀o,Fnd n rows r o->o.length<=60:=fun o h=>y0r (z23 h.nd h.rg) h60;refine(exA rfl (exA rfl ⟨by show 1<=sizeLine;decide,fun l0 hl0=>?_⟩));have s0:=z04 (o:=HO.lst [V.int r]) (z0d.refl H) hl0;refine⟨v,l0,rows,n,[r],rfl,dv.mono s0,z01,GM,h60,fun x hx=>by rw[y08.mp hx];exact⟨r0,r1⟩,fun lf H1 s1 hlf0 ef=>?_⟩;have s01:=s0.trans s1;have hlf:H lf=none:=s0.free hlf0;rw[z5J]at ef;have F0:Fnd n rows r (z0w (row rows r).2):=⟨z58 _,fun x hx=>hgo x (z0x.mp hx),fun g hg=>z0x.mpr hg,fun x hx=>zcA GM (v:=[]) (fun _ z=>by simp at z) r0 r1 rfl (z0x.mp hx)⟩;refine(exA rfl ⟨lf,rfl,⟨_,SqL.of ef⟩,fun ld hld=>za2 (xs:=(z0w (row rows r).2).map V.int) (fun j ys H2=>ys=kvT ((z0w (row rows r).2).take j)/\j<=(z0w (row rows r).2).length/\z0d H1 H2) ⟨rfl,y0y _,z04 (z0d.refl H1) hld⟩ (fun j ys H2 _ h=>SqL.of (h.2.2 _ _ ef)) (fun j ys H2 hj h=>?_) (fun j x ys H2 hx h hy=>?_) (fun ys H2 h hy=>?_)⟩)
 .rw[h.1,z8X,y0s];exact z1F (by have:=few _ F0;lia)
 .obtain⟨rfl,hj,s2⟩:=h;rw[y04]at hx;obtain⟨g,eg,rfl⟩:=y1a.mp hx;have hjl:j<(z0w (row rows r).2).length:=(y05.mp eg).1;have ep:z2c (kvT ((z0w (row rows r).2).take j)) (Sum.inl g) (V.bl true)=kvT ((z0w (row rows r).2).take (j+1)):=by
   rw[z8l,y0v,eg];rw[z0p (zb1 (z58 _) eg)];rfl
  refine(exA rfl ⟨Sum.inl g,rfl,hy,?_⟩);rw[ep];exact⟨rfl,by lia,z0a s2 hld⟩
 obtain⟨rfl,_,s2⟩:=h;rw[y01,y0A]at hy;have hld0:H ld=none:=s01.free hld;have nfd:lf≠ld:=z0f ef hld;have s02:=s01.trans s2;have ef2:=s2 _ _ ef;generalize z0w (row rows r).2=o0 at *;refine⟨fun m σ H3=>∃(i:Nat)(o:List Int)(u5:Option V),m=rows.length+1-i/\σ=[some v,some (.int r),some (.ref lf),some (.ref ld),some (.int (i:Int)),u5]/\z0d H H3/\H3 lf=some (.lst (o.map V.int))/\H3 ld=some (.dK (kvT o))/\Fnd n rows r o/\i<=o.length/\∀(j:Nat)(x:Int),j<i->o[j]?=some x->∀g∈(row rows x).2,g∈o,
  ⟨_,0,o0,none,rfl,rfl,s02,ef2,hy,F0,y0y _,fun j x hj=>absurd hj (by lia)⟩,?_⟩
 rintro m σ H3 ⟨i,o,u5,rfl,rfl,s3,e1,e2,Fo,hi,cl⟩;have hol:(o.map V.int).length=o.length:=y01 _;have ho60:=y0r (z23 Fo.nd Fo.rg) (y0f _);refine(exA rfl (exA rfl (exG lf rfl (.inl (SqL.of e1)) (exC rfl rfl (exA rfl ?_)))));refine z4h (fun c=>?_) (fun c=>?_)
 .have c':=y14 c;rw[hol]at c';have hio:i<o.length:=by lia
  have eo:o[i]?=some o[i]:=y00 hio;have hxo:o[i]∈o:=y0c hio;generalize o[i]=x at eo hxo;obtain⟨x0,x1⟩:=Fo.rg x hxo;refine zed fun N nx=>?_;refine(exA rfl (exA rfl (exA rfl (exD lf _ _ (V.int x) rfl rfl (SqL.of e1) (z0L (by rw[y04,eo];rfl)) ⟨by show 1<=sizeLine;decide,fun l4 hl4=>?_⟩))));have s4:=z04 (o:=HO.lst [V.int x]) (z0d.refl H3) hl4;refine⟨v,l4,rows,n,[x],rfl,dv.mono (s3.trans s4),z01,GM,h60,fun y hy=>by rw[y08.mp hy];exact⟨x0,x1⟩,fun lg H5 s5 hlg eg5=>?_⟩;rw[z5J]at eg5;have s35:=s4.trans s5;have e1':=s35 _ _ e1;have e2':=s35 _ _ e2;have ngf:lg≠lf:=fun z=>by rw[z,s4 _ _ e1]at hlg;cases hlg
  have ngd:lg≠ld:=fun z=>by rw[z,s4 _ _ e2]at hlg;cases hlg
  refine⟨lg,rfl,⟨_,SqL.of eg5⟩,z5t (xs:=(z0w (row rows x).2).map V.int) (fun j σ H6=>∃u:Option V,σ=[some v,some (.int r),some (.ref lf),some (.ref ld),some (.int (i:Int)),u]/\z0d H H6/\H6 lg=some (.lst ((z0w (row rows x).2).map V.int))/\H6 lf=some (.lst ((z08 o ((z0w (row rows x).2).take j)).map V.int))/\H6 ld=some (.dK (kvT (z08 o ((z0w (row rows x).2).take j)))))
   ⟨_,rfl,s3.trans s35,eg5,e1',e2'⟩ (fun j σ H6 _ h=>by obtain⟨_,_,_,e,_⟩:=h;exact SqL.of e) (fun j y σ H6 hy6 h Ed nx3=>?_) (fun σ H6 h=>?_)⟩
  .obtain⟨u,rfl,s6,eg6,e16,e26⟩:=h;rw[y04]at hy6;obtain⟨g,egj,rfl⟩:=y1a.mp hy6;have hgm:g∈(row rows x).2:=z0x.mp (y0z egj);have Fj:=Fnd.all GM r0 r1 ((z0w (row rows x).2).take j) o Fo hxo fun y hy=>z0x.mp (y10 hy);have hlj:=few _ Fj;have et:=z81 egj o;refine(exA rfl (exA rfl ⟨ld,exA rfl ⟨z4F.k (k:=Sum.inl g) e26,exA rfl ?_⟩⟩));rw[zbI];by_cases hm:g∈z08 o ((z0w (row rows x).2).take j)
   .rw[y1J hm];refine z8e (nx3 _ _ (exA rfl ⟨s6,eg6,?_,?_⟩))
    .rw[et,z0o hm];exact e16
    .rw[et,z0o hm];exact e26
   .rw[y1o hm];refine zez (exA rfl (exA rfl ⟨ld,exA rfl ⟨zcB.k (k:=Sum.inl g) e26 (by rw[z8X];exact z1F (by lia)),?_⟩⟩));rw[z8l,<-et];have e17:upd H6 ld (HO.dK (kvT (z08 o ((z0w (row rows x).2).take (j+1))))) lf=some (.lst ((z08 o ((z0w (row rows x).2).take j)).map V.int)):=by rw[z06 nfd];exact e16
    have s67:z0d H (upd H6 ld (HO.dK (kvT (z08 o ((z0w (row rows x).2).take (j+1)))))):=z0a s6 hld0;refine(exA rfl ⟨.inl ⟨rfl,_,SqL.of e17⟩,exA rfl ⟨lf,exC rfl rfl ⟨e17,by rw[y01];exact z1F (by lia),?_⟩⟩⟩);refine nx3 _ _ (exA rfl ⟨z0a s67 hlf,?_,?_,?_⟩)
    .rw[z06 ngf,z06 ngd];exact eg6
    .rw[et,z0p hm,y0e];exact z01
    .rw[z06 (y1k nfd)];exact z01
  .obtain⟨u,rfl,s6,eg6,e16,e26⟩:=h;rw[y01,y0A]at e16 e26;have Fj:=Fnd.all GM r0 r1 (z0w (row rows x).2) o Fo hxo fun y hy=>z0x.mp hy;obtain⟨mm,emm⟩:=z0K (z0w (row rows x).2) o;have ni:i<rows.length:=by have:=z23 Fo.nd Fo.rg;lia
   refine(exA rfl (exC rfl rfl ?_));refine nx (rows.length+1-(i+1)) _ _ (by lia) ⟨i+1,exB rfl ⟨(by rw[show((i+1:Nat):Int)=(i:Int)+1 by lia];rfl),s6,e16,e26,Fj,by rw[emm,y0a];lia,fun j y hj ey g hg=>?_⟩⟩;rw[emm,y11 (by lia)]at ey;by_cases ej:j=i
   .rw[ej,eo]at ey;cases ey;exact z0A.mpr (.inr (z0x.mpr hg))
   .exact z0A.mpr (.inl (cl j y (by lia) ey g hg))
 .have c':¬((i:Int)<(((o.map V.int).length:Nat):Int)):=fun z=>c (y1J z);rw[hol]at c';refine(exA rfl (exA rfl ⟨ld,exA rfl ⟨z4F.k (k:=Sum.inl r) e2,?_⟩⟩));rw[zbI];refine q _ (zfk GM r0 r1 Fo fun x hx=>?_) H3 s3;obtain⟨j,hj,rfl⟩:=y0V.mp hx;exact cl j _ (by lia) (y00 hj)
abbrev zhr:List Str:=["guises","seen","guise","section"]
def zd5:z0q zhr ["guises"] (z05 z5E):={}
abbrev zfU:Scope:=csc [("section",.local),("len",.globalImplicit)]
def zga:z0W zhr (z05 z5E) ["section"] [none] zfU:={}
def zh9:zfq ["section"] ["section"] zfU:={}
def zes{cc:Addr}{Ts:List Tb}{T0:Tb}(ml:mg "len"=none)(mso:mg "sorted"=none)(F:Fun K "crew" "crew" z5E f fd)(hcd:fd.code=.ref cc)(hC:PySem.W.CodeHd base cc T0.at_)(hB:z43 base mg)(hT:T0∈Ts)(hTn:∀T'∈Ts,T'.at_=T0.at_->T'=T0)(hTp:T0.pos=z8y (z0M z5E))(hTq:T0.qual=("crew.<locals>."++"<lambda>":Str)){aS:Addr}{dS:FuncData}(S:z0C P w K mg base (CXx P w) 8 aS dS ["guise"] (z2J Ts K))(bS:z0t K dS ["guise"] [])(kS:PySem.W.keepIn K (.ref aS)=true)(mS:mg "sections"=some (.ref aS)):z0C P w K mg base (CXx P w) 9 f fd ["guises"] (zaY Ts K):=by
 refine F.okL hcd zd5 (fun vs H Q E h=>?_) (fun A outer s H vs Q E hr h=>?_)
 .obtain⟨a,us,gs,n,rfl,_⟩:=h;rfl
 obtain⟨a,us,gs,n,rfl,hTb,ea,dus,hgs,hn,hgl,gv⟩:=h;have hu9:=zfH hr;refine⟨_,z02 (z0k (i:=1) zd5.nd rfl (Or.inl rfl) (z8q (K:=K)))
  (z02 (z1r y3k rfl (z0Y (pv 0)) (z09 (i:=2) zd5.nd rfl (Or.inl rfl))
   (z07 (z1r y3k rfl (z0Y (z0j S hr rfl mS kS bS .nil z0Q (z00 (pv 2) z03))) (z09 (i:=3) zd5.nd rfl (Or.inl rfl))
    (z07 (z6n (K:=K) hu9 (pv 1) (pv 3) z5f)))))
  (z07 (z0D (zdu (CX:=CXx P w) (k:=2) (Ts:=Ts) (T:=T0) (sz:=szD) rfl (hr.mono (by decide)) rfl mso (pv 1) (fun σ H Q Q' h ⟨v,e,q⟩=>⟨v,e,h _ _ q⟩) zga rfl hC hB hT hTn hTp hTq (by decide +kernel))))),?_⟩
 refine fun p hp ob hdd=>?_;have hap:a≠p:=z0f ea hp;refine⟨_,rfl,a,rfl,⟨_,SqL.of (by rw[z06 hap];exact ea)⟩,z5t (xs:=us) (fun j σ H1=>∃(ks:List (List Row))(u2 u3:Option V),σ=[some (.ref a),some (.ref p),u2,u3]/\SameL Ts H H1/\DD P w K H1 p (kvF ks)/\ks.Nodup/\ks.length<=60*j/\∀f,f∈ks↔∃g∈gs.take j,f∈z1v g g.length)
  ⟨[],_,_,rfl,z0d.l (z04 (z0d.refl H) hp),hdd,y2S,y0y _,fun f=>by simp⟩ (fun j σ H1 _ h=>by obtain⟨_,_,_,_,s1,_⟩:=h;exact SqL.of (s1.g ea)) (fun j v σ H1 hx h Ed nx=>?_) (fun σ H1 h=>?_)⟩
 .obtain⟨ks,u2,u3,rfl,s1,d1,nd1,kl1,mem1⟩:=h;have hul:us.length=gs.length:=by have:=dus.length;rw[z1G]at this;lia
  have hjl:j<gs.length:=by have:=(y05.mp hx).1;lia
  have eg:gs[j]?=some gs[j]:=y00 hjl;have hgm:gs[j]∈gs:=y0c hjl;have etk:gs.take (j+1)=gs.take j++[gs[j]]:=by rw[y0v,eg];rfl
  generalize gs[j]=g at eg hgm etk;obtain⟨G,h60⟩:=hgs g hgm;obtain⟨v',ev,dv⟩:=dus.get (show(fmD gs)[j]?=some (fD g)by unfold fmD;rw[y04,eg];rfl);rw[hx]at ev;cases ev;refine(exA rfl ⟨v,g,n,rfl,s1.tabs hTb,dv.monoL s1,G,hn,h60,fun l H2 us2 fl s2 el dl=>⟨l,rfl,⟨_,SqL.of el⟩,?_⟩⟩);have hlp:l≠p:=fun z=>by obtain⟨xs,e,_⟩:=d1;rw[<-z,fl]at e;cases e
  have hsl:=z39 g g.length;have hl2:us2.length=g.length:=by have:=dl.length;rw[z1G]at this;lia
  refine z5t (xs:=us2) (fun i σ H3=>∃(ks:List (List Row))(u3:Option V),σ=[some (.ref a),some (.ref p),some v,u3]/\SameL Ts H H3/\H3 l=some (.lst us2)/\DrL K H3 (fmD (z1v g g.length)) us2/\DD P w K H3 p (kvF ks)/\ks.Nodup/\ks.length<=60*j+i/\∀f,f∈ks↔(∃g∈gs.take j,f∈z1v g g.length)\/f∈(z1v g g.length).take i)
   ⟨ks,_,rfl,s1.trans s2,el,dl,d1.monoL s2,nd1,by lia,fun f=>by rw[mem1];simp⟩ (fun i σ H3 _ h=>by obtain⟨_,_,_,_,e3,_⟩:=h;exact SqL.of e3) (fun i y σ H3 hy h Ed2 nx2=>?_) (fun σ H3 h=>?_)
  .obtain⟨ks,u3,rfl,s3,e3,dl3,d3,nd3,kl3,mem3⟩:=h;have hil:i<(z1v g g.length).length:=by have:=(y05.mp hy).1;lia
   have ef:(z1v g g.length)[i]?=some (z1v g g.length)[i]:=y00 hil;have hfm:=y0c hil;have eft:(z1v g g.length).take (i+1)=(z1v g g.length).take i++[(z1v g g.length)[i]]:=by rw[y0v,ef];rfl
   generalize(z1v g g.length)[i]=f at ef hfm eft;obtain⟨y',ey,dy⟩:=dl3.get (show(fmD (z1v g g.length))[i]?=some (fD f)by unfold fmD;rw[y04,ef];rfl);rw[hy]at ey;cases ey;obtain⟨k1,k2,_⟩:=zdL G hn (fD f) (y0b.mpr ⟨f,hfm,rfl⟩);obtain⟨b,rfl⟩:∃b,y=.ref b:=by simp only[Dr]at dy;obtain⟨b,_,e,_⟩:=dy;exact⟨b,e⟩
   have hklen:(kvF ks).length=ks.length:=y01 ..;refine(exA rfl (exA rfl ⟨p,_,fD f,rfl,d3,⟨⟨b,rfl⟩,k1,k2,dy⟩,by rw[hklen];exact y0u (by lia:ks.length<4000) (by decide),fun ob d4=>?_⟩));rw[zeI]at d4;refine nx2 _ _ (exB rfl ⟨SameL.overD s3 hp d3,by rw[z06 hlp];exact e3,dl3.keyed (fun c ys ec=>by rw[z06 (z79 d3 c ys ec)];exact ec) (z2S _),d4,?_,?_,fun f'=>?_⟩)
   .by_cases z:f∈ks
    .rw[if_pos z];exact nd3
    .rw[if_neg z];exact y3h.mpr ⟨nd3,y1y.mpr ⟨by simp,y2S⟩,fun c hc d hd e=>z (by rw[y08.mp hd]at e;rw[<-e];exact hc)⟩
   .by_cases z:f∈ks
    .rw[if_pos z];lia
    .rw[if_neg z,y0a,y3m];lia
   .rw[eft,y0q,y08];by_cases z:f∈ks
    .rw[if_pos z,mem3];constructor
     .rintro(q|q)
      .exact .inl q
      .exact .inr (.inl q)
     .rintro(q|q|q)
      .exact .inl q
      .exact .inr q
      .rw[q];exact(mem3 f).mp z
    .rw[if_neg z,y0q,y08,mem3,or_assoc]
  .obtain⟨ks,u3,rfl,s3,e3,dl3,d3,nd3,kl3,mem3⟩:=h;refine nx _ _ ⟨ks,exB rfl ⟨s3,d3,nd3,by lia,fun f=>?_⟩⟩;rw[mem3,etk];have et:(z1v g g.length).take us2.length=z1v g g.length:=y0M (by lia);rw[et];constructor
   .rintro(⟨g',hg',q⟩|q)
    .exact⟨g',y0t _ hg',q⟩
    .exact⟨g,y0j _ (y08.mpr rfl),q⟩
   .rintro⟨g',hg',q⟩;rcases y0q.mp hg' with z|z
    .exact .inl ⟨g',z,q⟩
    .rw[y08.mp z]at q;exact .inr q
 .obtain⟨ks,u2,u3,rfl,s1,d1,nd1,kl1,mem1⟩:=h;have hul:us.length=gs.length:=by have:=dus.length;rw[z1G]at this;lia
  have et:gs.take us.length=gs:=y0M (by lia);rw[et]at mem1;refine(exA rfl ⟨p,exA rfl ⟨d1,s1.tabs hTb,fun d hd e he=>?_,fun fa H2 s2 C=>⟨?_,fun xs H3 l vs hp3 hs3 s3 fl3 dv3=>?_⟩⟩⟩)
  .rw[z4v]at hd he;obtain⟨g,_,rfl⟩:=y0b.mp hd;obtain⟨g',_,rfl⟩:=y0b.mp he;exact zeT g g'
  .rw[z4v];refine z2D.lam (k:=1) C zh9 (fun _ _ _ _ us hl=>match us,hl with|[_],_=>rfl) rfl (fun vs H Q h=>?_) (fun H' s' A outer s cd clos cs vs Q hr nf h=>?_)
   .obtain⟨x,d,rfl,_⟩:=h;rfl
   obtain⟨x,d,rfl,hd,dx,gq⟩:=h;obtain⟨g,_,rfl⟩:=y0b.mp hd;obtain⟨b,ys,rfl,eb,dys⟩:∃(b:Addr)(ys:List V),x=.ref b/\H' b=some (.tup ys)/\DrL K H' (z0i g) ys:=by simp only[Dr]at dx;exact dx
   have eb':=nf _ _ (fun _ z=>by cases z) eb;refine⟨_,z1Z (z00 (z0n z0g rfl ml y0G (z00 (pv 0) z03)) (z00 (pv 0) z03)),?_⟩;refine(exA rfl ⟨b,ys,rfl,.inr (SqT.of eb'),exA rfl ?_⟩);refine⟨show 2<=sizeLine by decide,fun q hq hcs=>?_⟩;have s0:z0d (utk H' cs) (upd (utk H' cs) q (.tup [.int (ys.length:Nat),.ref b])):=z04 (z0d.refl _) hq;have sr:=z0d.rtk s0;have eq:rtk H' (upd (utk H' cs) q (.tup [.int (ys.length:Nat),.ref b])) cs q=some (.tup [.int (ys.length:Nat),.ref b]):=by rw[z2Q (fun z=>by have:=hcs q z;rw[z01]at this;cases this),z01]
   refine gq _ _ sr ?_;have hyl:(ys.length:Int)=szD (fD g):=by have:=dys.length;show(ys.length:Int)=((z0i g).length:Int);lia
   simp only[prD,Dr];exact⟨q,exA rfl ⟨eq,DrL.cons (by simp only[Dr];rw[hyl]) (DrL.one (dx.mono sr))⟩⟩
  .rw[z4v]at hp3;obtain⟨fs,rfl,hpf⟩:=zck hp3;have s13:SameL Ts H H3:=(s1.trans s2).trans (z0d.l s3);refine gv fs ⟨hpf.nodup_iff.mpr nd1,fun f=>by rw[hpf.mem_iff,mem1],y1u.mp hs3⟩ l _ vs (s13.free2 fl3) (Gu.SameL.up s13 fl3) z01 (dv3.keyed (fun b ys e=>by rw[z06 (fun z=>by rw[z,fl3]at e;cases e)];exact e) (z2S _))
abbrev nE2:List Str:=["_law_left","_law_right","_law_made","_law_one"]
def zgW:z0q nE2 ["_law_left","_law_right"] (z05 z3w):={}
def zhB:z0W nE2 (z05 z3w) ["_law_other","_law_one"] [none,some 3] (csc [(".0",.local),("_law_other",.local),("_law_one",.free)]):={}
def zdD(F:Fun K "_law_each_two" "_law_each_two" z3w f fd):z0C P w K mg base CX 1 f fd ["_law_left","_law_right"] (zbh K):=by
 refine F.okc zgW (fun vs H Q E h=>?_) (fun cdv A outer s H vs Q E hr h=>?_)
 .obtain⟨a,b,xs,ys,ds,es,rfl,_⟩:=h;rfl
 obtain⟨a,b,xs,ys,ds,es,rfl,ea,eb,dx,dy,kd,ke,hxl,hyl,gv⟩:=h;refine⟨_,z02 (z0k (i:=2) zgW.nd rfl (Or.inl rfl) (z1B z03))
  (z02 (z1r y0I rfl (z0Y (pv 0)) (z09 (i:=3) zgW.nd rfl (Or.inr rfl))
   (z07 (z1x (z3o y0J PySem.F.slot_list_extend PySem.F.type_list_extend zbU (pv 2) (z00 (z1e rfl zhB (z0Y (pv 1)) (fun _ _ _ _ _=>z09 (i:=0) zhB.nd rfl (Or.inl rfl)) (fun _ _ _ _ _=>z1Z (z00 (pv 1) (z00 (pv 0) z03)))) z03)))))
  (z07 (z0D (pv 2)))),?_⟩
 refine⟨y0y _,fun l hl=>?_⟩;have ldx:=dx.length;have ldy:=dy.length;refine⟨_,rfl,a,rfl,⟨_,SqL.of (z04 (z0d.refl H) hl _ _ ea)⟩,z5t (xs:=xs) (fun j σ H1=>∃(ps:List V)(u3:Option V),σ=[some (.ref a),some (.ref b),some (.ref l),u3]/\z0d H H1/\H1 l=some (.lst ps)/\DrL K H1 (zaA (ds.take j) es) ps)
  ⟨[],_,rfl,z04 (z0d.refl H) hl,z01,DrL.nil⟩ (fun j σ H1 _ h=>by obtain⟨_,_,_,s1,_⟩:=h;exact SqL.of (s1 _ _ ea)) (fun j x σ H1 hx h Ed nx=>?_) (fun σ H1 h=>?_)⟩
 .obtain⟨ps,u3,rfl,s1,e1,hps⟩:=h;have hjl:j<xs.length:=(y05.mp hx).1;have ed:ds[j]?=some ds[j]:=y00 (by lia);have etk:ds.take (j+1)=ds.take j++[ds[j]]:=by rw[y0v,ed];rfl
  have kj:=D.keyL_get kd ed;generalize ds[j]=d at ed etk kj;obtain⟨x',ex,dxj⟩:=dx.get ed;rw[hx]at ex;cases ex;have hpl:=hps.length;rw[z9D,y0s,y38 (by lia)]at hpl;have kt:=zdl (z7r kd j) ke;refine(exA rfl ⟨.inl ⟨rfl,_,SqL.of e1⟩,exA rfl ⟨b,rfl,⟨_,SqL.of (s1 _ _ eb)⟩,fun l2 hl2=>z1A (xs:=ys) (fun i zs H4=>i<=ys.length/\z0d H H4/\H4 l=some (.lst ps)/\DrL K H4 (zaA (ds.take j) es) ps/\DrL K H4 ((es.take i).map fun e=>.tup [d,e]) zs) ⟨y0y _,z04 s1 hl2,z04 (z0d.refl H1) hl2 _ _ e1,hps.mono (z04 (z0d.refl H1) hl2),DrL.nil⟩ (fun i zs H4 _ h=>SqL.of (h.2.1 _ _ eb)) (y0r hyl (by decide)) (fun i zs H4 h=>?_) (fun i y zs H4 hy h ez=>?_) (fun zs H4 h ez=>?_)⟩⟩)
  .obtain⟨hi,_,_,_,h4⟩:=h;have:=h4.length;rw[y01,y0s]at this;lia
  .obtain⟨_,s4,e4,p4,z4⟩:=h;have hi:i<ys.length:=(y05.mp hy).1;have ee:es[i]?=some es[i]:=y00 (by lia);have et:es.take (i+1)=es.take i++[es[i]]:=by rw[y0v,ee];rfl
   have ki:=D.keyL_get ke ee;generalize es[i]=e at ee et ki;obtain⟨y',ey,dyi⟩:=dy.get ee;rw[hy]at ey;cases ey;refine(exA rfl (exA rfl ⟨show 2<=sizeLine by decide,fun q hq=>?_⟩));have s5:z0d H4 (upd H4 q (.tup [x,y])):=z04 (z0d.refl H4) hq;have e5:=s5 _ _ ez;have eq:upd H4 q (.tup [x,y]) q=some (.tup [x,y]):=z01;have s45:=s4.trans s5;refine⟨e5,hi,z0a s45 (s1.free hl2),by rw[z06 (fun z=>by rw[z,hl2]at e1;cases e1)];exact s5 _ _ e4,(p4.mono s5).keyed (z17 e5) kt,?_⟩;rw[et,y0e,y2a];refine DrL.append ((z4.mono s5).keyed (z17 e5) (z4P kj (z7r ke i))) (DrL.one (Dr.keyed (H:=upd H4 q (.tup [x,y])) (z17 e5) (by simp only[D.key,D.keyL];exact⟨kj,ki,trivial⟩) ?_));simp only[Dr];exact⟨q,exA rfl ⟨eq,DrL.cons (dxj.mono s45) (DrL.one (dyi.mono s45))⟩⟩
  .obtain⟨_,s4,e4,p4,z4⟩:=h;rw[<-ldy,y0A]at z4;have hzl:=z4.length;rw[y01]at hzl;refine⟨l,l2,ps,zs,rfl,rfl,e4,ez,?_,?_⟩
   .have:j*es.length<=60*60:=y1i (by lia) (by lia);exact y0r (show ps.length+zs.length<=3660 by lia) (by decide)
   .refine nx _ _ (exB rfl ⟨z0a s4 hl,z01,?_⟩);rw[etk,zbm];exact(p4.append z4).keyed (z17 e4) (z9p kt (z4P kj ke))
 .obtain⟨ps,u3,rfl,s1,e1,hps⟩:=h;rw[<-ldx,y0A]at hps;exact(exA rfl (gv l H1 ps s1 e1 hps))
abbrev zgw:List Str:=["_law_script","_law_letters_here","_law_one","_law_other","_law_found","_law_guise_here","_law_letter","_law_turned_ones","_law_both_here","_law_some"]
def z3S:z0q zgw ["_law_script"] (z05 zab):={}
def za4:z0W zgw (z05 zab) ["_law_left","_law_right"] [none,none] (csc [(".0",.local),("_law_left",.local),("_law_right",.local),("_law_both",.globalImplicit)]):={}
def ze0:z0W zgw (z05 zab) ["_law_pair"] [none] (csc [(".0",.local),("_law_pair",.local)]):={}
def ze7:z0W zgw (z05 zab) ["_law_guise_here"] [none] (csc [(".0",.local),("_law_guise_here",.local),("len",.globalImplicit),("back",.globalImplicit)]):={}
def zfW{Ct Cw:Addr}{Ts:List Tb}(ml:mg "len"=none)(mr:mg "range"=none)(mso:mg "sorted"=none)(F:Fun K "law" "law" zab f fd){aC:Addr}{dC:FuncData}(C:z0C P w K mg base (CXx P w) 9 aC dC ["_law_script","_law_at"] (z9L K))(bC:z0t K dC ["_law_script","_law_at"] [])(kC:PySem.W.keepIn K (.ref aC)=true)(mC:mg "_law_cell"=some (.ref aC)){aL:Addr}{dL:FuncData}(L:z0C P w K mg base (CXx P w) 9 aL dL ["_law_script","_law_at"] (z5r K))(bL:z0t K dL ["_law_script","_law_at"] [])(kL:PySem.W.keepIn K (.ref aL)=true)(mL:mg "_law_letters"=some (.ref aL)){aG:Addr}{dG:FuncData}(G:z0C P w K mg base (CXx P w) 9 aG dG ["_law_letters_here","_law_cell_here"] (z8Z K))(bG:z0t K dG ["_law_letters_here","_law_cell_here"] [])(kG:PySem.W.keepIn K (.ref aG)=true)(mG:mg "_law_guise"=some (.ref aG)){aCr:Addr}{dCr:FuncData}(Cr:z0C P w K mg base (CXx P w) 9 aCr dCr ["guises"] (zaY Ts K))(bCr:z0t K dCr ["guises"] [])(kCr:PySem.W.keepIn K (.ref aCr)=true)(mCr:mg "crew"=some (.ref aCr)){aBh:Addr}{dBh:FuncData}(Bh:z0C P w K mg base (CXx P w) 9 aBh dBh ["guise","word"] (z6O Ts K Cw))(bBh:z0t K dBh ["guise","word"] [])(kBh:PySem.W.keepIn K (.ref aBh)=true)(mBh:mg "behind"=some (.ref aBh)){aBk:Addr}{dBk:FuncData}(Bk:z0C P w K mg base (CXx P w) 9 aBk dBk ["guise"] (zc4 Ts K Ct))(bBk:z0t K dBk ["guise"] [])(kBk:PySem.W.keepIn K (.ref aBk)=true)(mBk:mg "back"=some (.ref aBk)){aBo:Addr}{dBo:FuncData}(Bo:z0C P w K mg base (CXx P w) 9 aBo dBo ["_law_one","_law_other"] (zcz Ts K))(bBo:z0t K dBo ["_law_one","_law_other"] [])(kBo:PySem.W.keepIn K (.ref aBo)=true)(mBo:mg "_law_both"=some (.ref aBo)){aEt:Addr}{dEt:FuncData}(Et:z0C P w K mg base (CXx P w) 9 aEt dEt ["_law_left","_law_right"] (zbh K))(bEt:z0t K dEt ["_law_left","_law_right"] [])(kEt:PySem.W.keepIn K (.ref aEt)=true)(mEt:mg "_law_each_two"=some (.ref aEt)){aSc:Addr}{dSc:FuncData}(Sc:z0C P w K mg base (CXx P w) 9 aSc dSc ["guise"] (z2J Ts K))(bSc:z0t K dSc ["guise"] [])(kSc:PySem.W.keepIn K (.ref aSc)=true)(mSc:mg "sections"=some (.ref aSc)){aLa:Addr}{dLa:FuncData}(La:z0C P w K mg base (CXx P w) 9 aLa dLa ["guise"] (z3U Ts K))(bLa:z0t K dLa ["guise"] [])(kLa:PySem.W.keepIn K (.ref aLa)=true)(mLa:mg "lasting"=some (.ref aLa)):z0C P w K mg base (CXx P w) 10 f fd ["_law_script"] (z9B Ts K):=by
 refine F.okc z3S (fun vs H Q E h=>?_) (fun cdv A' outer s H vs Q E' hr h=>?_)
 .obtain⟨a,ns,rfl,_⟩:=h;rfl
 obtain⟨a,ns,rfl,hS,h63,hTb,q⟩:=h;have hu:=hr.units;have hu12:=zf0 hr;have n2:=zeH ns 0;have n5:=zet ns 0;refine⟨_,z02 (z0k (i:=1) z3S.nd rfl (Or.inl rfl) (z0j L hr rfl mL kL bL .nil z0Q (z00 (pv 0) (z00 z0h z03))))
  (z02 (z0k (i:=2) z3S.nd rfl (Or.inl rfl) (z0j G hr rfl mG kG bG .nil z0Q (z00 (pv 1) (z00 (z0j C hr rfl mC kC bC .nil z0Q (z00 (pv 0) (z00 z0h z03))) z03))))
  (z02 (z0k (i:=3) z3S.nd rfl (Or.inl rfl) (z0j G hr rfl mG kG bG .nil z0Q (z00 (pv 1) (z00 (z0j C hr rfl mC kC bC .nil z0Q (z00 (pv 0) (z00 z0h z03))) z03))))
  (z02 (z0k (i:=4) z3S.nd rfl (Or.inl rfl) (z0j Cr hr rfl mCr kCr bCr .nil z0Q (z00 (z1B (z00 (pv 2) (z00 (pv 3) z03))) z03)))
  (z02 (z1r y0I rfl (z0Y (pv 4)) (z09 (i:=5) z3S.nd rfl (Or.inl rfl))
   (z07 (z1r y0I rfl (z2a rfl mr (z00 (pv 1) z03)) (z09 (i:=6) z3S.nd rfl (Or.inl rfl))
    (z07 (z2x (z1n (z5m K rfl hu12) (z0j Bh hr rfl mBh kBh bBh .nil z0Q (z00 (pv 5) (z00 (z1Z (z00 (pv 6) z03)) z03))) (pv 4) rfl) (z07 (z0D z5f)) z1a)))))
  (z02 (z0k (i:=7) z3S.nd rfl (Or.inl rfl) (z0n (zfQ K szD rfl hu12) rfl mso PyProof.Rows.boot_sorted (z00 (z1e rfl ze7 (z0Y (z0j Cr hr rfl mCr kCr bCr .nil z0Q (z00 (z1B (z00 (pv 2) z03)) z03))) (fun _ _ _ _ _=>z09 (i:=0) ze7.nd rfl (Or.inl rfl)) (fun _ _ _ _ _=>z1Z (z00 (z0n (zia K rfl) rfl ml y0G (z00 (z0j Bk hr rfl mBk kBk bBk .nil z0Q (z00 (pv 0) z03)) z03)) (z00 (z0j Bk hr rfl mBk kBk bBk .nil z0Q (z00 (pv 0) z03)) z03)))) z03)))
  (z02 (z2x (z1n (zfa K rfl hu) (z1e rfl ze0 (z0Y (pv 7)) (fun _ _ _ _ _=>z09 (i:=0) ze0.nd rfl (Or.inl rfl)) (fun _ _ _ _ _=>z1c (ixT K rfl) (pv 0) z0h (fun _ _=>rfl))) (z0j Cr hr rfl mCr kCr bCr .nil z0Q (z00 (z1B (z00 (z0j Bk hr rfl mBk kBk bBk .nil z0Q (z00 (pv 2) z03)) z03)) z03)) (z2g _)) (z07 (z0D z5f)) z1a)
  (z02 (z0k (i:=8) z3S.nd rfl (Or.inl rfl) (z0j Bo hr rfl mBo kBo bBo .nil z0Q (z00 (pv 2) (z00 (pv 3) z03))))
  (z02 (z2x (z1n zfx (pv 8) zc3 (z2g _)) (z07 (z0D z5f)) z1a)
  (z02 (z8T (i:=9) rfl za4 (z0Y (z0j Et hr rfl mEt kEt bEt .nil z0Q (z00 (z0j Sc hr rfl mSc kSc bSc .nil z0Q (z00 (pv 2) z03)) (z00 (z0j Sc hr rfl mSc kSc bSc .nil z0Q (z00 (pv 3) z03)) z03)))) (fun _ _ _ _ _=>pgT K (n:=2) rfl rfl (z0l (z09 (i:=0) za4.nd rfl (Or.inl rfl)) (z0l (z09 (i:=1) za4.nd rfl (Or.inl rfl)) z1b))) (fun _ _ _ _ _=>z0j Bo hr rfl mBo kBo bBo .nil z0Q (z00 (pv 0) (z00 (pv 1) z03))) z3S.nd rfl rfl)
  (z02 (z1r y0I rfl (z0Y (z0j Sc hr rfl mSc kSc bSc .nil z0Q (z00 (pv 8) z03))) (z09 (i:=5) z3S.nd rfl (Or.inl rfl))
   (z07 (z2x (z1n (z5m K rfl hu12) (pv 5) (pv 9) rfl) (z07 (z0D z5f)) z1a)))
  (z02 (z8T (i:=9) rfl za4 (z0Y (z0j Et hr rfl mEt kEt bEt .nil z0Q (z00 (z0j La hr rfl mLa kLa bLa .nil z0Q (z00 (pv 2) z03)) (z00 (z0j La hr rfl mLa kLa bLa .nil z0Q (z00 (pv 3) z03)) z03)))) (fun _ _ _ _ _=>pgT K (n:=2) rfl rfl (z0l (z09 (i:=0) za4.nd rfl (Or.inl rfl)) (z0l (z09 (i:=1) za4.nd rfl (Or.inl rfl)) z1b))) (fun _ _ _ _ _=>z0j Bo hr rfl mBo kBo bBo .nil z0Q (z00 (pv 0) (z00 (pv 1) z03))) z3S.nd rfl rfl)
  (z02 (z1r y0I rfl (z0Y (z0j La hr rfl mLa kLa bLa .nil z0Q (z00 (pv 8) z03))) (z09 (i:=5) z3S.nd rfl (Or.inl rfl))
   (z07 (z2x (z1n (z5m K rfl hu12) (pv 5) (pv 9) rfl) (z07 (z0D z5f)) z1a)))
  (z07 (z0D z5f)))))))))))))),?_⟩
 generalize hn:zdQ ns 0=n at *;refine zcG fun R1 hR1=>?_;refine(exA rfl ⟨a,ns,0,rfl,hS,h63,by lia,?_⟩);rw[hn];refine atR (R:=R1) hR1 ?_;clear hR1;refine zcG fun R2 hR2=>?_;refine(exA rfl (exA rfl ⟨a,ns,1,rfl,hS,h63,by lia,n,exA rfl ⟨n2,n5,fun v1 H1 r1 s1 G1 l1 d1=>?_⟩⟩));have GA:=z0I G1;have fA:=z3m G1;have hA:(shr r1).length<=8:=by have:=z26 G1;lia
 generalize shr r1=RA at *;refine atR (R:=R2) hR2 ?_;clear hR2;refine zcG fun R3 hR3=>?_;refine(exA rfl (exA rfl ⟨a,ns,2,rfl,s1.seq hS,h63,by lia,n,exA rfl ⟨n2,n5,fun v2 H2 r2 s2 G2 l2 d2=>?_⟩⟩));have GB:=z0I G2;have fB:=z3m G2;have hB:(shr r2).length<=8:=by have:=z26 G2;lia
 generalize shr r2=RB at *;have t2:SameL Ts H H2:=z0d.l (s1.trans s2);replace d1:=d1.mono s2;have two2:∀g∈[RA,RB],z0e n g/\g.length<=60:=fun g hg=>by
  simp only[y0x,List.not_mem_nil,or_false]at hg;rcases hg with rfl|rfl
  .exact⟨GA,by lia⟩
  .exact⟨GB,by lia⟩
 refine atR (R:=R3) hR3 ?_;clear hR3;refine zcG fun R4 hR4=>?_;refine(exA rfl (exA rfl ⟨by show 2<=sizeLine;decide,fun lg hlg=>?_⟩));have s4:z0d H2 (upd H2 lg (.lst [v1,v2])):=z04 (z0d.refl H2) hlg;have e4:upd H2 lg (.lst [v1,v2]) lg=some (.lst [v1,v2]):=z01;generalize upd H2 lg (.lst [v1,v2])=H4 at s4 e4⊢;have t4:=t2.trans (z0d.l s4);refine⟨lg,_,[RA,RB],n,rfl,t4.tabs hTb,e4,DrL.cons (d1.mono s4) (DrL.one (d2.mono s4)),two2,by lia,by show 2<=60;decide,fun fs hcr lf H5 uf _ s5 ef df=>?_⟩;have t5:=t4.trans s5;have s25:SameL Ts H2 H5:=(z0d.l s4).trans s5;replace d1:=d1.monoL s25;replace d2:=d2.monoL s25;clear e4 s4 hlg s5;refine atR (R:=R4) hR4 ?_;clear hR4;refine zgx (fun σ H'=>∃u5 u6:Option V,σ=[some (.ref a),some (.int n),some v1,some v2,some (.ref lf),u5,u6,none,none,none]/\SameL Ts H5 H') (fun Ed nxE=>?_) (fun σ H6 h=>?_)
 .have hul:uf.length=fs.length:=by have:=df.length;rw[z1G]at this;lia
  have hfk:∀e∈fmD fs,e=.non\/D.key e/\D.dep e<=8:=fun e he=>by obtain⟨g,_,rfl⟩:=y0b.mp he;refine .inr ⟨z3y g,?_⟩;have:=z34 g;simp only[D.dep];lia
  refine⟨_,rfl,lf,rfl,⟨_,SqL.of ef⟩,z5t (xs:=uf) (fun i σ H'=>∃u5 u6:Option V,σ=[some (.ref a),some (.int n),some v1,some v2,some (.ref lf),u5,u6,none,none,none]/\SameL Ts H5 H') ⟨_,_,rfl,SameL.refl _⟩ (fun i σ H' _ h=>by obtain⟨_,_,_,t⟩:=h;exact SqL.of (t.g ef)) (fun i x σ H' hx h Ed2 nx2=>?_) (fun σ H' h=>?_)⟩
  .obtain⟨u5,u6,rfl,t6⟩:=h;have hil:i<fs.length:=by have:=(y05.mp hx).1;lia
   have eg:fs[i]?=some fs[i]:=y00 hil;have hgm:fs[i]∈fs:=y0c hil;generalize fs[i]=f at eg hgm;obtain⟨x',ex,dx⟩:=df.get (show(fmD fs)[i]?=some (fD f)by unfold fmD;rw[y04,eg];rfl);rw[hx]at ex;cases ex;obtain⟨Gf,ff,h60⟩:=z3K hcr two2 f hgm;refine(exA rfl ⟨(n:Int),rfl,by lia,by lia,zcr (n:=(n:Int).toNat) (fun k σ H'=>∃u6:Option V,σ=[some (.ref a),some (.int n),some v1,some v2,some (.ref lf),some x,u6,none,none,none]/\SameL Ts H5 H') (exA rfl t6) (fun k σ H7 hk h Ed3 nx3=>?_) (fun σ H7 h=>?_)⟩)
   .obtain⟨u6,rfl,t7⟩:=h;have hw:LW n [(0:Int)+(k:Int)]:=fun c hc=>by rw[y08.mp hc];lia
    refine(exA rfl (exA rfl ⟨by show 1<=sizeLine;decide,fun tq htq=>?_⟩));have s8:z0d H7 (upd H7 tq (.tup [.int (0+(k:Int))])):=z04 (z0d.refl H7) htq;have e8:upd H7 tq (.tup [.int (0+(k:Int))]) tq=some (.tup [.int (0+(k:Int))]):=z01;generalize upd H7 tq (.tup [.int (0+(k:Int))])=H8 at s8 e8⊢;have t8:=t7.trans (z0d.l s8);refine⟨x,.ref tq,f,n,[(0:Int)+(k:Int)],rfl,t8.tabs (t5.tabs hTb),dx.monoL t8,Dr.tup e8 (DrL.ints _),Gf,by lia,h60,by show 1<=4900;decide,fun _ y H9 s9 dy=>?_,fun z=>absurd hw z⟩;have t9:=t8.trans s9;refine(exA rfl ⟨z0i _,fmD fs,lf,uf,dy,rfl,SqL.of (t9.g ef),df.monoL t9,z3y _,hfk,y0b.mpr ⟨_,z8r hcr two2 hgm hw,rfl⟩,?_⟩);exact(exA rfl (z8e (nx3 _ _ (exA rfl t9))))
   .obtain⟨u6,rfl,t7⟩:=h;exact nx2 _ _ (exB rfl t7)
  .obtain⟨u5,u6,rfl,t6⟩:=h;exact nxE _ _ (exB rfl t6)
 obtain⟨u5,u6,rfl,s6⟩:=h;replace d1:=d1.monoL s6;replace d2:=d2.monoL s6;have t6:=t5.trans s6;clear s6 t5 hcr ef df t4;have one1:∀g∈[RA],z0e n g/\g.length<=60:=fun g hg=>by rw[y08.mp hg];exact⟨GA,by lia⟩
 refine zcG fun R5 hR5=>?_;refine(exA rfl ⟨by show 1<=sizeLine;decide,fun lg hlg=>?_⟩);have s7:z0d H6 (upd H6 lg (.lst [v1])):=z04 (z0d.refl H6) hlg;have e7:upd H6 lg (.lst [v1]) lg=some (.lst [v1]):=z01;generalize upd H6 lg (.lst [v1])=H7 at s7 e7⊢;have t7:=t6.trans (z0d.l s7);refine⟨lg,_,[RA],n,rfl,t7.tabs hTb,e7,DrL.one (d1.mono s7),one1,by lia,by show 1<=60;decide,fun fs hcr lc H8 uc _ s8 ec dc=>?_⟩;have t8:=t7.trans s8;have s68:SameL Ts H6 H8:=(z0d.l s7).trans s8;replace d1:=d1.monoL s68;replace d2:=d2.monoL s68;clear e7 s7 hlg s8 s68 t7;have hul:uc.length=fs.length:=by have:=dc.length;rw[z1G]at this;lia
 have hfl:fs.length<=8:=by
  have hp:fs.Perm (z1v RA RA.length):=(List.perm_ext_iff_of_nodup hcr.nd (zal GA fA _ (y0f _))).mpr fun f=>by rw[hcr.mem];simp
  have:=hp.length_eq;rw[z39]at this;lia
 have hcl:∀g∈fs,(shr (z1H g)).length<=60:=fun g hg=>by obtain⟨Gg,_,h60⟩:=z3K hcr one1 g hg;have:=z26 (z0v Gg);rw[z1m]at this;lia
 refine⟨lc,rfl,⟨_,SqL.of ec⟩,fun ll hll=>z1A (xs:=uc) (fun i ys H'=>ys.length=i/\i<=fs.length/\SameL Ts H8 H'/\DrL K H' ((fmD ((fs.take i).map fun g=>shr (z1H g))).map (prD szD)) ys) ⟨rfl,y0y _,z0d.l (z04 (z0d.refl H8) hll),DrL.nil⟩ (fun i ys H' _ h=>SqL.of (h.2.2.1.g ec)) (y0r (show uc.length<=8 by lia) (by decide)) (fun i ys H' h=>h.1) (fun i x ys H' hx h hy=>?_) (fun ys H9 h hy=>?_)⟩
 .obtain⟨hyl,_,t9,dd⟩:=h;have hil:i<fs.length:=by have:=(y05.mp hx).1;lia
  have eg:fs[i]?=some fs[i]:=y00 hil;have hgm:fs[i]∈fs:=y0c hil;have etk:fs.take (i+1)=fs.take i++[fs[i]]:=by rw[y0v,eg];rfl
  generalize fs[i]=f at eg hgm etk;obtain⟨x',ex,dx⟩:=dc.get (show(fmD fs)[i]?=some (fD f)by unfold fmD;rw[y04,eg];rfl);rw[hx]at ex;cases ex;obtain⟨Gf,ff,h60⟩:=z3K hcr one1 f hgm;have hc60:=hcl f hgm;refine(exA rfl ⟨x,n,f,rfl,t9.tabs (t8.tabs hTb),dx.monoL t9,Gf,by lia,fun _ v3 H10 s10 d3=>?_,fun z=>absurd z (by lia)⟩);obtain⟨b,zs,rfl,eb,dzs⟩:∃(b:Addr)(zs:List V),v3=.ref b/\H10 b=some (.tup zs)/\DrL K H10 (z0i (shr (z1H f))) zs:=by simp only[Dr]at d3;exact d3
  have t10:=t9.trans s10;refine⟨b,zs,rfl,.inr (SqT.of eb),exA rfl ⟨x,n,f,rfl,t10.tabs (t8.tabs hTb),dx.monoL t10,Gf,by lia,fun _ v4 H11 s11 d4=>?_,fun z=>absurd z (by lia)⟩⟩;have t11:=t10.trans s11;refine⟨show 2<=sizeLine by decide,fun q hq=>?_⟩;have s12:z0d H11 (upd H11 q (.tup [.int (zs.length:Nat),v4])):=z04 (z0d.refl H11) hq;have e12:upd H11 q (.tup [.int (zs.length:Nat),v4]) q=some (.tup [.int (zs.length:Nat),v4]):=z01;generalize upd H11 q (.tup [.int (zs.length:Nat),v4])=H12 at s12 e12⊢;have t12:=t11.trans (z0d.l s12);have s912:SameL Ts H' H12:=(s10.trans s11).trans (z0d.l s12);have ey:=s912.g hy;refine⟨ey,by rw[y0a,hyl];rfl,by lia,SameL.over t12 hll ey,?_⟩;rw[etk,y0e,y2a,z4B,y0e,y2a];have kp:∀g:List Row,D.key (prD szD (fD g)):=fun g=>by simp only[prD,D.key,D.keyL];exact⟨trivial,z3y g,trivial⟩
  refine DrL.append ((dd.monoL s912).keyed (z17 ey) (z6Z fun d hd=>?_)) (DrL.one (Dr.keyed (z17 ey) (kp _) ?_))
  .obtain⟨d',hd',rfl⟩:=y0b.mp hd;obtain⟨g,_,rfl⟩:=y0b.mp hd';exact kp g
  .have hyl:(zs.length:Int)=szD (fD (shr (z1H f))):=by have:=dzs.length;show(zs.length:Int)=((z0i (shr (z1H f))).length:Int);lia
   simp only[prD,Dr];exact⟨q,exA rfl ⟨e12,DrL.cons (by simp only[Dr];rw[hyl]) (DrL.one (d4.mono s12))⟩⟩
 obtain⟨hyl,_,s9,dd⟩:=h;rw[hul,y0A]at dd;have t9:=t8.trans s9;replace d1:=d1.monoL s9;replace d2:=d2.monoL s9;refine⟨ll,ys,exA rfl ⟨SqL.of hy,dd,fun d hd=>?_,fun d hd e he=>?_,fun rs vs' lt hrp hrs drs hlt=>?_⟩⟩
 .obtain⟨g,_,rfl⟩:=y0b.mp hd;refine⟨z3y g,?_⟩;have:=z34 g;simp only[D.dep];lia
 .obtain⟨g,_,rfl⟩:=y0b.mp hd;obtain⟨g',_,rfl⟩:=y0b.mp he;exact zeT g g'
 obtain⟨gs,rfl,hgp⟩:=zck hrp;have hup:UpF gs:=y1u.mp hrs;have s10:z0d H9 (upd H9 lt (.lst vs')):=z04 (z0d.refl H9) hlt;have e10:upd H9 lt (.lst vs') lt=some (.lst vs'):=z01;generalize upd H9 lt (.lst vs')=H10 at s10 e10⊢;have t10:=t9.trans (z0d.l s10);replace d1:=d1.mono s10;replace d2:=d2.mono s10;replace drs:=drs.mono s10;clear hrp hrs hlt dd hy hyl s9 dc ec hul hcl;refine atR (R:=R5) hR5 ?_;clear hR5;refine zcG fun R6 hR6=>?_;have hvl:vs'.length=gs.length:=by have:=drs.length;rw[y01,z1G]at this;lia
 have hgl:gs.length<=8:=by rw[hgp.length_eq,y01];exact hfl
 refine(exA rfl ⟨lt,rfl,⟨_,SqL.of e10⟩,fun ll hll=>z1A (xs:=vs') (fun i ys H'=>ys.length=i/\i<=gs.length/\z0d H10 H'/\DrL K H' (fmD (gs.take i)) ys) ⟨rfl,y0y _,z04 (z0d.refl H10) hll,DrL.nil⟩ (fun i ys H' _ h=>SqL.of (h.2.2.1 _ _ e10)) (y0r (show vs'.length<=8 by lia) (by decide)) (fun i ys H' h=>h.1) (fun i x ys H' hx h hy=>?_) (fun ys H11 h hy=>?_)⟩)
 .obtain⟨hyl,_,s11,dd⟩:=h;have hil:i<gs.length:=by have:=(y05.mp hx).1;lia
  have eg:gs[i]?=some gs[i]:=y00 hil;have etk:gs.take (i+1)=gs.take i++[gs[i]]:=by rw[y0v,eg];rfl
  generalize gs[i]=f at eg etk;obtain⟨x',ex,dx⟩:=drs.get (show((fmD gs).map (prD szD))[i]?=some (prD szD (fD f))by unfold fmD;rw[y04,y04,eg];rfl);rw[hx]at ex;cases ex;obtain⟨b,zs,rfl,eb,dzs⟩:∃(b:Addr)(zs:List V),x=.ref b/\H10 b=some (.tup zs)/\DrL K H10 [.int (szD (fD f)),fD f] zs:=by simp only[prD,Dr]at dx;exact dx
  obtain⟨y,ey,dy⟩:=dzs.get (i:=1) rfl;refine(exA rfl (exD b _ _ y rfl rfl (SqT.of (s11 _ _ eb)) (z0L (j:=1) ey) ⟨hy,by rw[y0a,hyl];rfl,by lia,z0a s11 hll,?_⟩));rw[etk,z4B];exact DrL.append (dd.keyed (z17 hy) (z2S _)) (DrL.one ((dy.mono s11).keyed (z17 hy) (z3y _)))
 obtain⟨hyl,_,s11,dd⟩:=h;rw[hvl,y0A]at dd;have t11:=t10.trans (z0d.l s11);replace d1:=d1.mono s11;replace d2:=d2.mono s11;have GC:=z0I (z0v GA);have hC:(shr (z1H RA)).length<=8:=by have:=z26 (z0v GA);rw[z1m]at this;lia
 refine(exA rfl ⟨v1,n,RA,rfl,t11.tabs hTb,d1,GA,by lia,fun _ v3 H12 s12 d3=>?_,fun z=>absurd z (by lia)⟩);have t12:=t11.trans s12;refine⟨by show 1<=sizeLine;decide,fun lg hlg=>?_⟩;have s13:z0d H12 (upd H12 lg (.lst [v3])):=z04 (z0d.refl H12) hlg;have e13:upd H12 lg (.lst [v3]) lg=some (.lst [v3]):=z01;generalize upd H12 lg (.lst [v3])=H13 at s13 e13⊢;have t13:=t12.trans (z0d.l s13);refine⟨lg,_,[shr (z1H RA)],n,rfl,t13.tabs hTb,e13,DrL.one (d3.mono s13),(fun g hg=>by rw[y08.mp hg];exact⟨GC,by lia⟩),by lia,by show 1<=60;decide,fun cs hcs lc H14 uc _ s14 ec dc=>?_⟩;have t14:=t13.trans s14;have s1114:SameL Ts H11 H14:=(s12.trans (z0d.l s13)).trans s14;replace d1:=d1.monoL s1114;replace d2:=d2.monoL s1114;have ecs:gs=cs:=zbA GA fA hA hcr hgp hup hcs;subst ecs;refine⟨fmD gs,fmD gs,Dr.lst (s1114.g hy) (dd.monoL s1114),Dr.lst ec dc,rfl,zgi gs,zf8 gs,?_⟩;rw[D.eq_refl];refine(exA rfl (z8e ?_));refine atR (R:=R6) hR6 ?_;clear hR6 hcs hup hgp drs e10 s10 t13 t12 t11 t10 t9 t8 dd hy hyl s11 s12 s13 s14 e13 d3 dc ec s1114;refine zcG fun R7 hR7=>?_;have h64:RA.length*RB.length<=4000:=y0r (y1i hA hB) (by decide);refine(exA rfl (exA rfl ⟨v1,v2,n,RA,RB,rfl,t14.tabs hTb,d1,d2,GA,GB,by lia,h64,fun vb H15 s15 db=>?_⟩));have t15:=t14.trans s15;replace d1:=d1.monoL s15;replace d2:=d2.monoL s15;refine atR (R:=R7) hR7 ?_;clear hR7;refine zcG fun R7 hR7=>?_;rcases y2E 60 (shr (z0u RA RB)).length with c|c
 .rw[z6S c]at db;cases zfS db;exact(exA rfl ⟨rfl,exA rfl (zez (q _))⟩)
 rw[z4A c]at db;obtain⟨ab,rfl⟩:=zev db;refine(exA rfl ⟨rfl,exA rfl (z8e ?_)⟩);refine atR (R:=R7) hR7 ?_;clear hR7;have GP:=z18 GA GB h64;have GD:=z0I GP;refine zcG fun R8 hR8=>?_;refine(exA rfl ⟨v1,RA,n,rfl,t15.tabs hTb,d1,GA,by lia,by lia,fun la H16 ua _ s16 ea da=>?_⟩);have t16:=t15.trans s16;refine(exA rfl ⟨v2,RB,n,rfl,t16.tabs hTb,d2.monoL s16,GB,by lia,by lia,fun lb H17 ub _ s17 eb dbb=>?_⟩);have t17:=t16.trans s17;have hla:ua.length=RA.length:=by rw[<-da.length,z1G,z39]
 have hlb:ub.length=RB.length:=by rw[<-dbb.length,z1G,z39]
 refine⟨la,lb,ua,ub,fmD (z1v RA RA.length),fmD (z1v RB RB.length),rfl,s17.g ea,eb,da.monoL s17,dbb,z99,z99,by lia,by lia,fun lp H18 ps s18 ep dp=>?_⟩;have t18:=t17.trans (z0d.l s18);have s1518:SameL Ts H15 H18:=(s16.trans s17).trans (z0d.l s18);replace d1:=d1.monoL s1518;replace d2:=d2.monoL s1518;replace db:=db.monoL s1518;clear dbb da ea eb s16 s17 s18 s1518 t16 t17;rw[z8C]at dp;have hpl:ps.length=(z4p (z1v RA RA.length) (z1v RB RB.length)).length:=by have:=dp.length;rw[y01]at this;lia
 have h64p:ps.length<=64:=by rw[hpl,z97,z39,z39];exact y1i hA hB
 refine⟨lp,rfl,⟨_,SqL.of ep⟩,fun ll hll=>z1A (xs:=ps) (fun i ys H'=>ys.length=i/\SameL Ts H18 H'/\DrL K H' (zai ((z4p (z1v RA RA.length) (z1v RB RB.length)).take i)) ys) ⟨rfl,z0d.l (z04 (z0d.refl H18) hll),DrL.nil⟩ (fun i ys H' _ h=>SqL.of (h.2.1.g ep)) (y0r h64p (by decide)) (fun i ys H' h=>h.1) (fun i x ys H' hx h hy=>?_) (fun ys H19 h hy=>?_)⟩
 .obtain⟨hyl,t19,dd⟩:=h;have hil:i<(z4p (z1v RA RA.length) (z1v RB RB.length)).length:=by have:=(y05.mp hx).1;lia
  have eg:(z4p (z1v RA RA.length) (z1v RB RB.length))[i]?=some (z4p (z1v RA RA.length) (z1v RB RB.length))[i]:=y00 hil;have hgm:=y0c hil;have etk:(z4p (z1v RA RA.length) (z1v RB RB.length)).take (i+1)=(z4p (z1v RA RA.length) (z1v RB RB.length)).take i++[(z4p (z1v RA RA.length) (z1v RB RB.length))[i]]:=by rw[y0v,eg];rfl
  generalize(z4p (z1v RA RA.length) (z1v RB RB.length))[i]=p at eg hgm etk;obtain⟨x',ex,dx⟩:=dp.get (show((z4p (z1v RA RA.length) (z1v RB RB.length)).map fun p=>D.tup [fD p.1,fD p.2])[i]?=some (D.tup [fD p.1,fD p.2])by rw[y04,eg];rfl);rw[hx]at ex;cases ex;obtain⟨b,zs,rfl,eb,dzs⟩:∃(b:Addr)(zs:List V),x=.ref b/\H18 b=some (.tup zs)/\DrL K H18 [fD p.1,fD p.2] zs:=by simp only[Dr]at dx;exact dx
  obtain⟨y1,y2,rfl,dy1,dy2⟩:∃y1 y2,zs=[y1,y2]/\Dr K H18 (fD p.1) y1/\Dr K H18 (fD p.2) y2:=by simp only[DrL]at dzs;obtain⟨y1,_,rfl,q1,y2,_,rfl,q2,rfl⟩:=dzs;exact⟨y1,y2,rfl,q1,q2⟩
  obtain⟨hp1,hp2⟩:=z6H.mp hgm;obtain⟨g1,_,h1⟩:=z3d GA (by lia) p.1 hp1;obtain⟨g2,_,h2⟩:=z3d GB (by lia) p.2 hp2;refine(exF b rfl (SqT.of (t19.g eb)) rfl (exB rfl (exC rfl rfl (exA rfl (exA rfl ⟨y1,y2,n,p.1,p.2,rfl,t19.tabs (t18.tabs hTb),dy1.monoL t19,dy2.monoL t19,g1,g2,by lia,y0r (y1i (y0r h1 hA) (y0r h2 hB)) (show 8*8<=4000 by decide),fun v3 H20 s20 d3=>?_⟩)))));have ey:=s20.g hy;refine⟨ey,by rw[y0a,hyl];rfl,SameL.over (t19.trans s20) hll ey,?_⟩;unfold zai;rw[etk,y0e,y2a];exact DrL.append (DrL.keyedN (z17 ey) (z2u _) (dd.monoL s20)) (DrL.keyedN (z17 ey) (z2u [p]) (DrL.one d3))
 obtain⟨hyl,s19,dd⟩:=h;rw[hpl,y0A]at dd;have t19:=t18.trans s19;replace d1:=d1.monoL s19;replace d2:=d2.monoL s19;replace db:=db.monoL s19;clear dp ep hpl h64p s19 t18 hyl;refine atR (R:=R8) hR8 ?_;clear hR8;refine zgx (fun σ H'=>∃u5:Option V,σ=[some (.ref a),some (.int n),some v1,some v2,some (.ref lf),u5,u6,some (.ref lt),some (.ref ab),some (.ref ll)]/\SameL Ts H19 H') (fun Ed nxE=>?_) (fun σ H21 h=>?_)
 .refine(exA rfl ⟨.ref ab,shr (z0u RA RB),n,rfl,t19.tabs hTb,db,GD,by lia,c,fun lc H20 uc _ s20 ec dc=>⟨lc,rfl,⟨_,SqL.of ec⟩,?_⟩⟩);refine z5t (xs:=uc) (fun i σ H'=>∃u5:Option V,σ=[some (.ref a),some (.int n),some v1,some v2,some (.ref lf),u5,u6,some (.ref lt),some (.ref ab),some (.ref ll)]/\SameL Ts H20 H') ⟨_,rfl,SameL.refl _⟩ (fun i σ H' _ h=>by obtain⟨_,_,t⟩:=h;exact SqL.of (t.g ec)) (fun i x σ H' hx h Ed2 nx2=>?_) (fun σ H' h=>?_)
  .obtain⟨u5,rfl,t21⟩:=h;have hul:uc.length=(z1v (shr (z0u RA RB)) (shr (z0u RA RB)).length).length:=by have:=dc.length;rw[z1G]at this;lia
   have hil:i<(z1v (shr (z0u RA RB)) (shr (z0u RA RB)).length).length:=by have:=(y05.mp hx).1;lia
   have eg:(z1v (shr (z0u RA RB)) (shr (z0u RA RB)).length)[i]?=some (z1v (shr (z0u RA RB)) (shr (z0u RA RB)).length)[i]:=y00 hil;have hgm:=y0c hil;generalize(z1v (shr (z0u RA RB)) (shr (z0u RA RB)).length)[i]=f at eg hgm;obtain⟨x',ex,dx⟩:=dc.get (show(fmD (z1v (shr (z0u RA RB)) (shr (z0u RA RB)).length))[i]?=some (fD f)by unfold fmD;rw[y04,eg];rfl);rw[hx]at ex;cases ex;have s1921:SameL Ts H19 H':=s20.trans t21;obtain⟨g,hg,e,he,hf⟩:=zbp GA GB hA hB c hgm;have hfl:f.length<=60:=by obtain⟨_,_,z⟩:=z3d GD c f hgm;lia
   refine(exA rfl (exA rfl ⟨z0i f,_,ll,ys,dx.monoL t21,rfl,SqL.of (s1921.g hy),dd.monoL s1921,z3y f,z2u _,z9S hg he hf hfl,?_⟩));exact(exA rfl (z8e (nx2 _ _ (exA rfl t21))))
  .obtain⟨u5,rfl,t21⟩:=h;exact nxE _ _ (exA rfl (s20.trans t21))
 obtain⟨u5',rfl,s21⟩:=h;have t21:=t19.trans s21;replace d1:=d1.monoL s21;replace d2:=d2.monoL s21;replace db:=db.monoL s21;clear dd hy s21 t19;refine zcG fun R8 hR8=>?_;refine(exA rfl ⟨v1,RA,n,rfl,t21.tabs hTb,d1,GA,n2,by lia,by lia,fun la H16 ua _ s16 ea da=>?_⟩);have t16:=t21.trans s16;refine(exA rfl ⟨v2,RB,n,rfl,t16.tabs hTb,d2.monoL s16,GB,n2,by lia,by lia,fun lb H17 ub _ s17 eb dbb=>?_⟩);have t17:=t16.trans s17;have hla:ua.length<=RA.length:=by rw[<-da.length,z1G];exact z4z n RA RA.length
 have hlb:ub.length<=RB.length:=by rw[<-dbb.length,z1G];exact z4z n RB RB.length
 refine⟨la,lb,ua,ub,fmD (z0U n RA RA.length),fmD (z0U n RB RB.length),rfl,s17.g ea,eb,da.monoL s17,dbb,z99,z99,by lia,by lia,fun lp H18 ps s18 ep dp=>?_⟩;have t18:=t17.trans (z0d.l s18);have s1518:SameL Ts H21 H18:=(s16.trans s17).trans (z0d.l s18);replace d1:=d1.monoL s1518;replace d2:=d2.monoL s1518;replace db:=db.monoL s1518;clear dbb da ea eb s16 s17 s18 s1518 t16 t17;rw[z8C]at dp;have hpl:ps.length=(z4p (z0U n RA RA.length) (z0U n RB RB.length)).length:=by have:=dp.length;rw[y01]at this;lia
 have h64p:ps.length<=64:=by rw[hpl,z97];exact y1i (y0r (z4z n RA RA.length) hA) (y0r (z4z n RB RB.length) hB)
 refine⟨lp,rfl,⟨_,SqL.of ep⟩,fun ll hll=>z1A (xs:=ps) (fun i ys H'=>ys.length=i/\SameL Ts H18 H'/\DrL K H' (zai ((z4p (z0U n RA RA.length) (z0U n RB RB.length)).take i)) ys) ⟨rfl,z0d.l (z04 (z0d.refl H18) hll),DrL.nil⟩ (fun i ys H' _ h=>SqL.of (h.2.1.g ep)) (y0r h64p (by decide)) (fun i ys H' h=>h.1) (fun i x ys H' hx h hy=>?_) (fun ys H19 h hy=>?_)⟩
 .obtain⟨hyl,t19,dd⟩:=h;have hil:i<(z4p (z0U n RA RA.length) (z0U n RB RB.length)).length:=by have:=(y05.mp hx).1;lia
  have eg:(z4p (z0U n RA RA.length) (z0U n RB RB.length))[i]?=some (z4p (z0U n RA RA.length) (z0U n RB RB.length))[i]:=y00 hil;have hgm:=y0c hil;have etk:(z4p (z0U n RA RA.length) (z0U n RB RB.length)).take (i+1)=(z4p (z0U n RA RA.length) (z0U n RB RB.length)).take i++[(z4p (z0U n RA RA.length) (z0U n RB RB.length))[i]]:=by rw[y0v,eg];rfl
  generalize(z4p (z0U n RA RA.length) (z0U n RB RB.length))[i]=p at eg hgm etk;obtain⟨x',ex,dx⟩:=dp.get (show((z4p (z0U n RA RA.length) (z0U n RB RB.length)).map fun p=>D.tup [fD p.1,fD p.2])[i]?=some (D.tup [fD p.1,fD p.2])by rw[y04,eg];rfl);rw[hx]at ex;cases ex;obtain⟨b,zs,rfl,eb,dzs⟩:∃(b:Addr)(zs:List V),x=.ref b/\H18 b=some (.tup zs)/\DrL K H18 [fD p.1,fD p.2] zs:=by simp only[Dr]at dx;exact dx
  obtain⟨y1,y2,rfl,dy1,dy2⟩:∃y1 y2,zs=[y1,y2]/\Dr K H18 (fD p.1) y1/\Dr K H18 (fD p.2) y2:=by simp only[DrL]at dzs;obtain⟨y1,_,rfl,q1,y2,_,rfl,q2,rfl⟩:=dzs;exact⟨y1,y2,rfl,q1,q2⟩
  obtain⟨hp1,hp2⟩:=z6H.mp hgm;obtain⟨g1,_,h1⟩:=z3d GA (by lia) p.1 (z4a hp1);obtain⟨g2,_,h2⟩:=z3d GB (by lia) p.2 (z4a hp2);refine(exF b rfl (SqT.of (t19.g eb)) rfl (exB rfl (exC rfl rfl (exA rfl (exA rfl ⟨y1,y2,n,p.1,p.2,rfl,t19.tabs (t18.tabs hTb),dy1.monoL t19,dy2.monoL t19,g1,g2,by lia,y0r (y1i (y0r h1 hA) (y0r h2 hB)) (show 8*8<=4000 by decide),fun v3 H20 s20 d3=>?_⟩)))));have ey:=s20.g hy;refine⟨ey,by rw[y0a,hyl];rfl,SameL.over (t19.trans s20) hll ey,?_⟩;unfold zai;rw[etk,y0e,y2a];exact DrL.append (DrL.keyedN (z17 ey) (z2u _) (dd.monoL s20)) (DrL.keyedN (z17 ey) (z2u [p]) (DrL.one d3))
 obtain⟨hyl,s19,dd⟩:=h;rw[hpl,y0A]at dd;have t19:=t18.trans s19;replace d1:=d1.monoL s19;replace d2:=d2.monoL s19;replace db:=db.monoL s19;clear dp ep hpl h64p s19 t18 hyl;refine atR (R:=R8) hR8 ?_;clear hR8;refine zgx (fun σ H'=>∃u5:Option V,σ=[some (.ref a),some (.int n),some v1,some v2,some (.ref lf),u5,u6,some (.ref lt),some (.ref ab),some (.ref ll)]/\SameL Ts H19 H') (fun Ed nxE=>?_) (fun σ H21 h=>?_)
 .refine(exA rfl ⟨.ref ab,shr (z0u RA RB),n,rfl,t19.tabs hTb,db,GD,n2,by lia,c,fun lc H20 uc _ s20 ec dc=>⟨lc,rfl,⟨_,SqL.of ec⟩,?_⟩⟩);refine z5t (xs:=uc) (fun i σ H'=>∃u5:Option V,σ=[some (.ref a),some (.int n),some v1,some v2,some (.ref lf),u5,u6,some (.ref lt),some (.ref ab),some (.ref ll)]/\SameL Ts H20 H') ⟨_,rfl,SameL.refl _⟩ (fun i σ H' _ h=>by obtain⟨_,_,t⟩:=h;exact SqL.of (t.g ec)) (fun i x σ H' hx h Ed2 nx2=>?_) (fun σ H' h=>?_)
  .obtain⟨u5,rfl,t21⟩:=h;have hul:uc.length=(z0U n (shr (z0u RA RB)) (shr (z0u RA RB)).length).length:=by have:=dc.length;rw[z1G]at this;lia
   have hil:i<(z0U n (shr (z0u RA RB)) (shr (z0u RA RB)).length).length:=by have:=(y05.mp hx).1;lia
   have eg:(z0U n (shr (z0u RA RB)) (shr (z0u RA RB)).length)[i]?=some (z0U n (shr (z0u RA RB)) (shr (z0u RA RB)).length)[i]:=y00 hil;have hgm:=y0c hil;generalize(z0U n (shr (z0u RA RB)) (shr (z0u RA RB)).length)[i]=f at eg hgm;obtain⟨x',ex,dx⟩:=dc.get (show(fmD (z0U n (shr (z0u RA RB)) (shr (z0u RA RB)).length))[i]?=some (fD f)by unfold fmD;rw[y04,eg];rfl);rw[hx]at ex;cases ex;have s1921:SameL Ts H19 H':=s20.trans t21;obtain⟨g,hg,e,he,hf⟩:=zap GA GB hA hB c hgm;have hfl:f.length<=60:=by obtain⟨_,_,z⟩:=z3d GD c f (z4a hgm);lia
   refine(exA rfl (exA rfl ⟨z0i f,_,ll,ys,dx.monoL t21,rfl,SqL.of (s1921.g hy),dd.monoL s1921,z3y f,z2u _,z9S hg he hf hfl,?_⟩));exact(exA rfl (z8e (nx2 _ _ (exA rfl t21))))
  .obtain⟨u5,rfl,t21⟩:=h;exact nxE _ _ (exA rfl (s20.trans t21))
 obtain⟨u5',rfl,s21⟩:=h;exact q _
def z40:z0q ["things","numbers","thing"] ["things"] (z05 z2t):={}
def z62:z0W ["things","numbers","thing"] (z05 z2t) ["thing","numbers"] [none,some 1] (csc [(".0",.local),("thing",.local),("numbers",.free)]):={}
def z8I(F:Fun K "numbered" "numbered" z2t f fd)(ml:mg "len"=none):z0C P w K mg base CX 1 f fd ["things"] (z4e K):=by
 refine F.okc z40 (fun vs H Q E h=>?_) (fun cdv A outer s H vs Q E hr h=>?_)
 .obtain⟨a,us,ds,rfl,_⟩:=h;rfl
 obtain⟨a,us,ds,rfl,ha,hd,hT,hlen,q⟩:=h;have hu9:(A.deeper (PyProof.Rows.envOfC "numbered" (z05 z2t) s.heap.objs.size f cdv)).units+9<cLine:=by have:=hr.units;lia
 refine⟨_,z02 (z0k (i:=1) z40.nd rfl (Or.inr rfl) (z8q (K:=K)))
  (z02 (z1r y0I rfl (z0Y (pv 0)) (z09 (i:=2) z40.nd rfl (Or.inl rfl))
   (z07 (z2x (z2e (z85 (K:=K) hu9 (pv 2) (pv 1))) (z07 (z6n (K:=K) hu9 (pv 1) (pv 2) (z0n (zdw K) rfl ml y0G (z00 (pv 1) z03)))) z1a)))
  (z07 (z0D (z1e rfl z62 (z0Y (pv 0)) (fun _ _ _ _ _=>z09 (i:=0) z62.nd rfl (Or.inl rfl)) (fun _ _ _ _ _=>ze4 P w K rfl rfl hu9 (pv 1) (pv 0) (fun _ _=>rfl)))))),?_⟩
 intro d hd0 ob0 g0;have hul:ds.length=us.length:=hd.length;have s0:z0d H (upd H d ob0):=z04 (z0d.refl H) hd0;refine⟨_,rfl,a,rfl,⟨_,SqL.of (s0 _ _ ha)⟩,z5t (xs:=us) (fun i σ H2=>∃v:Option V,σ=[some (.ref a),some (.ref d),v]/\z0d H H2/\DD P w K H2 d (prs id (z0w (ds.take i))))
  ⟨none,rfl,s0,g0⟩ (fun i σ H2 _ h=>by obtain⟨_,_,s2,_⟩:=h;exact SqL.of (s2 _ _ ha)) (fun i x σ H2 hx h Ed nx3=>?_) (fun σ H2 h=>?_)⟩
 .obtain⟨v,rfl,s2,g⟩:=h;have hiu:i<us.length:=(y05.mp hx).1;have ed:ds[i]?=some ds[i]:=y00 (by lia);obtain⟨x',ex,dx⟩:=hd.get ed;rw[hx]at ex;cases ex;have hk:=hT _ (y0c (show i<ds.length by lia));generalize ds[i]=di at ed dx hk;have et:z0w (ds.take (i+1))=z2b (z0w (ds.take i)) di:=by
   unfold z0w;rw[y0v,ed];exact z1w _ _ _
  have hlu:(z0w (ds.take i)).length<=4900:=by have:=z21 (ds.take i) [];rw[y0s]at this;unfold z0w;simp at this;lia
  refine(exA rfl (exA rfl ⟨d,_,di,rfl,g,zcD hk (dx.mono s2),exA rfl ?_⟩));have hv:z2N (prs id (z0w (ds.take i))) di=_:=z25 id (fun _ _ e=>e) (z0w (ds.take i)) di;by_cases hm:di∈z0w (ds.take i)
  .rw[hv,if_pos hm];refine z8e (nx3 _ _ (exA rfl ⟨s2,?_⟩));rw[et,z0o hm];exact g
  .rw[hv,if_neg hm];refine zez (exA rfl ⟨d,exA rfl ⟨g,exA rfl (exA rfl ⟨d,_,di,rfl,g,zcD hk (dx.mono s2),by rw[z20];exact z1F hlu,fun ob g2=>nx3 _ _ (exA rfl ⟨z0a s2 hd0,?_⟩)⟩)⟩⟩);rw[et,z0p hm,<-z5h id (fun _ _ e=>e) hm];rw[z20]at g2;exact g2
 .obtain⟨v,rfl,s2,g⟩:=h;rw[y0M (by lia)]at g;refine(exA rfl ⟨a,rfl,⟨_,SqL.of (s2 _ _ ha)⟩,fun l hl0=>z1A (xs:=us) (fun i ys H3=>i<=ds.length/\ys=((z2o ds).take i).map V.int/\z0d H2 H3) ⟨y0y _,rfl,z04 (z0d.refl H2) hl0⟩ (fun i ys H3 _ h=>SqL.of (h.2.2 _ _ (s2 _ _ ha))) (z19 (by lia)) (fun i ys H3 h=>?_) (fun i x ys H3 hx h hy=>?_) (fun ys H3 h hy=>?_)⟩)
  .obtain⟨hi,rfl,_⟩:=h;unfold z2o;rw[y01,y0s,y01];lia
  .obtain⟨_,rfl,s3⟩:=h;have hiu:i<us.length:=(y05.mp hx).1;have ed:ds[i]?=some ds[i]:=y00 (by lia);obtain⟨x',ex,dx⟩:=hd.get ed;rw[hx]at ex;cases ex;have hmem:ds[i]∈ds:=y0c (show i<ds.length by lia);have hk:=hT _ hmem;generalize ds[i]=di at ed dx hk hmem;have hm:di∈z0w ds:=z0A.mpr (.inr hmem);have hv:z2N (prs id (z0w ds)) di=_:=z25 id (fun _ _ e=>e) (z0w ds) di;rw[if_pos hm]at hv;refine(exA rfl (exA rfl ⟨d,_,di,exA rfl ⟨g.mono s3,zcD hk (dx.mono (s2.trans s3)),hv,hy,by lia,?_,z0a s3 hl0⟩⟩));have en:(z2o ds)[i]?=some (((z0w ds).idxOf di:Nat):Int):=by unfold z2o;rw[y04,ed];rfl
   rw[z1f _ en]
  .obtain⟨_,rfl,s3⟩:=h;have e:((z2o ds).take us.length)=z2o ds:=y0M (by unfold z2o;rw[y01];lia);rw[e]at hy;exact q l H3 (s2.trans s3) hy
def zgs:z0q ["_law_script","_law_at"] ["_law_script","_law_at"] (z05 zdj):={}
def zeJ(F:Fun K "_law_cell" "_law_cell" zdj f fd)(ml:mg "len"=none):z0C P w K mg base CX 1 f fd ["_law_script","_law_at"] (z9L K):=by
 refine F.okc zgs (fun vs H Q E h=>?_) (fun cdv A outer s H vs Q E hr h=>?_)
 .obtain⟨a,ns,i,rfl,_⟩:=h;rfl
 obtain⟨a,ns,i,rfl,hS,h63,hi,q⟩:=h;refine⟨_,z02 (z2x (z1n z6t (pv 1) (z0n z0g rfl ml y0G (z00 (pv 0) z03)) (z2g _)) (z07 (z0D (z1c z1U (pv 0) (pv 1) (fun _ _=>rfl)))) z1a)
  (z02 (z2x (z1n zgM (z0n z0g rfl ml y0G (z00 (pv 0) z03)) z0h (z2g _)) (z07 (z0D (z0S z2w (z0S z5I z0h (pv 1)) z0h))) z1a)
  (z07 (z0D (z0S z2w (z0S z2h (z1c z1U (pv 0) (z0S z2h (pv 1) (z0n z0g rfl ml y0G (z00 (pv 0) z03))) (fun _ _=>rfl)) z0h) (z0S z5I z0h (pv 1)))))),?_⟩
 have hl:(ns.map V.int).length=ns.length:=y01 _;refine(exA rfl (exA rfl ⟨a,exA rfl ⟨.inl hS,exC rfl rfl (exA rfl ?_)⟩⟩));refine z4h (fun c=>?_) (fun c=>?_)
 .have c':(i:Int)<(((ns.map V.int).length:Nat):Int):=y14 c;rw[hl]at c';have hin:i<ns.length:=by lia
  refine(exA rfl (exA rfl ⟨a,_,_,V.int (ns.getD i 0),rfl,rfl,hS,z0L (by simp[hin]),?_⟩));have e:cell ns i=ns.getD i 0:=by unfold cell;rw[if_pos hin]
  rw[e]at q;exact q
 .have c':¬(i:Int)<(((ns.map V.int).length:Nat):Int):=y1n (y1g.mpr c);rw[hl]at c';have hin:¬i<ns.length:=by lia
  refine(exA rfl ⟨a,exA rfl ⟨.inl hS,rfl,exA rfl ?_⟩⟩);refine z4h (fun c=>?_) (fun c=>?_)
  .have c2:=y14 c;rw[hl]at c2;have hz:ns.length=0:=by injection c2 with c2;lia
   refine(exA rfl (exC rfl rfl ⟨.inl ⟨by decide,by decide⟩,exC rfl rfl ?_⟩));have e:cell ns i=29*i+5:=by unfold cell;rw[if_neg hin,if_pos hz]
   rw[e]at q;exact q
  .have c2:=y1n (y1g.mpr c);rw[hl]at c2;have hz:¬ns.length=0:=fun z=>c2 (y28 V.int (by lia));have hpos:(0:Int)<ns.length:=by lia
   have hm:i%ns.length<ns.length:=Nat.mod_lt _ (by lia);have em:(i:Int)%(((ns.map V.int).length:Nat):Int)=((i%ns.length:Nat):Int):=by rw[hl];exact(Int.natCast_emod i ns.length).symm
   refine(exA rfl (exA rfl (exA rfl ⟨a,exA rfl ⟨.inl hS,exC rfl rfl ⟨by rw[hl];exact hpos,a,_,_,V.int (ns.getD (i%ns.length) 0),rfl,rfl,hS,(by rw[em];exact z0L (by simp[hm])),exC rfl rfl ⟨(by show(0:Int)<1000003;decide),exA rfl (exC rfl rfl ⟨.inl ⟨by decide,by decide⟩,exC rfl rfl ?_⟩)⟩⟩⟩⟩)));have e:cell ns i=ns.getD (i%ns.length) 0%1000003+103*i:=by unfold cell;rw[if_neg hin,if_neg hz]
   rw[e]at q;exact q
def zbC:z0q ["_law_script","_law_at"] ["_law_script","_law_at"] (z05 z4C):={}
def zax(F:Fun K "_law_letters" "_law_letters" z4C f fd)(G:z0C P w K mg base CX 1 g gd ["_law_script","_law_at"] (z9L K))(bG:z0t K gd ["_law_script","_law_at"] [])(kG:PySem.W.keepIn K (.ref g)=true)(mG:mg "_law_cell"=some (.ref g)) : z0C P w K mg base CX 2 f fd ["_law_script","_law_at"] (z5r K):=by
 refine F.okc zbC (fun vs H Q E h=>?_) (fun cdv A outer s H vs Q E hr h=>?_)
 .obtain⟨a,ns,i,rfl,_⟩:=h;rfl
 obtain⟨a,ns,i,rfl,hS,h63,hi,q⟩:=h;refine⟨_,z07 (z0D (z0S z2w z0h (z0S z2h (z0j G hr rfl mG kG bG .nil z0Q (z00 (pv 0) (z00 (pv 1) z03))) z0h))),?_⟩;rw[zdb]at q;exact(exA rfl (exA rfl ⟨a,ns,i,rfl,hS,h63,hi,exC rfl rfl ⟨(by show(0:Int)<4;decide),exC rfl rfl q⟩⟩))
def z5F:z0q ["_law_pick","_law_letters_here","_law_left","_law_made","_law_k","_law_many"] ["_law_pick","_law_letters_here"] (z05 zdx):={}
def zfl(F:Fun K "_law_rearranged" "_law_rearranged" zdx f fd)(ml:mg "len"=none)(mt:mg "tuple"=none)(mr:mg "range"=none)(mls:mg "list"=none):z0C P w K mg base CX 1 f fd ["_law_pick","_law_letters_here"] (zbs K):=by
 refine F.okc z5F (fun vs H Q E h=>?_) (fun cdv A outer s H vs Q E hr h=>?_)
 .obtain⟨pick,n,rfl,_⟩:=h;rfl
 obtain⟨pick,n,rfl,hn,k⟩:=h;refine⟨_,z02 (z0k (i:=2) z5F.nd rfl (Or.inl rfl) (z0B (z6d rfl) rfl mls PyProof.Rows.boot_list (z00 (z0B z9u rfl mr PyProof.Rows.boot_range (z00 (pv 1) z03)) z03)))
  (z02 (z0k (i:=3) z5F.nd rfl (Or.inl rfl) (z1B z03))
  (z02 (z1r y0I rfl (z2a rfl mr (z00 (pv 1) z03)) (z09 (i:=4) z5F.nd rfl (Or.inl rfl))
   (z02 (z0k (i:=5) z5F.nd rfl (Or.inl rfl) (z0n z0g rfl ml y0G (z00 (pv 2) z03)))
   (z02 (z1x (z3o y0J y0N y0O z0R (pv 3) (z00 (z3o y0J PySem.F.slot_list_pop PySem.F.type_list_pop zdC (pv 2) (z00 (z0S z2h (pv 0) (pv 5)) z03)) z03)))
   (z07 (z0k (i:=0) z5F.nd rfl (Or.inl rfl) (z0S z73 (pv 0) (pv 5)))))))
  (z07 (z0D (z0B z0s rfl mt y0F (z00 (pv 3) z03)))))),?_⟩
 refine(exA rfl ⟨(n:Int),rfl,by lia,by lia,fun p hp=>⟨p,0,(n:Int),rfl,z01,⟨by decide,by decide,by lia,by lia⟩,by lia,fun l hl=>⟨by show 0<=sizeLine;decide,fun m hm=>?_⟩⟩⟩);have e:((n:Int)-0).toNat=n:=by lia
 rw[e,z7Y]at hm⊢;have s1:z0d H (upd H p (.rng 0 n)):=z04 (z0d.refl H) hp;have s2:z0d H (upd (upd H p (.rng 0 n)) l (.lst ((z0y n).map V.int))):=z04 s1 hl;have hl0:H l=none:=s1.free hl;have hm0:H m=none:=s2.free hm;have hlm:l≠m:=z0f z01 hm;have s3:z0d H (upd (upd (upd H p (.rng 0 n)) l (.lst ((z0y n).map V.int))) m (.lst [])):=z04 s2 hm;refine⟨_,rfl,(n:Int),rfl,by lia,by lia,zcr (n:=(n:Int).toNat) (fun i σ H2=>∃(u v:Option V)(pk:Int)(left made:List Int),σ=[some (.int pk),some (.int n),some (.ref l),some (.ref m),u,v]/\z0d H H2/\H2 l=some (.lst (left.map V.int))/\H2 m=some (.lst (made.map V.int)) /\
   left.length+i=n/\made.length=i/\zcZ pick n=made++ze5 left.length pk left)
  ⟨none,none,pick,z0y n,[],rfl,s3,(by rw[z06 hlm,z01]),z01,z0H n,rfl,by rw[z0H];rfl⟩ (fun i σ H2 hi h Ed nx3=>?_) (fun σ H2 h=>?_)⟩
 .obtain⟨u,v,pk,left,made,rfl,t2,gl,gm,e1,e2,e3⟩:=h;have hin:i<n:=by simpa using hi
  have hpos:0<left.length:=by lia
  have hL:(left.map V.int).length=left.length:=y01 _;obtain⟨ix,hixe,hix⟩:∃ix:Nat,pk%(((left.map V.int).length:Nat):Int)=(ix:Int)/\ix<left.length:=by rw[hL];have h0:=y36 pk (show(left.length:Int)≠0 by lia);have h1:=y2w pk (show(0:Int)<left.length by lia);exact⟨(pk%(left.length:Int)).toNat,by lia,by lia⟩
  have hsq:PySem.seqIndex? (pk%(((left.map V.int).length:Nat):Int)) (left.map V.int).length=some ix:=by rw[hixe,hL,PySem.seqIndex_of (by lia) (by lia)];simp
  refine(exA rfl (exG l rfl (.inl (SqL.of gl)) (exA rfl ⟨.inl ⟨rfl,_,SqL.of gm⟩,exA rfl ⟨.inl ⟨rfl,_,SqL.of gl⟩,exA rfl (exA rfl (exC rfl rfl ⟨by rw[hL];lia,?_⟩))⟩⟩)));refine⟨l,_,_,ix,V.int (left.getD ix 0),rfl,rfl,gl,by rw[hixe];lia,by rw[hixe];lia,hsq,by simp[hix],m,exC rfl rfl ⟨by rw[z06 (y1k hlm)];exact gm,by rw[y01];exact z3J (by lia),?_⟩⟩;refine(exA rfl (exA rfl (exC rfl rfl ⟨⟨by rw[hL];lia,by rw[hL];lia⟩,?_⟩)));refine nx3 _ _ ⟨_,_,pk/(((left.map V.int).length:Nat):Int),left.eraseIdx ix,made++[left.getD ix 0],rfl,z0a (z0a t2 hl0) hm0,?_,?_,?_,by simp[e2],?_⟩
  .rw[z06 hlm,z01];congr 2;exact z7P V.int left ix
  .rw[z01,y0e];rfl
  .rw[y2N hix];lia
  .rw[e3,y0p];congr 1;obtain⟨q,hq⟩:∃q,left.length=q+1:=⟨left.length-1,by lia⟩;have e5:(left.eraseIdx ix).length=q:=by rw[y2N hix];lia
   rw[e5,hL];rw[hL]at hixe;have e6:(pk%(left.length:Int)).toNat=ix:=by lia
   have e7:ze5 (q+1) pk left=left.getD (pk%(left.length:Int)).toNat 0::ze5 q (pk/(left.length:Int)) (left.eraseIdx (pk%(left.length:Int)).toNat):=rfl;rw[hq,e7,e6];rw[hq];rfl
 .obtain⟨u,v,pk,left,made,rfl,t2,gl,gm,e1,e2,e3⟩:=h;refine(exA rfl ⟨m,exA rfl (.inl ⟨SqL.of gm,fun t ht=>?_⟩)⟩);have e9:(n:Int).toNat=n:=by lia
  have e4:left.length=0:=by lia
  rw[e4]at e3;have e5:zcZ pick n=made:=by rw[e3];unfold ze5;simp
  rw[<-e5];exact k _ _ (z04 t2 ht) (Dr.tup z01 (DrL.ints _))
def zfN:z0q ["kinds","goings"] ["kinds","goings"] (z05 zaL):={}
def ze9:z0W ["kinds","goings"] (z05 zaL) ["going","kinds"] [none,some 0] (csc [(".0",.local),("going",.local),("kinds",.free)]):={}
def zef(F:Fun K "kinds_gone_to" "kinds_gone_to" zaL f fd)(mt:mg "tuple"=none):z0C P w K mg base CX 1 f fd ["kinds","goings"] (z9W K):=by
 refine F.okc zfN (fun vs H Q E h=>?_) (fun cdv A outer s H vs Q E hr h=>?_)
 .obtain⟨a,b,ks,gs,rfl,_⟩:=h;rfl
 obtain⟨a,b,ks,gs,rfl,ha,hb,hg,hl,q⟩:=h;refine⟨_,z07 (z0D (z0B z0s rfl mt y0F (z00 (z1e rfl ze9 (z2y (pv 1)) (fun _ _ _ _ _=>z09 (i:=0) ze9.nd rfl (Or.inl rfl)) (fun _ _ _ _ _=>z1c (ixL K rfl) (pv 1) (pv 0) (fun _ _=>rfl))) z03))),?_⟩;obtain⟨b,rfl,eb⟩:=Dr.its_inv hb;refine(exA rfl ⟨b,rfl,⟨_,SqT.of eb⟩,fun l hl0=>z2i (xs:=gs.map V.int) (fun i ys H2=>i<=gs.length/\ys=((gs.take i).map fun g=>ks.getD g.toNat 0).map V.int/\z0d H H2) ⟨y0y _,rfl,z04 (z0d.refl H) hl0⟩ (fun i ys H2 _ h=>SqT.of (h.2.2 _ _ eb)) (by rw[y01];exact z19 (by lia)) (fun i ys H2 h=>?_) (fun i x ys H2 hx h hy=>?_) (fun ys H2 h hy=>?_)⟩)
 .obtain⟨hi,rfl,_⟩:=h;rw[y01,y01,y0s];lia
 .obtain⟨hi,rfl,s2⟩:=h;have hil:i<gs.length:=by have:=(y05.mp hx).1;rwa [y01]at this
  have eg:gs[i]?=some gs[i]:=y00 hil;obtain⟨h0,h1⟩:=hg _ (y0c hil);generalize gs[i]=gi at eg h0 h1;have ex:x=V.int gi:=by rw[y04,eg]at hx;exact(y07 hx).symm
  subst ex;have hk:gi.toNat<ks.length:=by lia
  refine(exA rfl (exA rfl (exD a _ gi (V.int (ks.getD gi.toNat 0)) rfl rfl (SqL.of (s2 _ _ ha)) (z27 h0 (by simp[hk])) ⟨hy,hil,?_,z0a s2 hl0⟩)));rw[z1f _ eg,y0e];rfl
 .obtain⟨_,rfl,s2⟩:=h;refine⟨l,exA rfl (.inl ⟨SqL.of hy,fun t ht=>?_⟩)⟩;rw[y01,y0A];exact q _ _ (z04 s2 ht) (Dr.tup z01 (DrL.ints _))
def zdm:z0q ["one","other"] ["one","other"] (z05 z4M):={}
def z9b:z0W ["one","other"] (z05 z4M) ["letter","other"] [none,some 1] (csc [(".0",.local),("letter",.local),("other",.free)]):={}
def zbM(F:Fun K "turned" "turned" z4M f fd)(mt:mg "tuple"=none):z0C P w K mg base CX 1 f fd ["one","other"] (z6y K):=by
 refine F.okc zdm (fun vs H Q E h=>?_) (fun cdv A outer s H vs Q E hr h=>?_)
 .obtain⟨a,b,p,q,rfl,_⟩:=h;rfl
 obtain⟨a,b,p,q,rfl,ha,hb,hp,hn,k⟩:=h;refine⟨_,z07 (z0D (z0B z0s rfl mt y0F (z00 (z1e rfl z9b (z2y (pv 0)) (fun _ _ _ _ _=>z09 (i:=0) z9b.nd rfl (Or.inl rfl)) (fun _ _ _ _ _=>z1c (ixT K rfl) (pv 1) (pv 0) (fun _ _=>rfl))) z03))),?_⟩;simp only[Dr]at ha hb;obtain⟨a,vs,rfl,sa,da⟩:=ha;obtain⟨b,us,rfl,sb,db⟩:=hb;replace sa:=SqT.of (K:=K) sa;replace sb:=SqT.of (K:=K) sb;have ea:=DrL.ints_inv da;have eb:=DrL.ints_inv db;subst ea eb;refine(exA rfl ⟨a,rfl,⟨_,sa⟩,fun l hl0=>z2i (xs:=p.map V.int) (fun i ys H2=>i<=p.length/\ys=((p.take i).map fun x=>q.getD x.toNat 0).map V.int/\z0d H H2) ⟨y0y _,rfl,z04 (z0d.refl H) hl0⟩ (fun i ys H2 _ h=>h.2.2.tupl sa) (by rw[y01];exact z19 (by lia)) (fun i ys H2 h=>?_) (fun i x ys H2 hx h hy=>?_) (fun ys H2 h hy=>?_)⟩)
 .obtain⟨hi,rfl,_⟩:=h;rw[y01,y01,y0s];lia
 .obtain⟨hi,rfl,s2⟩:=h;have hil:i<p.length:=by have:=(y05.mp hx).1;rwa [y01]at this
  have epx:p[i]?=some p[i]:=y00 hil;obtain⟨h0,h1⟩:=hp _ (y0c hil);generalize p[i]=px at epx h0 h1;have ex:x=V.int px:=by rw[y04,epx]at hx;exact(y07 hx).symm
  subst ex;have eq:q[px.toNat]?=some (q.getD px.toNat 0):=by
   have:px.toNat<q.length:=by lia
   simp[this]
  refine(exA rfl (exA rfl ⟨b,_,px,V.int (q.getD px.toNat 0),rfl,rfl,s2.tupl sb,z27 h0 (by rw[y04,eq];rfl),hy,hil,?_,z0a s2 hl0⟩));rw[z1f _ epx,y0e];rfl
 .obtain⟨_,rfl,s2⟩:=h;refine⟨l,exA rfl (.inl ⟨SqL.of hy,fun t ht=>?_⟩)⟩;rw[y01,y0A];exact k _ _ (z04 s2 ht) (Dr.tup z01 (DrL.ints _))
def z4E:z0q ["one","came_of","letter","becomes"] ["one"] (z05 z6s):={}
def zby(F:Fun K "undone" "undone" z6s f fd)(mt:mg "tuple"=none)(ml:mg "len"=none)(me:mg "enumerate"=none):z0C P w K mg base CX 1 f fd ["one"] (z6u K):=by
 refine F.okc z4E (fun vs H Q E h=>?_) (fun cdv A outer s H vs Q E hr h=>?_)
 .obtain⟨a,p,n,rfl,_⟩:=h;rfl
 obtain⟨a,p,n,rfl,ha,hp,hn,k⟩:=h;refine⟨_,z02 (z0k (i:=1) z4E.nd rfl (Or.inl rfl) (z0S zdX (z1B (z00 z0h z03)) (z0n z0g rfl ml y0G (z00 (pv 0) z03))))
  (z02 (z1r y0I rfl (zeo rfl me (z00 (pv 0) z03)) (z2l rfl (z0l (z09 (i:=2) z4E.nd rfl (Or.inl rfl)) (z0l (z09 (i:=3) z4E.nd rfl (Or.inl rfl)) z1b)))
   (z07 (z2U (pv 2) (zg3 (pv 1) (pv 3) zdB))))
  (z07 (z0D (z0B z0s rfl mt y0F (z00 (pv 1) z03))))),?_⟩
 simp only[Dr]at ha;obtain⟨a,vs,rfl,sa,da⟩:=ha;replace sa:=SqT.of (K:=K) sa;have ea:=DrL.ints_inv da;subst ea;have hl:=hp.len;refine⟨by show 1<=sizeLine;decide,fun z hz=>(exA rfl ⟨a,exA rfl ⟨.inr ((z04 (z0d.refl H) hz).tupl sa),z,((p.map V.int).length:Int),exA rfl ⟨rfl,z01,by rw[y01];lia,by rw[y01];lia,?_,fun l hl0=>?_⟩⟩⟩)⟩
 .rw[y01];show 1*((p.length:Int)).toNat<=sizeLine;exact z19 (by lia)
 have s1:z0d H (upd (upd H z (.lst [.int 0])) l (.lst (List.replicate ((p.map V.int).length:Int).toNat [V.int 0]).flatten)):=z04 (z04 (z0d.refl H) hz) hl0;have hz0:H l=none:=(z04 (z0d.refl H) hz:z0d H (upd H z (.lst [.int 0]))).free hl0;have hrep:(List.replicate ((p.map V.int).length:Int).toNat [V.int 0]).flatten=(List.replicate n (0:Int)).map V.int:=by rw[y01,hl];simp
 rw[hrep]at s1⊢;refine⟨_,rfl,a,rfl,⟨_,s1.tupl sa⟩,zgX (xs:=p.map V.int) (fun i σ H2=>∃(u v:Option V)(ys:List Int),σ=[some (.ref a),some (.ref l),u,v]/\z0d H H2/\H2 l=some (.lst (ys.map V.int))/\ys.length=n/\∀(m:Nat)(x:Int),m<i->p[m]?=some x->ys[x.toNat]?=some (m:Int))
  ⟨none,none,_,rfl,s1,z01,y2D,fun m x hm _=>absurd hm (y3H _)⟩ (fun i σ H2 _ h=>by obtain⟨_,_,_,_,s2,_⟩:=h;exact s2.tupl sa) (fun i x b σ H2 hx h hb Ed nx3=>?_) (fun σ H2 h=>?_)⟩
 .obtain⟨u,v,ys,rfl,s2,hy,hyl,hinv⟩:=h;have hil:i<p.length:=by have:=(y05.mp hx).1;rwa [y01]at this
  obtain⟨px,epx,h0,h1⟩:=hp.get (i:=i) (by lia);have ex:x=V.int px:=by rw[y04,epx]at hx;exact(y07 hx).symm
  subst ex;have hlb:l≠b:=z0f hy hb;have hix:ixN (ys.map V.int).length px=some px.toNat:=by unfold ixN;rw[y01,if_pos h0,if_pos (by lia)]
  refine(exF b rfl (SqT.of z01) rfl (exB rfl (exC rfl rfl (exA rfl (exA rfl (exA rfl ⟨l,_,px,px.toNat,rfl,rfl,(by rw[z06 hlb];exact hy),hix,?_⟩))))));refine nx3 _ _ ⟨_,_,ys.set px.toNat i,rfl,z0a (z04 s2 hb) hz0,?_,by rw[List.length_set];exact hyl,fun m x hm e=>?_⟩
  .rw[z01,List.map_set]
  .by_cases hmi:m=i
   .subst hmi;rw[epx]at e;cases e;rw[y2q (by lia)]
   .have hxp:x.toNat≠px.toNat:=fun z=>by
     have hml:m<p.length:=by lia
     have e1:p[m]=x:=by rw[y00 hml]at e;exact y07 e
     have e2:p[i]=px:=by rw[y00 hil]at epx;exact y07 epx
     have hx0:=(hp.mem.mp (e1▸y0c hml)).1;have:p[m]=p[i]:=by rw[e1,e2];lia
     exact hmi ((y3q hp.nodup).mp this)
    rw[y3x (y1k hxp)];exact hinv m x (by lia) e
 .obtain⟨u,v,ys,rfl,s2,hy,hyl,hinv⟩:=h;refine(exA rfl ⟨l,exA rfl (.inl ⟨SqL.of hy,fun t ht=>?_⟩)⟩);have e:ys=z2B p:=zb0 hp hyl fun m x e=>hinv m x (by rw[y01];exact(y05.mp e).1) e;rw[e];exact k _ _ (z04 s2 ht) (Dr.tup z01 (DrL.ints _))
def z4Q:z0q ["guise","rearranging","goings"] ["guise"] (z05 z4u):={}
def za3(F:Fun K "breadth" "breadth" z4u f fd)(ml:mg "len"=none):z0C P w K mg base CX 1 f fd ["guise"] (z4W K):=by
 refine F.okc z4Q (fun vs H Q E h=>?_) (fun cdv A outer s H vs Q E hr h=>?_)
 .obtain⟨a,r,z1T,rfl,_⟩:=h;rfl
 obtain⟨a,r,z1T,rfl,ha,hl,q⟩:=h;refine⟨_,z02 (z2U (z1c z24 (pv 0) z0h (fun _ _=>rfl)) (z2l rfl (z0l (z09 (i:=1) z4Q.nd rfl (Or.inl rfl)) (z0l (z09 (i:=2) z4Q.nd rfl (Or.inl rfl)) z1b))))
  (z07 (z0D (z0n z0g rfl ml y0G (z00 (pv 1) z03)))),?_⟩
 simp only[Dr,DrL]at ha;obtain⟨a,vs,rfl,ea,v,l,rfl,hv,_⟩:=ha;obtain⟨t,b,c,rfl,et,eb,ec⟩:=z1d hv;refine(exA rfl (exD a _ _ (.ref t) rfl rfl (SqT.of ea) (z0L (j:=0) rfl) (exF t rfl (SqT.of et) rfl (exB rfl (exC rfl rfl (exA rfl (exG b rfl (.inr (SqT.of eb)) ?_)))))));rw[y01];exact q _ (z0d.refl H)
abbrev nRB:List Str:=["row","rearranging","goings","came_of"]
def zgv:z0q nRB ["row"] (z05 z3z):={}
def zhv:z0W nRB (z05 z3z) ["letter","goings"] [none,some 2] (csc [(".0",.local),("letter",.local),("goings",.free)]):={}
def za8(F:Fun K "row_back" "row_back" z3z f fd)(mt:mg "tuple"=none)(U:z0C P w K mg base CX 1 g gd ["one"] (z6u K))(bU:z0t K gd ["one"] [])(kU:PySem.W.keepIn K (.ref g)=true)(mU:mg "undone"=some (.ref g)):z0C P w K mg base CX 2 f fd ["row"] (z5o K):=by
 refine F.okc zgv (fun vs H Q E h=>?_) (fun cdv A outer s H vs Q E hr h=>?_)
 .obtain⟨v,r,n,rfl,_⟩:=h;rfl
 obtain⟨v,r,n,rfl,dv,hp,hl,hn,gq⟩:=h;refine⟨_,z02 (z2U (pv 0) (z2l rfl (z0l (z09 (i:=1) zgv.nd rfl (Or.inl rfl)) (z0l (z09 (i:=2) zgv.nd rfl (Or.inr rfl)) z1b))))
  (z02 (z0k (i:=3) zgv.nd rfl (Or.inl rfl) (z0j U hr rfl mU kU bU .nil z0Q (z00 (pv 1) z03)))
  (z07 (z0D (z1Z (z00 (pv 3) (z00 (z0B z0s rfl mt y0F (z00 (z1e rfl zhv (z2y (pv 3)) (fun _ _ _ _ _=>z09 (i:=0) zhv.nd rfl (Or.inl rfl)) (fun _ _ _ _ _=>z1c (ixT K rfl) (pv 1) (pv 0) (fun _ _=>rfl))) z03)) z03)))))),?_⟩
 obtain⟨t,b,c,rfl,et,eb,ec⟩:=z1d dv;refine(exA rfl (exF t rfl (SqT.of et) rfl (exB rfl (exC rfl rfl ?_))));refine(exA rfl ⟨.ref b,r.1,n,rfl,Dr.tup eb (DrL.ints _),hp,by lia,fun v H1 s1 d1=>?_⟩);obtain⟨b1,rfl,eb1⟩:=Dr.its_inv d1;have hbl:(z2B r.1).length=n:=by rw[z3v,hp.len]
 refine(exA rfl (exA rfl ⟨b1,rfl,⟨_,SqT.of eb1⟩,fun l4 hl4=>z2i (xs:=(z2B r.1).map V.int) (fun j zs H4=>j<=(z2B r.1).length/\zs=(((z2B r.1).take j).map fun l=>r.2.getD l.toNat 0).map V.int/\z0d H1 H4) ⟨y0y _,rfl,z04 (z0d.refl H1) hl4⟩ (fun j zs H4 _ h=>SqT.of (h.2.2 _ _ eb1)) (by rw[y01];exact z19 (by lia)) (fun j zs H4 h=>?_) (fun j x zs H4 hx h hy4=>?_) (fun zs H4 h hy4=>?_)⟩))
 .obtain⟨hj,rfl,_⟩:=h;rw[y01,y01,y0s];lia
 .obtain⟨hj,rfl,s4⟩:=h;have hjl:j<(z2B r.1).length:=by have:=(y05.mp hx).1;rwa [y01]at this
  obtain⟨i,hi,e1,e2⟩:=z6N hp (show j<n by lia);have ex:x=V.int i:=by rw[y04,e1]at hx;exact(y07 hx).symm
  subst ex;have e3:r.2[i]?=some r.2[i]:=y00 (by lia);refine(exA rfl (exA rfl (exD c _ _ (V.int r.2[i]) rfl rfl (SqT.of ((s1.trans s4) _ _ ec)) (z0L (by rw[y04,e3];rfl)) ⟨hy4,hjl,?_,z0a s4 hl4⟩)));rw[z1f _ e1,y0e];show _=_++[V.int (r.2.getD ((i:Int)).toNat 0)];rw[y0E,y02,e3];rfl
 .obtain⟨_,rfl,s4⟩:=h;rw[y01,y0A]at hy4;refine⟨l4,exA rfl (.inl ⟨SqL.of hy4,fun t4 ht4=>⟨by show 2<=sizeLine;decide,fun t5 ht5=>?_⟩⟩)⟩;have s5:=z04 (o:=HO.tup (((z2B r.1).map fun l=>r.2.getD l.toNat 0).map V.int)) s4 ht4;have e5:upd H4 t4 (HO.tup (((z2B r.1).map fun l=>r.2.getD l.toNat 0).map V.int)) t4=some (.tup ((z6E r).2.map V.int)):=z01;generalize upd H4 t4 (HO.tup (((z2B r.1).map fun l=>r.2.getD l.toNat 0).map V.int))=H5 at s5 e5 ht5;have s6:=z04 (o:=HO.tup [.ref b1,.ref t4]) (z0d.refl H5) ht5;exact gq _ _ ((s1.trans s5).trans s6) (z3R (r:=z6E r) (b:=b1) (c:=t4) z01 ((s5.trans s6) _ _ eb1) (s6 _ _ e5))
abbrev nBk:List Str:=["guise"]
def ziu:z0q nBk ["guise"] (z05 z5D):={}
abbrev zhS:Scope:=csc [("at",.local),("guise",.free),("row_back",.globalImplicit)]
def zid:z0W nBk (z05 z5D) ["at","guise"] [none,some 0] zhS:={}
def zig:zfq ["at","guise"] ["at"] zhS:={}
def zcN{k b Ct cc:Addr}{kd bd:FuncData}{Ts:List Tb}{T0:Tb}(F:Fun K "back" "back" z5D f fd)(hcd:fd.code=.ref cc)(hC:PySem.W.CodeHd base cc T0.at_)(hB:z43 base mg)(hT:T0∈Ts)(hTn:∀T'∈Ts,T'.at_=T0.at_->T'=T0)(hTp:T0.pos=z4V (z0M z5D))(hTq:T0.qual=("back.<locals>."++"<lambda>":Str))(J:z0C P w K mg base (CXx P w) 3 b bd ["row"] (z5o K))(bJ:z0t K bd ["row"] [])(kJ:PySem.W.keepIn K (.ref b)=true)(mJ:mg "row_back"=some (.ref b))(T:z0C P w K mg base (CXx P w) 6 k kd ["first","row_at"] (z4t P w K mg base (CXx P w) 4 Ct))(bT:z0t K kd ["first","row_at"] [])(kT:PySem.W.keepIn K (.ref k)=true)(mT:mg "least_form"=some (.ref k)):z0C P w K mg base (CXx P w) 7 f fd ["guise"] (zc4 Ts K Ct):=by
 refine F.okL hcd ziu (fun vs H Q E h=>?_) (fun A outer s H vs Q E hr h=>?_)
 .obtain⟨v,n,one,rfl,_⟩:=h;rfl
 obtain⟨v,n,one,rfl,hTb,dv,G1,hn,gv,gx⟩:=h;refine⟨_,z07 (z0D (z6A (Ts:=Ts) (T:=T0) T hr rfl mT kT bT (zbl fun _ _ _ z=>z) z0h (fun σ H Q Q' h q=>h _ _ q) zid rfl hC hB (fun _=>rfl) hT hTn hTp hTq)),?_⟩;have GC:=z0v G1;refine⟨hTb,fun fa H2 cs f1 f2 f3 C=>?_⟩;have n1:SameL [] H H2:=⟨f1,fun _ _ h=>absurd h (by simp)⟩;obtain⟨av,us,rfl,eav,dus⟩:∃(av:Addr)(us:List V),v=.ref av/\H2 av=some (.tup us)/\DrL K H2 (z0i one) us:=by have:=dv.monoL n1;simp only[Dr]at this;exact this
 refine⟨fa,n,z1H one,fun i=>i,rfl,fun _ _ e=>e,?_,GC,hn,fun h6 v H3 s3 d=>gv h6 v _ (f2 _ s3) (d.nfr (NFr.utk f3 s3)),fun h6 e H3 s3=>gx h6 e _ (f2 _ s3)⟩;refine z2D.lam (k:=3) C zig (fun _ _ _ _ us hl=>by obtain⟨a9,rfl⟩:=zew hl;rfl) rfl (fun vs H Q h=>?_) (fun H' s' A outer s cd clos cs vs Q hr nf h=>?_)
 .obtain⟨i,rfl,_⟩:=h;rfl
 obtain⟨i,rfl,h0,h1,gq⟩:=h;rw[z1m]at h1;rw[zbo,z2E h0 h1]at gq;have hr':=z0c h0 h1;obtain⟨v,ev,dv'⟩:=z2m dus (z2Y h0 h1);refine⟨_,z0j J hr rfl mJ kJ bJ .nil z0Q (z00 (z1c z24 (pv 1) (pv 0) (fun _ _=>rfl)) z03),?_⟩;exact(exA rfl (exA rfl (exD av us i v rfl rfl (SqT.of (nf _ _ (fun _ z=>by cases z) (s' _ _ eav))) (z27 h0 ev) ⟨v,row one i,n,rfl,(dv'.mono s').nfr nf,G1.perm _ hr',G1.len _ hr',hn,fun v' H1' s1' d1' hc=>gq v' _ (z0d.rtk s1') (d1'.mono (z0d.rtk' hc))⟩)))
abbrev ze2:List Str:=["first","row_at","order","places","found","rearranging","goings","going"]
def z3p:z0q ze2 ["first","row_at"] (z05 z6K):={}
def zcg:z0W ze2 (z05 z6K) ["going","places"] [none,some 3] (csc [(".0",.local),("going",.local),("places",.free)]):={}
def zcX(F:Fun K "rows_come_to" "rows_come_to" z6K f fd)(ml:mg "len"=none)(mt:mg "tuple"=none):z0C P w K mg base CX 5 f fd ["first","row_at"] (z8p P w K mg base CX 4):=by
 refine F.okc z3p (fun vs H Q E h=>?_) (fun cdv A outer s H vs Q E hr h=>?_)
 .obtain⟨a,v0,n,rows,m,rfl,_⟩:=h;rfl
 obtain⟨fa,v0,n,rows,mm,rfl,dv0,hV,G,hn,q⟩:=h;obtain⟨a0,rfl,ea0⟩:=zdY dv0;have hu:=zan hr;have hu9:(A.deeper (PyProof.Rows.envOfC "rows_come_to" (z05 z6K) s.heap.objs.size f cdv)).units+9<cLine:=by have:=hr.units;lia
 refine⟨_,z02 (z0k (i:=2) z3p.nd rfl (Or.inl rfl) (z1B (z00 (pv 0) z03)))
  (z02 (z0k (i:=3) z3p.nd rfl (Or.inr rfl) (zdn (K:=K) hu9 (pv 0) z0h))
  (z02 (z0k (i:=4) z3p.nd rfl (Or.inl rfl) (z1B z03))
  (z02 (z2f y0I (z1n z6t (z0n z0g rfl ml y0G (z00 (pv 4) z03)) (z0n z0g rfl ml y0G (z00 (pv 2) z03)) (z2g _))
   (z02 (z2U (z9E (CX:=CX) 1 hr (z00 (z1c z1U (pv 2) (z0n z0g rfl ml y0G (z00 (pv 4) z03)) (fun _ _=>rfl)) z03)) (z2l rfl (z0l (z09 (i:=5) z3p.nd rfl (Or.inl rfl)) (z0l (z09 (i:=6) z3p.nd rfl (Or.inl rfl)) z1b))))
   (z02 (z1r y0I rfl (z2y (pv 6)) (z09 (i:=7) z3p.nd rfl (Or.inl rfl))
    (z07 (z2x (z2e (z85 (K:=K) hu9 (pv 7) (pv 3)))
     (z02 (z6n (K:=K) hu9 (pv 3) (pv 7) (z0n z0g rfl ml y0G (z00 (pv 2) z03)))
     (z07 (z1x (z3o y0J y0N y0O z0R (pv 2) (z00 (pv 7) z03))))) z1a)))
   (z07 (z1x (z3o y0J y0N y0O z0R (pv 4) (z00 (z1Z (z00 (pv 5) (z00 (z0B z0s rfl mt y0F
    (z00 (z1e rfl zcg (z2y (pv 6)) (fun _ _ _ _ _=>z09 (i:=0) zcg.nd rfl (Or.inl rfl)) (fun _ _ _ _ _=>ze4 P w K rfl rfl hu9 (pv 1) (pv 0) (fun _ _=>rfl))) z03)) z03))) z03)))))))
  (z07 (z0D (pv 4)))))),?_⟩
 refine(exA rfl ⟨by show 1<=sizeLine;decide,fun lo hlo=>?_⟩);have s1:=z04 (o:=HO.lst [.ref a0]) (z0d.refl H) hlo;have elo1:upd H lo (.lst [.ref a0]) lo=some (.lst [.ref a0]):=z01;generalize upd H lo (.lst [.ref a0])=H1 at s1 elo1;refine fun lp hlp ob0 g0=>(exA rfl ?_);have hlp0:H lp=none:=s1.free hlp;have nlo:lo≠lp:=z0f elo1 hlp;have s2:=z04 (o:=ob0) s1 hlp;refine⟨pr mm 0,g0,zcD (z4n mm 0) (dv0.mono s2),fun ob g2=>⟨by show 0<=sizeLine;decide,fun lf hlf=>?_⟩⟩;have s3:z0d H (upd (upd H1 lp ob0) lp ob):=z0a s2 hlp0;have elo3:upd (upd H1 lp ob0) lp ob lo=some (.lst [.ref a0]):=by rw[z06 nlo,z06 nlo];exact elo1
 generalize upd (upd H1 lp ob0) lp ob=H2' at s3 elo3 g2 hlf;have hlf0:H lf=none:=s3.free hlf;have nlf:lo≠lf:=z0f elo3 hlf;have nlpf:lp≠lf:=by obtain⟨xs,e0,_⟩:=id g2;exact z0f e0 hlf
 have s4:=z04 (o:=HO.lst []) s3 hlf;have s24:=z04 (o:=HO.lst []) (z0d.refl H2') hlf;have OL:=z0m G;have hol:=OL.1.len;have h400:=G.few;refine⟨fun m σ H2=>∃(i:Nat)(o:List Int)(os:List V)(u1 u2 u3:Option V)(fs:List V),m=rows.length+1-i/\σ=[some (.ref a0),some (.ref fa),some (.ref lo),some (.ref lp),some (.ref lf),u1,u2,u3]/\z0d H H2/\H2 lo=some (.lst os)/\DrL K H2 (o.map (pr mm)) os/\DD P w K H2 lp (prs (pr mm) o)/\H2 lf=some (.lst fs) /\
   DrL K H2 (z0i ((z0G rows).take i)) fs/\z7d rows o/\i<=o.length/\bfs rows (rows.length+1-i) i o=z0b rows,⟨_,0,[0],[.ref a0],none,none,none,[],rfl,rfl,s4,s24 _ _ elo3,?_,g2.mono s24,z01,DrL.nil,zcp G,by simp,rfl⟩,?_⟩
 .exact DrL.one (dv0.mono s4)
 rintro m σ H2 ⟨i,o,os,u1,u2,u3,fs,rfl,rfl,t2,glo,dos,glp,glf,df,L,hi,hb⟩;have hfl:fs.length=i:=by
  have:=df.length;unfold z0i at this;rw[y01,y0s]at this;obtain⟨m0,em⟩:=z41 rows (rows.length+1-i) i o;rw[hb]at em;have:(z0G rows).length=(z0b rows).length:=by unfold z0G z1K;rw[y01]
  have:o.length<=(z0b rows).length:=by rw[em,y0a];lia
  lia
 refine(exA rfl (exG lf rfl (.inl (SqL.of glf)) (exA rfl (exG lo rfl (.inl (SqL.of glo)) (exC rfl rfl (exA rfl ?_))))));have hol2:os.length=o.length:=by have:=dos.length;rw[y01]at this;lia
 refine z4h (fun c=>?_) (fun c=>?_)
 .have c':=y14 c;rw[hfl,hol2]at c';have hio:i<o.length:=by lia
  have eo:o[i]?=some o[i]:=y00 hio;have hro:o[i]∈o:=y0c hio;generalize o[i]=r at eo hro;obtain⟨r0,r1⟩:=L.rg r hro;have hrow:=z0c r0 r1;have hgl:=G.len _ hrow;have hgo:=G.go _ hrow;have hlen:=L.len;refine zed fun N nx2=>?_;obtain⟨vo,evo,dvo⟩:=dos.get (show(o.map (pr mm))[i]?=some (pr mm r)by rw[y04,eo];rfl);refine⟨fa,z9f K rows mm,rfl,(hV.mono t2).1,exA rfl (exA rfl (exG lf rfl (.inl (SqL.of glf)) (exD lo _ _ vo rfl rfl (SqL.of glo) (z0L (by rw[hfl];exact evo)) ⟨hV.mono t2,r,vo,rfl,dvo,r0,r1,fun v Hc sc dv=>?_⟩)))⟩;obtain⟨t,b,cc,ws,rfl,et,eb,ec,dws⟩:=zd2 dv;have t2:=t2.trans sc;have glo:=sc _ _ glo;have glp:=glp.mono sc;have dos:=dos.mono sc;have glf:=sc _ _ glf;have df:=df.mono sc;refine(exF t rfl (SqT.of et) rfl (exB rfl (exC rfl rfl ?_)));generalize hgs:(row rows r).2=gs at *;refine⟨_,rfl,cc,rfl,⟨_,SqT.of ec⟩,zgA (xs:=ws) (fun j σ H3=>∃(u:Option V)(oj:List V),σ=[some (.ref a0),some (.ref fa),some (.ref lo),some (.ref lp),some (.ref lf),some (.ref b),some (.ref cc),u]/\z0d H H3/\z1j Hc H3/\H3 lo=some (.lst oj)/\DrL K H3 ((z08 o (gs.take j)).map (pr mm)) oj/\DD P w K H3 lp (prs (pr mm) (z08 o (gs.take j)))/\H3 lf=some (.lst fs))
   ⟨_,os,rfl,t2,z1j.refl _,glo,dos,glp,glf⟩ (fun j σ H3 _ h=>by obtain⟨_,_,_,_,k3,_⟩:=h;exact SqT.of (k3 _ _ ec)) (fun j x σ H3 hx h Ed nx3=>?_) (fun σ H3 h=>?_)⟩
  .obtain⟨u,oj,rfl,t3,k3,e1,doj,g3,e3⟩:=h;have hwl:ws.length=gs.length:=by have:=dws.length;rw[y01]at this;lia
   have hjl:j<gs.length:=by have:=(y05.mp hx).1;lia
   have eg:gs[j]?=some gs[j]:=y00 hjl;obtain⟨x',ex,dx⟩:=dws.get (show(gs.map (pr mm))[j]?=some (pr mm gs[j])by rw[y04,eg];rfl);rw[hx]at ex;cases ex;generalize gs[j]=gj at eg dx;have dx3:Dr K H3 (pr mm gj) x:=dx.keyed k3 (z4n mm gj).1;have et':z08 o (gs.take (j+1))=z2b (z08 o (gs.take j)) gj:=by rw[y0v,eg];exact z1w _ _ _
   have hal:(z08 o (gs.take j)).length<=4500:=by have:=z21 (gs.take j) o;rw[y0s]at this;lia
   have hojl:oj.length=(z08 o (gs.take j)).length:=by have:=doj.length;rw[y01]at this;lia
   generalize z08 o (gs.take j)=ol at *;refine(exA rfl (exA rfl ⟨lp,_,pr mm gj,rfl,g3,zcD (z4n mm gj) dx3,exA rfl ?_⟩));have hv:=z25 (κ:=D) (pr mm) (zc0 mm) ol gj;by_cases hm:gj∈ol
   .rw[hv,if_pos hm];refine z8e (nx3 _ _ ⟨_,oj,rfl,t3,k3,e1,?_,?_,e3⟩)
    .rw[et',z0o hm];exact doj
    .rw[et',z0o hm];exact g3
   .rw[hv,if_neg hm];refine zez (exA rfl (exG lo rfl (.inl (SqL.of e1)) (exA rfl (exA rfl ⟨lp,_,pr mm gj,rfl,g3,zcD (z4n mm gj) dx3,by rw[z20];exact z1F (by lia),fun ob g4=>?_⟩))));rw[hojl,z5h (pr mm) (zc0 mm) hm]at g4;have k4:z1j H3 (upd H3 lp ob):=by
     obtain⟨xs,e0,_⟩:=g3;exact z1j.up (z1j.refl _) e0 (fun _ z=>by unfold zaB at z;cases z)
    have e1':upd H3 lp ob lo=some (.lst oj):=by rw[z06 nlo];exact e1
    have k5:z1j (upd H3 lp ob) (upd (upd H3 lp ob) lo (.lst (oj++[x]))):=z1j.up (z1j.refl _) e1' (fun _ z=>by cases z);refine(exA rfl ⟨.inl ⟨rfl,_,SqL.of e1'⟩,exA rfl ⟨lo,exC rfl rfl ⟨e1',z1F (by lia),?_⟩⟩⟩);refine nx3 _ _ ⟨_,oj++[x],rfl,z0a (z0a t3 hlp0) hlo,k3.trans (k4.trans k5),z01,?_,?_,?_⟩
    .rw[et',z0p hm,y0e];exact DrL.append (doj.keyed (k4.trans k5) (z78 mm _)) (DrL.one (dx3.keyed (k4.trans k5) (z4n mm gj).1))
    .rw[et',z0p hm];exact DD.keyed g4 k5 (by rw[z06 nlo.symm])
    .rw[z06 nlf.symm,z06 nlpf.symm];exact e3
  .obtain⟨u,oj,rfl,t3,k3,e1,doj,e2,e3⟩:=h;have hwl:ws.length=gs.length:=by have:=dws.length;rw[y01]at this;lia
   rw[hwl,y0A]at doj e2;obtain⟨m0,em⟩:=z41 rows (rows.length+1-(i+1)) (i+1) (z08 o gs);have hb':bfs rows (rows.length+1-(i+1)) (i+1) (z08 o gs)=z0b rows:=by rw[<-hb,show rows.length+1-i=(rows.length+1-(i+1))+1 by lia,z36 eo,hgs]
   rw[hb']at em;have L':z7d rows (z08 o gs):=by rw[<-hgs];exact L.add G hro
   obtain⟨m1,em1⟩:=z0K gs o;have hoi:(z0b rows)[i]?=some r:=by rw[em,em1,y0p,y11 hio];exact eo
   have hi':i+1<=(z08 o gs).length:=by rw[em1,y0a];lia
   have hmem:∀g∈gs,g∈z08 o gs:=fun g hg=>z0A.mpr (.inr hg);have efound:(z0G rows).take (i+1)=(z0G rows).take i++[((row rows r).1,gs.map fun g=>(((z08 o gs).idxOf g:Nat):Int))]:=by
    have e4:(z0G rows)[i]?=some ((row rows r).1,gs.map fun g=>(((z08 o gs).idxOf g:Nat):Int)):=by unfold z0G z1K;rw[y04,hoi];show some ((row rows r).1,(row rows r).2.map fun g=>(((z0b rows).idxOf g:Nat):Int))=_;rw[hgs];congr 2;refine y0H fun g hg=>?_;rw[em,z55 (hmem g hg)]
    rw[y0v,e4];rfl
   generalize z08 o gs=o' at *;refine(exA rfl ⟨.inl ⟨rfl,_,SqL.of e3⟩,exA rfl (exA rfl ⟨cc,rfl,⟨_,SqT.of (k3 _ _ ec)⟩,fun l4 hl4=>z2i (xs:=ws) (fun j ys H4=>j<=gs.length/\ys=((gs.take j).map fun g=>((o'.idxOf g:Nat):Int)).map V.int/\z0d H3 H4) ⟨y0y _,rfl,z04 (z0d.refl H3) hl4⟩ (fun j ys H4 _ h=>SqT.of (h.2.2 _ _ (k3 _ _ ec))) (by rw[hwl];exact z19 (by lia)) (fun j ys H4 h=>?_) (fun j x ys H4 hx h hy=>?_) (fun ys H4 h hy=>?_)⟩)⟩)
   .obtain⟨hj,rfl,_⟩:=h;rw[y01,y01,y0s];lia
   .obtain⟨hj,rfl,s4⟩:=h;have hjl:j<gs.length:=by have:=(y05.mp hx).1;lia
    have eg:gs[j]?=some gs[j]:=y00 hjl;have hgm:=hmem _ (y0c hjl);obtain⟨x',ex,dx⟩:=dws.get (show(gs.map (pr mm))[j]?=some (pr mm gs[j])by rw[y04,eg];rfl);rw[hx]at ex;cases ex;generalize gs[j]=gj at eg hgm dx;have dx4:Dr K H4 (pr mm gj) x:=(dx.keyed k3 (z4n mm gj).1).mono s4;have hv:=z25 (κ:=D) (pr mm) (zc0 mm) o' gj;rw[if_pos hgm]at hv;refine(exA rfl (exA rfl ⟨lp,_,pr mm gj,exA rfl ⟨e2.mono s4,zcD (z4n mm gj) dx4,hv,hy,hjl,?_,z0a s4 hl4⟩⟩));rw[z1f _ eg,y0e];rfl
   .obtain⟨_,rfl,s4⟩:=h;rw[hwl,y0A]at hy;refine⟨l4,exA rfl (.inl ⟨SqL.of hy,fun t4 ht4=>⟨by show 2<=sizeLine;decide,fun t5 ht5=>?_⟩⟩)⟩;have s5:=z04 (o:=HO.tup ((gs.map fun g=>((o'.idxOf g:Nat):Int)).map V.int)) s4 ht4;have s6:=z04 (o:=HO.tup [.ref b,.ref t4]) s5 ht5;have e3':=s6 _ _ e3;refine⟨lf,fs,.ref t5,rfl,rfl,e3',by rw[hfl];exact z1F (by lia),?_⟩;have kk:z1j Hc (upd (upd (upd H4 t4 (.tup ((gs.map fun g=>((o'.idxOf g:Nat):Int)).map V.int))) t5 (.tup [.ref b,.ref t4])) lf (.lst (fs++[.ref t5]))):=z1j.up (k3.trans (z1j.of s6)) e3' (fun _ z=>by cases z);have kk':=z1j.up (u:=HO.lst (fs++[.ref t5])) (z1j.refl (upd (upd H4 t4 (.tup ((gs.map fun g=>((o'.idxOf g:Nat):Int)).map V.int))) t5 (.tup [.ref b,.ref t4]))) e3' (fun _ z=>by cases z);have nt5:t5≠lf:=z47 z01 e3' (by intro z;cases z);have nt4:t4≠t5:=z0f z01 ht5;have nt4f:t4≠lf:=z47 (show upd (upd H4 t4 (.tup ((gs.map fun g=>((o'.idxOf g:Nat):Int)).map V.int))) t5 (.tup [.ref b,.ref t4]) t4=some (.tup ((gs.map fun g=>((o'.idxOf g:Nat):Int)).map V.int))by rw[z06 nt4];exact z01) e3' (by intro z;cases z);refine nx2 (rows.length+1-(i+1)) _ _ (by lia) ⟨i+1,o',oj,_,_,_,fs++[.ref t5],rfl,rfl,z0a (t3.trans s6) hlf0,?_,?_,?_,z01,?_,L',hi',hb'⟩
    .rw[z06 nlf];exact s6 _ _ e1
    .exact(doj.mono s6).keyed kk' (z78 mm _)
    .exact DD.keyed (e2.mono s6) kk' (by rw[z06 nlpf])
    .rw[efound];unfold z0i;rw[y0e];refine DrL.append (df.keyed kk (z2F _)) (DrL.one (z3R (b:=b) (c:=t4) ?_ (kk _ _ eb) ?_))
     .rw[z06 nt5];exact z01
     .rw[z06 nt4f,z06 nt4];exact z01
 .have c':=y1n (y1g.mpr c);rw[hfl,hol2]at c';have e:z0b rows=o:=by rw[<-hb];exact z35 (by lia)
  have e2:(z0G rows).take i=z0G rows:=y0M (by unfold z0G z1K;rw[y01,e];lia);rw[e2]at df;exact(exA rfl (q lf H2 t2 ⟨fs,glf,df⟩))
abbrev zdS:List Str:=["first","row_at","order","places","found","rearranging","goings","going"]
def z3t:z0q zdS ["first","row_at"] (z05 z6K):={}
def zct:z0W zdS (z05 z6K) ["going","places"] [none,some 3] (csc [(".0",.local),("going",.local),("places",.free)]):={}
def zdp(F:Fun K "rows_come_to" "rows_come_to" z6K f fd)(ml:mg "len"=none)(mt:mg "tuple"=none):z0C P w K mg base CX 5 f fd ["first","row_at"] (z8G P w K mg base CX 4):=by
 refine F.okc z3t (fun vs H Q E h=>?_) (fun cdv A outer s H vs Q E hr h=>?_)
 .obtain⟨a,n,rows,nm,rfl,_⟩:=h;rfl
 obtain⟨fa,n,rows,nm,rfl,ni,hV,G,hn,q⟩:=h;have hu:=zan hr;refine⟨_,z02 (z0k (i:=2) z3t.nd rfl (Or.inl rfl) (z1B (z00 (pv 0) z03)))
  (z02 (z0k (i:=3) z3t.nd rfl (Or.inr rfl) (zaI (z74 (pv 0) z0h z8N) rfl rfl (by simp) (by decide)))
  (z02 (z0k (i:=4) z3t.nd rfl (Or.inl rfl) (z1B z03))
  (z02 (z2f y0I (z1n z6t (z0n z0g rfl ml y0G (z00 (pv 4) z03)) (z0n z0g rfl ml y0G (z00 (pv 2) z03)) (z2g _))
   (z02 (z2U (z9E (CX:=CX) 1 hr (z00 (z1c z1U (pv 2) (z0n z0g rfl ml y0G (z00 (pv 4) z03)) (fun _ _=>rfl)) z03)) (z2l rfl (z0l (z09 (i:=5) z3t.nd rfl (Or.inl rfl)) (z0l (z09 (i:=6) z3t.nd rfl (Or.inl rfl)) z1b))))
   (z02 (z1r y0I rfl (z2y (pv 6)) (z09 (i:=7) z3t.nd rfl (Or.inl rfl))
    (z07 (z2x (z2e (z3I hu (pv 7) (pv 3)))
     (z02 (z42 hu (pv 3) (pv 7) (z0n z0g rfl ml y0G (z00 (pv 2) z03)) rfl)
     (z07 (z1x (z3o y0J y0N y0O z0R (pv 2) (z00 (pv 7) z03))))) z1a)))
   (z07 (z1x (z3o y0J y0N y0O z0R (pv 4) (z00 (z1Z (z00 (pv 5) (z00 (z0B z0s rfl mt y0F
    (z00 (z1e rfl zct (z2y (pv 6)) (fun _ _ _ _ _=>z09 (i:=0) zct.nd rfl (Or.inl rfl)) (fun _ _ _ _ _=>z3q hu (pv 1) (pv 0) (fun _ _=>rfl))) z03)) z03))) z03)))))))
  (z07 (z0D (pv 4)))))),?_⟩
 refine(exA rfl ⟨by show 1<=sizeLine;decide,fun lo hlo=>fun lp hlp=>(exA rfl ⟨z01,[(Sum.inl (nm 0),V.int 0)],rfl,by simp,by show 0<=sizeLine;decide,fun lf hlf=>?_⟩)⟩);have s1:z0d H (upd H lo (.lst [.int (nm 0)])):=z04 (z0d.refl H) hlo;have hlp0:H lp=none:=s1.free hlp;have nlo:lo≠lp:=z0f z01 hlp;have s2:z0d H (upd (upd (upd H lo (.lst [.int (nm 0)])) lp (.dK [])) lp (.dK (z4k [] [(Sum.inl (nm 0),V.int 0)]))):=z0a (z04 s1 hlp) hlp0;have hlf0:H lf=none:=s2.free hlf;have nlf:lo≠lf:=z0f (show upd (upd (upd H lo (.lst [.int (nm 0)])) lp (.dK [])) lp (.dK (z4k [] [(Sum.inl (nm 0),V.int 0)])) lo=_ by rw[z06 nlo,z06 nlo];exact z01) hlf;have nlpf:lp≠lf:=z0f z01 hlf;have s3:=z04 (o:=HO.lst []) s2 hlf;have OL:=z0m G;have hol:=OL.1.len;have h400:=G.few;refine⟨fun m σ H2=>∃(i:Nat)(o:List Int)(u1 u2 u3:Option V)(fs:List V),m=rows.length+1-i/\σ=[some (.int (nm 0)),some (.ref fa),some (.ref lo),some (.ref lp),some (.ref lf),u1,u2,u3]/\z0d H H2/\H2 lo=some (.lst (o.map (nV nm)))/\H2 lp=some (.dK (prs (kN nm) o))/\H2 lf=some (.lst fs) /\
   DrL K H2 (z0i ((z0G rows).take i)) fs/\z7d rows o/\i<=o.length/\bfs rows (rows.length+1-i) i o=z0b rows,⟨_,0,[0],none,none,none,[],rfl,rfl,s3,?_,?_,z01,DrL.nil,zcp G,by simp,rfl⟩,?_⟩
 .rw[z06 nlf,z06 nlo,z06 nlo];exact z01
 .rw[z06 nlpf];exact z01
 rintro m σ H2 ⟨i,o,u1,u2,u3,fs,rfl,rfl,t2,glo,glp,glf,df,L,hi,hb⟩;have hfl:fs.length=i:=by
  have:=df.length;unfold z0i at this;rw[y01,y0s]at this;obtain⟨mm,em⟩:=z41 rows (rows.length+1-i) i o;rw[hb]at em;have:(z0G rows).length=(z0b rows).length:=by unfold z0G z1K;rw[y01]
  have:o.length<=(z0b rows).length:=by rw[em,y0a];lia
  lia
 refine(exA rfl (exG lf rfl (.inl (SqL.of glf)) (exA rfl (exG lo rfl (.inl (SqL.of glo)) (exC rfl rfl (exA rfl ?_))))));have hol2:(o.map (nV nm)).length=o.length:=y01 _;refine z4h (fun c=>?_) (fun c=>?_)
 .have c':=y14 c;rw[hfl,hol2]at c';have hio:i<o.length:=by lia
  have eo:o[i]?=some o[i]:=y00 hio;have hro:o[i]∈o:=y0c hio;generalize o[i]=r at eo hro;obtain⟨r0,r1⟩:=L.rg r hro;have hrow:=z0c r0 r1;have hgl:=G.len _ hrow;have hgo:=G.go _ hrow;have hlen:=L.len;refine zed fun N nx2=>?_;refine⟨fa,zcL K rows nm,rfl,(hV.mono t2).1,exA rfl (exA rfl (exG lf rfl (.inl (SqL.of glf)) (exD lo _ _ (V.int (nm r)) rfl rfl (SqL.of glo) (z0L (by rw[y04,hfl,eo];rfl)) ⟨hV.mono t2,r,rfl,r0,r1,fun v Hc sc dv=>?_⟩)))⟩;obtain⟨t,b,cc,rfl,et,eb,ec⟩:=z1d dv;have t2:=t2.trans sc;have glo:=sc _ _ glo;have glp:=sc _ _ glp;have glf:=sc _ _ glf;have df:=df.mono sc;refine(exF t rfl (SqT.of et) rfl (exB rfl (exC rfl rfl ?_)));unfold z7N at eb ec;simp only at eb ec;generalize hgs:(row rows r).2=gs at *;refine⟨_,rfl,cc,rfl,⟨_,SqT.of ec⟩,zgA (xs:=(gs.map nm).map V.int) (fun j σ H3=>∃u:Option V,σ=[some (.int (nm 0)),some (.ref fa),some (.ref lo),some (.ref lp),some (.ref lf),some (.ref b),some (.ref cc),u]/\z0d H H3/\z1j Hc H3/\H3 lo=some (.lst ((z08 o (gs.take j)).map (nV nm)))/\H3 lp=some (.dK (prs (kN nm) (z08 o (gs.take j))))/\H3 lf=some (.lst fs))
   ⟨_,rfl,t2,z1j.refl _,glo,glp,glf⟩ (fun j σ H3 _ h=>by obtain⟨_,_,_,k3,_⟩:=h;exact SqT.of (k3 _ _ ec)) (fun j x σ H3 hx h Ed nx3=>?_) (fun σ H3 h=>?_)⟩
  .obtain⟨u,rfl,t3,k3,e1,e2,e3⟩:=h;have hjl:j<gs.length:=by have:=(y05.mp hx).1;rwa [y01,y01]at this
   have eg:gs[j]?=some gs[j]:=y00 hjl;generalize gs[j]=gj at eg;have ex:x=V.int (nm gj):=by rw[y04,y04,eg]at hx;exact(y07 hx).symm
   subst ex;have et':z08 o (gs.take (j+1))=z2b (z08 o (gs.take j)) gj:=by rw[y0v,eg];exact z1w _ _ _
   have hal:(z08 o (gs.take j)).length<=4500:=by have:=z21 (gs.take j) o;rw[y0s]at this;lia
   generalize z08 o (gs.take j)=oj at *;refine(exA rfl (exA rfl ⟨lp,exA rfl ⟨z4F.k (k:=kN nm gj) e2,exA rfl ?_⟩⟩));have hv:=z25 (κ:=Key) (kN nm) (zbN ni) oj gj;by_cases hm:gj∈oj
   .rw[hv,if_pos hm];refine z8e (nx3 _ _ (exA rfl ⟨t3,k3,?_,?_,e3⟩))
    .rw[et',z0o hm];exact e1
    .rw[et',z0o hm];exact e2
   .rw[hv,if_neg hm];have nlop:lo≠lp:=z47 e1 e2 (by intro z;cases z);refine zez (exA rfl (exG lo rfl (.inl (SqL.of e1)) (exA rfl (exA rfl ⟨lp,exA rfl ⟨zcB.k (k:=kN nm gj) e2 (by rw[z20];exact z1F (by lia)),?_⟩⟩))));have e1':upd H3 lp (.dK (z2c (prs (kN nm) oj) (kN nm gj) (V.int ((oj.map (nV nm)).length:Nat)))) lo=some (.lst (oj.map (nV nm))):=by rw[z06 nlop];exact e1
    refine(exA rfl ⟨.inl ⟨rfl,_,SqL.of e1'⟩,exA rfl ⟨lo,exC rfl rfl ⟨e1',by rw[y01];exact z1F (by lia),?_⟩⟩⟩);refine nx3 _ _ (exA rfl ⟨z0a (z0a t3 hlp0) hlo,z1j.up (z1j.up k3 e2 (fun _ z=>by cases z)) e1' (fun _ z=>by cases z),?_,?_,?_⟩)
    .rw[z01,et',z0p hm,y0e];rfl
    .rw[z06 nlop.symm,z01,et',z0p hm,y01,z5h (kN nm) (zbN ni) hm]
    .rw[z06 nlf.symm,z06 nlpf.symm];exact e3
  .obtain⟨u,rfl,t3,k3,e1,e2,e3⟩:=h;rw[y01,y01,y0A]at e1 e2;obtain⟨mm,em⟩:=z41 rows (rows.length+1-(i+1)) (i+1) (z08 o gs);have hb':bfs rows (rows.length+1-(i+1)) (i+1) (z08 o gs)=z0b rows:=by
    rw[<-hb,show rows.length+1-i=(rows.length+1-(i+1))+1 by lia,z36 eo,hgs]
   rw[hb']at em;have L':z7d rows (z08 o gs):=by rw[<-hgs];exact L.add G hro
   obtain⟨m1,em1⟩:=z0K gs o;have hoi:(z0b rows)[i]?=some r:=by rw[em,em1,y0p,y11 hio];exact eo
   have hi':i+1<=(z08 o gs).length:=by rw[em1,y0a];lia
   have hmem:∀g∈gs,g∈z08 o gs:=fun g hg=>z0A.mpr (.inr hg);have efound:(z0G rows).take (i+1)=(z0G rows).take i++[((row rows r).1,gs.map fun g=>(((z08 o gs).idxOf g:Nat):Int))]:=by
    have e4:(z0G rows)[i]?=some ((row rows r).1,gs.map fun g=>(((z08 o gs).idxOf g:Nat):Int)):=by unfold z0G z1K;rw[y04,hoi];show some ((row rows r).1,(row rows r).2.map fun g=>(((z0b rows).idxOf g:Nat):Int))=_;rw[hgs];congr 2;refine y0H fun g hg=>?_;rw[em,z55 (hmem g hg)]
    rw[y0v,e4];rfl
   generalize z08 o gs=o' at *;refine(exA rfl ⟨.inl ⟨rfl,_,SqL.of e3⟩,exA rfl (exA rfl ⟨cc,rfl,⟨_,SqT.of (k3 _ _ ec)⟩,fun l4 hl4=>z2i (xs:=(gs.map nm).map V.int) (fun j ys H4=>j<=gs.length/\ys=((gs.take j).map fun g=>((o'.idxOf g:Nat):Int)).map V.int/\z0d H3 H4) ⟨y0y _,rfl,z04 (z0d.refl H3) hl4⟩ (fun j ys H4 _ h=>SqT.of (h.2.2 _ _ (k3 _ _ ec))) (by rw[y01,y01];exact z19 (by lia)) (fun j ys H4 h=>?_) (fun j x ys H4 hx h hy=>?_) (fun ys H4 h hy=>?_)⟩)⟩)
   .obtain⟨hj,rfl,_⟩:=h;rw[y01,y01,y0s];lia
   .obtain⟨hj,rfl,s4⟩:=h;have hjl:j<gs.length:=by have:=(y05.mp hx).1;rwa [y01,y01]at this
    have eg:gs[j]?=some gs[j]:=y00 hjl;have hgm:=hmem _ (y0c hjl);generalize gs[j]=gj at eg hgm;have ex:x=V.int (nm gj):=by rw[y04,y04,eg]at hx;exact(y07 hx).symm
    subst ex;have hv:=z25 (κ:=Key) (kN nm) (zbN ni) o' gj;rw[if_pos hgm]at hv;refine(exA rfl (exA rfl ⟨lp,exA rfl ⟨(by rw[<-hv];exact z4F.k (k:=kN nm gj) (s4 _ _ e2)),hy,hjl,?_,z0a s4 hl4⟩⟩));rw[z1f _ eg,y0e];rfl
   .obtain⟨_,rfl,s4⟩:=h;rw[y01,y01,y0A]at hy;refine⟨l4,exA rfl (.inl ⟨SqL.of hy,fun t4 ht4=>⟨by show 2<=sizeLine;decide,fun t5 ht5=>?_⟩⟩)⟩;have s5:=z04 (o:=HO.tup ((gs.map fun g=>((o'.idxOf g:Nat):Int)).map V.int)) s4 ht4;have s6:=z04 (o:=HO.tup [.ref b,.ref t4]) s5 ht5;have e3':=s6 _ _ e3;refine⟨lf,fs,.ref t5,rfl,rfl,e3',by rw[hfl];exact z1F (by lia),?_⟩;have kk:z1j Hc (upd (upd (upd H4 t4 (.tup ((gs.map fun g=>((o'.idxOf g:Nat):Int)).map V.int))) t5 (.tup [.ref b,.ref t4])) lf (.lst (fs++[.ref t5]))):=z1j.up (k3.trans (z1j.of s6)) e3' (fun _ z=>by cases z);have nt5:t5≠lf:=z47 z01 e3' (by intro z;cases z);have nt4:t4≠t5:=z0f z01 ht5;have nt4f:t4≠lf:=z47 (show upd (upd H4 t4 (.tup ((gs.map fun g=>((o'.idxOf g:Nat):Int)).map V.int))) t5 (.tup [.ref b,.ref t4]) t4=some (.tup ((gs.map fun g=>((o'.idxOf g:Nat):Int)).map V.int))by rw[z06 nt4];exact z01) e3' (by intro z;cases z);refine nx2 (rows.length+1-(i+1)) _ _ (by lia) ⟨i+1,o',_,_,_,fs++[.ref t5],rfl,rfl,z0a (t3.trans s6) hlf0,?_,?_,z01,?_,L',hi',hb'⟩
    .rw[z06 nlf];exact s6 _ _ e1
    .rw[z06 nlpf];exact s6 _ _ e2
    .rw[efound];unfold z0i;rw[y0e];refine DrL.append (df.keyed kk (z2F _)) (DrL.one (z3R (b:=b) (c:=t4) ?_ (kk _ _ eb) ?_))
     .rw[z06 nt5];exact z01
     .rw[z06 nt4f,z06 nt4];exact z01
 .have c':=y1n (y1g.mpr c);rw[hfl,hol2]at c';have e:z0b rows=o:=by rw[<-hb];exact z35 (by lia)
  have e2:(z0G rows).take i=z0G rows:=y0M (by unfold z0G z1K;rw[y01,e];lia);rw[e2]at df;exact(exA rfl (q lf H2 t2 ⟨fs,glf,df⟩))
def z4J:z0q ["rows","kinds","count"] ["rows"] (z05 z61):={}
def z6Q:z0W ["rows","kinds","count"] (z05 z61) ["rearranging","goings"] [none,none] (csc [(".0",.local),("rearranging",.local),("goings",.local)]):={}
def z4y:z0W ["rows","kinds","count"] (z05 z61) ["kind","rearranging","goings","kinds"] [none,none,none,some 1] (csc [(".0",.local),("kind",.local),("rearranging",.local),("goings",.local),("kinds_gone_to",.globalImplicit),("kinds",.free)]):={}
def zbX{k Ct:Addr}{kd:FuncData}{tm:Tok}{bmB:List Value}{B newId initId:String}(mC:mg "TooMany"=some (.ref Ct))(xC:PySem.W.excIn K Ct bmB newId=true)(hB:ExcBaseFacts B newId initId bmB)(F:Fun K "kinds_of_rows" "kinds_of_rows" z61 f fd)(mz:mg "zip"=none)(mx:mg "max"=none)(mM:mg "MOST_FORM_ROWS"=some (.int 60 tm))(G:z0C P w K mg base (CXx P w) 1 g gd ["things"] (z4e K))(bG:z0t K gd ["things"] [])(kG:PySem.W.keepIn K (.ref g)=true)(mG:mg "numbered"=some (.ref g))(T:z0C P w K mg base (CXx P w) 1 k kd ["kinds","goings"] (z9W K))(bT:z0t K kd ["kinds","goings"] [])(kT:PySem.W.keepIn K (.ref k)=true)(mT:mg "kinds_gone_to"=some (.ref k)):z0C P w K mg base (CXx P w) 2 f fd ["rows"] (z77 K Ct):=by
 refine F.okx z4J (fun vs H Q E h=>?_) (fun cdv A outer s H vs Q E hr h=>?_)
 .obtain⟨a,n,rows,rfl,_⟩:=h;rfl
 obtain⟨a,n,rows,rfl,⟨us,ea,da⟩,GF,hn,q,qx⟩:=h;have h400:=GF.few;refine⟨_,z02 (z0k (i:=1) z4J.nd rfl (Or.inr rfl) (z0j G hr rfl mG kG bG .nil z0Q (z00 (z1e rfl z6Q (z0Y (pv 0)) (fun _ _ _ _ _=>pgT K (n:=2) rfl rfl (z0l (z09 (i:=0) z6Q.nd rfl (Or.inl rfl)) (z0l (z09 (i:=1) z6Q.nd rfl (Or.inl rfl)) z1b))) (fun _ _ _ _ _=>pv 0)) z03)))
  (z02 (z0k (i:=2) z4J.nd rfl (Or.inl rfl) z0h)
  (z02 (z2f y3k (z1n z6t (pv 2) (z0S z2w (z0n (zhw K rfl rfl) rfl mx PyProof.Rows.boot_max (z00 (pv 1) z03)) z0h) (z2g _))
   (z02 (z0k (i:=2) z4J.nd rfl (Or.inl rfl) (z0S z2w (z0n (zhw K rfl rfl) rfl mx PyProof.Rows.boot_max (z00 (pv 1) z03)) z0h))
   (z02 (z2x (z1n zeg (pv 2) (zfn (v:=.int 60) rfl mM ⟨_,rfl⟩) (z2g _)) (z07 (z9a mC rfl xC hB zdZ)) z1a)
   (z07 (z0k (i:=1) z4J.nd rfl (Or.inr rfl) (z0j G hr rfl mG kG bG .nil z0Q (z00 (z1e rfl z4y (zgZ K rfl rfl mz (z00 (pv 1) (z00 (pv 0) z03)))
    (fun _ _ _ _ _=>pgT K (n:=2) rfl rfl (z0l (z09 (i:=0) z4y.nd rfl (Or.inl rfl)) (z0l (pgT K (n:=2) rfl rfl (z0l (z09 (i:=1) z4y.nd rfl (Or.inl rfl)) (z0l (z09 (i:=2) z4y.nd rfl (Or.inl rfl)) z1b))) z1b)))
    (fun _ _ _ _ _=>z1Z (z00 (pv 0) (z00 (z0j T hr rfl mT kT bT .nil z0Q (z00 (pv 3) (z00 (pv 2) z03))) z03)))) z03)))))))
  (z07 (z0D (pv 1))))),?_⟩
 have hul:us.length=rows.length:=by have:=da.length;unfold z0i at this;rw[y01]at this;exact this.symm
 have hrs:=GF.some;refine(exA rfl ⟨a,rfl,⟨_,SqL.of ea⟩,fun l1 hl1=>z1A (xs:=us) (fun i ys H2=>i<=us.length/\ys.length=i/\z0d H H2/\DrL K H2 ((rows.take i).map fun r=>D.its r.1) ys) ⟨y0y _,rfl,z04 (z0d.refl H) hl1,DrL.nil⟩ (fun i ys H2 _ h=>SqL.of (h.2.2.1 _ _ ea)) (z19 (by lia)) (fun i ys H2 h=>h.2.1) (fun i x ys H2 hx h hy=>?_) (fun ys H2 h hy=>?_)⟩)
 .obtain⟨hi,hyl,s2,d2⟩:=h;have hil:i<us.length:=(y05.mp hx).1;have er:rows[i]?=some rows[i]:=y00 (by lia);obtain⟨x',ex,dx⟩:=z2m da er;rw[hx]at ex;cases ex;generalize rows[i]=ri at er dx;obtain⟨t,b,c,rfl,et,eb,ec⟩:=z1d (dx.mono s2);refine(exF t rfl (SqT.of et) rfl (exB rfl (exC rfl rfl (exA rfl ⟨hy,hil,by rw[y0a,hyl];rfl,z0a s2 hl1,?_⟩))));rw[z1f _ er];have kk:z1j H2 (upd H2 l1 (.lst (ys++[.ref b]))):=z1j.up (z1j.refl _) hy (fun _ z=>by cases z);exact DrL.append (d2.keyed kk (by have:=z9t ((rows.take i).map (·.1));rw[y0L]at this;exact this)) (DrL.one (Dr.tup (kk _ _ eb) (DrL.ints _)))
 obtain⟨_,hyl,s2,d2⟩:=h;rw[y0M (by lia)]at d2;have e1:(rows.map fun r=>D.its r.1)=(rows.map (·.1)).map D.its:=by rw[y0L];rfl
 rw[e1]at d2;refine⟨l1,ys,exA rfl ⟨hy,d2,fun d hd=>?_,by rw[y01,y01];lia,fun l2 H3 s3 e3=>?_⟩⟩
 .obtain⟨p,_,rfl⟩:=y0b.mp hd;exact⟨z3r p,by rw[zc8];decide,_,rfl⟩
 rw[z9w D.its (fun _ _=>z5d)]at e3;have K0:=zdT GF;refine⟨fun m σ H4=>∃(c:Int)(ks:List Int)(l:Addr),σ=[some (.ref a),some (.ref l),some (.int c)]/\z0d H H4/\H4 l=some (.lst (ks.map V.int))/\z5v rows ks/\zaW rows ks/\(c=0\/c<=60)/\0<=c/\(rows.length:Int)+1<=m+c/\z5s rows m c ks=z2M rows,
  ⟨rows.length+1,0,_,l2,rfl,s2.trans s3,e3,K0,zfD rows,.inl rfl,y0Q _,by lia,rfl⟩,?_⟩
 rintro m σ H4 ⟨c,ks,l,rfl,t4,e4,GK,NK,hc6,hc0,hm,hk⟩;obtain⟨x1,x2⟩:=z8m (zg5 GF GK) fun k hk=>(GK.rg k hk).1;obtain⟨c1,c2⟩:=zgk (zg5 GF GK) GK.rg;have ec:cnt ks-1+1=cnt ks:=by lia
 refine(exA rfl (exA rfl ⟨l,ks,cnt ks-1,rfl,SqL.of e4,x1,x2,exC rfl rfl (exC rfl rfl (exA rfl ?_))⟩));refine z4h (fun cc=>?_) (fun cc=>?_)
 .have c':=y14 cc;rw[ec]at c';refine zed fun N nx2=>?_;refine(exA rfl ⟨l,ks,cnt ks-1,rfl,SqL.of e4,x1,x2,exC rfl rfl (exA rfl (exC rfl rfl (exA rfl ?_)))⟩);have hmono:=z5H GF m c ks NK GK;rw[hk]at hmono;refine z4h (fun cc2=>?_) (fun cc2=>?_)
  .have c'':=y14 cc2;exact fun ea=>qx (by lia) ea H4 t4
  have c60:=y1n (y1g.mpr cc2);have hkl:=GK.len;have hsl:=z7X GK;have hn400:=GF.few;refine(exA rfl (exA rfl ⟨l,a,rfl,⟨_,SqL.of e4⟩,⟨_,SqL.of (t4 _ _ ea)⟩,fun l5 hl5=>zcJ (xs:=ks.map V.int) (zs:=us) (by rw[y01];lia) (fun i ys H5=>i<=rows.length/\ys.length=i/\z0d H4 H5/\DrL K H5 (((z3k ks rows).take i).map z5x) ys) ⟨y0y _,rfl,z04 (z0d.refl H4) hl5,DrL.nil⟩ (fun i ys H5 _ h=>⟨SqL.of (h.2.2.1 _ _ e4),SqL.of (h.2.2.1 _ _ (t4 _ _ ea))⟩) (by rw[y01];exact z19 (by lia)) (fun i ys H5 h=>h.2.1) (fun i x y p ys H5 hx hz h hy hp=>?_) (fun ys H5 h hy=>?_)⟩))
  .obtain⟨hi,hyl,s5,d5⟩:=h;have hil:i<rows.length:=by have:=(y05.mp hz).1;lia
   have er:rows[i]?=some rows[i]:=y00 hil;have ek:ks[i]?=some ks[i]:=y00 (by lia);have hrm:rows[i]∈rows:=y0c hil;obtain⟨y',ey,dy⟩:=z2m da er;rw[hz]at ey;cases ey;have es:(z3k ks rows)[i]?=some (ks[i],rows[i].2.map fun g=>ks.getD g.toNat 0):=by unfold z3k;rw[y04,y12 (z:=(ks[i],rows[i])) |>.mpr ⟨ek,er⟩];rfl
   generalize rows[i]=ri at er dy es hrm;generalize ks[i]=ki at ek es;have ex:x=V.int ki:=by rw[y04,ek]at hx;exact(y07 hx).symm
   subst ex;have sp:z0d H (upd H5 p (.tup [V.int ki,y])):=(t4.trans s5).trans (z04 (z0d.refl H5) hp);have sp5:z0d H5 (upd H5 p (.tup [V.int ki,y])):=z04 (z0d.refl H5) hp;obtain⟨t,b,c,rfl,et,eb,ec⟩:=z1d (dy.mono sp);refine(exF p rfl (SqT.of z01) rfl (exB rfl (exB rfl (exF t rfl (SqT.of et) rfl (exB rfl (exC rfl rfl ⟨rfl,exA rfl (exA rfl (exA rfl ⟨l,.ref c,ks,ri.2,rfl,sp5 _ _ (s5 _ _ e4),Dr.tup ec (DrL.ints _),fun g hg=>by rw[hkl];exact GF.go ri hrm g hg,by rw[GF.len ri hrm];lia,fun v H6 s6 dv=>⟨by show 2<=sizeLine;decide,fun t7 ht7=>?_⟩⟩))⟩))))));have s67:=z04 (o:=HO.tup [V.int ki,v]) s6 ht7;have hy7:=s67 _ _ (sp5 _ _ hy);refine⟨hy7,hil,by rw[y0a,hyl];rfl,z0a (s5.trans (sp5.trans s67)) hl5,?_⟩;rw[z1f _ es];have kk:z1j H5 (upd (upd H6 t7 (.tup [V.int ki,v])) l5 (.lst (ys++[.ref t7]))):=z1j.up (z1j.of (sp5.trans s67)) hy7 (fun _ z=>by cases z);have k6:z1j H6 (upd (upd H6 t7 (.tup [V.int ki,v])) l5 (.lst (ys++[.ref t7]))):=z1j.up (z1j.of (z04 (z0d.refl H6) ht7)) hy7 (fun _ z=>by cases z);have nt7:t7≠l5:=z47 z01 hy7 (by intro z;cases z);refine DrL.append (d5.keyed kk (z7L _)) (DrL.one ?_);exact Dr.tup (vs:=[V.int ki,v]) (by rw[z06 nt7];exact z01) (DrL.cons (Dr.int ki) (DrL.one (dv.keyed k6 (z3r _))))
  obtain⟨_,hyl5,s5,d5⟩:=h;rw[y01,hkl,y0M (by lia)]at d5;refine⟨l5,ys,exA rfl ⟨hy,d5,fun d hd=>?_,by rw[y01];lia,fun l6 H6 s6 e6=>?_⟩⟩
  .obtain⟨p,_,rfl⟩:=y0b.mp hd;exact⟨z9d p,zdo p,_,rfl⟩
  rw[z9w z5x zc9]at e6;cases m with
  |zero=>lia
  |succ m =>
   refine nx2 m _ _ (Nat.lt_succ_self m) ⟨cnt ks,_,l6,(by show[some (V.ref a),some (V.ref l6),some (V.int (cnt ks-1+1))]=_;rw[ec]),(t4.trans s5).trans s6,e6,zcw GK,zeb hkl,.inr (by lia),by lia,by lia,?_⟩;rw[<-hk];exact(if_pos c').symm
 .have c':=y1n (y1g.mpr cc);rw[ec]at c';have hkk:z2M rows=ks:=by
   rw[<-hk];cases m with
   |zero=>rfl
   |succ m=>exact if_neg c'
  refine(exA rfl (q (by rw[hkk];lia) l H4 t4 ?_));rw[hkk];exact e4
abbrev zfj:List Str:=["first","row_at","found","kinds","least","rearranging","goings","kind"]
def z2I:z0q zfj ["first","row_at"] (z05 z9x):={}
def z83{Cm:V->Addr->Hp->List Row->Prop}{k q Ct:Addr}{kd qd:FuncData}(F:Fun K "least_form" "least_form" z9x f fd)(ml:mg "len"=none)(mt:mg "tuple"=none)(mz:mg "zip"=none)(G:z0C P w K mg base (CXx P w) 5 g gd ["first","row_at"] (z8x K Cm))(bG:z0t K gd ["first","row_at"] [])(kG:PySem.W.keepIn K (.ref g)=true)(mG:mg "rows_come_to"=some (.ref g))(T:z0C P w K mg base (CXx P w) 5 k kd ["rows"] (z77 K Ct))(bT:z0t K kd ["rows"] [])(kT:PySem.W.keepIn K (.ref k)=true)(mT:mg "kinds_of_rows"=some (.ref k))(U:z0C P w K mg base (CXx P w) 5 q qd ["kinds","goings"] (z9W K))(bU:z0t K qd ["kinds","goings"] [])(kU:PySem.W.keepIn K (.ref q)=true)(mU:mg "kinds_gone_to"=some (.ref q)):z0C P w K mg base (CXx P w) 6 f fd ["first","row_at"] (z6m K Cm Ct):=by
 refine F.okx z2I (fun vs H Q E h=>?_) (fun cdv A outer s H vs Q E hr h=>?_)
 .obtain⟨a,v0,n,rows,rfl,_⟩:=h;rfl
 obtain⟨fa,v0,n,rows,rfl,hC,GM,hn,gv,gx⟩:=h;have hsc:=zf1 GM;have h400:=GM.few;refine⟨_,z02 (z0k (i:=2) z2I.nd rfl (Or.inl rfl) (z0j G hr rfl mG kG bG .nil z0Q (z00 (pv 0) (z00 (pv 1) z03))))
  (z02 (z0k (i:=3) z2I.nd rfl (Or.inl rfl) (z0j T hr rfl mT kT bT .nil (zbl fun _ _ _ z=>z) (z00 (pv 2) z03)))
  (z02 (z0k (i:=4) z2I.nd rfl (Or.inl rfl) (z1B z03))
  (z02 (z1r y3k rfl (zdU rfl mz (z00 (pv 2) (z00 (pv 3) z03)))
   (z2l rfl (z0l (z2l rfl (z0l (z09 (i:=5) z2I.nd rfl (Or.inl rfl)) (z0l (z09 (i:=6) z2I.nd rfl (Or.inl rfl)) z1b))) (z0l (z09 (i:=7) z2I.nd rfl (Or.inl rfl)) z1b)))
   (z07 (z2x (z2e (z4j (pv 7) (z0n z0g rfl ml y0G (z00 (pv 4) z03))))
    (z07 (z1x (z3o y0J y0N y0O z0R (pv 4) (z00 (z1Z (z00 (pv 5) (z00 (z0j U hr rfl mU kU bU .nil z0Q (z00 (pv 3) (z00 (pv 6) z03))) z03))) z03)))) z1a)))
  (z07 (z0D (z0B z0s rfl mt y0F (z00 (pv 4) z03))))))),?_⟩
 have GF:=z2C GM;have hfl:=zcY GM;refine(exA rfl (exA rfl ⟨fa,v0,n,rows,rfl,hC,GM,hn,fun lf H1 s1 rf=>?_⟩));refine(exA rfl ⟨lf,n,z0G rows,rfl,rf,GF,hn,fun h6 lk H2 s2 ek=>?_,fun h6 ea H' s'=>gx (by lia) ea H' (s1.trans s')⟩);have gv:=gv (by lia);rw[<-z57 GM]at gv;clear hsc h6;have GK:=z3Z GF;have hkl:=GK.len;unfold za9 at gv;generalize z2M (z0G rows)=ks at *;generalize z0G rows=fs at *;obtain⟨us,ef,df⟩:=rf.mono s2;have hul:us.length=fs.length:=by have:=df.length;unfold z0i at this;rw[y01]at this;exact this.symm
 have s12:=s1.trans s2;refine⟨by show 0<=sizeLine;decide,fun ll hll=>(exA rfl (exA rfl ⟨lf,lk,rfl,?_⟩))⟩;have hll0:H2 ll=none:=hll;have s3:z0d H2 (upd H2 ll (.lst [])):=z04 (z0d.refl H2) hll;refine⟨⟨_,SqL.of (s3 _ _ ef)⟩,⟨_,SqL.of (s3 _ _ ek)⟩,zi6 (xs:=us) (ys:=ks.map V.int) (by rw[y01];lia) (fun i σ H3=>∃(u1 u2 u3:Option V)(ws:List V),σ=[some v0,some (.ref fa),some (.ref lf),some (.ref lk),some (.ref ll),u1,u2,u3]/\z0d H2 H3/\H3 ll=some (.lst ws)/\DrL K H3 (z0i (z2s fs ks i)) ws)
  ⟨_,_,_,[],rfl,s3,z01,DrL.nil⟩ (fun i σ H3 _ h=>by obtain⟨_,_,_,_,_,t3,_,_⟩:=h;exact⟨SqL.of (t3 _ _ ef),SqL.of (t3 _ _ ek)⟩) (fun i x y p σ H3 hx hy h hp Ed nx3=>?_) (fun σ H3 h=>?_)⟩
 .obtain⟨u1,u2,u3,ws,rfl,t3,e3,d3⟩:=h;have hil:i<fs.length:=by have:=(y05.mp hx).1;lia
  have er:fs[i]?=some fs[i]:=y00 hil;have ek':ks[i]?=some ks[i]:=y00 (by lia);have hrm:fs[i]∈fs:=y0c hil;obtain⟨x',ex,dx⟩:=z2m df er;rw[hx]at ex;cases ex;generalize fs[i]=ri at er dx hrm;generalize ks[i]=ki at ek';have ey:y=V.int ki:=by rw[y04,ek']at hy;exact(y07 hy).symm
  subst ey;have hst:=z59 er ek';have hll2:=zao fs ks i;have hwl:ws.length=(z2s fs ks i).length:=by have:=d3.length;unfold z0i at this;rw[y01]at this;exact this.symm
  generalize z2s fs ks i=lp at *;have sp3:z0d H3 (upd H3 p (.tup [x,V.int ki])):=z04 (z0d.refl H3) hp;have sp:z0d H2 (upd H3 p (.tup [x,V.int ki])):=t3.trans sp3;obtain⟨t,b,c,rfl,et,eb,ec⟩:=z1d (dx.mono sp);refine(exF p rfl (SqT.of z01) rfl (exB rfl (exF t rfl (SqT.of et) rfl (exB rfl (exC rfl rfl (exC rfl rfl (exA rfl (exA rfl (exG ll rfl (.inl (SqL.of (sp3 _ _ e3))) (exC rfl rfl (exA rfl ?_)))))))))));refine z4h (fun c'=>?_) (fun c'=>?_)
  .have c'':=y14 c';have hst2:z2s fs ks (i+1)=lp++[(ri.1,ri.2.map fun g=>ks.getD g.toNat 0)]:=by
    rw[hst];unfold z6l;exact if_pos (by rw[<-hwl];exact c'')
   refine(exA rfl ⟨.inl ⟨rfl,_,SqL.of (sp3 _ _ e3)⟩,exA rfl (exA rfl (exA rfl ⟨lk,.ref c,ks,ri.2,rfl,sp _ _ ek,Dr.tup ec (DrL.ints _),fun g hg=>by rw[hkl];exact GF.go ri hrm g hg,by rw[GF.len ri hrm];lia,fun v H6 s6 dv=>⟨by show 2<=sizeLine;decide,fun t7 ht7=>?_⟩⟩))⟩);have s67:=z04 (o:=HO.tup [.ref b,v]) s6 ht7;have e7:=s67 _ _ (sp3 _ _ e3);refine⟨ll,ws,.ref t7,rfl,rfl,e7,z1F (by lia),?_⟩;have kk:z1j H3 (upd (upd H6 t7 (.tup [.ref b,v])) ll (.lst (ws++[.ref t7]))):=z1j.up (z1j.of (sp3.trans s67)) e7 (fun _ z=>by cases z);have k6:z1j H6 (upd (upd H6 t7 (.tup [.ref b,v])) ll (.lst (ws++[.ref t7]))):=z1j.up (z1j.of (z04 (z0d.refl H6) ht7)) e7 (fun _ z=>by cases z);have nt7:t7≠ll:=z47 z01 e7 (by intro z;cases z);have eb':H6 b=some (.tup (ri.1.map V.int)):=s6 _ _ eb;obtain⟨c2,rfl,ec2⟩:=Dr.its_inv dv;refine nx3 _ _ ⟨_,_,_,ws++[.ref t7],rfl,z0a (sp.trans s67) hll0,z01,?_⟩;rw[hst2];unfold z0i;rw[y0e];refine DrL.append (d3.keyed kk (z2F _)) (DrL.one (z3R (b:=b) (c:=c2) ?_ (k6 _ _ eb') (k6 _ _ ec2)));rw[z06 nt7];exact z01
  .have c'':=y1n (y1g.mpr c');have hst2:z2s fs ks (i+1)=lp:=by
    rw[hst];unfold z6l;exact if_neg (by rw[<-hwl];exact c'')
   refine nx3 _ _ ⟨_,_,_,ws,rfl,sp,sp3 _ _ e3,?_⟩;rw[hst2];exact d3.mono sp3
 .obtain⟨u1,u2,u3,ws,rfl,t3,e3,d3⟩:=h;rw[hul,z5G hkl]at d3;refine(exA rfl ⟨ll,exA rfl (.inl ⟨SqL.of e3,fun t ht=>?_⟩)⟩);exact gv _ _ ((s12.trans t3).trans (z04 (z0d.refl H3) ht)) (Dr.tup z01 (d3.mono (z04 (z0d.refl H3) ht)))
abbrev nJR:List Str:=["one","other","pair","row","beside","rearranging","goings","rearranging_then","goings_then","pairs"]
def zdR:z0q nJR ["one","other","pair"] (z05 z2q):={}
def zgR:z0W nJR (z05 z2q) ["going","made","goings_then"] [none,none,some 8] (csc [(".0",.local),("going",.local),("made",.local),("goings_then",.free)]):={}
def zeV(F:Fun K "joined_row" "joined_row" z2q f fd)(mzip:mg "zip"=none)(mt:mg "tuple"=none)(G:z0C P w K mg base CX 1 g gd ["one","other"] (z6y K))(bG:z0t K gd ["one","other"] [])(kG:PySem.W.keepIn K (.ref g)=true)(mG:mg "turned"=some (.ref g)):z0C P w K mg base CX 2 f fd ["one","other","pair"] (zbz K):=by
 refine F.okc zdR (fun vs H Q E h=>?_) (fun cdv A outer s H vs Q E hr h=>?_)
 .obtain⟨v1,v2,v3,n,one,other,i,rfl,_⟩:=h;rfl
 obtain⟨v1,v2,v3,n,one,other,ix,rfl,d1,d2,d3,G1,G2,hn,i0,i1,gq⟩:=h;refine⟨_,z02 (z2U (pv 2) (z2l rfl (z0l (z09 (i:=3) zdR.nd rfl (Or.inl rfl)) (z0l (z09 (i:=4) zdR.nd rfl (Or.inl rfl)) z1b))))
  (z02 (z2U (z1c z24 (pv 0) (pv 3) (fun _ _=>rfl)) (z2l rfl (z0l (z09 (i:=5) zdR.nd rfl (Or.inl rfl)) (z0l (z09 (i:=6) zdR.nd rfl (Or.inl rfl)) z1b))))
  (z02 (z2U (z1c z24 (pv 1) (pv 4) (fun _ _=>rfl)) (z2l rfl (z0l (z09 (i:=7) zdR.nd rfl (Or.inl rfl)) (z0l (z09 (i:=8) zdR.nd rfl (Or.inr rfl)) z1b))))
  (z02 (z8T (i:=9) rfl zgR (zfg rfl mzip (z00 (pv 6) (z00 (pv 5) z03))) (fun _ _ _ _ _=>pgT K (n:=2) rfl rfl (z0l (z09 (i:=0) zgR.nd rfl (Or.inl rfl)) (z0l (z09 (i:=1) zgR.nd rfl (Or.inl rfl)) z1b))) (fun _ _ _ _ _=>z1Z (z00 (pv 0) (z00 (z1c (ixT K rfl) (pv 2) (pv 1) (fun _ _=>rfl)) z03))) zdR.nd rfl rfl)
  (z07 (z0D (z1Z (z00 (z0j G hr rfl mG kG bG .nil z0Q (z00 (pv 5) (z00 (pv 7) z03))) (z00 (z0B z0s rfl mt y0F (z00 (pv 9) z03)) z03)))))))),?_⟩
 obtain⟨a1,us,rfl,e1,dus⟩:∃(a:Addr)(us:List V),v1=.ref a/\H a=some (.tup us)/\DrL K H (z0i one) us:=by simp only[Dr]at d1;exact d1
 obtain⟨a2,vs,rfl,e2,dvs⟩:∃(a:Addr)(us:List V),v2=.ref a/\H a=some (.tup us)/\DrL K H (z0i other) us:=by simp only[Dr]at d2;exact d2
 obtain⟨a3,rfl,e3⟩:=zdY d3;obtain⟨⟨r0,r1⟩,s0,s1⟩:=pix (one:=one) (other:=other) i0 i1;rw[z5p i0 i1]at gq;obtain⟨w1,ew1,dw1⟩:=z2m dus (z2Y r0 r1);obtain⟨w2,ew2,dw2⟩:=z2m dvs (z2Y s0 s1);have hR:=z0c r0 r1;have hS:=z0c s0 s1;have pR:=G1.perm _ hR;have lR:=G1.len _ hR;have gR:=G1.go _ hR;have pS:=G2.perm _ hS;have lS:=G2.len _ hS;have gS:=G2.go _ hS;generalize ix/(other.length:Int)=r at *;generalize ix%(other.length:Int)=b at *;generalize row one r=R at *;generalize row other b=S at *;obtain⟨t1,b1,c1,rfl,et1,eb1,ec1⟩:=z1d dw1;obtain⟨t2,b2,c2,rfl,et2,eb2,ec2⟩:=z1d dw2;have hpl:=pR.len;refine(exA rfl (exF a3 rfl (SqT.of e3) rfl (exB rfl (exC rfl rfl ?_))));refine(exA rfl (exA rfl (exD a1 _ r (.ref t1) rfl rfl (SqT.of e1) (z27 r0 ew1) (exF t1 rfl (SqT.of et1) rfl (exB rfl (exC rfl rfl ?_))))));refine(exA rfl (exA rfl (exD a2 _ b (.ref t2) rfl rfl (SqT.of e2) (z27 s0 ew2) (exF t2 rfl (SqT.of et2) rfl (exB rfl (exC rfl rfl ?_))))));refine(exA rfl (exA rfl ⟨c1,b1,rfl,⟨_,SqT.of ec1⟩,⟨_,SqT.of eb1⟩,fun l3 hl3=>zbj (xs:=R.2.map V.int) (zs:=R.1.map V.int) (by rw[y01,y01];lia) (fun k ys H3=>ys.length=k/\k<=n/\z0d H H3/\DrL K H3 (((List.range k).map fun k=>R.2.getD k 0*(other.length:Int)+S.2.getD (R.1.getD k 0).toNat 0).map (pr other.length)) ys) ⟨rfl,y0y _,z04 (z0d.refl H) hl3,DrL.nil⟩ (fun k ys H3 _ h=>⟨SqT.of (h.2.2.1 _ _ ec1),SqT.of (h.2.2.1 _ _ eb1)⟩) (by rw[y01];exact z19 (by lia)) (fun k ys H3 h=>h.1) (fun k x y p ys H3 hx hy0 h hy hp=>?_) (fun ys H3 h hy=>?_)⟩))
 .obtain⟨hyl,_,s3,d3'⟩:=h;have hk:k<n:=by have:=(y05.mp hx).1;rw[y01]at this;lia
  obtain⟨l,g',e,q1,q2,q3,q4,q5,q6,g0,g1',e0,e1'⟩:=z8s (m:=other.length) (N:=one.length) pR lR gR lS gS hk;have ex:x=V.int g':=by rw[y04,q3]at hx;exact(y07 hx).symm
  have ey:y=V.int l:=by rw[y04,q1]at hy0;exact(y07 hy0).symm
  subst ex ey;have s4:=z04 (o:=HO.tup [V.int g',V.int l]) (z0d.refl H3) hp;have e4:upd H3 p (HO.tup [V.int g',V.int l]) p=some (.tup [V.int g',V.int l]):=z01;generalize upd H3 p (HO.tup [V.int g',V.int l])=H4 at s4 e4;refine(exF p rfl (SqT.of e4) rfl (exB rfl (exC rfl rfl ?_)));refine(exA rfl (exA rfl (exA rfl (exD c2 _ _ (V.int e) rfl rfl (SqT.of ((s3.trans s4) _ _ ec2)) (z0L (by rw[y04,q4];rfl)) ⟨by show 2<=sizeLine;decide,fun t5 ht5=>?_⟩))));have s5:=z04 (o:=HO.tup [V.int g',V.int e]) (z0d.refl H4) ht5;have e5:upd H4 t5 (HO.tup [V.int g',V.int e]) t5=some (.tup [V.int g',V.int e]):=z01;generalize upd H4 t5 (HO.tup [V.int g',V.int e])=H5 at s5 e5;have hy5:=s5 _ _ (s4 _ _ hy);have kk:z1j H5 (upd H5 l3 (.lst (ys++[.ref t5]))):=z1j.up (z1j.refl _) hy5 (fun _ z=>by cases z);refine⟨hy5,by rw[y0a,hyl];rfl,by lia,z0a (s3.trans (s4.trans s5)) hl3,?_⟩;rw[y3a,y0e,y0e];refine DrL.append ((d3'.mono (s4.trans s5)).keyed kk (z78 _ _)) (DrL.one ?_);show Dr K _ (pr other.length (R.2.getD k 0*(other.length:Int)+S.2.getD (R.1.getD k 0).toNat 0)) (.ref t5);rw[q5,q6,zhe e0 e1'];exact Dr.tup (kk _ _ e5) (DrL.cons (Dr.int _) (DrL.cons (Dr.int _) DrL.nil))
 obtain⟨hyl,_,s3,d3'⟩:=h;rw[y01,lR]at d3';refine(exA rfl (exA rfl ⟨.ref b1,.ref b2,R.1,S.1,rfl,Dr.tup (s3 _ _ eb1) (DrL.ints _),Dr.tup (s3 _ _ eb2) (DrL.ints _),fun x hx=>?_,by lia,fun v H4 s4 d4=>?_⟩))
 .have:=z0J.mp (pR.mem_iff.mp hx);rw[pS.len];exact this
 obtain⟨b4,rfl,eb4⟩:=Dr.its_inv d4;refine(exA rfl ⟨l3,exA rfl (.inl ⟨SqL.of (s4 _ _ hy),fun t5 ht5=>⟨by show 2<=sizeLine;decide,fun t6 ht6=>?_⟩⟩)⟩);have s5:=z04 (o:=HO.tup ys) (z0d.refl H4) ht5;have e5:upd H4 t5 (HO.tup ys) t5=some (.tup ys):=z01;generalize upd H4 t5 (HO.tup ys)=H5 at s5 e5 ht6;have s6:=z04 (o:=HO.tup [.ref b4,.ref t5]) (z0d.refl H5) ht6;refine gq _ _ ((s3.trans s4).trans (s5.trans s6)) ?_;unfold zg2 zej;refine Dr.tup z01 (DrL.cons (Dr.tup (s6 _ _ (s5 _ _ eb4)) (DrL.ints _)) (DrL.cons (Dr.tup (s6 _ _ e5) ?_) DrL.nil));rw[hpl];exact d3'.mono (s4.trans (s5.trans s6))
abbrev nJd:List Str:=["one","other"]
def zih:z0q nJd ["one","other"] (z05 z2n):={}
abbrev zht:Scope:=csc [("pair",.local),("one",.free),("other",.free),("joined_row",.globalImplicit)]
def ziq:z0W nJd (z05 z2n) ["pair","one","other"] [none,some 0,some 1] zht:={}
def ziw:zfq ["pair","one","other"] ["pair"] zht:={}
def zaN{k b Ct cc:Addr}{kd bd:FuncData}{Ts:List Tb}{T0:Tb}(F:Fun K "joined" "joined" z2n f fd)(hcd:fd.code=.ref cc)(hC:PySem.W.CodeHd base cc T0.at_)(hB:z43 base mg)(hT:T0∈Ts)(hTn:∀T'∈Ts,T'.at_=T0.at_->T'=T0)(hTp:T0.pos=z4V (z0M z2n))(hTq:T0.qual=("joined.<locals>."++"<lambda>":Str))(J:z0C P w K mg base (CXx P w) 3 b bd ["one","other","pair"] (zbz K))(bJ:z0t K bd ["one","other","pair"] [])(kJ:PySem.W.keepIn K (.ref b)=true)(mJ:mg "joined_row"=some (.ref b))(T:z0C P w K mg base (CXx P w) 6 k kd ["first","row_at"] (z6w P w K mg base (CXx P w) 4 Ct))(bT:z0t K kd ["first","row_at"] [])(kT:PySem.W.keepIn K (.ref k)=true)(mT:mg "least_form"=some (.ref k)):z0C P w K mg base (CXx P w) 7 f fd ["one","other"] (z6G Ts K Ct):=by
 refine F.okL hcd zih (fun vs H Q E h=>?_) (fun A outer s H vs Q E hr h=>?_)
 .obtain⟨v1,v2,n,one,other,rfl,_⟩:=h;rfl
 obtain⟨v1,v2,n,one,other,rfl,hTb,d1,d2,G1,G2,hn,h4,gv,gx⟩:=h;refine⟨_,z07 (z0D (z6A (Ts:=Ts) (T:=T0) T hr rfl mT kT bT (zbl fun _ _ _ z=>z) (z1Z (z00 z0h (z00 z0h z03))) (fun σ H Q Q' h ⟨a,b⟩=>⟨a,fun t ht=>h _ _ (b t ht)⟩) ziq rfl hC hB (fun _=>rfl) hT hTn hTp hTq)),?_⟩;have GP:=z18 G1 G2 h4;refine⟨by show 2<=sizeLine;decide,fun t ht=>?_⟩;have s1:=z04 (o:=HO.tup [V.int 0,V.int 0]) (z0d.refl H) ht;have e1:upd H t (HO.tup [V.int 0,V.int 0]) t=some (.tup [V.int 0,V.int 0]):=z01;generalize upd H t (HO.tup [V.int 0,V.int 0])=H1 at s1 e1;refine⟨z3P.mono hTb s1,fun fa H2 cs f1 f2 f3 C=>?_⟩;have fin:∀{H3:Hp},z0d H2 H3->SameL Ts H (utk H3 cs):=fun s3=>(z0d.l s1).trans (f2 _ s3);have n1:SameL [] H1 H2:=⟨f1,fun _ _ h=>absurd h (by simp)⟩;have e2:=n1.g e1;have d12:=(d1.mono s1).monoL n1;have d22:=(d2.mono s1).monoL n1;have hz:(0:Int)/(other.length:Int)=0/\(0:Int)%(other.length:Int)=0:=⟨Int.zero_ediv _,Int.zero_emod _⟩;refine⟨fa,.ref t,n,z0u one other,other.length,rfl,zh0 (by rw[hz.1,hz.2];exact e2),?_,GP,hn,fun h6 v H3 s3 d=>gv h6 v _ (fin s3) (d.nfr (NFr.utk f3 s3)),fun h6 e H3 s3=>gx h6 e _ (fin s3)⟩;refine z2D.lam (k:=3) C ziw (fun _ _ _ _ us hl=>by obtain⟨a9,rfl⟩:=zew hl;rfl) rfl (fun vs H Q h=>?_) (fun H' s' A outer s cd clos cs vs Q hr nf h=>?_)
 .obtain⟨i,v,rfl,_⟩:=h;rfl
 obtain⟨i,v,rfl,dv,h0,h1,gq⟩:=h;rw[z31]at h1;refine⟨_,z0j J hr rfl mJ kJ bJ .nil z0Q (z00 (pv 1) (z00 (pv 2) (z00 (pv 0) z03))),?_⟩;exact(exA rfl (exA rfl (exA rfl ⟨v1,v2,v,n,one,other,i,rfl,(d12.mono s').nfr nf,(d22.mono s').nfr nf,dv.nfr nf,G1,G2,hn,h0,h1,fun v' H1' s1' d1' hc=>gq v' _ (z0d.rtk s1') (d1'.mono (z0d.rtk' hc))⟩)))
def z2v:z0q ["_law_cell_here","_law_many","_law_row","_law_rest","_law_seed"] ["_law_cell_here","_law_many"] (z05 z4x):={}
def zak(F:Fun K "_law_numbers" "_law_numbers" z4x f fd)(ml:mg "len"=none):z0C P w K mg base CX 1 f fd ["_law_cell_here","_law_many"] (z4S K):=by
 refine F.okc z2v (fun vs H Q E h=>?_) (fun cdv A outer s H vs Q E hr h=>?_)
 .obtain⟨c,m,rfl,_⟩:=h;rfl
 obtain⟨c,m,rfl,hm,q⟩:=h;refine⟨_,z02 (z0k (i:=2) z2v.nd rfl (Or.inl rfl) (z1B z03))
  (z02 (z0k (i:=3) z2v.nd rfl (Or.inl rfl) (z0S z7v (pv 0) (z0S zfK z0h z0h)))
  (z02 (z2f y0I (PW.pt (z9G (z1n zeg (pv 3) z0h (z2g _)) (z6R (z1n z6t (z0n z0g rfl ml y0G (z00 (pv 2) z03)) (pv 1) (z2g _)))))
   (z02 (z1x (z3o y0J y0N y0O z0R (pv 2) (z00 (z0S z2h (pv 3) z0h) z03)))
   (z07 (z0k (i:=3) z2v.nd rfl (Or.inl rfl) (z0S z73 (pv 3) z0h)))))
  (z02 (z0k (i:=4) z2v.nd rfl (Or.inl rfl) (z0S z2h (pv 0) z0h))
  (z02 (z2f y0I (z1n z6t (z0n z0g rfl ml y0G (z00 (pv 2) z03)) (pv 1) (z2g _))
   (z02 (z0k (i:=4) z2v.nd rfl (Or.inl rfl) (z0S z2h (z0S z2w (z0S z2w (z0S z5I (pv 4) z0h) z0h) (z0n z0g rfl ml y0G (z00 (pv 2) z03))) z0h))
   (z07 (z1x (z3o y0J y0N y0O z0R (pv 2) (z00 (z0S z2h (z0S z73 (z0S z2h (z0S z5I (pv 4) z0h) z0h) z0h) z0h) z03))))))
  (z07 (z0D (pv 2))))))),?_⟩
 refine⟨by show 0<=sizeLine;decide,fun l hl=>(exA rfl (exC rfl rfl ⟨⟨by decide,by decide,by decide⟩,exC rfl rfl ?_⟩))⟩;show z7A _ _ _ _ _;refine zhJ (fun σ' H'=>∃(k:Nat)(r:Int)(ns:List Int),σ'=[some (.int c),some (.int m),some (.ref l),some (.int r),none]/\z0d H H'/\H' l=some (.lst (ns.map V.int))/\k+ns.length=m/\∀x∈ns,0<=x/\x<1009) (fun Ed nx=>?_) (fun σ' H' p=>?_);rotate_left
 .obtain⟨k,r,ns,rfl,s2,e2,hk,hns⟩:=p;refine(exA rfl (exC rfl rfl ⟨zcH,?_⟩));refine⟨fun k σ H2=>∃(v:Int)(ns:List Int),σ=[some (.int c),some (.int m),some (.ref l),some (.int r),some (.int v)]/\z0d H H2/\H2 l=some (.lst (ns.map V.int))/\k+ns.length=m/\∀x∈ns,0<=x/\x<1009,
   ⟨k,_,ns,rfl,s2,e2,hk,hns⟩,?_⟩
  rintro k σ H2 ⟨v,ns,rfl,s2,e2,hk,hns⟩;have hnl:(ns.map V.int).length=ns.length:=y01 _;refine(exA rfl (exG l rfl (.inl (SqL.of e2)) (exA rfl (exC rfl rfl (exA rfl (z4h (fun c2=>?_) (fun c2=>?_)))))))
  .have c2':=y14 c2;rw[hnl]at c2';have hkp:ns.length<m:=by lia
   refine zed fun N nx2=>?_;refine(exA rfl (exC rfl rfl ⟨.inr ⟨by decide,by decide⟩,exC rfl rfl (exA rfl (exG l rfl (.inl (SqL.of e2)) (exC rfl rfl (exC rfl rfl ⟨zcH,?_⟩))))⟩));refine(exA rfl ⟨.inl ⟨rfl,_,SqL.of e2⟩,exA rfl (exC rfl rfl ⟨.inr ⟨by decide,by decide⟩,exC rfl rfl ⟨zcH,exC rfl rfl ⟨⟨by decide,by decide⟩,exC rfl rfl ⟨zcH,l,exC rfl rfl ⟨e2,by rw[hnl];exact z3J (by lia),?_⟩⟩⟩⟩⟩)⟩);refine nx2 (k-1) _ _ (by lia) ⟨_,ns++[(v*48271+9973+((ns.map V.int).length:Nat))%2147483647*39373%2147483629/11%1009],rfl,z0a s2 hl,?_,?_,z7g hns (zcc _)⟩
   .rw[z01,y0e];rfl
   .rw[y0a];show k-1+(ns.length+1)=m;lia
  .have c2':=y1n (y1g.mpr c2);rw[hnl]at c2';exact(exA rfl (q l H2 ns s2 e2 ⟨by lia,hns⟩))
 refine⟨fun k σ H2=>∃(r:Int)(ns:List Int),σ=[some (.int c),some (.int m),some (.ref l),some (.int r),none]/\z0d H H2/\H2 l=some (.lst (ns.map V.int))/\k+ns.length=m/\∀x∈ns,0<=x/\x<1009,
  ⟨m,_,[],rfl,z04 (z0d.refl H) hl,z01,rfl,fun x hx=>by simp at hx⟩,?_⟩
 rintro k σ H2 ⟨r,ns,rfl,s2,e2,hk,hns⟩;have hnl:(ns.map V.int).length=ns.length:=y01 _;refine(exA rfl (exC rfl rfl (exA rfl (z4h (fun c1=>(exA rfl (exG l rfl (.inl (SqL.of e2)) (exA rfl (exC rfl rfl (exA rfl (z4h (fun c2=>?_) (fun c2=>?_)))))))) (fun c1=>z8e ?_)))))
 .have c2':=y14 c2;rw[hnl]at c2';have hkp:ns.length<m:=by lia
  refine zed fun N nx2=>?_;refine(exA rfl ⟨.inl ⟨rfl,_,SqL.of e2⟩,exA rfl (exC rfl rfl ⟨zcH,l,exC rfl rfl ⟨e2,by rw[hnl];exact z3J (by lia),?_⟩⟩)⟩);refine(exA rfl (exC rfl rfl ⟨⟨by decide,by decide⟩,nx2 (k-1) _ _ (by lia) ⟨_,ns++[r%1009],rfl,z0a s2 hl,?_,?_,z7g hns (zcc r)⟩⟩))
  .rw[z01,y0e];rfl
  .rw[y0a];show k-1+(ns.length+1)=m;lia
 all_goals exact nx _ _ ⟨k,r,ns,rfl,s2,e2,hk,hns⟩
def zeu:z0q ["_law_letters_here","_law_cell_here"] ["_law_letters_here","_law_cell_here"] (z05 z9A):={}
def zdr{k:Addr}{kd:FuncData}(F:Fun K "_law_guise" "_law_guise" z9A f fd)(G:z0C P w K mg base CX 2 g gd ["_law_letters_here","_law_cell_here"] (zbx K))(bG:z0t K gd ["_law_letters_here","_law_cell_here"] [])(kG:PySem.W.keepIn K (.ref g)=true)(mG:mg "_law_rows"=some (.ref g))(T:z0C P w K mg base CX 2 k kd ["_law_rows_here","_law_start"] (z9J K))(bT:z0t K kd ["_law_rows_here","_law_start"] [])(kT:PySem.W.keepIn K (.ref k)=true)(mT:mg "_law_shrunk"=some (.ref k)):z0C P w K mg base CX 3 f fd ["_law_letters_here","_law_cell_here"] (z8Z K):=by
 refine F.okc zeu (fun vs H Q E h=>?_) (fun cdv A outer s H vs Q E hr h=>?_)
 .obtain⟨n,c,rfl,_⟩:=h;rfl
 obtain⟨n,c,rfl,h2,h5,q⟩:=h;refine⟨_,z07 (z0D (z0j T hr rfl mT kT bT .nil z0Q (z00 (z0j G hr rfl mG kG bG .nil z0Q (z00 (pv 0) (z00 (pv 1) z03))) (z00 z0h z03)))),?_⟩;refine(exA rfl (exA rfl ⟨n,c,rfl,h2,h5,fun r H1 rows s1 hr1 G1 h8=>⟨r,n,rows,rfl,hr1,G1,by lia,fun v H2 s2 d=>q v H2 rows (s1.trans s2) G1 h8 d⟩⟩))
abbrev zdJ:List Str:=["_law_letters_here","_law_cell_here","_law_nums","_law_many","_law_kind","_law_rows_here","_law_at","_law_pick","_law_first","_law_goings"]
def z2r:z0q zdJ ["_law_letters_here","_law_cell_here"] (z05 z91):={}
def zbK:z0W zdJ (z05 z91) ["_law_k","_law_many","_law_pick"] [none,some 3,some 7] (csc [(".0",.local),("_law_k",.local),("_law_many",.free),("_law_pick",.free)]):={}
def zbY:z0W zdJ (z05 z91) ["_law_to","_law_at","_law_many"] [none,some 6,some 3] (csc [(".0",.local),("_law_to",.local),("min",.globalImplicit),("_law_at",.free),("_law_many",.free)]):={}
def zbJ:z0W zdJ (z05 z91) ["_law_k","_law_goings","_law_letters_here","_law_many","_law_pick"] [none,some 9,some 0,some 3,some 7] (csc [(".0",.local),("_law_k",.local),("_law_goings",.free),("_law_letters_here",.free),("_law_many",.free),("_law_pick",.free)]):={}
def zfm{k:Addr}{kd:FuncData}(F:Fun K "_law_rows" "_law_rows" z91 f fd)(mr:mg "range"=none)(mt:mg "tuple"=none)(mm:mg "min"=none)(G:z0C P w K mg base CX 1 g gd ["_law_cell_here","_law_many"] (z4S K))(bG:z0t K gd ["_law_cell_here","_law_many"] [])(kG:PySem.W.keepIn K (.ref g)=true)(mG:mg "_law_numbers"=some (.ref g))(T:z0C P w K mg base CX 1 k kd ["_law_pick","_law_letters_here"] (zbs K))(bT:z0t K kd ["_law_pick","_law_letters_here"] [])(kT:PySem.W.keepIn K (.ref k)=true)(mT:mg "_law_rearranged"=some (.ref k)):z0C P w K mg base CX 2 f fd ["_law_letters_here","_law_cell_here"] (zbx K):=by
 refine F.okc z2r (fun vs H Q E h=>?_) (fun cdv A outer s H vs Q E hr h=>?_)
 .obtain⟨n,c,rfl,_⟩:=h;rfl
 obtain⟨n,c,rfl,hn2,hn5,q⟩:=h;refine⟨_,z02 (z0k (i:=2) z2r.nd rfl (Or.inl rfl) (z0j G hr rfl mG kG bG .nil z0Q (z00 (pv 1) (z00 z0h z03))))
  (z02 (z0k (i:=3) z2r.nd rfl (Or.inr rfl) (z0S z2w z0h (z0S z2h (z1c z1U (pv 2) z0h (fun _ _=>rfl)) z0h)))
  (z02 (z0k (i:=4) z2r.nd rfl (Or.inl rfl) (z0S z2h (z1c z1U (pv 2) z0h (fun _ _=>rfl)) z0h))
  (z02 (z0k (i:=5) z2r.nd rfl (Or.inl rfl) (z1B z03))
  (z02 (z1r y0I rfl (z2a rfl mr (z00 (pv 3) z03)) (z09 (i:=6) z2r.nd rfl (Or.inr rfl))
   (z02 (z0k (i:=7) z2r.nd rfl (Or.inr rfl) (zdd zf5 (pv 2) (zc5 (z0S z2w z0h (z0S z5I z0h (pv 6)))) (zc5 (z0S z2w z0h (z0S z5I z0h (pv 6))))))
   (z02 (z0k (i:=8) z2r.nd rfl (Or.inl rfl) (z0j T hr rfl mT kT bT .nil z0Q (z00 (z1c z1U (pv 7) z0h (fun _ _=>rfl)) (z00 (pv 0) z03))))
   (z02 (z0k (i:=9) z2r.nd rfl (Or.inr rfl) (z1e rfl zbK (z2a rfl mr (z00 (pv 0) z03)) (fun _ _ _ _ _=>z09 (i:=0) zbK.nd rfl (Or.inl rfl)) (fun _ _ _ _ _=>z0S z2h (z1c (ixL K rfl) (pv 2) (z0S z2w z0h (pv 0)) (fun _ _=>rfl)) (pv 1))))
   (z02 (PS.weak (tRI K) (z2x (z2e (z4j (pv 4) z0h)) (z07 (z0k (i:=9) z2r.nd rfl (Or.inr rfl) (z1e rfl zbY (z0Y (pv 9)) (fun _ _ _ _ _=>z09 (i:=0) zbY.nd rfl (Or.inl rfl)) (fun _ _ _ _ _=>z0n (zbE rfl) rfl mm PyProof.Rows.boot_min (z00 (z0S z7v (pv 2) z0h) (z00 (z0S z2w (z0S z2w (pv 1) z0h) (pv 0)) z03)))))) z1a) ?_)
   (z02 (PS.weak (tRI K) (z2x (z2e (z4j (pv 4) z0h)) (z07 (z0k (i:=9) z2r.nd rfl (Or.inr rfl) (z1e rfl zbJ (z2a rfl mr (z00 (pv 0) z03)) (fun _ _ _ _ _=>z09 (i:=0) zbJ.nd rfl (Or.inl rfl)) (fun _ _ _ _ _=>zd6 (z2e (z4j (pv 0) (z0S z2h (z0S z73 (z1c (ixL K rfl) (pv 4) z0h (fun _ _=>rfl)) z0h) (pv 2)))) (z1c (ixL K rfl) (pv 1) (pv 0) (fun _ _=>rfl)) (z0S z7v (pv 3) z0h))))) z1a) ?_)
   (z02 (PS.weak (tRI K) (z2x (PT.weak (zhF (zfJ K)) (PW.pt (zhb (PW.pt (z9G (z9c zaF zaF z0h (pv 4) z0h) (z6R (z2e (z4j (pv 6) (z0S z7v (pv 3) z0h)))))) (zfM (PW.pt (z9G (z2e (z4j (pv 4) z0h)) (z6R (z2e (z4j (z0S z2h (z1c z1U (pv 7) z0h (fun _ _=>rfl)) z0h) z0h)))))))) ?_)
    (z07 (z0k (i:=8) z2r.nd rfl (Or.inl rfl) (z0B (z5y rfl) rfl mt y0F (z00 (z0B z9u rfl mr PyProof.Rows.boot_range (z00 (pv 0) z03)) z03)))) z1a) ?_)
   (z02 (PS.weak (tRI K) (z2x (PT.weak (zhF (zfJ K)) (PW.pt (z9G (z9c zaF zaF z0h (pv 4) z0h) (z6R (z2e (z4j (pv 6) (z0S z7v (pv 3) z0h)))))) ?_)
    (z07 (z0k (i:=9) z2r.nd rfl (Or.inr rfl) (z0S zdX (z1B (z00 (pv 6) z03)) (pv 0)))) z1a) ?_)
   (z07 (z1x (z3o y0J y0N y0O z0R (pv 5) (z00 (z1Z (z00 (pv 8) (z00 (z0B z0s rfl mt y0F (z00 (pv 9) z03)) z03))) z03))))))))))))
  (z07 (z0D (pv 5))))))),?_⟩
 .intro D σ H h;obtain⟨n,m,c,kd,j,ln,lr,lp,ps,H0,rf,ri,nx⟩:=h;obtain⟨b,lg,p,gs,rfl,s0,db,hp,eg,hgl,hgr⟩:=ri.ex;have h5:=rf.n5;have hjm:=rf.jm;refine(exA rfl (exC rfl rfl (exA rfl (z4h (fun _=>?_) (fun _=>nx _ _ ri)))));refine⟨_,rfl,lg,rfl,⟨_,SqL.of eg⟩,fun l hl=>z1A (xs:=gs.map V.int) (GI m H) (GI.nil hl) (fun i ys H2 _ h=>by obtain⟨_,_,_,_,s⟩:=h;exact SqL.of (s _ _ eg)) (by rw[y01];exact z19 (by lia)) (fun i ys H2 h=>h.len) (fun i x ys H2 hx h hy=>?_) (fun ys H2 h hy=>?_)⟩
  .have hil:i<gs.length:=by have:=(y05.mp hx).1;rwa [y01]at this
   have eg':gs[i]?=some gs[i]:=y00 hil;obtain⟨h0,h1⟩:=hgr _ (y0c hil);generalize gs[i]=gi at eg' h0 h1;have ex:x=V.int gi:=by rw[y04,eg']at hx;exact(y07 hx).symm
   subst ex;exact(exA rfl (exC rfl rfl (exA rfl (exC rfl rfl (exA rfl (exC rfl rfl (exB rfl ⟨hy,h.snoc hl ⟨by split<;>lia,by split<;>lia⟩⟩)))))))
  .obtain⟨gs',rfl,el,r',s'⟩:=h;rw[y01]at el;exact nx _ _ ⟨b,l,p,gs',rfl,s0.trans s',db.mono s',hp,hy,by lia,r'⟩
 .intro D σ H h;obtain⟨n,m,c,kd,j,ln,lr,lp,ps,H0,rf,ri,nx⟩:=h;obtain⟨b,lg,p,gs,rfl,s0,db,hp,eg,hgl,hgr⟩:=ri.ex;have h5:=rf.n5;have h2:=rf.n2;have hjm:=rf.jm;have elp:=s0 _ _ rf.lp;have h6:=rf.len;have ep:ps[0]?=some ps[0]:=y00 (by lia);refine(exA rfl (exC rfl rfl (exA rfl (z4h (fun _=>?_) (fun _=>nx _ _ ri)))));refine(exA rfl ⟨(n:Int),rfl,by lia,by lia,fun l hl=>z49 (n:=(n:Int).toNat) (GI m H) (GI.nil hl) (z19 (by lia)) (fun i ys H2 h=>h.len) (fun i ys H2 hi h hy=>?_) (fun ys H2 h hy=>?_)⟩)
  .have e0:(0:Int)+(i:Int)=(i:Int):=by lia
   rw[e0];have hil:i<gs.length:=by lia
   have eg':gs[i]?=some gs[i]:=y00 hil;obtain⟨h0,h1⟩:=hgr _ (y0c hil);generalize gs[i]=gi at eg' h0 h1;obtain⟨_,_,_,_,s2⟩:=id h;refine(exA rfl (exA rfl (exD lp _ _ (V.int ps[0]) rfl rfl (SqL.of (s2 _ _ elp)) (z0L (j:=0) (by rw[y04,ep];rfl)) (exC rfl rfl ⟨⟨by decide,by decide⟩,exA rfl (exC rfl rfl ⟨zcH (by lia),exC rfl rfl (exA rfl (z4h (fun _=>?_) (fun _=>?_)))⟩)⟩))))
   .exact(exA rfl (exA rfl (exD lg _ _ (V.int gi) rfl rfl (SqL.of (s2 _ _ eg)) (z0L (by rw[y04,eg'];rfl)) ⟨hy,h.snoc hl ⟨h0,h1⟩⟩)))
   .exact(exA rfl (exC rfl rfl ⟨hy,h.snoc hl ⟨by lia,by lia⟩⟩))
  .obtain⟨gs',rfl,el,r',s'⟩:=h;exact nx _ _ ⟨b,l,p,gs',rfl,s0.trans s',db.mono s',hp,hy,by lia,r'⟩
 .intro σ H Q h;obtain⟨⟨n,m,c,kd,j,ln,lr,lp,ps,H0,rf,ri⟩,q⟩:=h;obtain⟨b,lg,p,gs,rfl,s0,db,hp,eg,hgl,hgr⟩:=ri.ex;have elp:=s0 _ _ rf.lp;have h6:=rf.len;have ep:ps[0]?=some ps[0]:=y00 (by lia);refine(exA rfl (exC rfl rfl (exA rfl (z4h (fun _=>(exC rfl rfl (exA rfl (z4h (fun _=>(exA rfl (exA rfl (exC rfl rfl (exC rfl rfl (exA rfl (z4h (fun _=>q _) (fun _=>?_)))))))) (fun _=>z8e ?_))))) (fun _=>(exA rfl (z8e (z8e ?_))))))));all_goals exact(exA rfl (exC rfl rfl (exA rfl (z4h (fun _=>(exA rfl (exD lp _ _ (V.int ps[0]) rfl rfl (SqL.of elp) (z0L (j:=0) (by rw[y04,ep];rfl)) (exC rfl rfl ⟨zcH,exC rfl rfl (exA rfl (q _))⟩)))) (fun _=>q _)))))
 .intro D σ H h;obtain⟨n,m,c,kd,j,ln,lr,lp,ps,H0,rf,ri,nx⟩:=h;obtain⟨b,lg,p,gs,rfl,s0,db,hp,eg,hgl,hgr⟩:=ri.ex;have h5:=rf.n5;refine⟨⟨n,m,c,kd,j,ln,lr,lp,ps,H0,rf,ri⟩,fun cc=>z4h (fun _=>?_) (fun _=>nx _ _ ri)⟩;refine(exA rfl ⟨(n:Int),rfl,by lia,by lia,fun r hr0=>⟨r,0,(n:Int),rfl,z01,⟨by decide,by decide,by lia,by lia⟩,by lia,fun l hl=>?_⟩⟩);have e:((n:Int)-0).toNat=n:=by lia
  rw[e,z7Y];have s':=z04 (o:=HO.tup ((z0y n).map V.int)) (z04 (o:=HO.rng 0 n) (z0d.refl H) hr0) hl;exact nx _ _ ⟨.ref l,lg,z0y n,gs,rfl,s0.trans s',Dr.tup z01 (DrL.ints _),z9P n,s' _ _ eg,hgl,hgr⟩
 .intro σ H Q h;obtain⟨⟨n,m,c,kd,j,ln,lr,lp,ps,H0,rf,ri⟩,q⟩:=h;obtain⟨b,lg,p,gs,rfl,s0,db,hp,eg,hgl,hgr⟩:=ri.ex;exact(exA rfl (exC rfl rfl (exA rfl (z4h (fun _=>(exC rfl rfl (exA rfl (z4h (fun _=>(exA rfl (exA rfl (exC rfl rfl (exC rfl rfl (exA rfl (q _))))))) (fun _=>q _))))) (fun _=>(exA rfl (z8e (q _))))))))
 .intro D σ H h;obtain⟨n,m,c,kd,j,ln,lr,lp,ps,H0,rf,ri,nx⟩:=h;obtain⟨b,lg,p,gs,rfl,s0,db,hp,eg,hgl,hgr⟩:=ri.ex;have h5:=rf.n5;have hjm:=rf.jm;refine⟨⟨n,m,c,kd,j,ln,lr,lp,ps,H0,rf,ri⟩,fun cc=>z4h (fun _=>?_) (fun _=>nx _ _ ri)⟩;refine(exA rfl ⟨by show 1<=sizeLine;decide,fun l0 hl0=>(exA rfl ⟨l0,(n:Int),exA rfl ⟨rfl,z01,by lia,by lia,?_,fun l hl=>?_⟩⟩)⟩)
  .show 1*(n:Int).toNat<=sizeLine;exact z19 (by lia)
  have e:((n:Int)).toNat=n:=by lia
  rw[e,zh4];have s':=z04 (o:=HO.lst ((List.replicate n (j:Int)).map V.int)) (z04 (o:=HO.lst [V.int (j:Int)]) (z0d.refl H) hl0) hl;exact nx _ _ ⟨b,l,p,List.replicate n (j:Int),rfl,s0.trans s',db.mono s',hp,z01,y2D,fun g hg=>by rw[(y39.mp hg).2];lia⟩
 refine(exA rfl ⟨c,64,rfl,by lia,fun ln H1 ns s1 e1 hns=>?_⟩);have hnl:=hns.1;have en0:ns[0]?=some ns[0]:=y00 (by lia);have en1:ns[1]?=some ns[1]:=y00 (by lia);obtain⟨m,hm⟩:=z9j (x:=(1:Int)+ns[0]%8) (by lia);have hm1:1<=m:=by lia
 have hm8:m<=8:=by lia
 refine(exA rfl (exD ln _ _ (V.int ns[0]) rfl rfl (SqL.of e1) (z0L (j:=0) (by rw[y04,en0];rfl)) (exC rfl rfl ⟨zcH,exC rfl rfl ?_⟩)));generalize ns[1]=n1 at en1;refine(exA rfl (exD ln _ _ (V.int n1) rfl rfl (SqL.of e1) (z0L (j:=1) (by rw[y04,en1];rfl)) (exC rfl rfl ⟨zcH,by show 0<=sizeLine;decide,fun lr hlr=>?_⟩)));obtain⟨kd,hkd⟩:∃kd,kd=n1%6:=⟨_,rfl⟩;have s2:=z04 (o:=HO.lst []) (z0d.refl H1) hlr;refine⟨_,rfl,(m:Int),(by rw[<-hm]),by lia,by lia,zcr (n:=(m:Int).toNat) (fun i σ H2=>∃(u6 u7 u8 u9:Option V)(us:List V)(rs:List Row),σ=[some (.int n),some (.int c),some (.ref ln),some (.int m),some (.int kd),some (.ref lr),u6,u7,u8,u9]/\z0d H1 H2/\H2 lr=some (.lst us)/\DrL K H2 (z0i rs) us/\rs.length=i/\GR n m rs)
  ⟨_,_,_,_,[],[],(by rw[<-hm,hkd];rfl),s2,z01,DrL.nil,rfl,fun r hr=>by simp at hr⟩ (fun i σ H2 hi h Ed nx3=>?_) (fun σ H2 h=>?_)⟩
 .obtain⟨u6,u7,u8,u9,us,rs,rfl,t2,elr,drs,hrl,gr⟩:=h;have e0:(0:Int)+(i:Int)=(i:Int):=by lia
  rw[e0];have him:i<m:=by lia
  obtain⟨ps,ecut,hp6,hpr⟩:=zhV (i:=i) hns (by lia);have ep:ps[0]?=some ps[0]:=y00 (by lia);refine(exA rfl (exA rfl (exC rfl rfl ⟨.inl ⟨by decide,by decide⟩,exC rfl rfl (exA rfl (exA rfl (exC rfl rfl ⟨.inl ⟨by decide,by decide⟩,exC rfl rfl (exA rfl ⟨ln,exA rfl ⟨SqL.of (t2 _ _ e1),fun lp hlp=>?_⟩⟩)⟩)))⟩)));rw[ecut];have s3:=z04 (o:=HO.lst (ps.map V.int)) (z0d.refl H2) hlp;refine(exA rfl (exD lp _ _ (V.int ps[0]) rfl rfl (SqL.of z01) (z0L (j:=0) (by rw[y04,ep];rfl)) (exA rfl ⟨ps[0],n,rfl,by lia,fun b H3 s4 d3=>?_⟩)));have elp3:H3 lp=some (.lst (ps.map V.int)):=s4 _ _ z01;refine(exA rfl ⟨(n:Int),rfl,by lia,by lia,fun lg hlg=>z49 (n:=(n:Int).toNat) (GI m H3) (GI.nil hlg) (z19 (by lia)) (fun i ys H h=>h.len) (fun k ys H4 hk h hy=>?_) (fun ys H4 h hy=>?_)⟩)
  .have ek:(1:Int)+(0+(k:Int))=((1+k:Nat):Int):=by lia
   have ek':ps[1+k]?=some (ps[1+k]'(by lia)):=y00 (by lia);generalize ps[1+k]'(by lia)=pk at ek';obtain⟨_,_,_,_,s5⟩:=id h;refine(exA rfl (exA rfl (exC rfl rfl (exD lp _ _ (V.int pk) rfl rfl (SqL.of (s5 _ _ elp3)) ((by rw[ek];exact z0L (by rw[y04,ek'];rfl))) (exA rfl (exC rfl rfl ⟨zcH (by lia),hy,h.snoc hlg ⟨?_,?_⟩⟩))))))
   .exact y36 _ (by lia)
   .exact y2w _ (by lia)
  obtain⟨gs,rfl,hgl,hgr,s5⟩:=h;have rf:RF n m i ps lp H3:=⟨hn2,hn5,him,hm8,elp3,hp6,hpr⟩;refine⟨n,m,c,kd,i,ln,lr,lp,ps,H3,rf,⟨b,lg,_,gs,rfl,s5,d3.mono s5,z9Z _ _,hy,by lia,hgr⟩,fun σ1 H5 r1=>⟨n,m,c,kd,i,ln,lr,lp,ps,H3,rf,r1,fun σ2 H6 r2=>⟨n,m,c,kd,i,ln,lr,lp,ps,H3,rf,r2,fun σ3 H7 r3=>⟨n,m,c,kd,i,ln,lr,lp,ps,H3,rf,r3,fun σ4 H8 r4=>?_⟩⟩⟩⟩;clear hgl hgr hy;obtain⟨b,lg,p,gs,rfl,s0,db,hp,eg,hgl,hgr⟩:=r4.ex;have s28:z0d H2 H8:=(s3.trans s4).trans s0;refine(exA rfl ⟨.inl ⟨rfl,_,SqL.of (s28 _ _ elr)⟩,exA rfl (exA rfl ⟨lg,exA rfl (.inl ⟨SqL.of eg,fun t4 ht4=>⟨by show 2<=sizeLine;decide,fun t5 ht5=>?_⟩⟩)⟩)⟩);have s9:=z04 (o:=HO.tup (gs.map V.int)) (z0d.refl H8) ht4;have s10:=z04 (o:=HO.tup [b,.ref t4]) s9 ht5;have elr':=s10 _ _ (s28 _ _ elr);have hul:us.length=i:=by have:=drs.length;unfold z0i at this;rw[y01]at this;lia
  refine⟨lr,us,.ref t5,rfl,rfl,elr',z3J (by lia),?_⟩;obtain⟨b0,rfl,eb⟩:=Dr.its_inv db;have kk:z1j H8 (upd (upd (upd H8 t4 (.tup (gs.map V.int))) t5 (.tup [.ref b0,.ref t4])) lr (.lst (us++[.ref t5]))):=z1j.up (z1j.of s10) elr' (fun _ z=>by cases z);have nt5:t5≠lr:=z47 z01 elr' (by intro z;cases z);have nt4:t4≠t5:=z0f z01 ht5;have nt4f:t4≠lr:=z47 (show upd (upd H8 t4 (.tup (gs.map V.int))) t5 (.tup [.ref b0,.ref t4]) t4=some (.tup (gs.map V.int))by rw[z06 nt4];exact z01) elr' (by intro z;cases z);refine nx3 _ _ ⟨_,_,_,_,us++[.ref t5],rs++[(p,gs)],rfl,z0a (t2.trans (s28.trans s10)) hlr,z01,?_,by rw[y0a,hrl];rfl,gr.snoc ⟨hp,hgl,hgr⟩⟩;unfold z0i;rw[y0e];refine DrL.append ((drs.mono s28).keyed kk (z2F _)) (DrL.one (z3R (r:=(p,gs)) (b:=b0) (c:=t4) ?_ (kk _ _ eb) ?_))
  .rw[z06 nt5];exact z01
  .rw[z06 nt4f,z06 nt4];exact z01
 .obtain⟨u6,u7,u8,u9,us,rs,rfl,t2,elr,drs,hrl,gr⟩:=h;exact(exA rfl (q lr H2 rs (s1.trans t2) ⟨us,elr,drs⟩ (gr.good (by lia) hm1 (by lia)) (by lia)))
abbrev zhD:List Str:=["_law_rows_here","_law_line","_law_marks","_law_place","_law_heads","_law_row"]
abbrev zfT:List Str:=["_law_row","_law_marks","_law_place","_law_rows_here"]
abbrev zh7:Scope:=csc [(".0",.local),("_law_row",.local),("tuple",.globalImplicit),("_law_marks",.free),("_law_place",.free),("_law_rows_here",.free)]
def zdt:z0q zhD ["_law_rows_here","_law_line","_law_marks"] (z05 z5n):={}
def zdP:z0W zhD (z05 z5n) zfT [none,some 2,some 3,some 0] zh7:={}
abbrev zgJ:Scope:=csc [(".0",.local),("_law_row",.local),("tuple",.globalImplicit),("_law_marks",.cell),("_law_place",.cell),("_law_rows_here",.cell)]
def zea:z0W zfT zgJ ["_law_to","_law_marks","_law_place"] [none,some 1,some 2] (csc [(".0",.local),("_law_to",.local),("_law_marks",.free),("_law_place",.free)]):={}
def zaj(F:Fun K "_law_in_line" "_law_in_line" z5n f fd)(ml:mg "len"=none)(mt:mg "tuple"=none):z0C P w K mg base CX 1 f fd ["_law_rows_here","_law_line","_law_marks"] (z4G K):=by
 refine F.okc zdt (fun vs H Q E h=>?_) (fun cdv A outer s H vs Q E hr h=>?_)
 .obtain⟨a,l,m,n,rows,nm,us,o,k,kvs,rfl,_⟩:=h;rfl
 obtain⟨a,l,m,n,rows,nm,us,o,k,kvs,rfl,Sa,da,ni,GM,hn,el,em,mk,L,cl,q⟩:=h;have hu:=zan hr;refine⟨_,z02 (z0k (i:=3) zdt.nd rfl (Or.inr rfl) z6V)
  (z02 (z0k (i:=4) zdt.nd rfl (Or.inl rfl) (z1B z03))
  (z02 (z1r y0I rfl (z0Y (pv 1)) (z09 (i:=5) zdt.nd rfl (Or.inl rfl))
   (z07 (z2x (z2e (z3I hu (z3q hu (pv 2) (pv 5) (fun _ _=>rfl)) (pv 3)))
    (z02 (z42 hu (pv 3) (z3q hu (pv 2) (pv 5) (fun _ _=>rfl)) (z0n z0g rfl ml y0G (z00 (pv 4) z03)) rfl)
    (z07 (z1x (z3o y0J y0N y0O z0R (pv 4) (z00 (pv 5) z03))))) z1a)))
  (z07 (z0D (z0B z0s rfl mt y0F (z00 (z1e rfl zdP (z0Y (pv 4)) (fun _ _ _ _ _=>z09 (i:=0) zdP.nd rfl (Or.inl rfl))
   (fun _ _ _ _ _=>z1Z (z00 (z0B (zhK K rfl) rfl mt y0F (z00 (z1c (ixT K rfl) (z1c (ixQ K rfl) (pv 3) (pv 0) (fun _ _=>rfl)) z0h (fun _ _=>rfl)) z03))
    (z00 (z0B (zhK K rfl) rfl mt y0F (z00 (z1e rfl zea (piT K rfl (z1c (ixT K rfl) (z1c (ixQ K rfl) (pv 3) (pv 0) (fun _ _=>rfl)) z0h (fun _ _=>rfl))) (fun _ _ _ _ _=>z09 (i:=0) zea.nd rfl (Or.inl rfl))
     (fun _ _ _ _ _=>z3q hu (pv 2) (z3q hu (pv 1) (pv 0) (fun _ _=>rfl)) (fun _ _=>rfl))) z03)) z03)))) z03)))))),?_⟩
 have hol:=L.len;have h400:=GM.few;have gk:∀r∈o,z2N kvs (kN nm r)=some (V.int (k r)):=fun r hr=>by obtain⟨v,hv,d⟩:=mk.get ni hr;simp only[Dr]at d;rw[hv,d]
 refine fun lp hlp=>⟨by show 0<=sizeLine;decide,fun lh hlh=>?_⟩;have s1:=z04 (o:=HO.dK []) (z0d.refl H) hlp;have hlh0:H lh=none:=s1.free hlh;have nph:lp≠lh:=z0f z01 hlh;have s2:=z04 (o:=HO.lst []) s1 hlh;refine⟨_,rfl,l,rfl,⟨_,SqL.of (s2 _ _ el)⟩,z5t (xs:=o.map (nV nm)) (fun i σ H2=>∃(u:Option V),σ=[some (.ref a),some (.ref l),some (.ref m),some (.ref lp),some (.ref lh),u]/\z0d H H2/\H2 lh=some (.lst ((z0z k (o.take i)).map (nV nm)))/\H2 lp=some (.dK (prs Sum.inl ((z0z k (o.take i)).map k))))
  ⟨_,rfl,s2,z01,by rw[z06 nph];exact z01⟩ (fun i σ H2 _ h=>by obtain⟨_,_,t2,_⟩:=h;exact SqL.of (t2 _ _ el)) (fun i x σ H2 hx h Ed nx3=>?_) (fun σ H2 h=>?_)⟩
 .obtain⟨u,rfl,t2,e1,e2⟩:=h;have hil:i<o.length:=by have:=(y05.mp hx).1;rwa [y01]at this
  have eo:o[i]?=some o[i]:=y00 hil;have hro:o[i]∈o:=y0c hil;generalize o[i]=r at eo hro;have ex:x=V.int (nm r):=by rw[y04,eo]at hx;exact(y07 hx).symm
  subst ex;have et:z0z k (o.take (i+1))=z0V k (z0z k (o.take i)) r:=by rw[y0v,eo];exact z1N k _ _
  have hhl:=(z1g k (o.take i)).2.2;rw[y0s]at hhl;generalize z0z k (o.take i)=hs at *;have gm:z4F H2 m (V.int (nm r)) (some (V.int (k r))):=by rw[<-gk r hro];exact z4F.k (k:=kN nm r) (t2 _ _ em)
  refine(exA rfl (exA rfl ⟨m,exA rfl ⟨gm,exA rfl ⟨lp,exA rfl ⟨z4F.k (k:=Sum.inl (k r)) e2,exA rfl ?_⟩⟩⟩⟩));have hv:=z25 (κ:=Key) Sum.inl z90 (hs.map k) (k r);by_cases hm:k r∈hs.map k
  .rw[hv,if_pos hm];refine z8e (nx3 _ _ (exA rfl ⟨t2,?_,?_⟩))
   .rw[et,z0V,if_pos hm];exact e1
   .rw[et,z0V,if_pos hm];exact e2
  .rw[hv,if_neg hm];have nlop:lh≠lp:=y1k nph;refine zez (exA rfl (exG lh rfl (.inl (SqL.of e1)) (exA rfl (exA rfl (exA rfl ⟨m,exA rfl ⟨gm,lp,exA rfl ⟨zcB.k (k:=Sum.inl (k r)) e2 (by rw[z20,y01];exact z1F (by lia)),?_⟩⟩⟩)))));have e1':upd H2 lp (.dK (z2c (prs Sum.inl (hs.map k)) (Sum.inl (k r):Key) (V.int ((hs.map (nV nm)).length:Nat)))) lh=some (.lst (hs.map (nV nm))):=by rw[z06 nlop];exact e1
   refine(exA rfl ⟨.inl ⟨rfl,_,SqL.of e1'⟩,exA rfl ⟨lh,exC rfl rfl ⟨e1',by rw[y01];exact z1F (by lia),?_⟩⟩⟩);refine nx3 _ _ (exA rfl ⟨z0a (z0a t2 hlp) hlh0,?_,?_⟩)
   .rw[z01,et,z0V,if_neg hm,y0e];rfl
   .rw[z06 nph,z01,et,z0V,if_neg hm,y0e];have:=z5h (κ:=Key) Sum.inl z90 hm;rw[y01]at this⊢;rw[this];rfl
 .obtain⟨u,rfl,t2,e1,e2⟩:=h;rw[y01,y0A]at e1 e2;obtain⟨hh1,hh2,hh3⟩:=z1g k o;unfold z1J at q;generalize z0z k o=hs at *;refine(exA rfl ⟨lh,rfl,⟨_,SqL.of e1⟩,fun l3 hl3=>z1A (xs:=hs.map (nV nm)) (fun i ys H3=>i<=hs.length/\ys.length=i/\z0d H2 H3/\DrL K H3 (((hs.take i).map fun r=>z5u ((row rows r).1,(row rows r).2.map fun g=>(((hs.map k).idxOf (k g):Nat):Int)))) ys) ⟨y0y _,rfl,z04 (z0d.refl H2) hl3,DrL.nil⟩ (fun i ys H3 _ h=>SqL.of (h.2.2.1 _ _ e1)) (by rw[y01];exact z19 (by lia)) (fun i ys H3 h=>h.2.1) (fun i x ys H3 hx h hy=>?_) (fun ys H3 h hy=>?_)⟩)
  .obtain⟨_,hyl,s3,d3⟩:=h;have hil:i<hs.length:=by have:=(y05.mp hx).1;rwa [y01]at this
   have eo:hs[i]?=some hs[i]:=y00 hil;have hrh:hs[i]∈hs:=y0c hil;generalize hs[i]=r at eo hrh;have hro:=hh2 r hrh;have ex:x=V.int (nm r):=by rw[y04,eo]at hx;exact(y07 hx).symm
   subst ex;obtain⟨r0,r1⟩:=L.rg r hro;obtain⟨nr0,v,ev,dv⟩:=da r r0 r1;have t3:=t2.trans s3;obtain⟨t,b,cc,rfl,et,eb,ec⟩:=z1d (dv.mono t3);dsimp only[z7N]at eb ec;have hgl:=GM.len _ (z0c r0 r1);have hgo:=cl r hro;have esn:=z1f (fun r=>z5u ((row rows r).1,(row rows r).2.map fun g=>(((hs.map k).idxOf (k g):Nat):Int))) eo;generalize hrr:(row rows r).2=gs at *;refine(exA rfl (exA rfl ⟨a,_,nm r,.ref t,rfl,rfl,Sa.mono t3,z27 nr0 ev,exD t _ _ (.ref b) rfl rfl (SqT.of et) (z0L (j:=0) rfl) ⟨b,exA rfl (.inr ⟨SqT.of eb,?_⟩)⟩⟩));refine(exA rfl (exA rfl ⟨a,_,nm r,.ref t,rfl,rfl,Sa.mono t3,z27 nr0 ev,exD t _ _ (.ref cc) rfl rfl (SqT.of et) (z0L (j:=1) rfl) ⟨cc,rfl,⟨_,SqT.of ec⟩,fun l4 hl4=>z2i (xs:=(gs.map nm).map V.int) (fun j zs H4=>j<=gs.length/\zs=((gs.take j).map fun g=>(((hs.map k).idxOf (k g):Nat):Int)).map V.int/\z0d H3 H4) ⟨y0y _,rfl,z04 (z0d.refl H3) hl4⟩ (fun j zs H4 _ h=>SqT.of (h.2.2 _ _ ec)) (by rw[y01,y01];exact z19 (by lia)) (fun j zs H4 h=>?_) (fun j x zs H4 hx h hy4=>?_) (fun zs H4 h hy4=>?_)⟩⟩))
   .obtain⟨hj,rfl,_⟩:=h;rw[y01,y01,y0s];lia
   .obtain⟨hj,rfl,s4⟩:=h;have hjl:j<gs.length:=by have:=(y05.mp hx).1;rwa [y01,y01]at this
    have eg:gs[j]?=some gs[j]:=y00 hjl;have hgm:=hgo _ (y0c hjl);generalize gs[j]=gj at eg hgm;have ex:x=V.int (nm gj):=by rw[y04,y04,eg]at hx;exact(y07 hx).symm
    subst ex;have t4:=t3.trans s4;have gm:z4F H4 m (V.int (nm gj)) (some (V.int (k gj))):=by rw[<-gk gj hgm];exact z4F.k (k:=kN nm gj) (t4 _ _ em)
    have hv:=z25 (κ:=Key) Sum.inl z90 (hs.map k) (k gj);rw[if_pos (hh1 gj hgm)]at hv;refine(exA rfl (exA rfl (exA rfl ⟨m,exA rfl ⟨gm,lp,exA rfl ⟨(by rw[<-hv];exact z4F.k (k:=Sum.inl (k gj)) (s4 _ _ (s3 _ _ e2))),hy4,hjl,?_,z0a s4 hl4⟩⟩⟩)));rw[z1f _ eg,y0e];rfl
   .obtain⟨_,rfl,s4⟩:=h;rw[y01,y01,y0A]at hy4;refine⟨l4,exA rfl (.inl ⟨SqL.of hy4,fun t4 ht4=>⟨by show 2<=sizeLine;decide,fun t5 ht5=>?_⟩⟩)⟩;have s5:=z04 (o:=HO.tup ((gs.map fun g=>(((hs.map k).idxOf (k g):Nat):Int)).map V.int)) s4 ht4;have s6:=z04 (o:=HO.tup [.ref b,.ref t4]) s5 ht5;have hy6:=s6 _ _ hy;refine⟨hy6,hil,by rw[y0a,hyl];rfl,z0a (s3.trans s6) hl3,?_⟩;have kk:z1j H3 (upd (upd (upd H4 t4 (.tup ((gs.map fun g=>(((hs.map k).idxOf (k g):Nat):Int)).map V.int))) t5 (.tup [.ref b,.ref t4])) l3 (.lst (ys++[.ref t5]))):=z1j.up (z1j.of s6) hy6 (fun _ z=>by cases z);have nt5:t5≠l3:=z47 z01 hy6 (by intro z;cases z);have nt4:t4≠t5:=z0f z01 ht5;have nt4f:t4≠l3:=z47 (show upd (upd H4 t4 (.tup ((gs.map fun g=>(((hs.map k).idxOf (k g):Nat):Int)).map V.int))) t5 (.tup [.ref b,.ref t4]) t4=_ by rw[z06 nt4];exact z01) hy6 (by intro z;cases z);rw[esn];refine DrL.append (d3.keyed kk (by have:=z2F ((hs.take i).map fun r=>((row rows r).1,(row rows r).2.map fun g=>(((hs.map k).idxOf (k g):Nat):Int)));unfold z0i at this;rw[y0L]at this;exact this)) (DrL.one (z3R (b:=b) (c:=t4) ?_ (kk _ _ eb) ?_))
    .rw[z06 nt5];exact z01
    .rw[z06 nt4f,z06 nt4];exact z01
  .obtain⟨_,_,s3,d3⟩:=h;rw[y01,y0A]at d3;refine⟨l3,exA rfl (.inl ⟨SqL.of hy,fun t ht=>?_⟩)⟩;refine q _ _ ((t2.trans s3).trans (z04 (z0d.refl H3) ht)) (Dr.tup z01 ?_);unfold z0i;rw[y0L];exact d3.mono (z04 (z0d.refl H3) ht)
abbrev zhI:List Str:=["_law_rows_here","_law_start","_law_line","_law_marks","_law_at","_law_to","_law_many","_law_grown","_law_known","_law_fresh","_law_row","_law_key"]
def z3n:z0q zhI ["_law_rows_here","_law_start"] (z05 z45):={}
def zgg:z0W zhI (z05 z45) ["_law_to","_law_marks"] [none,some 3] (csc [(".0",.local),("_law_to",.local),("_law_marks",.free)]):={}
def zbq(u:List D)(d:D)(hn:u.Nodup):z2c (prs id u) d ((z2N (prs id u) d).getD (V.int ((prs id u).length:Nat)))=prs id (z2b u d):=by
 have hv:z2N (prs id u) d=_:=z25 id (fun _ _ e=>e) u d;by_cases hm:d∈u
 .rw[hv,if_pos hm,z0o hm];have:=z7R 0 u d hm hn;rw[y2F]at this;exact this
 .rw[hv,if_neg hm,z0p hm,<-z5h id (fun _ _ e=>e) hm];rw[z20];rfl
def zag(F:Fun K "_law_shrunk" "_law_shrunk" z45 f fd)(ml:mg "len"=none)(mt:mg "tuple"=none)(G:z0C P w K mg base CX 1 g gd ["_law_rows_here","_law_line","_law_marks"] (z4G K))(bG:z0t K gd ["_law_rows_here","_law_line","_law_marks"] [])(kG:PySem.W.keepIn K (.ref g)=true)(mG:mg "_law_in_line"=some (.ref g)):z0C P w K mg base CX 2 f fd ["_law_rows_here","_law_start"] (z4H K):=by
 refine F.okc z3n (fun vs H Q E h=>?_) (fun cdv A outer s H vs Q E hr h=>?_)
 .obtain⟨a,n,rows,nm,us,rfl,_⟩:=h;rfl
 obtain⟨a,n,rows,nm,us,rfl,Sa,da,ni,GM,hn,q⟩:=h;have hu:=zan hr;have hu9:(A.deeper (PyProof.Rows.envOfC "_law_shrunk" (z05 z45) s.heap.objs.size f cdv)).units+9<cLine:=by have:=hr.units;lia
 refine⟨_,z02 (z0k (i:=2) z3n.nd rfl (Or.inl rfl) (z1B (z00 (pv 1) z03)))
  (z02 (z0k (i:=3) z3n.nd rfl (Or.inr rfl) (zaI (z74 (pv 1) (z1c z24 (z1c (ixQ K rfl) (pv 0) (pv 1) (fun _ _=>rfl)) z0h (fun _ _=>rfl)) z8N) rfl rfl (by simp) (by decide)))
  (z02 (z0k (i:=4) z3n.nd rfl (Or.inl rfl) z0h)
  (z02 (z2f y0I (z1n z6t (pv 4) (z0n z0g rfl ml y0G (z00 (pv 2) z03)) (z2g _))
   (z02 (z1r y0I rfl (z2y (z1c z24 (z1c (ixQ K rfl) (pv 0) (z1c z1U (pv 2) (pv 4) (fun _ _=>rfl)) (fun _ _=>rfl)) z0h (fun _ _=>rfl))) (z09 (i:=5) z3n.nd rfl (Or.inl rfl))
    (z07 (z2x (z2e (z3I hu (pv 5) (pv 3)))
     (z02 (z42 hu (pv 3) (pv 5) (z1c z24 (z1c (ixQ K rfl) (pv 0) (pv 5) (fun _ _=>rfl)) z0h (fun _ _=>rfl)) rfl)
     (z07 (z1x (z3o y0J y0N y0O z0R (pv 2) (z00 (pv 5) z03))))) z1a)))
   (z07 (zdN (i:=4) z3n.nd rfl (Or.inl rfl) z0h ze3))))
  (z02 (z0k (i:=6) z3n.nd rfl (Or.inl rfl) z0h)
  (z02 (z0k (i:=7) z3n.nd rfl (Or.inl rfl) z5f)
  (z02 (z2f y0I (zbv (pv 7))
   (z02 (z0k (i:=8) z3n.nd rfl (Or.inl rfl) (z8q (K:=K)))
   (z02 (z0k (i:=9) z3n.nd rfl (Or.inl rfl) z6V)
   (z02 (z1r y0I rfl (z0Y (pv 2)) (z09 (i:=10) z3n.nd rfl (Or.inl rfl))
    (z02 (z0k (i:=11) z3n.nd rfl (Or.inl rfl) (z1Z (z00 (z3q hu (pv 3) (pv 10) (fun _ _=>rfl)) (z00 (z0B z0s rfl mt y0F (z00
     (z1e rfl zgg (z2y (z1c z24 (z1c (ixQ K rfl) (pv 0) (pv 10) (fun _ _=>rfl)) z0h (fun _ _=>rfl))) (fun _ _ _ _ _=>z09 (i:=0) zgg.nd rfl (Or.inl rfl)) (fun _ _ _ _ _=>z3q hu (pv 1) (pv 0) (fun _ _=>rfl))) z03)) z03))))
    (z02 (z6n (K:=K) hu9 (pv 8) (pv 11) (zdi (K:=K) hu9 (pv 8) (pv 11) (z0n (zdw K) rfl ml y0G (z00 (pv 8) z03)) ⟨rfl,rfl,rfl,rfl⟩))
    (z07 (z42 hu (pv 9) (pv 10) (zbb (K:=K) hu9 (pv 8) (pv 11) (fun _ _=>rfl)) rfl)))))
   (z02 (z0k (i:=7) z3n.nd rfl (Or.inl rfl) (zeh zeg (z0n (zdw K) rfl ml y0G (z00 (pv 8) z03)) (pv 6) (z2g _)))
   (z02 (z0k (i:=6) z3n.nd rfl (Or.inl rfl) (z0n (zdw K) rfl ml y0G (z00 (pv 8) z03)))
   (z07 (z0k (i:=3) z3n.nd rfl (Or.inr rfl) (pv 9)))))))))
  (z07 (z0D (z0j G hr rfl mG kG bG .nil z0Q (z00 (pv 0) (z00 (pv 2) (z00 (pv 3) z03)))))))))))),?_⟩
 have h400:=GM.few;have h1:=GM.some;have hz1:(0:Int)<(rows.length:Int):=by lia
 refine(exA rfl ⟨by show 1<=sizeLine;decide,fun lo hlo=>?_⟩);refine fun lm hlm=>(exA rfl ?_);have s1:=z04 (o:=HO.lst [V.int (nm 0)]) (z0d.refl H) hlo;have s2:=z04 (o:=HO.dK []) s1 hlm;have nlo:lo≠lm:=z0f z01 hlm;have hlm0:H lm=none:=s1.free hlm;obtain⟨nz0,v0,ev0,dv0⟩:=da 0 (y0Q 0) hz1;obtain⟨t0,b0,c0,rfl,et0,eb0,ec0⟩:=z1d (dv0.mono s2);refine(exA rfl (exA rfl ⟨a,_,nm 0,.ref t0,rfl,rfl,Sa.mono s2,z27 nz0 ev0,exD t0 _ _ (.ref b0) rfl rfl (SqT.of et0) (z0L (j:=0) rfl) ⟨z01,[(Sum.inl (nm 0),V.ref b0)],rfl,by simp,?_⟩⟩));have s3:z0d H (upd (upd (upd H lo (.lst [.int (nm 0)])) lm (.dK [])) lm (.dK (z4k [] [(Sum.inl (nm 0),V.ref b0)]))):=z0a s2 hlm0;have hF0:=FK.its rows;have L0:=zcp GM;have OL:=z0m GM;have hol:=OL.1.len;show z7A _ _ _ _ _;refine zhJ (fun σ' H'=>∃(i0:Int)(o:List Int)(u5:Option V)(kvs:List (Key × V)),σ'=[some (.ref a),some (.int (nm 0)),some (.ref lo),some (.ref lm),some (.int i0),u5,none,none,none,none,none,none]/\z0d H H'/\H' lo=some (.lst (o.map (nV nm)))/\H' lm=some (.dK kvs)/\MkN nm K H' o (fun r=>D.its (row rows r).1) kvs/\z7d rows o/\z0b rows=o) (fun Ed nx=>?_) (fun σ' H' p=>?_);rotate_left
 .obtain⟨i0,o,u5,kvs,rfl,t2,glo,glm,mk2,L,eoo⟩:=p;have cl:∀r∈o,∀g∈(row rows r).2,g∈o:=by have:=OL.2;rwa [eoo]at this
  have hln:=L.len;refine⟨fun m σ H3=>∃(f:Int->D)(many:Nat)(gr:Bool)(lm:Addr)(kvs:List (Key × V))(u8 u9 u10 u11:Option V),σ=[some (.ref a),some (.int (nm 0)),some (.ref lo),some (.ref lm),some (.int i0),u5,some (.int many),some (.bl gr),u8,u9,u10,u11]/\z0d H H3/\H3 lo=some (.lst (o.map (nV nm)))/\H3 lm=some (.dK kvs)/\MkN nm K H3 o f kvs/\FK f /\
    ((gr=true/\o.length+2<=m+many/\many<=o.length/\z56 rows o m many f=z5Y rows)\/(gr=false/\f=z5Y rows)),
   ⟨rows.length+2,_,0,true,lm,kvs,_,_,_,_,rfl,t2,glo,glm,mk2,hF0,.inl ⟨rfl,by lia,by lia,by unfold z5Y;rw[eoo]⟩⟩,?_⟩
  clear glm mk2;rintro m σ H3 ⟨f,many,gr,lm,kvs,u8,u9,u10,u11,rfl,t3,elo,elm,mk3,hf,alt⟩;refine(exA rfl (exA rfl (z4h (fun c=>?_) (fun c=>?_))))
  .obtain⟨_,hm1,hm2,hsl⟩:=alt.resolve_right fun z=>by rw[z.1]at c;cases c
   clear alt;refine zed fun N nx2=>?_;intro lk hlk ob0 g0 lf hlf;have s4:=z04 (o:=ob0) (z0d.refl H3) hlk;have hlf0:H3 lf=none:=s4.free hlf;have nkf:lk≠lf:=z0f z01 hlf;have s5:=z04 (o:=HO.dK []) s4 hlf;refine⟨_,rfl,lo,rfl,⟨_,SqL.of (s5 _ _ elo)⟩,z5t (xs:=o.map (nV nm)) (fun i σ H4=>∃(u10 u11:Option V)(kv4:List (Key × V)),σ=[some (.ref a),some (.int (nm 0)),some (.ref lo),some (.ref lm),some (.int i0),u5,some (.int many),some (.bl gr),some (.ref lk),some (.ref lf),u10,u11]/\z0d H3 H4/\DD P w K H4 lk (prs id (z0w ((z2p rows o f).take i)))/\H4 lf=some (.dK kv4)/\MkN nm K H4 (o.take i) (z3l rows o f) kv4)
    ⟨_,_,[],rfl,s5,?_,z01,MkN.nil⟩ (fun i σ H4 _ h=>by obtain⟨_,_,_,_,t4,_⟩:=h;exact SqL.of (t4 _ _ elo)) (fun i x σ H4 hx h Ed nx3=>?_) (fun σ H4 h=>?_)⟩
   .exact g0.mono (z04 (z0d.refl _) hlf)
   .obtain⟨u10,u11,kv4,rfl,t4,g4,elf,mk4⟩:=h;have hil:i<o.length:=by have:=(y05.mp hx).1;rwa [y01]at this
    have eo:o[i]?=some o[i]:=y00 hil;have hro:o[i]∈o:=y0c hil;have hnew:o[i]∉o.take i:=zb1 L.nd eo;generalize o[i]=r at eo hro hnew;have ex:x=V.int (nm r):=by rw[y04,eo]at hx;exact(y07 hx).symm
    subst ex;obtain⟨r0,r1⟩:=L.rg r hro;have t34:=t3.trans t4;obtain⟨nr0,vr,evr,dvr⟩:=da r r0 r1;obtain⟨t,b,cc,rfl,et,eb,ec⟩:=z1d (dvr.mono t34);dsimp only[z7N]at eb ec;have hgl:=GM.len _ (z0c r0 r1);have hgo:=cl r hro;obtain⟨v,hv,dv⟩:=mk3.get ni hro;have gm:z4F H4 lm (V.int (nm r)) (some v):=by rw[<-hv];exact z4F.k (k:=kN nm r) (t4 _ _ elm)
    have ekey:z1W rows f r=D.tup [f r,D.tup ((row rows r).2.map f)]:=rfl;have ks:=hf.key (rows:=rows) r;have esk:(z2p rows o f)[i]?=some (z1W rows f r):=by unfold z2p;rw[y04,eo];rfl
    have hidx:(((z0w ((z2p rows o f).take (i+1))).idxOf (z1W rows f r):Nat):Int)=z30 rows o f r:=by
     unfold z30;obtain⟨m2,e2⟩:=z0K ((z2p rows o f).drop (i+1)) (z0w ((z2p rows o f).take (i+1)));have e3:z0w (z2p rows o f)=z0w ((z2p rows o f).take (i+1))++m2:=by rw[<-e2];unfold z0w z08;rw[<-y2L,y0T]
     rw[e3,z55];refine z0A.mpr (.inr ?_);rw[y0v,esk];simp
    have hun:z0w ((z2p rows o f).take (i+1))=z2b (z0w ((z2p rows o f).take i)) (z1W rows f r):=by unfold z0w;rw[y0v,esk];exact z1w _ _ _
    have hund:(z0w ((z2p rows o f).take i)).Nodup:=z1S _ _ y2S;have hunl:(z0w ((z2p rows o f).take i)).length<=4000:=by have:=z3W ((z2p rows o f).take i);rw[y0s]at this;lia
    rw[hun]at hidx;generalize z0w ((z2p rows o f).take i)=un at *;generalize hgs:(row rows r).2=gs at *;dsimp only[zcx];refine zgx (fun σ' H'=>∃t7:Addr,σ'=[some (.ref a),some (.int (nm 0)),some (.ref lo),some (.ref lm),some (.int i0),u5,some (.int many),some (.bl gr),some (.ref lk),some (.ref lf),some (.int (nm r)),some (.ref t7)]/\z0d H4 H'/\Dr K H' (z1W rows f r) (.ref t7)) (fun Eq nxq=>?_) (fun σ' H7 p=>?_);rotate_left
    .obtain⟨t7,rfl,s47,dk⟩:=p;have g7:=g4.mono s47;have e7f:=s47 _ _ elf;have t7':=t4.trans s47;refine(exA rfl ⟨lk,exA rfl ⟨g7,exA rfl (exA rfl ⟨lk,exA rfl ⟨g7,_,_,g7,zcD ks dk,exA rfl (exA rfl ⟨lk,exB rfl ⟨g7,zcD ks dk,by rw[z20];exact z1F (by lia),fun ob g8=>?_⟩⟩)⟩⟩)⟩⟩);rw[zbq un _ hund]at g8;have k8:z1j H7 (upd H7 lk ob):=by
      obtain⟨xs,e0,_⟩:=g7;exact z1j.up (z1j.refl _) e0 (fun _ z=>by unfold zaB at z;cases z)
     have dk8:=dk.keyed k8 ks.1;have hval:z2N (prs id (z2b un (z1W rows f r))) (z1W rows f r)=some (V.int (z30 rows o f r)):=by have:=z25 (κ:=D) id (fun _ _ e=>e) (z2b un (z1W rows f r)) (z1W rows f r);rw[if_pos (zdK _ _),hidx]at this;exact this
     have e8f:upd H7 lk ob lf=some (.dK kv4):=by rw[z06 nkf.symm];exact e7f
     refine(exA rfl (exA rfl ⟨lk,_,exB rfl ⟨g8,zcD ks dk8,hval,exA rfl (exA rfl ⟨lf,exA rfl ⟨zcB.k (k:=kN nm r) e8f (by rw[mk4.len,y0s];exact z1F (by lia)),?_⟩⟩)⟩⟩));have k9:z1j (upd H7 lk ob) (upd (upd H7 lk ob) lf (.dK (z2c kv4 (kN nm r) (V.int (z30 rows o f r))))):=z1j.up (z1j.refl _) e8f (fun _ z=>by cases z);refine nx3 _ _ ⟨_,exB rfl ⟨z0a (z0a t7' hlk) hlf0,?_,z01,?_⟩⟩
     .rw[hun];exact DD.keyed g8 k9 (by rw[z06 nkf])
     .rw[y0v,eo];exact(mk4.mono s47).put ni hnew (((mk4.mono s47).keyed k8 (FK.int _)).keyed k9 (FK.int _)) (Dr.int _)
    refine(exA rfl (exA rfl ⟨lm,v,rfl,gm,exA rfl (exA rfl ⟨a,_,nm r,.ref t,rfl,rfl,Sa.mono t34,z27 nr0 evr,exD t _ _ (.ref cc) rfl rfl (SqT.of et) (z0L (j:=1) rfl) ⟨cc,rfl,⟨_,SqT.of ec⟩,fun l5 hl5=>z2i (xs:=(gs.map nm).map V.int) (fun j zs H5=>j<=gs.length/\zs.length=j/\z0d H4 H5/\DrL K H5 ((gs.take j).map f) zs) ⟨y0y _,rfl,z04 (z0d.refl H4) hl5,DrL.nil⟩ (fun j zs H5 _ h=>SqT.of (h.2.2.1 _ _ ec)) (by rw[y01,y01];exact z19 (by lia)) (fun j zs H5 h=>h.2.1) (fun j x zs H5 hx h hy5=>?_) (fun zs H5 h hy5=>?_)⟩⟩)⟩))
    .obtain⟨hj,hzl,s5',d5⟩:=h;have hjl:j<gs.length:=by have:=(y05.mp hx).1;rwa [y01,y01]at this
     have eg:gs[j]?=some gs[j]:=y00 hjl;have hgm:=hgo _ (y0c hjl);generalize gs[j]=gj at eg hgm;have ex:x=V.int (nm gj):=by rw[y04,y04,eg]at hx;exact(y07 hx).symm
     subst ex;obtain⟨vg,hvg,dvg⟩:=mk3.get ni hgm;have gmg:z4F H5 lm (V.int (nm gj)) (some vg):=by rw[<-hvg];exact z4F.k (k:=kN nm gj) (s5' _ _ (t4 _ _ elm))
     have kk:z1j H5 (upd H5 l5 (.lst (zs++[vg]))):=z1j.up (z1j.refl _) hy5 (fun _ z=>by cases z);refine(exA rfl (exA rfl ⟨lm,vg,rfl,gmg,hy5,hjl,by rw[y0a,hzl];rfl,z0a s5' hl5,?_⟩));rw[z1f _ eg];exact DrL.append (d5.keyed kk (hf.keyL _)) (DrL.one ((dvg.mono (t4.trans s5')).keyed kk (hf gj).1))
    .obtain⟨_,hzl,s5',d5⟩:=h;rw[y01,y01,y0A]at d5;refine⟨l5,exA rfl (.inl ⟨SqL.of hy5,fun t6 ht6=>⟨by show 2<=sizeLine;decide,fun t7 ht7=>?_⟩⟩)⟩;have s6:=z04 (o:=HO.tup zs) (z0d.refl H5) ht6;have s7:=z04 (o:=HO.tup [v,.ref t6]) s6 ht7;have s47:=s5'.trans s7;have nt6:t6≠t7:=z0f z01 ht7;have dk:Dr K (upd (upd H5 t6 (.tup zs)) t7 (.tup [v,.ref t6])) (z1W rows f r) (.ref t7):=by
      rw[ekey];exact Dr.tup z01 (DrL.cons (dv.mono (t4.trans s47)) (DrL.one (Dr.tup (by rw[z06 nt6];exact z01) (d5.mono s7))))
     exact nxq _ _ ⟨t7,rfl,s47,dk⟩
   .obtain⟨u10,u11,kv4,rfl,t4,g4,elf,mk4⟩:=h;rw[y01]at g4 mk4;rw[y0A]at mk4;rw[y0M (by unfold z2p;rw[y01];lia)]at g4;have hcl:=z7j rows o f;refine(exA rfl ⟨lk,exA rfl ⟨g4,exA rfl (exC rfl rfl (exA rfl ⟨lk,exA rfl ⟨g4,exA rfl ?_⟩⟩))⟩⟩);have hpl:(prs id (z0w (z2p rows o f))).length=z2L rows o f:=z20 _ _ _;cases m with
    |zero=>lia
    |succ m =>
     refine nx2 m _ _ (Nat.lt_succ_self m) ⟨z3l rows o f,z2L rows o f,decide ((many:Int)<(z2L rows o f:Nat)),lf,kv4,_,_,_,_,(by rw[<-hpl];rfl),t3.trans t4,t4 _ _ elo,elf,mk4,FK.int _,?_⟩;unfold z56 at hsl;by_cases hc:many<z2L rows o f
     .rw[if_pos hc]at hsl;exact .inl ⟨y1J (by lia),by lia,hcl,hsl⟩
     .rw[if_neg hc]at hsl;exact .inr ⟨y1o (by lia),hsl⟩
  .rcases alt with⟨hg,_⟩|⟨_,hfs⟩
   .exact absurd hg c
   refine(exA rfl (exA rfl (exA rfl ⟨a,lo,lm,n,rows,nm,us,o,kOf rows,kvs,rfl,Sa.mono t3,da.mono t3,ni,GM,hn,elo,elm,?_,L,cl,fun v H4 s4 d4=>?_⟩)))
   .rw[hfs,z66 rows]at mk3;exact mk3
   .refine q v H4 (t3.trans s4) ?_;unfold shr;rw[eoo];exact d4
 refine⟨fun m σ H2=>∃(i:Nat)(o:List Int)(u5:Option V)(kvs:List (Key × V)),m=rows.length+1-i/\σ=[some (.ref a),some (.int (nm 0)),some (.ref lo),some (.ref lm),some (.int i),u5,none,none,none,none,none,none]/\z0d H H2/\H2 lo=some (.lst (o.map (nV nm)))/\H2 lm=some (.dK kvs) /\
   MkN nm K H2 o (fun r=>D.its (row rows r).1) kvs/\z7d rows o/\i<=o.length/\bfs rows (rows.length+1-i) i o=z0b rows,
  ⟨_,0,[0],none,_,rfl,rfl,s3,?_,z01,?_,L0,by simp,rfl⟩,?_⟩
 .rw[z06 nlo,z06 nlo];exact z01
 .refine⟨[.ref b0],rfl,?_⟩;show DrL K _ [D.its (row rows 0).1] [.ref b0];exact DrL.one (Dr.tup (by rw[z06 (z47 eb0 z01 (by intro z;cases z))];exact eb0) (DrL.ints _))
 rintro m σ H2 ⟨i,o,u5,kvs,rfl,rfl,t2,glo,glm,mk2,L,hi,hb⟩;have hol2:(o.map (nV nm)).length=o.length:=y01 _;refine(exA rfl (exA rfl (exG lo rfl (.inl (SqL.of glo)) (exC rfl rfl (exA rfl (z4h (fun c=>?_) (fun c=>?_)))))))
 .have c':=y14 c;rw[hol2]at c';have hio:i<o.length:=by lia
  have eo:o[i]?=some o[i]:=y00 hio;have hro:o[i]∈o:=y0c hio;generalize o[i]=r at eo hro;obtain⟨r0,r1⟩:=L.rg r hro;obtain⟨nr0,v,ev,dv⟩:=da r r0 r1;obtain⟨t,b,cc,rfl,et,eb,ec⟩:=z1d (dv.mono t2);dsimp only[z7N]at eb ec;have hrow:=z0c r0 r1;have hgl:=GM.len _ hrow;have hgo:=GM.go _ hrow;have hlen:=L.len;refine zed fun N nx2=>?_;refine(exA rfl (exA rfl (exA rfl (exD lo _ _ (V.int (nm r)) rfl rfl (SqL.of glo) (z0L (by rw[y04,eo];rfl)) ⟨a,_,nm r,.ref t,rfl,rfl,Sa.mono t2,z27 nr0 ev,exD t _ _ (.ref cc) rfl rfl (SqT.of et) (z0L (j:=1) rfl) ⟨cc,rfl,⟨_,SqT.of ec⟩,?_⟩⟩))));generalize hgs:(row rows r).2=gs at *;refine zgA (xs:=(gs.map nm).map V.int) (fun j σ H3=>∃(u:Option V)(kv3:List (Key × V)),σ=[some (.ref a),some (.int (nm 0)),some (.ref lo),some (.ref lm),some (.int i),u,none,none,none,none,none,none]/\z0d H H3/\z1j H2 H3/\H3 lo=some (.lst ((z08 o (gs.take j)).map (nV nm)))/\H3 lm=some (.dK kv3)/\MkN nm K H3 (z08 o (gs.take j)) (fun r=>D.its (row rows r).1) kv3)
   ⟨_,kvs,rfl,t2,z1j.refl _,glo,glm,mk2⟩ (fun j σ H3 _ h=>by obtain⟨_,_,_,_,k3,_⟩:=h;exact SqT.of (k3 _ _ ec)) (fun j x σ H3 hx h Ed nx3=>?_) (fun σ H3 h=>?_)
  .obtain⟨u,kv3,rfl,t3,k3,e1,e2,mk3⟩:=h;have hjl:j<gs.length:=by have:=(y05.mp hx).1;rwa [y01,y01]at this
   have eg:gs[j]?=some gs[j]:=y00 hjl;obtain⟨g0,g1⟩:=hgo _ (y0c hjl);generalize gs[j]=gj at eg g0 g1;have ex:x=V.int (nm gj):=by rw[y04,y04,eg]at hx;exact(y07 hx).symm
   subst ex;have et':z08 o (gs.take (j+1))=z2b (z08 o (gs.take j)) gj:=by rw[y0v,eg];exact z1w _ _ _
   have hal:(z08 o (gs.take j)).length<=4500:=by have:=z21 (gs.take j) o;rw[y0s]at this;lia
   generalize z08 o (gs.take j)=oj at *;refine(exA rfl (exA rfl ⟨lm,exA rfl ⟨z4F.k (k:=kN nm gj) e2,exA rfl ?_⟩⟩));by_cases hm:gj∈oj
   .obtain⟨v',hv',_⟩:=mk3.get ni hm;rw[hv'];refine z8e (nx3 _ _ ⟨_,kv3,rfl,t3,k3,?_,e2,?_⟩)
    .rw[et',z0o hm];exact e1
    .rw[et',z0o hm];exact mk3
   .rw[mk3.no ni hm];have nlop:lo≠lm:=nlo;obtain⟨ng0,v',ev',dv'⟩:=da gj g0 g1;obtain⟨t',b',c'',rfl,et'',eb'',ec''⟩:=z1d (dv'.mono t3);refine zez (exA rfl (exA rfl ⟨a,_,nm gj,.ref t',rfl,rfl,Sa.mono t3,z27 ng0 ev',exD t' _ _ (.ref b') rfl rfl (SqT.of et'') (z0L (j:=0) rfl) (exA rfl (exA rfl ⟨lm,exA rfl ⟨zcB.k (k:=kN nm gj) e2 (by rw[mk3.len];exact z1F (by lia)),?_⟩⟩))⟩));have e1':upd H3 lm (.dK (z2c kv3 (kN nm gj) (V.ref b'))) lo=some (.lst (oj.map (nV nm))):=by rw[z06 nlop];exact e1
    refine(exA rfl ⟨.inl ⟨rfl,_,SqL.of e1'⟩,exA rfl ⟨lo,exC rfl rfl ⟨e1',by rw[y01];exact z1F (by lia),?_⟩⟩⟩);have kk:z1j H3 (upd (upd H3 lm (.dK (z2c kv3 (kN nm gj) (V.ref b')))) lo (.lst (oj.map (nV nm)++[V.int (nm gj)]))):=z1j.up (z1j.up (z1j.refl _) e2 (fun _ z=>by cases z)) e1' (fun _ z=>by cases z);refine nx3 _ _ (exB rfl ⟨z0a (z0a t3 hlm0) hlo,k3.trans kk,?_,(by rw[z06 nlo.symm];exact z01),?_⟩)
    .rw[z01,et',z0p hm,y0e];rfl
    .rw[et',z0p hm];exact mk3.put ni hm (mk3.keyed kk hF0) (Dr.tup (kk _ _ eb'') (DrL.ints _))
  .obtain⟨u,kv3,rfl,t3,k3,e1,e2,mk3⟩:=h;rw[y01,y01,y0A]at e1 mk3;obtain⟨mm,em⟩:=z41 rows (rows.length+1-(i+1)) (i+1) (z08 o gs);have hb':bfs rows (rows.length+1-(i+1)) (i+1) (z08 o gs)=z0b rows:=by
    rw[<-hb,show rows.length+1-i=(rows.length+1-(i+1))+1 by lia,z36 eo,hgs]
   have L':z7d rows (z08 o gs):=by rw[<-hgs];exact L.add GM hro
   obtain⟨m1,em1⟩:=z0K gs o;have hi':i+1<=(z08 o gs).length:=by rw[em1,y0a];lia
   exact(exA rfl (exC rfl rfl (nx2 (rows.length+1-(i+1)) _ _ (by lia) ⟨i+1,z08 o gs,_,kv3,rfl,rfl,t3,e1,e2,mk3,L',hi',hb'⟩)))
 have c':=y1n (y1g.mpr c);rw[hol2]at c';have eoo:z0b rows=o:=by rw[<-hb];exact z35 (by lia)
 exact nx _ _ ⟨_,o,u5,kvs,rfl,t2,glo,glm,mk2,L,eoo⟩
abbrev nBo:List Str:=["_law_one","_law_other","_law_told"]
def zgz:z0q nBo ["_law_one","_law_other"] (z05 zcO):={}
def zf4{Ct:Addr}{bmB:List Value}{newId:String}{Ts:List Tb}(mC:mg "TooMany"=some (.ref Ct))(xC:PySem.W.excIn K Ct bmB newId=true)(hB:bmB.contains (.type "BaseException")=true)(F:Fun K "_law_both" "_law_both" zcO f fd){aW:Addr}{dW:FuncData}(W:z0C P w K mg base (CXx P w) 7 aW dW ["one","other"] (z6G Ts K Ct))(bW:z0t K dW ["one","other"] [])(kW:PySem.W.keepIn K (.ref aW)=true)(mW:mg "joined"=some (.ref aW)):z0C P w K mg base (CXx P w) 8 f fd ["_law_one","_law_other"] (zcz Ts K):=by
 refine F.okc zgz (fun vs H Q E h=>?_) (fun cdv A outer s H vs Q E hr h=>?_)
 .obtain⟨v,a,n,first,gs,rfl,_⟩:=h;rfl
 obtain⟨v1,v2,n,one,other,rfl,hTb,d1,d2,G1,G2,hn,h4,gv⟩:=h;refine⟨_,z02 (z0k (i:=2) zgz.nd rfl (Or.inl rfl) zc3)
  (z02 (zgc rfl rfl mC rfl xC hB (fun pn E1 D pass=>(z07 (z0k (i:=2) zgz.nd rfl (Or.inl rfl) (z0j W hr rfl mW kW bW .nil pass (z00 (pv 0) (z00 (pv 1) z03)))))) (fun e=>(z07 (z0k (i:=2) zgz.nd rfl (Or.inl rfl) zc3))))
  (z07 (z0D (pv 2)))),?_⟩
 refine(exA rfl (exA rfl ⟨v1,v2,n,one,other,rfl,hTb,d1,d2,G1,G2,hn,h4,fun h0 x H1 s1 dx=>(exA rfl (gv x H1 s1 (by rw[z4A h0];exact dx))),fun h0 ea H1 s1=>⟨rfl,fun σ hσ=>⟨.non,?_,gv .non H1 s1 (by rw[z6S h0];simp only[Dr])⟩⟩⟩));have hσ3:σ.length=3:=hσ;show(σ.set 2 (some V.non))[2]?=_;rw[y2q (by lia)]
abbrev zhM:List Str:=["letters","word"]
def zhf:z0q zhM ["letters","word"] (z05 z4K):={}
def zfy:z0W zhM (z05 z4K) ["letter","letters"] [none,some 0] (csc [(".0",.local),("letter",.local),("letters",.free)]):={}
def zdV(n:Nat)(l:Int):Bool:=!(decide (0<=l)&&decide (l<(n:Int)))
def z9C{n:Nat}{w:List Int}:((w.map (zdV n)).any _root_.id=true)↔¬LW n w:=by
 unfold LW zdV;rw[List.any_map];simp only[y1S,Function.comp,_root_.id,Bool.not_eq_true',Bool.and_eq_false_iff,y3b];constructor
 .rintro⟨x,hx,h⟩ z;have:=z x hx;lia
 .intro h;apply y1M;intro h2;exact h fun l hl=>y1M fun h3=>h2 ⟨l,hl,by lia⟩
def zbW{Ct:Addr}{bmB:List Value}{B newId initId:String}(mC:mg "BadWord"=some (.ref Ct))(xC:PySem.W.excIn K Ct bmB newId=true)(hB:ExcBaseFacts B newId initId bmB)(F:Fun K "check_word" "check_word" z4K f fd)(many:mg "any"=none):z0C P w K mg base (CXx P w) 1 f fd ["letters","word"] (z6M K Ct):=by
 refine F.okx zhf (fun vs H Q E h=>?_) (fun cdv A outer s H vs Q E hr h=>?_)
 .obtain⟨n,u,w,rfl,_⟩:=h;rfl
 obtain⟨n,u,w,rfl,dw,h5,q,qx⟩:=h;obtain⟨a,rfl,ea⟩:=Dr.its_inv dw;refine⟨_,z07 (z2x (zbv (z0n (zi2 K rfl rfl) rfl many PyProof.Rows.boot_any (z00 (z1e rfl zfy (z2y (pv 1)) (fun _ _ _ _ _=>z09 (i:=0) zfy.nd rfl (Or.inl rfl)) (fun _ _ _ _ _=>zgb (zd8 zaF z6t z0h (pv 0) (pv 1)))) z03))) (z07 (z9a mC rfl xC hB zdZ)) z1a),?_⟩;refine(exA rfl ⟨a,rfl,⟨_,SqT.of ea⟩,fun l hl0=>z2i (xs:=w.map V.int) (fun i ys H4=>i<=w.length/\ys=((w.take i).map (zdV n)).map V.bl/\z0d H H4) ⟨y0y _,rfl,z04 (z0d.refl H) hl0⟩ (fun i ys H4 _ h=>SqT.of (h.2.2 _ _ ea)) (by rw[y01];exact z19 (by lia)) (fun i ys H4 h=>?_) (fun i x ys H4 hx h hy=>?_) (fun ys H4 h hy=>?_)⟩)
 .obtain⟨_,rfl,_⟩:=h;rw[y01,y01,y0s];lia
 .obtain⟨_,rfl,s4⟩:=h;have hil:i<w.length:=by have:=(y05.mp hx).1;rwa [y01]at this
  have eg:w[i]?=some w[i]:=y00 hil;generalize w[i]=gi at eg;have ex:x=V.int gi:=by rw[y04,eg]at hx;exact(y07 hx).symm
  subst ex;have et:(w.take (i+1)).map (zdV n)=(w.take i).map (zdV n)++[zdV n gi]:=z1f _ eg;refine(exA rfl (exC rfl rfl (exA rfl (z4h (fun c=>(exA rfl (exC rfl rfl (exA rfl ⟨hy,hil,?_,z0a s4 hl0⟩)))) (fun c=>(exA rfl ⟨hy,hil,?_,z0a s4 hl0⟩))))))
  .rw[et,y0e];have c':=y14 c;unfold zdV;rw[y1J c',Bool.true_and];rfl
  .rw[et,y0e];have c':=y1n (y1g.mpr c);unfold zdV;rw[y1o c',Bool.false_and];rfl
 .obtain⟨_,rfl,s4⟩:=h;refine⟨l,exA rfl ⟨SqL.of hy,exA rfl (z4h (fun c=>?_) (fun c=>?_))⟩⟩
  .rw[y01,y0A]at c;exact fun e=>qx (z9C.mp c) e H4 s4
  .rw[y01,y0A]at c;exact q (Decidable.byContradiction fun z=>c (z9C.mpr z)) H4 s4
abbrev nRf:List Str:=["guise","row","word","made","at","letter","rearranging","goings"]
def zei:z0q nRf ["guise","row","word"] (z05 z9I):={}
def zd1(F:Fun K "read_from" "read_from" z9I f fd)(mt:mg "tuple"=none):z0C P w K mg base CX 1 f fd ["guise","row","word"] (z8z K):=by
 refine F.okc zei (fun vs H Q E h=>?_) (fun cdv A outer s H vs Q E hr h=>?_)
 .obtain⟨v,u,rows,n,wd,s0,rfl,_⟩:=h;rfl
 obtain⟨v,u,rows,n,wd,s0,rfl,dv,dw,GM,hn,h5,hw,h0,h1,q⟩:=h;obtain⟨av,us,rfl,eav,dus⟩:∃(av:Addr)(us:List V),v=.ref av/\H av=some (.tup us)/\DrL K H (z0i rows) us:=by simp only[Dr]at dv;exact dv
 obtain⟨aw,rfl,eaw⟩:=Dr.its_inv dw;refine⟨_,z02 (z0k (i:=3) zei.nd rfl (Or.inl rfl) (z1B z03))
  (z02 (z0k (i:=4) zei.nd rfl (Or.inl rfl) (pv 1))
  (z02 (z1r y0I rfl (z2y (pv 2)) (z09 (i:=5) zei.nd rfl (Or.inl rfl))
   (z02 (z2U (z1c z24 (pv 0) (pv 4) (fun _ _=>rfl)) (z2l rfl (z0l (z09 (i:=6) zei.nd rfl (Or.inl rfl)) (z0l (z09 (i:=7) zei.nd rfl (Or.inl rfl)) z1b))))
   (z02 (z1x (z3o y0J y0N y0O z0R (pv 3) (z00 (z1c z24 (pv 6) (pv 5) (fun _ _=>rfl)) z03)))
   (z07 (z0k (i:=4) zei.nd rfl (Or.inl rfl) (z1c z24 (pv 7) (pv 5) (fun _ _=>rfl)))))))
  (z07 (z0D (z1Z (z00 (z0B z0s rfl mt y0F (z00 (pv 3) z03)) (z00 (pv 4) z03))))))),?_⟩
 refine⟨by show 0<=sizeLine;decide,fun lm hlm=>?_⟩;have s1:=z04 (o:=HO.lst []) (z0d.refl H) hlm;refine⟨_,rfl,_,rfl,aw,rfl,⟨_,SqT.of (s1 _ _ eaw)⟩,zaU (xs:=wd.map V.int) (fun i σ H3=>∃(u5 u6 u7:Option V),σ=[some (.ref av),some (.int s0),some (.ref aw),some (.ref lm),some (.int (goW rows s0 (wd.take i))),u5,u6,u7]/\z0d H H3/\H3 lm=some (.lst ((z1E rows s0 (wd.take i)).map V.int)))
  ⟨_,_,_,rfl,s1,z01⟩ (fun i σ H3 _ h=>by obtain⟨_,_,_,_,t3,_⟩:=h;exact SqT.of (t3 _ _ eaw)) (fun i x σ H3 hx h=>?_) (fun σ H3 h=>?_)⟩
 .obtain⟨u5,u6,u7,rfl,t3,em⟩:=h;have hil:i<wd.length:=by have:=(y05.mp hx).1;rwa [y01]at this
  have eg:wd[i]?=some wd[i]:=y00 hil;obtain⟨l0,l1⟩:=hw _ (y0c hil);generalize wd[i]=l at eg l0 l1;have ex:x=V.int l:=by rw[y04,eg]at hx;exact(y07 hx).symm
  subst ex;have hwt:LW n (wd.take i):=fun x hx=>hw x (y10 hx);obtain⟨g0,g1⟩:=z1I GM hwt h0 h1;have est:goW rows s0 (wd.take (i+1))=(row rows (goW rows s0 (wd.take i))).2.getD l.toNat 0:=by rw[y0v,eg,Option.toList,z2W];rfl
  have eot:z1E rows s0 (wd.take (i+1))=z1E rows s0 (wd.take i)++[(row rows (goW rows s0 (wd.take i))).1.getD l.toNat 0]:=by rw[y0v,eg,Option.toList,z1Q];rfl
  have hol:(z1E rows s0 (wd.take i)).length=i:=by rw[z1O,y0s];lia
  rw[est,eot];generalize z1E rows s0 (wd.take i)=ms at em hol;generalize goW rows s0 (wd.take i)=g at g0 g1;obtain⟨vr,evr,dvr⟩:=z2m dus (z2Y g0 g1);obtain⟨t,b',c',rfl,et,eb,ec⟩:=z1d (dvr.mono t3);have hgl:=GM.len _ (z0c g0 g1);have hpl:=(GM.perm _ (z0c g0 g1)).len;have hll:l.toNat<(row rows g).2.length:=by lia
  have hl1:l.toNat<(row rows g).1.length:=by lia
  refine(exA rfl (exA rfl (exD av _ g (.ref t) rfl rfl (SqT.of (t3 _ _ eav)) (z27 g0 evr) (exF t rfl (SqT.of et) rfl (exB rfl (exC rfl rfl ?_))))));refine(exA rfl ⟨.inl ⟨rfl,_,SqL.of em⟩,exA rfl (exA rfl (exD b' _ l (V.int ((row rows g).1.getD l.toNat 0)) rfl rfl (SqT.of eb) (z27 l0 ?_) ⟨lm,exC rfl rfl ⟨em,z1F (by rw[y01];lia),?_⟩⟩))⟩)
  .rw[y04,y02,y00 hl1];rfl
  have kk:z1j H3 (upd H3 lm (.lst (ms.map V.int++[V.int ((row rows g).1.getD l.toNat 0)]))):=z1j.up (z1j.refl _) em (fun _ z=>by cases z);have t4:z0d H (upd H3 lm (.lst (ms.map V.int++[V.int ((row rows g).1.getD l.toNat 0)]))):=z0a t3 hlm;refine(exA rfl (exA rfl (exD c' _ l (V.int ((row rows g).2.getD l.toNat 0)) rfl rfl (SqT.of (kk _ _ ec)) (z27 l0 ?_) ⟨_,exB rfl ⟨t4,?_⟩⟩)))
  .rw[y04,y02,y00 hll];rfl
  .rw[y0e];exact z01
 .obtain⟨u5,u6,u7,rfl,t3,em⟩:=h;rw[y01,y0A]at *;refine(exA rfl ⟨lm,exA rfl (.inl ⟨SqL.of em,fun t ht=>(exA rfl ⟨by show 2<=sizeLine;decide,fun r hr'=>?_⟩)⟩)⟩);exact q r t _ (z04 (z04 t3 ht) hr') z01 (z04 (z0d.refl _) hr' _ _ z01)
end
structure FA(K:yyF)(f:Addr)(x:Str)(st:Stmt):Prop where
 a:PySem.W.nsIn K mainGlobals x=some (some (.ref f))
 l:∃oc od kV dc pm an cd ct sl,K.lookup f=some ⟨oc,od,.func (PySem.W.fnOf x x (z1D st) (z0M st) (z05 st) .none kV dc pm an cd ct),sl⟩/\PySem.W.codeIn K cd x=true
 k:PySem.W.keepIn K (.ref f)=true
def FA.of{K:yyF}{f:Addr}{x:Str}{st:Stmt}{oc kV dc pm cd ct:Value}{od an:Option Addr}{sl:Array (Option Value)}(a:PySem.W.nsIn K mainGlobals x=some (some (.ref f)))(l:K.lookup f=some ⟨oc,od,.func (PySem.W.fnOf x x (z1D st) (z0M st) (z05 st) .none kV dc pm an cd ct),sl⟩)(c:PySem.W.codeIn K cd x=true)(k:PySem.W.keepIn K (.ref f)=true):FA K f x st:=⟨a,⟨_,_,_,_,_,_,_,_,_,l,c⟩,k⟩
def FA.go{K:yyF}{f:Addr}{x:Str}{st:Stmt}{h:Heap}{mg:yyS}(A:FA K f x st)(X:K.In h)(G:h.Ns mainGlobals mg):∃fd,Fun K x x st f fd/\mg x=some (.ref f)/\PySem.W.keepIn K (.ref f)=true:=by obtain⟨a,⟨_,_,_,_,_,_,_,_,_,l,c⟩,k⟩:=A;exact⟨_,z68 l c k,y1Y X G a,k⟩
abbrev fnY(x:Str)(st:Stmt)(kV dc pm:Value)(an:Option Addr)(cd ct:Value):=PySem.W.fnOf x x (z1D st) (z0M st) (z05 st) .none kV dc pm an cd ct
section
variable{K:yyF}{x:Str}{st:Stmt}{f:Addr}{fd:FuncData}
def zf9{a:Str}(F:Fun K x x st f fd)(h:∀(kV dc pm:Value)(an:Option Addr)(cd ct u:Value),bindArgs (fnY x st kV dc pm an cd ct) ⟨[u],[]⟩=pure [(a,u)]):z0t K fd [a] []:=F.binds fun _ _ _ _ _ _ us hl=>by obtain⟨_,rfl⟩:=zew hl;exact h _ _ _ _ _ _ _
def z7y{a b:Str}(F:Fun K x x st f fd)(h:∀(kV dc pm:Value)(an:Option Addr)(cd ct u v:Value),bindArgs (fnY x st kV dc pm an cd ct) ⟨[u,v],[]⟩=pure [(a,u),(b,v)]):z0t K fd [a,b] []:=F.binds fun _ _ _ _ _ _ us hl=>by obtain⟨_,_,rfl⟩:=zgC hl;exact h _ _ _ _ _ _ _ _
def zhg{a b c:Str}(F:Fun K x x st f fd)(h:∀(kV dc pm:Value)(an:Option Addr)(cd ct u v w:Value),bindArgs (fnY x st kV dc pm an cd ct) ⟨[u,v,w],[]⟩=pure [(a,u),(b,v),(c,w)]):z0t K fd [a,b,c] []:=F.binds fun _ _ _ _ _ _ us hl=>by obtain⟨_,_,_,rfl⟩:=zhU hl;exact h _ _ _ _ _ _ _ _ _
end
abbrev z8R(P4 P21 P14 P12:Addr):List Tb:=[⟨P4,z4V (z0M z5B),("section_at.<locals>."++"<lambda>":Str)⟩,⟨P21,z8y (z0M z5E),("crew.<locals>."++"<lambda>":Str)⟩,⟨P14,z4V (z0M z5D),("back.<locals>."++"<lambda>":Str)⟩,⟨P12,z4V (z0M z2n),("joined.<locals>."++"<lambda>":Str)⟩]
def all_mk{l:PySem.W.OpenLaw}{w:World}{K:yyF}{h:Heap}{mg:yyS}{fa f1 f2 f3 f4 f5 f6 f7 f8 f9 f10 f11 f12 f13 f14 f15 f16 f17 f18 f19 f20 f21 f22 f23 f24 f25 f26 f27 f28 f29 f30 f31 f32:Addr}(X:K.In h)(G:h.Ns mainGlobals mg)(hfa:mg "law"=some (.ref fa)){od4 an4 od12 an12 od14 an14 od21 an21 od32 an32:Option Addr}{sl4 sl12 sl14 sl21 sl32:Array (Option Value)}{tk1:Tok}{oc4 kV4 dc4 pm4 ct4 oc12 kV12 dc12 pm12 ct12 oc14 kV14 dc14 pm14 ct14 oc21 kV21 dc21 pm21 ct21 oc32 kV32 dc32 pm32 ct32 cd32:Value}{cc4 P4 cc21 P21 cc14 P14 cc12 P12:Addr}(h1:FA K f1 "turned" z4M)(h2:FA K f2 "undone" z6s)(h3:FA K f3 "breadth" z4u)(a4:PySem.W.nsIn K mainGlobals "section_at"=some (some (.ref f4)))(l4:K.lookup f4=some ⟨oc4,od4,.func (PySem.W.fnOf "section_at" "section_at" (z1D z5B) (z0M z5B) (z05 z5B) .none kV4 dc4 pm4 an4 (.ref cc4) ct4),sl4⟩)(c4:PySem.W.codeIn K (.ref cc4) "section_at"=true)(k4:PySem.W.keepIn K (.ref f4)=true)(h5:FA K f5 "read_from" z9I)(h6:FA K f6 "least_form" z9x)(h7:FA K f7 "rows_come_to" z6K)(h8:FA K f8 "kinds_of_rows" z61)(h9:FA K f9 "kinds_gone_to" zaL)(h10:FA K f10 "numbered" z2t)(h11:FA K f11 "check_word" z4K)(a12:PySem.W.nsIn K mainGlobals "joined"=some (some (.ref f12)))(l12:K.lookup f12=some ⟨oc12,od12,.func (PySem.W.fnOf "joined" "joined" (z1D z2n) (z0M z2n) (z05 z2n) .none kV12 dc12 pm12 an12 (.ref cc12) ct12),sl12⟩)(c12:PySem.W.codeIn K (.ref cc12) "joined"=true)(k12:PySem.W.keepIn K (.ref f12)=true)(h13:FA K f13 "joined_row" z2q)(a14:PySem.W.nsIn K mainGlobals "back"=some (some (.ref f14)))(l14:K.lookup f14=some ⟨oc14,od14,.func (PySem.W.fnOf "back" "back" (z1D z5D) (z0M z5D) (z05 z5D) .none kV14 dc14 pm14 an14 (.ref cc14) ct14),sl14⟩)(c14:PySem.W.codeIn K (.ref cc14) "back"=true)(k14:PySem.W.keepIn K (.ref f14)=true)(h15:FA K f15 "row_back" z3z)(h16:FA K f16 "behind" z70)(h17:FA K f17 "sections" z2X)(h18:FA K f18 "lasting" z3M)(h19:FA K f19 "comes_again" z4N)(h20:FA K f20 "gone_to" z7c)(a21:PySem.W.nsIn K mainGlobals "crew"=some (some (.ref f21)))(l21:K.lookup f21=some ⟨oc21,od21,.func (PySem.W.fnOf "crew" "crew" (z1D z5E) (z0M z5E) (z05 z5E) .none kV21 dc21 pm21 an21 (.ref cc21) ct21),sl21⟩)(c21:PySem.W.codeIn K (.ref cc21) "crew"=true)(k21:PySem.W.keepIn K (.ref f21)=true)(h22:FA K f22 "_law_cell" zdj)(h23:FA K f23 "_law_letters" z4C)(h24:FA K f24 "_law_in_line" z5n)(h25:FA K f25 "_law_shrunk" z45)(h26:FA K f26 "_law_numbers" z4x)(h27:FA K f27 "_law_rearranged" zdx)(h28:FA K f28 "_law_rows" z91)(h29:FA K f29 "_law_guise" z9A)(h30:FA K f30 "_law_each_two" z3w)(h31:FA K f31 "_law_both" zcO)(a32:PySem.W.nsIn K mainGlobals "law"=some (some (.ref f32)))(l32:K.lookup f32=some ⟨oc32,od32,.func (PySem.W.fnOf "law" "law" (z1D zab) (z0M zab) (z05 zab) .none kV32 dc32 pm32 an32 cd32 ct32),sl32⟩)(c32:PySem.W.codeIn K cd32 "law"=true)(k32:PySem.W.keepIn K (.ref f32)=true)(t4:PySem.W.codeHdIn K cc4 P4=true)(u4:K.lookup P4=none)(t21:PySem.W.codeHdIn K cc21 P21=true)(u21:K.lookup P21=none)(t14:PySem.W.codeHdIn K cc14 P14=true)(u14:K.lookup P14=none)(t12:PySem.W.codeHdIn K cc12 P12=true)(u12:K.lookup P12=none)(nP:([P4,P21,P14,P12]:List Addr).Nodup)(i1:PySem.W.nsIn K mainGlobals "MOST_FORM_ROWS"=some (some (.int 60 tk1)))(z1:PySem.W.nsIn K mainGlobals "len"=some none)(z2:PySem.W.nsIn K mainGlobals "tuple"=some none)(z3:PySem.W.nsIn K mainGlobals "list"=some none)(z4:PySem.W.nsIn K mainGlobals "range"=some none)(z5:PySem.W.nsIn K mainGlobals "isinstance"=some none)(z6:PySem.W.nsIn K mainGlobals "int"=some none)(z7:PySem.W.nsIn K mainGlobals "bool"=some none)(z8:PySem.W.nsIn K mainGlobals "str"=some none)(z9:PySem.W.nsIn K mainGlobals "all"=some none)(z10:PySem.W.nsIn K mainGlobals "any"=some none)(z11:PySem.W.nsIn K mainGlobals "sorted"=some none)(z12:PySem.W.nsIn K mainGlobals "zip"=some none)(z13:PySem.W.nsIn K mainGlobals "max"=some none)(z14:PySem.W.nsIn K mainGlobals "min"=some none)(z15:PySem.W.nsIn K mainGlobals "enumerate"=some none)(z16:PySem.W.nsIn K mainGlobals "abs"=some none){CtTooMany:Addr}(yTooMany:PySem.W.nsIn K mainGlobals "TooMany"=some (some (.ref CtTooMany)))(xTooMany:PySem.W.excIn K CtTooMany [.type "ValueError",.type "Exception",.type "BaseException",.type "object"] "ValueError.__new__"=true){CtBadWord:Addr}(yBadWord:PySem.W.nsIn K mainGlobals "BadWord"=some (some (.ref CtBadWord)))(xBadWord:PySem.W.excIn K CtBadWord [.type "ValueError",.type "Exception",.type "BaseException",.type "object"] "ValueError.__new__"=true): ∃fd:FuncData,(∀(s:Shared) (v:Value),BindsTo s fd ⟨[v],[]⟩ [("_law_script",v)])/\(∀T∈(z8R P4 P21 P14 P12),K.lookup T.at_=none/\∃c,PySem.W.codeHdIn K c T.at_=true)/\∀base:Heap,K.In base->base.Ns mainGlobals mg->z43 base mg->z0C l.prog w K mg base (CXx l.prog w) 10 fa fd ["_law_script"] (z9B (z8R P4 P21 P14 P12) K):=by
 have e:=hfa.symm.trans (y1Y X G a32);cases e;obtain⟨d1,F1,m1,k1⟩:=h1.go X G;have b1:z0t K d1 ["one","other"] []:=z7y F1 fun _ _ _ _ _ _ _ _=>rfl;obtain⟨d2,F2,m2,k2⟩:=h2.go X G;have b2:z0t K d2 ["one"] []:=zf9 F2 fun _ _ _ _ _ _ _=>rfl;obtain⟨d3,F3,m3,k3⟩:=h3.go X G;have b3:z0t K d3 ["guise"] []:=zf9 F3 fun _ _ _ _ _ _ _=>rfl;have F4:=z68 (st:=z5B) l4 c4 k4;have b4:=F4.binds (ps:=["guise","row"]) fun _ _ _ _ _ _ us hl=>by obtain⟨a0,a1,rfl⟩:=zgC hl;rfl
 have m4:=y1Y X G a4;obtain⟨d5,F5,m5,k5⟩:=h5.go X G;have b5:z0t K d5 ["guise","row","word"] []:=zhg F5 fun _ _ _ _ _ _ _ _ _=>rfl;obtain⟨d6,F6,m6,k6⟩:=h6.go X G;have b6:z0t K d6 ["first","row_at"] []:=z7y F6 fun _ _ _ _ _ _ _ _=>rfl;obtain⟨d7,F7,m7,k7⟩:=h7.go X G;have b7:z0t K d7 ["first","row_at"] []:=z7y F7 fun _ _ _ _ _ _ _ _=>rfl;obtain⟨d8,F8,m8,k8⟩:=h8.go X G;have b8:z0t K d8 ["rows"] []:=zf9 F8 fun _ _ _ _ _ _ _=>rfl;obtain⟨d9,F9,m9,k9⟩:=h9.go X G;have b9:z0t K d9 ["kinds","goings"] []:=z7y F9 fun _ _ _ _ _ _ _ _=>rfl;obtain⟨d10,F10,m10,k10⟩:=h10.go X G;have b10:z0t K d10 ["things"] []:=zf9 F10 fun _ _ _ _ _ _ _=>rfl;obtain⟨d11,F11,m11,k11⟩:=h11.go X G;have b11:z0t K d11 ["letters","word"] []:=z7y F11 fun _ _ _ _ _ _ _ _=>rfl;have F12:=z68 (st:=z2n) l12 c12 k12;have b12:=F12.binds (ps:=["one","other"]) fun _ _ _ _ _ _ us hl=>by obtain⟨a0,a1,rfl⟩:=zgC hl;rfl
 have m12:=y1Y X G a12;obtain⟨d13,F13,m13,k13⟩:=h13.go X G;have b13:z0t K d13 ["one","other","pair"] []:=zhg F13 fun _ _ _ _ _ _ _ _ _=>rfl;have F14:=z68 (st:=z5D) l14 c14 k14;have b14:=F14.binds (ps:=["guise"]) fun _ _ _ _ _ _ us hl=>by obtain⟨a0,rfl⟩:=zew hl;rfl
 have m14:=y1Y X G a14;obtain⟨d15,F15,m15,k15⟩:=h15.go X G;have b15:z0t K d15 ["row"] []:=zf9 F15 fun _ _ _ _ _ _ _=>rfl;obtain⟨d16,F16,m16,k16⟩:=h16.go X G;have b16:z0t K d16 ["guise","word"] []:=z7y F16 fun _ _ _ _ _ _ _ _=>rfl;obtain⟨d17,F17,m17,k17⟩:=h17.go X G;have b17:z0t K d17 ["guise"] []:=zf9 F17 fun _ _ _ _ _ _ _=>rfl;obtain⟨d18,F18,m18,k18⟩:=h18.go X G;have b18:z0t K d18 ["guise"] []:=zf9 F18 fun _ _ _ _ _ _ _=>rfl;obtain⟨d19,F19,m19,k19⟩:=h19.go X G;have b19:z0t K d19 ["guise","row"] []:=z7y F19 fun _ _ _ _ _ _ _ _=>rfl;obtain⟨d20,F20,m20,k20⟩:=h20.go X G;have b20:z0t K d20 ["guise","rows"] []:=z7y F20 fun _ _ _ _ _ _ _ _=>rfl;have F21:=z68 (st:=z5E) l21 c21 k21;have b21:=F21.binds (ps:=["guises"]) fun _ _ _ _ _ _ us hl=>by obtain⟨a0,rfl⟩:=zew hl;rfl
 have m21:=y1Y X G a21;obtain⟨d22,F22,m22,k22⟩:=h22.go X G;have b22:z0t K d22 ["_law_script","_law_at"] []:=z7y F22 fun _ _ _ _ _ _ _ _=>rfl;obtain⟨d23,F23,m23,k23⟩:=h23.go X G;have b23:z0t K d23 ["_law_script","_law_at"] []:=z7y F23 fun _ _ _ _ _ _ _ _=>rfl;obtain⟨d24,F24,m24,k24⟩:=h24.go X G;have b24:z0t K d24 ["_law_rows_here","_law_line","_law_marks"] []:=zhg F24 fun _ _ _ _ _ _ _ _ _=>rfl;obtain⟨d25,F25,m25,k25⟩:=h25.go X G;have b25:z0t K d25 ["_law_rows_here","_law_start"] []:=z7y F25 fun _ _ _ _ _ _ _ _=>rfl;obtain⟨d26,F26,m26,k26⟩:=h26.go X G;have b26:z0t K d26 ["_law_cell_here","_law_many"] []:=z7y F26 fun _ _ _ _ _ _ _ _=>rfl;obtain⟨d27,F27,m27,k27⟩:=h27.go X G;have b27:z0t K d27 ["_law_pick","_law_letters_here"] []:=z7y F27 fun _ _ _ _ _ _ _ _=>rfl;obtain⟨d28,F28,m28,k28⟩:=h28.go X G;have b28:z0t K d28 ["_law_letters_here","_law_cell_here"] []:=z7y F28 fun _ _ _ _ _ _ _ _=>rfl;obtain⟨d29,F29,m29,k29⟩:=h29.go X G;have b29:z0t K d29 ["_law_letters_here","_law_cell_here"] []:=z7y F29 fun _ _ _ _ _ _ _ _=>rfl;obtain⟨d30,F30,m30,k30⟩:=h30.go X G;have b30:z0t K d30 ["_law_left","_law_right"] []:=z7y F30 fun _ _ _ _ _ _ _ _=>rfl;obtain⟨d31,F31,m31,k31⟩:=h31.go X G;have b31:z0t K d31 ["_law_one","_law_other"] []:=z7y F31 fun _ _ _ _ _ _ _ _=>rfl;have F32:=z68 (st:=zab) l32 c32 k32;have m32:=y1Y X G a32;have mTooMany:=y1Y X G yTooMany;have mBadWord:=y1Y X G yBadWord;have j1:=y1Y X G i1;have n_len:=y0U X G z1;have n_tuple:=y0U X G z2;have n_list:=y0U X G z3;have n_range:=y0U X G z4;have n_isinstance:=y0U X G z5;have n_int:=y0U X G z6;have n_bool:=y0U X G z7;have n_str:=y0U X G z8;have n_all:=y0U X G z9;have n_any:=y0U X G z10;have n_sorted:=y0U X G z11;have n_zip:=y0U X G z12;have n_max:=y0U X G z13;have n_min:=y0U X G z14;have n_enumerate:=y0U X G z15;have n_abs:=y0U X G z16;have B:Blt mg:=⟨n_len,n_tuple,n_list,n_range,n_isinstance,n_int,n_bool,n_str,n_all⟩;refine⟨PySem.W.fnOf "law" "law" (z1D zab) (z0M zab) (z05 zab) .none kV32 dc32 pm32 an32 cd32 ct32,fun s v=>.of_eq rfl,?_,fun base hK _ hBM=>?_⟩
 .simp only[z8R,List.forall_mem_cons];exact⟨⟨u4,cc4,t4⟩,⟨u21,cc21,t21⟩,⟨u14,cc14,t14⟩,⟨u12,cc12,t12⟩,fun _ h=>absurd h (by simp)⟩
 have O10:z0C l.prog w K mg base (CXx l.prog w) 1 f10 _ ["things"] (z4e K):=z8I F10 B.len;have O9:z0C l.prog w K mg base (CXx l.prog w) 1 f9 _ ["kinds","goings"] (z9W K):=zef F9 B.tup;have O8:z0C l.prog w K mg base (CXx l.prog w) 2 f8 _ ["rows"] (z77 K CtTooMany):=zbX mTooMany xTooMany y2O F8 n_zip n_max j1 O10 b10 k10 m10 O9 b9 k9 m9;have O2:z0C l.prog w K mg base (CXx l.prog w) 1 f2 _ ["one"] (z6u K):=zby F2 B.tup B.len n_enumerate;have O15:z0C l.prog w K mg base (CXx l.prog w) 2 f15 _ ["row"] (z5o K):=za8 F15 B.tup O2 b2 k2 m2;have O3:z0C l.prog w K mg base (CXx l.prog w) 1 f3 _ ["guise"] (z4W K):=za3 F3 B.len;have O7F:z0C l.prog w K mg base (CXx l.prog w) 5 f7 _ ["first","row_at"] (z8G l.prog w K mg base (CXx l.prog w) 4):=zdp F7 B.len B.tup;have O7P:z0C l.prog w K mg base (CXx l.prog w) 5 f7 _ ["first","row_at"] (z8p l.prog w K mg base (CXx l.prog w) 4):=zcX F7 B.len B.tup;have O6F:z0C l.prog w K mg base (CXx l.prog w) 6 f6 _ ["first","row_at"] (z4t l.prog w K mg base (CXx l.prog w) 4 CtTooMany):=((z83 F6 B.len B.tup n_zip (O7F.sub zgt) b7 k7 m7 (O8.mono (by decide)) b8 k8 m8 (O9.mono (by decide)) b9 k9 m9).sub zf7);have O6P:z0C l.prog w K mg base (CXx l.prog w) 6 f6 _ ["first","row_at"] (z6w l.prog w K mg base (CXx l.prog w) 4 CtTooMany):=((z83 F6 B.len B.tup n_zip (O7P.sub zfV) b7 k7 m7 (O8.mono (by decide)) b8 k8 m8 (O9.mono (by decide)) b9 k9 m9).sub zem);have O14:z0C l.prog w K mg base (CXx l.prog w) 7 f14 _ ["guise"] (zc4 (z8R P4 P21 P14 P12) K CtTooMany):=zcN F14 rfl (y2l hK t14) hBM (y09 _ (y09 _ y0m)) (z72 nP (y09 _ (y09 _ y0m))) rfl rfl (O15.mono (by decide)) b15 k15 m15 O6F b6 k6 m6;have O1:z0C l.prog w K mg base (CXx l.prog w) 1 f1 _ ["one","other"] (z6y K):=zbM F1 B.tup;have O13:z0C l.prog w K mg base (CXx l.prog w) 2 f13 _ ["one","other","pair"] (zbz K):=zeV F13 n_zip B.tup O1 b1 k1 m1;have O12:z0C l.prog w K mg base (CXx l.prog w) 7 f12 _ ["one","other"] (z6G (z8R P4 P21 P14 P12) K CtTooMany):=zaN F12 rfl (y2l hK t12) hBM (y09 _ (y09 _ (y09 _ y0m))) (z72 nP (y09 _ (y09 _ (y09 _ y0m)))) rfl rfl (O13.mono (by decide)) b13 k13 m13 O6P b6 k6 m6;have O11:z0C l.prog w K mg base (CXx l.prog w) 1 f11 _ ["letters","word"] (z6M K CtBadWord):=zbW mBadWord xBadWord y2O F11 n_any;have O5:z0C l.prog w K mg base (CXx l.prog w) 1 f5 _ ["guise","row","word"] (z8z K):=zd1 F5 B.tup;have O4:z0C l.prog w K mg base (CXx l.prog w) 7 f4 _ ["guise","row"] (z8b (z8R P4 P21 P14 P12) K):=zep F4 rfl (y2l hK t4) hBM y0m (z72 nP y0m) rfl rfl O6F b6 k6 m6;have O16:z0C l.prog w K mg base (CXx l.prog w) 8 f16 _ ["guise","word"] (z6O (z8R P4 P21 P14 P12) K CtBadWord):=zca F16 (O11.mono (by decide)) b11 k11 m11 (O3.mono (by decide)) b3 k3 m3 (O5.mono (by decide)) b5 k5 m5 O4 b4 k4 m4;have O20:z0C l.prog w K mg base (CXx l.prog w) 1 f20 _ ["guise","rows"] (z6D K):=zba B.lst F20;have O19:z0C l.prog w K mg base (CXx l.prog w) 2 f19 _ ["guise","row"] (z6x K):=zaX B.len F19 O20 b20 k20 m20;have O17:z0C l.prog w K mg base (CXx l.prog w) 8 f17 _ ["guise"] (z2J (z8R P4 P21 P14 P12) K):=z7u B.len B.rng F17 O4 b4 k4 m4;have O18:z0C l.prog w K mg base (CXx l.prog w) 8 f18 _ ["guise"] (z3U (z8R P4 P21 P14 P12) K):=z8f B.len B.rng F18 O4 b4 k4 m4 (O19.mono (by decide)) b19 k19 m19;have O21:z0C l.prog w K mg base (CXx l.prog w) 9 f21 _ ["guises"] (zaY (z8R P4 P21 P14 P12) K):=zes B.len n_sorted F21 rfl (y2l hK t21) hBM (y09 _ y0m) (z72 nP (y09 _ y0m)) rfl rfl O17 b17 k17 m17;have O22:z0C l.prog w K mg base (CXx l.prog w) 1 f22 _ ["_law_script","_law_at"] (z9L K):=zeJ F22 B.len;have O23:z0C l.prog w K mg base (CXx l.prog w) 2 f23 _ ["_law_script","_law_at"] (z5r K):=zax F23 O22 b22 k22 m22;have O26:z0C l.prog w K mg base (CXx l.prog w) 1 f26 _ ["_law_cell_here","_law_many"] (z4S K):=zak F26 B.len;have O27:z0C l.prog w K mg base (CXx l.prog w) 1 f27 _ ["_law_pick","_law_letters_here"] (zbs K):=zfl F27 B.len B.tup B.rng B.lst;have O28:z0C l.prog w K mg base (CXx l.prog w) 2 f28 _ ["_law_letters_here","_law_cell_here"] (zbx K):=zfm F28 B.rng B.tup n_min O26 b26 k26 m26 O27 b27 k27 m27;have O24:z0C l.prog w K mg base (CXx l.prog w) 1 f24 _ ["_law_rows_here","_law_line","_law_marks"] (z4G K):=zaj F24 B.len B.tup;have O25:z0C l.prog w K mg base (CXx l.prog w) 2 f25 _ ["_law_rows_here","_law_start"] (z4H K):=zag F25 B.len B.tup O24 b24 k24 m24;have O29:z0C l.prog w K mg base (CXx l.prog w) 3 f29 _ ["_law_letters_here","_law_cell_here"] (z8Z K):=zdr F29 O28 b28 k28 m28 ((O25.mono (by decide)).sub za6) b25 k25 m25;have O31:z0C l.prog w K mg base (CXx l.prog w) 8 f31 _ ["_law_one","_law_other"] (zcz (z8R P4 P21 P14 P12) K):=zf4 mTooMany xTooMany y2O.hasBase F31 O12 b12 k12 m12;have O30:z0C l.prog w K mg base (CXx l.prog w) 1 f30 _ ["_law_left","_law_right"] (zbh K):=zdD F30;exact zfW B.len B.rng n_sorted F32 (O22.mono (by decide)) b22 k22 m22 (O23.mono (by decide)) b23 k23 m23 (O29.mono (by decide)) b29 k29 m29 O21 b21 k21 m21 (O16.mono (by decide)) b16 k16 m16 (O14.mono (by decide)) b14 k14 m14 (O31.mono (by decide)) b31 k31 m31 (O30.mono (by decide)) b30 k30 m30 (O17.mono (by decide)) b17 k17 m17 (O18.mono (by decide)) b18 k18 m18
def walk{l:PySem.W.OpenLaw}{q:Program}{loose:List Str}{XP:(yyS)->Heap->Prop}{YP:World->Heap->Prop}{d:DefRec}{K:Params->yyF}{P4 P21 P14 P12:Addr}(hn:l.most=some 63)(hdf:d.params.defaults=[])(hY:∀(w:World) (h:Heap),YP w h->(K w.params).In h/\∀P∈([P4,P21,P14,P12]:List Addr),h.get? P=some (PySem.W.tabObj #[]))(F:∀(w:World) (mg:yyS) (fa:Addr) (h:Heap),(K w.params).In h->h.Ns mainGlobals mg->mg d.name=some (.ref fa) -> ∃fd:FuncData,(∀(s:Shared) (u:Value),BindsTo s fd ⟨[u],[]⟩ [("_law_script",u)])/\(∀T∈(z8R P4 P21 P14 P12),(K w.params).lookup T.at_=none/\∃c,PySem.W.codeHdIn (K w.params) c T.at_=true)/\∀base:Heap,(K w.params).In base->base.Ns mainGlobals mg->z43 base mg->z0C l.prog w (K w.params) mg base (CXx l.prog w) 10 fa fd ["_law_script"] (z9B (z8R P4 P21 P14 P12) (K w.params))) : PySem.W.WalkO q loose XP YP l.row.toRowW d [] (fun f vs=>PySem.call f vs) :=
 L2.walk_of2 (Ts:=(z8R P4 P21 P14 P12)) (n:=63) (k:=10) (x:="_law_script") (CX:=fun w=>(CXx l.prog w)) (sp:=fun w=>z9B (z8R P4 P21 P14 P12) (K w.params)) hn (by decide) hdf ⟨rfl,by decide,by decide⟩ hY F (fun _ _ a ns hl hT hS=>⟨a,ns,rfl,hS,hl,hT,fun _=>rfl⟩) fun _ _ _ _ _ z=>(by obtain⟨_,_,_,_,_,_,_,_,_,h⟩:=z;exact h)
end Gu
open PySem.W PyProof.Rows
set_option maxRecDepth 100000 in
set_option maxHeartbeats 0 in
theorem PySem.Challenge.cw_guisery_k33_whole_sections_joined_holds : PySem.Challenge.rw_guisery_k33_whole_sections_joined.Holds := by
 w_on;o_law;refine holds_open (q:=Gu.viewOf Gu.pY) (loose:=[]) (Xt:=fun s=>xlAt (Gu.viewOf Gu.pY) [] s&&recOk (RowW.records Gu.rY.toRowW) s) (XP:=XL (Gu.viewOf Gu.pY) []) (Yf:=Hook.obs Gu.HK) (Ya:=Hook.val Gu.HK) (YP:=Hook.says (PySem.W.kmHook Gu.KH Gu.KA (fun _=>by kernel_rfl) [72,171,130,118])) (N:=3356) Gu.left (Hook.of Gu.HK) (Hook.keeps Gu.HK) (fun s e=>xl_of s (Bool.and_eq_true_iff.mp e).1) XL.keeps (by rfl) (by rfl) (by rfl) (fun s e=>recFacts_of (Bool.and_eq_true_iff.mp e).2) (by rfl) (by first|assumption|decide +kernel) (by decide +kernel) ⟨rfl,rfl,rfl,rfl,rfl,by decide +kernel⟩ ?hw ?hc;(case hw=>w_witness2)
 k_fill
 refine Gu.walk (l:=PySem.Challenge.rw_guisery_k33_whole_sections_joined) rfl rfl (fun w h Y=>⟨PySem.W.km_in_of Y,PySem.W.km_tabs_of Y⟩) ?F;case F =>
  intro w mg fa h KX G hmg;refine' Gu.all_mk KX G hmg ?h1 ?h2 ?h3 ?a4 ?l4 ?c4 ?k4 ?h5 ?h6 ?h7 ?h8 ?h9 ?h10 ?h11 ?a12 ?l12 ?c12 ?k12 ?h13 ?a14 ?l14 ?c14 ?k14 ?h15 ?h16 ?h17 ?h18 ?h19 ?h20 ?a21 ?l21 ?c21 ?k21 ?h22 ?h23 ?h24 ?h25 ?h26 ?h27 ?h28 ?h29 ?h30 ?h31 ?a32 ?l32 ?c32 ?k32 ?t4 ?u4 ?t21 ?u21 ?t14 ?u14 ?t12 ?u12 ?nP ?i1 ?z1 ?z2 ?z3 ?z4 ?z5 ?z6 ?z7 ?z8 ?z9 ?z10 ?z11 ?z12 ?z13 ?z14 ?z15 ?z16 ?yTooMany ?xTooMany ?yBadWord ?xBadWord;all_goals try (refine' Gu.FA.of ?_ ?_ ?_ ?_<;>try k_is)
  (case a4=>k_is);(case l4=>k_is);(case c4=>k_is);(case k4=>k_is)
  (case a12=>k_is);(case l12=>k_is);(case c12=>k_is);(case k12=>k_is)
  (case a14=>k_is);(case l14=>k_is);(case c14=>k_is);(case k14=>k_is)
  (case a21=>k_is);(case l21=>k_is);(case c21=>k_is);(case k21=>k_is)
  (case a32=>k_is);(case l32=>k_is);(case c32=>k_is);(case k32=>k_is)
  (case t4=>(first|kernel_rfl|k_is))
  (case u4=>(first|kernel_rfl|k_is))
  (case t21=>(first|kernel_rfl|k_is))
  (case u21=>(first|kernel_rfl|k_is))
  (case t14=>(first|kernel_rfl|k_is))
  (case u14=>(first|kernel_rfl|k_is))
  (case t12=>(first|kernel_rfl|k_is))
  (case u12=>(first|kernel_rfl|k_is))
  (case nP=>decide)
  (case i1=>k_is)
  (case z1=>k_is)
  (case z2=>k_is)
  (case z3=>k_is)
  (case z4=>k_is)
  (case z5=>k_is)
  (case z6=>k_is)
  (case z7=>k_is)
  (case z8=>k_is)
  (case z9=>k_is)
  (case z10=>k_is)
  (case z11=>k_is)
  (case z12=>k_is)
  (case z13=>k_is)
  (case z14=>k_is)
  (case z15=>k_is)
  (case z16=>k_is)
  (case yTooMany=>k_is)
  (case xTooMany=>k_exc)
  (case yBadWord=>k_is)
  (case xBadWord=>k_exc)
