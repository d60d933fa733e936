import PyProof.Rows.All
import Wide.All
import OpenK.AllK
import Wide.FinOn
import Lean
import PyProof.EqAt
import PyProof.EqKinds
import PyProof.TupleCall
import PyProof.ListRange
import PyProof.TupleOfSeq
import PyProof.ConsumeWalk
import PyProof.WalksMore
import PyProof.Draws
import PyProof.EnumMake
import PyProof.ZipIter
import PyProof.Rows.EnumRows
import PyProof.Rows.FactsT2
import PyProof.MeetsSeq3
import PyProof.DictRoadsH
import PyProof.Rows.TupTab
import PyProof.Rows.SortWalk
import PyProof.Rows.SeqCalls
import PyProof.ListMulRoad
import KE.KDictLaws
import OpenK.KRaise
import KE.KLam
import KE.KNestM
import PyProof.StrLawsTight
import PyProof.Rows.StrSplitMax
import PyProof.StrCalls2
import PyProof.StrWalks
import PyProof.Rows.StrJoin2
import KE.KIntText
import KE.KUnpackStar
import KE.KTab
import PyProof.Rows.SortRuns
import PyProof.Rows.SetFrom
import KE.KDictList
import PyProof.IsRules
import PyProof.DictCompW
import KE.KSortKey
import KE.KSortTup
import PyProof.Rows.StrTempNeg
import PyProof.StrBlockH
import PyProof.StrOps2
import PyProof.DictUpdate
import KE.KListMore
import PyProof.Rows.CatFin
import PyProof.Rows.StrClose5
import PyProof.FString
import PyProof.Rows.FStr
import PyProof.TupleIter
import PyProof.MinMaxWalk
import PyProof.DictWalks
import PySem.Challenge.RW_guisery_k46_whole_worn_and_doffed
set_option Elab.async false
set_option linter.all false
set_option maxRecDepth 100000
set_option maxHeartbeats 4000000
def y00:=@List.length_map
def y01:=@PySem.wpAny_bind
def y02:=@PySem.Heap.get?_push_of_some
def y03:=@PySem.wpAny_pure
def y04:=@List.length_append
def y05:=@PySem.Heap.get?_push_size
def y06:=@List.size_toArray
def y07:=@PySem.Heap.lt_size
def y08:=@PySem.boot_len
def y09:=@List.getD_eq_getElem?_getD
def y0a:=@Nat.le_refl
def y0b:=@List.length_cons
def y0c:=@Bool.false_ne_true
def y0d:=@Option.some.inj
def y0e:=@List.getElem?_eq_getElem
def y0f:=@List.mem_map
def y0g:=@List.mem_cons_of_mem
def y0h:=@Bool.and_eq_true
def y0i:=@of_decide_eq_true
def y0j:=@List.append_nil
def y0k:=@Nat.le_trans
def y0l:=@List.mem_cons
def y0m:=@List.map_cons
def y0n:=@List.map_append
def y0o:=@PyProof.Rows.boot_tuple
def y0p:=@Nat.ne_of_lt
def y0q:=@Nat.lt_of_lt_of_le
def y0r:=@List.length_pos_iff
def y0s:=@PySem.PassesOwn.leaving
def y0t:=@List.mem_cons_self
def y0u:=@decide_eq_false
def y0v:=@List.mem_append_right
def y0w:=@List.mem_singleton
def y0x:=@List.getElem?_map
def y0y:=@PySem.W.hideAll_none
def y0z:=@List.length_take
def y0A:=@PySem.wpAny_newObj_type
def y0B:=@Bool.false_eq_true
def y0C:=@of_decide_eq_false
def y0D:=@List.all_eq_true
def y0E:=@PySem.wpAny_callSpecial?_slot
def y0F:=@List.length_eq_zero_iff
def y0G:=@List.getElem?_eq_some_iff
def y0H:=@List.lookup_cons
def y0I:=@PySem.wpAny_mono
def y0J:=@Int.toNat_natCast
def y0K:=@PySem.wpAny_call_entry
def y0L:=@Nat.lt_of_le_of_lt
def y0M:=@PySem.F.plainAttrs_list
def y0N:=@PySem.mem_of_lookup
def y0O:=@List.replicate_succ
def y0P:=@PyProof.Rows.slot_tuple_getitem
def y0Q:=@List.idxOf_lt_length_of_mem
def y0R:=@Int.emod_lt_of_pos
def y0S:=@List.mem_append
def y0T:=@PySem.W.kia_one
def y0U:=@List.nodup_cons
def y0V:=@Int.emod_nonneg
def y0W:=@List.map_map
def y0X:=@List.take_of_length_le
def y0Y:=@True.intro
def y0Z:=@Nat.le_of_lt
def y10:=@Ne.symm
def y11:=@Nat.min_eq_left
def y12:=@List.length_drop
def y13:=@List.getElem_mem
def y14:=@List.flatten_cons
def y15:=@List.getElem?_append_right
def y16:=@Nat.mul_le_mul_right
def y17:=@PyProof.Rows.boot_list
def y18:=@decide_eq_true
def y19:=@List.append_assoc
def y1a:=@PyProof.Rows.boot_str
def y1b:=@PySem.F.slot_dict_keyiterator_next
def y1c:=@PyProof.Rows.callWith_type1
def y1d:=@PySem.wpAny_field
def y1e:=@PySem.wpAny_holding
def y1f:=@Nat.mod_eq_of_lt
def y1g:=@List.drop_of_length_le
def y1h:=@PySem.wpAny_truthy_bool
def y1i:=@List.flatten_append
def y1j:=@PySem.Paired.length
def y1k:=@PySem.Heap.size_push
def y1l:=@List.getElem?_append_left
def y1m:=@PySem.W.mg_of
def y1n:=@List.length_singleton
def y1o:=@List.length_nil
def y1p:=@PySem.wpAny_ite_split
def y1q:=@PySem.wpAny_Call_Name_kw
def y1r:=@Option.isSome_iff_exists
def y1s:=@PySem.F.slot_list_append
def y1t:=@PySem.F.type_list_append
def y1u:=@PySem.wpAny_typeNameOfWhole_keyiter
def y1v:=@List.mem_of_getElem?
def y1w:=@Nat.lt_irrefl
def y1x:=@List.filter_cons_of_neg
def y1y:=@List.filter_cons_of_pos
def y1z:=@PySem.call_meets
def y1A:=@beq_eq_false_iff_ne
def y1B:=@Array.length_toList
def y1C:=@PySem.F.slot_int_rmul
def y1D:=@List.find?_cons
def y1E:=@PySem.Heap.SameBut.update
def y1F:=@PySem.F.slot_tuple_iterator_next
def y1G:=@List.ext_getElem
def y1H:=@Nat.mod_lt
def y1I:=@Int.natCast_emod
def y1J:=@List.cons_append
def y1K:=@List.take_append_drop
def y1L:=@List.getElem?_drop
def y1M:=@Nat.zero_le
def y1N:=@PySem.wpAny_binaryOp_repeat_ref
def y1O:=@PySem.F.slot_dict_delitem
def y1P:=@List.drop_eq_getElem_cons
def y1Q:=@PySem.wpAny_seqItems
def y1R:=@PySem.wpAny_passesOwn
def y1S:=@PySem.wpAny_dictEntries
def y1T:=@PySem.wpAny_typeNameOf_keyiter
def y1U:=@List.filterMap_cons
def y1V:=@Nat.add_sub_cancel_left
def y1W:=@PySem.wpAny_standAt
def y1X:=@PySem.wpAny_getItem_str_slice
def y1Y:=@Array.getElem?_eq_none
def y1Z:=@PySem.W.of_hideAll
def y20:=@PySem.W.callWith_K
def y21:=@PySem.tupleKind_room_in1
def y22:=@PySem.wpAny_setField_rec
def y23:=@PySem.codeAny_mono
def y24:=@List.nil_append
def y25:=@List.map_nil
def y26:=@PySem.F.slot_dict_get
def y27:=@List.forIn_cons
def y28:=@List.any_cons
def y29:=@List.mem_range
def y2a:=@List.getElem?_zip_eq_some
def y2b:=@List.nodup_nil
def y2c:=@congrArg
def y2d:=@Nat.lt_succ_self
def y2e:=@Nat.succ_le_succ
def y2f:=@PySem.F.slot_tuple_mul
def y2g:=@Nat.min_eq_right
def y2h:=@PySem.sizeLine_eq
def y2i:=@List.getElem_of_mem
def y2j:=@List.getElem?_range
def y2k:=@beq_iff_eq
def y2l:=@Nat.le_of_eq
def y2m:=@PySem.F.args_tuple_add_2
def y2n:=@PySem.typeIs_int
def y2o:=@PySem.wpAny_comprehension_free
def y2p:=@PySem.wpAny_execs_nil
def y2q:=@List.mem_filterMap
def y2r:=@List.of_mem_zip
def y2s:=@PySem.F.entry_tuple_add
def y2t:=@PySem.wpAny_specialOf
def y2u:=@PySem.F.args_dict_get_2
def y2v:=@PySem.Obj.data_mapFields
def y2w:=@List.getElem?_take
def y2x:=@List.map_take
def y2y:=@PySem.Str.length_append
def y2z:=@beq_false_of_ne
def y2A:=@List.getElem?_set_self
def y2B:=@PySem.F.slot_tuple_add
def y2C:=@PySem.Calls.callWith_builtin
def y2D:=@PySem.F.entry_dict_get
def y2E:=@List.drop_eq_nil_of_le
def y2F:=@PyProof.Rows.boot_bool
def y2G:=@PySem.F.args_int_rmul_2
def y2H:=@Option.isSome_map
def y2I:=@Nat.add_mod_right
def y2J:=@decide_eq_true_eq
def y2K:=@PySem.F.slot_tuple_hash
def y2L:=@PySem.wpAny_setField
def y2M:=@Array.getElem?_toList
def y2N:=@List.length_filter_le
def y2O:=@PySem.Heap.get?_update_self
def y2P:=@Nat.le_total
def y2Q:=@Nat.add_zero
def y2R:=@PySem.wpAny_isOneOf_keyiter
def y2S:=@Nat.zero_add
def y2T:=@List.append_inj_left'
def y2U:=@PySem.F.slot_int_index
def y2V:=@PySem.F.entry_int_rmul
def y2W:=@List.filter_cons
def y2X:=@PySem.wpAny_pyIter_zip
def y2Y:=@List.not_mem_nil
def y2Z:=@PySem.Heap.get?_none_of_le
def y30:=@List.mem_append_left
def y31:=@List.getElem?_set_ne
def y32:=@PySem.Calls.evalArgs_plain
def y33:=@PySem.wpAny_newFunctionEnv
def y34:=@Bool.and_eq_true_iff
def y35:=@if_false
def y36:=@List.all_cons
def y37:=@Nat.add_assoc
def y38:=@List.mem_filter
def y39:=@PySem.F.fills_int_mul
def y3a:=@Nat.mod_add_div
def y3b:=@Int.natCast_mul
def y3c:=@PySem.F.slot_zip_next
def y3d:=@List.take_range
def y3e:=@Nat.add_mul
def y3f:=@PySem.post_val_or_str
def y3g:=@List.idxOf_cons
def y3h:=@Int.le_refl
def y3i:=@Nat.ne_of_gt
def y3j:=@Nat.mul_comm
def y3k:=@Nat.lt_trans
abbrev yyF:=PySem.W.Frag
abbrev yyP:=List (PySem.Addr × PySem.Obj)
abbrev yyE:=PySem.Value->PySem.Shared->Prop
abbrev yyS:=PySem.Str->Option PySem.Value
namespace L2
open PySem PySem.Spec PyProof.Rows
abbrev Key:=Sum Int Str
def z8w:Key->Value->Bool
 |.inl k,v=>Value.isInt k v
 |.inr x,v=>Value.isStrOf x v
def zjV(w:World):Key->Int
 |.inl k=>hashInt k
 |.inr x=>hashStr w x
def z0J:∀{k:Key}{v:Value},z8w k v=true->(∃i t,k=Sum.inl i/\v=Value.int i t)\/(∃x t,k=Sum.inr x/\v=Value.str x t)
 |.inl i,v,h=>by
  obtain⟨t,e⟩:=Value.isInt_shape (k:=i) (v:=v) h;exact .inl ⟨i,t,rfl,e⟩
 |.inr x,v,h=>by obtain⟨t,e⟩:=Value.isStrOf_shape (x:=x) (v:=v) h;exact .inr ⟨x,t,rfl,e⟩
def z9h(i:Int)(t:Tok):z8w (.inl i) (.int i t)=true:=by simp[z8w,Value.isInt]
def z8W(x:Str)(t:Tok):z8w (.inr x) (.str x t)=true:=by simp[z8w,Value.isStrOf]
def zfu(a b:Int):decide ((Sum.inl a:Key)=Sum.inl b)=(a==b):=by
 by_cases e:a=b
 .subst e;simp
 .have h:¬(Sum.inl a:Key)=Sum.inl b:=λq=>e (Sum.inl.inj q);rw[y0u h];exact(y1A.mpr e).symm
def zg2(a b:Str):decide ((Sum.inr a:Key)=Sum.inr b)=decide (a=b):=by
 by_cases e:a=b
 .subst e;simp
 .have h:¬(Sum.inr a:Key)=Sum.inr b:=λq=>e (Sum.inr.inj q);rw[y0u h,y0u e]
def zg7(a:Int)(b:Str):decide ((Sum.inl a:Key)=Sum.inr b)=false:=y0u (λq=>nomatch q)
def zfY(a:Str)(b:Int):decide ((Sum.inr a:Key)=Sum.inl b)=false:=y0u (λq=>nomatch q)
def z0O(prog:Program)(w:World):PySem.KeyKind prog w Key where
 is:=z8w
 hash:=zjV w
 inj:=λv a b ha hb=>by
  rcases z0J ha with⟨i,t,rfl,rfl⟩|⟨x,t,rfl,rfl⟩
  .rcases z0J hb with⟨j,u,rfl,e⟩|⟨y,u,rfl,e⟩
   .injection e with e1 _;rw[e1]
   .exact nomatch e
  .rcases z0J hb with⟨j,u,rfl,e⟩|⟨y,u,rfl,e⟩
   .exact nomatch e
   .injection e with e1 _;rw[e1]
 byValue:=λk v h=>by rcases z0J h with⟨i,t,rfl,rfl⟩|⟨x,t,rfl,rfl⟩<;>rfl
 pyHash:=λhv h=>by
  rcases z0J hv with⟨i,t,rfl,rfl⟩|⟨x,t,rfl,rfl⟩
  .exact wpAny_pyHash_int h
  .exact wpAny_pyHash_str h
 eqBool:=λhu hv h=>by
  rcases z0J hu with⟨i,t,rfl,rfl⟩|⟨x,t,rfl,rfl⟩
  .rcases z0J hv with⟨j,u,rfl,rfl⟩|⟨y,u,rfl,rfl⟩
   .rw[zfu]at h;exact wpAny_eqBool_int h
   .rw[zg7]at h;exact SeqAt.EqAt.int_str i t y u _ _ _ _ h
  .rcases z0J hv with⟨j,u,rfl,rfl⟩|⟨y,u,rfl,rfl⟩
   .rw[zfY]at h;exact SeqAt.EqAt.str_int x t j u _ _ _ _ h
   .rw[zg2]at h;exact wpAny_eqBool_str h
 «strs»:=λk x t v h=>by
  rcases z0J h with⟨i,u,rfl,e⟩|⟨y,u,rfl,e⟩
  .exact nomatch e
  .injection e with e1 _;subst e1;cases v<;>rfl
def z6r(prog:Program)(w:World)(i:Int)(t:Tok):(z0O prog w).is (.inl i) (.int i t)=true:=z9h i t
def z6Z(prog:Program)(w:World)(x:Str)(t:Tok):(z0O prog w).is (.inr x) (.str x t)=true:=z8W x t
inductive V where
 |non|bl (b:Bool)|int (i:Int)|str (x:Str)|byt (b:Array UInt8)|flt (b:UInt64)|ref (a:Addr)|ty (n:String)
 deriving DecidableEq
def z0A:V->Value->Prop
 |.non,u=>u=Value.none
 |.bl b,u=>u=Value.bool b
 |.int i,u=>∃t,u=Value.int i t
 |.str x,u=>∃t,u=Value.str x t
 |.byt b,u=>∃t,u=Value.bytes b t
 |.flt b,u=>∃t,u=Value.float b t
 |.ref a,u=>u=Value.ref a
 |.ty n,u=>u=Value.type n
abbrev z0B:List V->List Value->Prop:=Paired z0A
theorem z0B.length{xs:List V}{us:List Value}(r:z0B xs us):xs.length=us.length:=y1j r
theorem z0B.get:∀{xs:List V}{us:List Value}{i:Nat}{x:V},z0B xs us->xs[i]?=some x->∃u,us[i]?=some u/\z0A x u
 |_,_,_,_,.nil,e=>by simp at e
 |_,_,0,_,.cons r _,e=>by simp at e;subst e;exact⟨_,rfl,r⟩
 |_,_,i+1,x,.cons _ t,e=>by obtain⟨u,h1,h2⟩:=z0B.get (i:=i) (x:=x) t (by simpa using e);exact⟨u,by simpa using h1,h2⟩
theorem z0B.append:∀{xs ys:List V}{us ws:List Value},z0B xs us->z0B ys ws->z0B (xs++ys) (us++ws)
 |_,_,_,_,.nil,s=>s
 |_,_,_,_,.cons r t,s=>.cons r (z0B.append t s)
theorem z0B.take:∀{xs:List V}{us:List Value}(n:Nat),z0B xs us->z0B (xs.take n) (us.take n)
 |_,_,0,_=>.nil
 |_,_,_+1,.nil=>.nil
 |_,_,n+1,.cons r t=>.cons r (z0B.take n t)
theorem z0B.drop:∀{xs:List V}{us:List Value}(n:Nat),z0B xs us->z0B (xs.drop n) (us.drop n)
 |_,_,0,r=>r
 |_,_,_+1,.nil=>.nil
 |_,_,n+1,.cons _ t=>z0B.drop n t
def z5p:Option V->Option Value->Prop
 |some v,some u=>z0A v u
 |none,none=>True
 |_,_=>False
def KV{κ:Type}:List (κ × V)->List (κ × Value)->Prop:=Paired λ(p:κ × V)(q:κ × Value)=>p.1=q.1/\z0A p.2 q.2
def kV:Key->V
 |.inl i=>.int i
 |.inr x=>.str x
inductive HO where
  |lst (xs:List V)
  |tup (xs:List V)
  |dK (kvs:List (Key × V))|dT (kvs:List (List Key × V))
  |set (S:Int->Bool) (n:Nat)
  |ins (C dx:Addr) (fs:List (Str × V))
  |own (x:Addr)
  |xd (fs:List (Str × V))
  |met (f x:Addr)
  |rng (lo hi:Int)
  |frz (o:Obj) (u:HO)
  |tbl (ps:Array Value)
  |ext (φ:Heap->Prop)
abbrev Hp:=Addr->Option HO
def upd(H:Hp)(a:Addr)(o:HO):Hp:=λb=>if b=a then some o else H b
def z0e{H:Hp}{a:Addr}{o:HO}:upd H a o a=some o:=by unfold upd;rw[if_pos rfl]
def z0f{H:Hp}{a b:Addr}{o:HO}(h:b≠a):upd H a o b=H b:=by unfold upd;rw[if_neg h]
def zho{H:Hp}{a b:Addr}{o u:HO}(h:H a=some o)(h':H b=some u)(d:o≠u):a≠b:=by intro e;subst e;rw[h]at h';exact d (y0d h')
def z0i{H:Hp}{a b:Addr}{o:HO}(h:H a=some o)(h':H b=none):a≠b:=by intro e;subst e;rw[h]at h';cases h'
section
variable(P:Program)(w:World)
def z0X(H:Hp)(h:Heap)(a:Addr):HO->Prop
 |.lst xs=>xs.length<=sizeLine/\∃(its:List Value) (n:Nat),z0B xs its/\h.get? a=some { cls:=.type "list",data:=.seq its.toArray n }
 |.tup xs=>xs.length<=sizeLine/\∃(its:List Value) (n:Nat),z0B xs its/\h.get? a=some { cls:=.type "tuple",data:=.seq its.toArray n }
 |.dK kvs=>kvs.length<=sizeLine/\(a==sysModules)=false/\∃vs,KV kvs vs/\h.DictOf (z0O P w) a vs
 |.dT kvs=>kvs.length<=sizeLine/\(a==sysModules)=false/\∃xs:List (List Key × Addr × Value),
   Paired (λ(p:List Key × V)(q:List Key × Addr × Value)=>p.1=q.1/\H q.2.1=some (.tup (p.1.map kV))/\z0A p.2 q.2.2) kvs xs /\
   ∃o es ep,h.get? a=some o/\o.ExactDict/\o.data=.dict es ep/\es.toList=xs.map (entryOfKey (tupleKind (z0O P w)))/\(xs.map (·.1)).Nodup
 |.set S n=>h.SetOf (intKind P w) a S n
 |.ins C dx fs=>H dx=some (.own a)/\fs.length<=1000/\dx≠a/\h.get? a=some (PySem.W.instObj C dx) /\
   ∃mA,h.Ns1 dx mA/\(∀f,z5p (fs.lookup f) (mA f))/\PySem.Within mA (fs.map (·.1))
 |.own _=>∃o,h.get? a=some o
 |.xd fs=>∃mA,h.Ns1 a mA/\∀f,z5p (fs.lookup f) (mA f)
 |.rng lo hi=>∃t u v,h.get? a=some { cls:=.type "range",data:=.fields #[.int lo t,.int hi u,.int 1 v] }
 |.frz o u=>h.get? a=some o/\z0X H h a u
 |.tbl ps=>h.get? a=some { cls:=.none,data:=.fields ps }
 |.met f x=>h.get? a=some (PySem.W.methodObj (.ref f) (.ref x))
 |.ext φ=>φ h/\(∃o,h.get? a=some o)/\∀h1 h2:Heap,φ h1->(∀o,h1.get? a=some o->h2.get? a=some o)->φ h2
def HOk(H:Hp)(h:Heap):Prop:=∀a o,H a=some o->z0X P w H h a o
end
section
variable{P:Program}{w:World}{H H':Hp}{h h':Heap}{a:Addr}{o:HO}
def z0X.lt(x:z0X P w H h a o):a<h.objs.size:=by
 cases o with
 |lst xs=>obtain⟨_,_,_,_,e⟩:=x;exact y07 e
 |tup xs=>obtain⟨_,_,_,_,e⟩:=x;exact y07 e
 |dK kvs=>obtain⟨_,_,_,_,o,_,_,e,_⟩:=x;exact y07 e
 |dT kvs=>obtain⟨_,_,_,_,o,_,_,e,_⟩:=x;exact y07 e
 |set S n=>obtain⟨o,_,_,_,e,_⟩:=x;exact y07 e
 |ins C dx fs=>obtain⟨_,_,_,e,_⟩:=x;exact y07 e
 |own y=>obtain⟨_,e⟩:=x;exact y07 e
 |xd fs=>obtain⟨_,⟨_,_,_,e,_⟩,_⟩:=x;exact y07 e
 |rng lo hi=>obtain⟨_,_,_,e⟩:=x;exact y07 e
 |frz ob u=>obtain⟨e,_⟩:=x;exact y07 e
 |tbl ps=>exact y07 (show h.get? a=some _ from x)
 |met f y=>exact y07 (show h.get? a=some _ from x)
 |ext φ=>obtain⟨_,⟨_,e⟩,_⟩:=x;exact y07 e
theorem Paired.mapP{α β:Type}{F G:α->β->Prop}:∀{l₁:List α}{l₂:List β},Paired F l₁ l₂->(∀a b,F a b->G a b)->Paired G l₁ l₂
 |_,_,.nil,_=>.nil
 |_,_,.cons r t,f=>.cons (f _ _ r) (Paired.mapP t f)
def z0X.stay(x:z0X P w H h a o)(k:∀b u,(b=a\/H b=some (.own a))->h.get? b=some u->h'.get? b=some u)(ho:∀b,H b=some (.own a)->H' b=some (.own a))(ht:∀b xs,H b=some (.tup xs)->H' b=some (.tup xs)):z0X P w H' h' a o:=by
 induction o with
 |lst xs=>obtain⟨z,its,n,r,e⟩:=x;exact⟨z,its,n,r,k _ _ (.inl rfl) e⟩
 |tup xs=>obtain⟨z,its,n,r,e⟩:=x;exact⟨z,its,n,r,k _ _ (.inl rfl) e⟩
 |dK kvs=>obtain⟨z,y,vs,r,ob,es,ep,e,c⟩:=x;exact⟨z,y,vs,r,ob,es,ep,k _ _ (.inl rfl) e,c⟩
 |dT kvs =>
  obtain⟨z,y,xs,r,ob,es,ep,e,c⟩:=x;exact⟨z,y,xs,Paired.mapP r λp q z=>⟨z.1,ht _ _ z.2.1,z.2.2⟩,ob,es,ep,k _ _ (.inl rfl) e,c⟩
 |set S n=>obtain⟨ob,es,ep,t,e,c⟩:=x;exact⟨ob,es,ep,t,k _ _ (.inl rfl) e,c⟩
 |ins C dx fs =>
  obtain⟨d,z,ne,e,mA,⟨od,es,ep,e2,c⟩,r⟩:=x;exact⟨ho _ d,z,ne,k _ _ (.inl rfl) e,mA,⟨od,es,ep,k _ _ (.inr d) e2,c⟩,r⟩
 |own y=>obtain⟨ob,e⟩:=x;exact⟨ob,k _ _ (.inl rfl) e⟩
 |xd fs=>obtain⟨mA,⟨od,es,ep,e,c⟩,r⟩:=x;exact⟨mA,⟨od,es,ep,k _ _ (.inl rfl) e,c⟩,r⟩
 |rng lo hi=>obtain⟨t,u,v,e⟩:=x;exact⟨t,u,v,k _ _ (.inl rfl) e⟩
 |frz ob u ih=>obtain⟨e,q⟩:=x;exact⟨k _ _ (.inl rfl) e,ih q⟩
 |tbl ps =>
  have e:h.get? a=some { cls:=.none,data:=.fields ps }:=x;show h'.get? a=some { cls:=.none,data:=.fields ps };exact k a _ (.inl rfl) e
 |met f y =>
  have e:h.get? a=some (PySem.W.methodObj (.ref f) (.ref y)):=x;show h'.get? a=some (PySem.W.methodObj (.ref f) (.ref y));exact k a _ (.inl rfl) e
 |ext φ=>obtain⟨p,⟨o,e⟩,st⟩:=x;exact⟨st _ _ p λo q=>k _ _ (.inl rfl) q,⟨o,k _ _ (.inl rfl) e⟩,st⟩
theorem HOk.lt(x:HOk P w H h)(e:H a=some o):a<h.objs.size:=(x a o e).lt
def HOk.fresh(x:HOk P w H h)(e:h.objs.size<=a):H a=none:=by
 cases q:H a with
 |none=>rfl
 |some u=>exact absurd (y0q (x.lt q) e) (y1w _)
def HOk.kept(x:HOk P w H h)(k:∀b u,h.get? b=some u->h'.get? b=some u):HOk P w H h':=λa o e =>
 (x a o e).stay (λb u _ q=>k b u q) (λ_ q=>q) λ_ _ q=>q
def HOk.laid(x:HOk P w H h)(k:∀b u,h.get? b=some u->h'.get? b=some u)(hp:h.objs.size<=a)(new:z0X P w (upd H a o) h' a o):HOk P w (upd H a o) h':=λb u e=>by
 have hn:=x.fresh hp;by_cases hb:b=a
 .subst hb;rw[z0e]at e;cases e;exact new
 .rw[z0f hb]at e;exact(x b u e).stay (λc v _ q=>k c v q) (λc q=>by rw[z0f (z0i q hn)];exact q) λc xs q=>by rw[z0f (z0i q hn)];exact q
end
def Rd(H:Hp)(a:Addr)(u:HO):Prop:=H a=some u\/∃o,H a=some (.frz o u)
def Rd.ok{P:Program}{w:World}{H:Hp}{h:Heap}{a:Addr}{u:HO}(r:Rd H a u)(x:HOk P w H h):z0X P w H h a u:=by
 rcases r with r|⟨o,r⟩
 .exact x a u r
 .obtain⟨_,q⟩:=x a _ r;exact q
def Mut:Option HO->Prop
 |some (.lst _)=>True
 |some (.dK _)=>True
 |some (.dT _)=>True
 |some (.set _ _)=>True
 |some (.ins _ _ _)=>True
 |some (.ext _)=>True
 |_=>False
section
variable{P:Program}{w:World}{H:Hp}{h h':Heap}{x e:Addr}{o':HO}
def HOk.write(ok:HOk P w H h)(mu:Mut (H x))(he:e=x\/H e=some (.own x))(k:∀b u,b≠e->h.get? b=some u->h'.get? b=some u)(heo:∃u,h'.get? e=some u)(new:z0X P w (upd H x o') h' x o'):HOk P w (upd H x o') h':=λb u q=>by
 have nown:∀c y,H c=some (.own y)->c≠x:=λc y r z=>by subst z;rw[r]at mu;exact mu
 have ntup:∀c xs,H c=some (.tup xs)->c≠x:=λc xs r z=>by subst z;rw[r]at mu;exact mu
 by_cases hb:b=x
 .subst hb;rw[z0e]at q;cases q;exact new
 .rw[z0f hb]at q;by_cases hbe:b=e
  .have q':H b=some (.own x):=by
    rcases he with z|z
    .exact absurd (hbe.trans z) hb
    .rw[hbe];exact z
   rw[q]at q';cases q';obtain⟨v,hv⟩:=heo;exact⟨v,by rw[hbe];exact hv⟩
  .refine(ok b u q).stay (λc v hc r=>k c v ?_ r) (λc r=>by rw[z0f (nown c b r)];exact r) λc xs r=>by rw[z0f (ntup c xs r)];exact r
   rcases hc with rfl|hc
   .exact hbe
   .rintro rfl;rcases he with z|z
    .exact nown c b hc z
    .rw[hc]at z;cases z;exact hb rfl
end
structure Un(fs ex:List Addr)(H H':Hp)(h h':Heap):Prop where
 keep:∀b o,h.get? b=some o->H b=none->b∉fs->b∉ex->h'.get? b=some o
 slot:∀b o,h.get? b=some o->H b=none->b∈fs->b∉ex->∃sl,h'.get? b=some { o with slots:=sl }
 free:∀b o,h.get? b=some o->H b=none->b∉ex->H' b=none
 there:∀b o,h.get? b=some o->b∉ex->∃o',h'.get? b=some o'
 tups:∀b xs,H b=some (.tup xs)->H' b=some (.tup xs)
 frzs:∀b o u,H b=some (.frz o u)->H' b=some (.frz o u)
 tbls:∀b ps,H b=some (.tbl ps)->∃more,H' b=some (.tbl (ps++more))
section
variable{fs fs' ex ex':List Addr}{H H1 H2:Hp}{h h1 h2 h':Heap}{a x e:Addr}{o:HO}
def Un.any(u:Un fs ex H H1 h h1){b:Addr}{ob:Obj}(q:h.get? b=some ob)(n:H b=none)(hx:b∉ex):∃sl,h1.get? b=some { ob with slots:=sl }:=by
 by_cases hb:b∈fs
 .exact u.slot b ob q n hb hx
 .exact⟨ob.slots,u.keep b ob q n hb hx⟩
def Un.kept(k:∀b u,h.get? b=some u->h'.get? b=some u):Un fs ex H H h h' :=
 ⟨λb ob q _ _ _=>k b ob q,λb ob q _ _ _=>⟨ob.slots,k b ob q⟩,λ_ _ _ n _=>n,λb ob q _=>⟨ob,k b ob q⟩,λ_ _ q=>q,λ_ _ _ q=>q,λ_ ps q=>⟨#[],by rw[q];simp⟩⟩
def Un.refl:Un fs ex H H h h:=Un.kept λ_ _ q=>q
def Un.laid(k:∀b u,h.get? b=some u->h'.get? b=some u)(hp:h.objs.size<=a)(hn:H a=none):Un fs ex H (upd H a o) h h' where
 keep:=λb u q _ _ _=>k b u q
 slot:=λb u q _ _ _=>⟨u.slots,k b u q⟩
 free:=λb u q n _=>by rw[z0f (y0p (y0q (y07 q) hp))];exact n
 there:=λb u q _=>⟨u,k b u q⟩
 tups:=λb xs q=>by rw[z0f (z0i q hn)];exact q
 frzs:=λb u xs q=>by rw[z0f (z0i q hn)];exact q
 tbls:=λb ps q=>⟨#[],by rw[z0f (z0i q hn),q];simp⟩
def Un.write(mu:Mut (H x))(he:e=x\/H e=some (.own x))(k:∀b u,b≠e->h.get? b=some u->h'.get? b=some u)(heo:∃u,h'.get? e=some u):Un fs ex H (upd H x o) h h':=by
 have hx:∀b,H b=none->b≠x:=λb n z=>by subst z;rw[n]at mu;exact mu
 have hb:∀b,H b=none->b≠e:=λb n z=>by
  subst z;rcases he with r|r
  .exact hx b n r
  .rw[n]at r;cases r
 have hm:∀b u,H b=some u->¬Mut (some u)->b≠x:=λb u q nm z=>by subst z;rw[q]at mu;exact nm mu
 refine⟨λb u q n _ _=>k b u (hb b n) q,λb u q n _ _=>⟨u.slots,k b u (hb b n) q⟩,λb u q n _=>by rw[z0f (hx b n)];exact n,λb u q _=>?_,
  λb xs q=>by rw[z0f (hm b _ q λz=>z)];exact q,λb u xs q=>by rw[z0f (hm b _ q λz=>z)];exact q,λb ps q=>⟨#[],by rw[z0f (hm b _ q λz=>z),q];simp⟩⟩
 by_cases hbe:b=e
 .subst hbe;exact heo
 .exact⟨u,k b u hbe q⟩
end
def trk(h:Heap)(H:Hp):List Addr:=(List.range h.objs.size).filter λa=>(H a).isSome
def zav(h:Heap)(H:Hp):Heap:=PySem.W.hideAll h (trk h H)
def z9S(h:Heap)(H:Hp):(zav h H).objs.size=h.objs.size:=PySem.W.hideAll_size _ _
def zcb{h:Heap}{H:Hp}{b:Addr}{o:Obj}(e:h.get? b=some o)(n:H b=none):(zav h H).get? b=some o :=
 PySem.W.hideAll_get _ e λhm=>by have q:(H b).isSome=true:=(y38.mp hm).2;rw[n]at q;simp at q
def zdU{h:Heap}{H:Hp}{b:Addr}{o:Obj}(e:(zav h H).get? b=some o):h.get? b=some o/\H b=none:=by
 have e':h.get? b=some o:=y1Z (trk h H) e;refine⟨e',?_⟩;cases q:H b with
 |none=>rfl
 |some x =>
  have hm:b∈trk h H:=y38.mpr ⟨y29.mpr (y07 e'),by simp[q]⟩;have z:(zav h H).get? b=none:=y0y (trk h H) hm;rw[z]at e;cases e
structure Mod(K:yyF)(mg:yyS)(base:Heap):Prop where
 kin:K.In base
 glob:base.Ns mainGlobals mg
 blt:∃mb,base.Ns builtinsNs mb/\∀x:Str,x≠"__name__"->mb x=bootBuiltins x
 nolimit:base.NoLimit
structure Cx where
 prog:Program
 w:World
 K:yyF
 mg:yyS
 base:Heap
 A:Around
 N:List Str
 s₀:Shared
 H₀:Hp
 env:Env
 outer:List Env
 stack:List Env
 ex:List Addr
 fn:Str->Bool
 calm:Bool
 pn:yyP
 xe:yyE
def frs(l:List Env):List Addr:=l.filterMap (·.frame)
abbrev Cx.fs(X:Cx):List Addr:=frs X.outer
def Vis(sc:Scope)(x:Str):Prop:=sc.names.lookup x=some .local\/sc.names.lookup x=some .cell\/sc.names.lookup x=some .free
def Loc(sc:Scope)(x:Str):Prop:=sc.names.lookup x=some .local\/sc.names.lookup x=some .cell
def zk2(env:Env)(h:Heap)(m:yyS)(x:Str)(u:Value):Prop :=
 (env.kindOf x=some .local/\m x=some u)\/((env.kindOf x=some .cell\/env.kindOf x=some .free)/\∃c,env.cells.lookup x=some c/\h.IsCell c (some u))
structure Cx.Ok(X:Cx):Prop where
 mod:Mod X.K X.mg X.base
 kind:X.env.scope.kind=.function
 glob:X.env.globals=mainGlobals
 blt:X.env.builtins=builtinsNs
 above:X.s₀.heap.objs.size<=X.env.locals
 inj:∀x y c,X.env.cells.lookup x=some c->X.env.cells.lookup y=some c->x=y
 has:∀x,(X.env.kindOf x=some .cell\/X.env.kindOf x=some .free)->∃c,X.env.cells.lookup x=some c
 cab:∀x c,X.fn x=true->X.env.cells.lookup x=some c->X.s₀.heap.objs.size<=c
 hd:X.calm=true->X.A.handled=none
 frames:X.A.frames=some X.stack
 stk:X.stack=X.outer\/(X.stack=X.env::X.outer/\X.env.frame=some X.env.locals)
 exf:∀b∈X.ex,b≠X.env.locals/\∀x c,X.env.cells.lookup x=some c->c≠b
 bs:∀b o,X.base.get? b=some o->X.s₀.heap.get? b=some o/\X.H₀ b=none
 bsz:X.base.objs.size<=X.s₀.heap.objs.size
 noex:∀b o,X.base.get? b=some o->b∉X.ex
 exfs:∀b∈X.ex,b∉X.fs
 funs:X.s₀.heap.FunFrames X.base X.outer
 frf:∀b∈X.fs,X.H₀ b=none
structure Inv(X:Cx)(pins:yyP)(σ:List (Option V))(H:Hp)(s:Shared):Prop where
 ok:X.Ok
 os:s.os=X.s₀.os
 bare:AllBare s.gens
 base:Un X.fs X.ex X.H₀ H X.s₀.heap s.heap
 loc:∃m,s.heap.Ns X.env.locals m/\∀(i:Nat)(x:Str)(v:V),X.N[i]?=some x->σ[i]?=some (some v)->Vis X.env.scope x->∃u,z0A v u/\zk2 X.env s.heap m x u
 cell:∀x c,X.env.cells.lookup x=some c->∃v,s.heap.IsCell c v
 free:H X.env.locals=none
 freeC:∀x c,X.env.cells.lookup x=some c->H c=none
 pin:∀p∈X.pn++pins,s.heap.get? p.1=some p.2/\H p.1=none/\p.1≠X.env.locals/\p.1∉X.fs/\∀v,p.2.data≠.cell v
 hok:HOk X.prog X.w H s.heap
 len:σ.length=X.N.length
section
variable{X:Cx}{pins:yyP}{σ:List (Option V)}{H H':Hp}{s:Shared}{h':Heap}
def Cx.Ok.nofr(ok:X.Ok){b:Addr}{o:Obj}(e:X.base.get? b=some o):b∉X.fs:=λhb=>by have:=(ok.funs.mem hb).1;rw[e]at this;cases this
theorem Inv.bs(I:Inv X pins σ H s):∀b o,X.base.get? b=some o->s.heap.get? b=some o/\H b=none:=λb o e =>
 ⟨I.base.keep b o (I.ok.bs b o e).1 (I.ok.bs b o e).2 (I.ok.nofr e) (I.ok.noex b o e),I.base.free b o (I.ok.bs b o e).1 (I.ok.bs b o e).2 (I.ok.noex b o e)⟩
def Inv.bk(I:Inv X pins σ H s):∀b o,X.base.get? b=some o->s.heap.get? b=some o:=λb o e=>(I.bs b o e).1
theorem Inv.mod(I:Inv X pins σ H s):Mod X.K X.mg X.base:=I.ok.mod
def Inv.kIn(I:Inv X pins σ H s):X.K.In s.heap:=I.ok.mod.kin.keeps I.bk
theorem Inv.lt(I:Inv X pins σ H s):X.env.locals<s.heap.objs.size:=let⟨_,hn,_⟩:=I.loc;hn.lt
def Inv.sz(I:Inv X pins σ H s):X.s₀.heap.objs.size<=s.heap.objs.size:=y0k I.ok.above (y0Z I.lt)
def Inv.nofs(I:Inv X pins σ H s){a:Addr}(h:s.heap.objs.size<=a):a∉X.fs:=λhb=>by obtain⟨_,o,ho,_⟩:=I.ok.funs.mem hb;exact absurd (y0q (y07 ho) (y0k I.sz h)) (y1w _)
def Inv.cne(I:Inv X pins σ H s):∀x c,X.env.cells.lookup x=some c->c≠X.env.locals:=λx c e z=>by obtain⟨v,o,ho,hd⟩:=I.cell x c e;obtain⟨m,⟨o',es,ep,ho',hd',_⟩,_⟩:=I.loc;rw[z,ho']at ho;cases ho;rw[hd']at hd;cases hd
theorem Inv.funs(I:Inv X pins σ H s):s.heap.FunFrames X.base X.outer:=by
 have all:∀(l:List Env),(∀b∈frs l,b∈X.fs)->X.s₀.heap.FunFrames X.base l->s.heap.FunFrames X.base l:=by
  intro l;induction l with
  |nil=>intro _ _;trivial
  |cons env r ih =>
   intro hs hl;obtain⟨hk,⟨L,o,hf,hn,ho,hd⟩,hr⟩:=hl;have hL:L∈X.fs:=hs L (by unfold frs;rw[y1U,hf];exact y0t);obtain⟨sl,e⟩:=I.base.slot L o ho (I.ok.frf L hL) hL λz=>I.ok.exfs L z hL;exact⟨hk,⟨L,_,hf,hn,e,hd⟩,ih (λb hb=>hs b (by unfold frs;rw[y1U,hf];exact y0g _ hb)) hr⟩
 exact all X.outer (λ_ hb=>hb) I.ok.funs
theorem Inv.stack(I:Inv X pins σ H s):s.heap.FunFrames X.base X.stack:=by
 rcases I.ok.stk with e|⟨e,hf⟩
 .rw[e];exact I.funs
 .rw[e];obtain⟨m,hn,_⟩:=I.loc;refine .cons (by rw[I.ok.kind];decide) hf hn ?_ I.funs;exact y2Z (y0k I.ok.bsz I.ok.above)
def Inv.stkSub(I:Inv X pins σ H s):∀b∈frs X.stack,b∈X.env.locals::X.fs:=λb hb=>by
 rcases I.ok.stk with e|⟨e,hf⟩
 .rw[e]at hb;exact y0g _ hb
 .rw[e]at hb;unfold frs at hb;rw[y1U,hf]at hb;exact hb
def Inv.stkFree(I:Inv X pins σ H s):∀b∈frs X.stack,H b=none:=λb hb=>by
 rcases y0l.mp (I.stkSub b hb)with e|hb
 .rw[e];exact I.free
 .obtain⟨_,o,ho,_⟩:=I.ok.funs.mem hb;exact I.base.free b o ho (I.ok.frf b hb) λz=>I.ok.exfs b z hb
def Inv.step{g':Array GenState}{t':Nat}{d':Drawn}{ch:List Addr}(I:Inv X pins σ H s)(hch:∀b∈ch,(b∈X.ex\/X.s₀.heap.objs.size<=b)/\b≠X.env.locals/\(∀x c,X.env.cells.lookup x=some c->c≠b)/\∀p∈X.pn++pins,p.1≠b)(keep:∀b o,b≠X.env.locals->b∉X.fs->b∉ch->s.heap.get? b=some o->H b=none->h'.get? b=some o)(slot:∀b o,b≠X.env.locals->b∈X.fs->b∉ch->s.heap.get? b=some o->H b=none->∃sl,h'.get? b=some { o with slots:=sl })(free:∀b o,b∉ch->s.heap.get? b=some o->H b=none->H' b=none)(there:∀b o,b∉ch->s.heap.get? b=some o->∃o',h'.get? b=some o')(tups:∀b xs,H b=some (.tup xs)->H' b=some (.tup xs))(frzs:∀b o u,H b=some (.frz o u)->H' b=some (.frz o u))(tbls:∀b ps,H b=some (.tbl ps)->∃more,H' b=some (.tbl (ps++more)))(ns:∀m,s.heap.Ns X.env.locals m->h'.Ns X.env.locals m)(hok:HOk X.prog X.w H' h')(hg:AllBare g') : Inv X pins σ H' { s with heap:=h',gens:=g',drawn:=d',toks:=t' }:=by
 have neL:∀b o,X.s₀.heap.get? b=some o->b≠X.env.locals:=λb o e=>y0p (y0q (y07 e) I.ok.above);have neC:∀b o,X.s₀.heap.get? b=some o->b∉X.ex->b∉ch:=λb o e hx hb=>by
  rcases(hch b hb).1 with z|z
  .exact hx z
  .exact absurd (y0q (y07 e) z) (y1w _)
 have cellK:∀x c,X.env.cells.lookup x=some c->∀v,s.heap.IsCell c v->h'.IsCell c v:=λx c e v ⟨o,ho,hd⟩=>by
  have nch:c∉ch:=λz=>(hch c z).2.2.1 x c e rfl;by_cases hc:c∈X.fs
  .obtain⟨sl,q⟩:=slot c o (I.cne x c e) hc nch ho (I.freeC x c e);exact⟨_,q,hd⟩
  .exact⟨o,keep c o (I.cne x c e) hc nch ho (I.freeC x c e),hd⟩
 refine⟨I.ok,I.os,hg,⟨λb o e n hb hx=>?_,λb o e n hb hx=>?_,λb o e n hx=>?_,λb o e hx=>?_,λb xs e=>tups b xs (I.base.tups b xs e),λb o xs e=>frzs b o xs (I.base.frzs b o xs e),λb ps e=>?_⟩,?_,λx c e=>?_,?_,λx c e=>?_,λp hp=>?_,hok,I.len⟩
 .exact keep b o (neL b o e) hb (neC b o e hx) (I.base.keep b o e n hb hx) (I.base.free b o e n hx)
 .obtain⟨sl,e1⟩:=I.base.slot b o e n hb hx;obtain⟨sl',e2⟩:=slot b _ (neL b o e) hb (neC b o e hx) e1 (I.base.free b o e n hx);exact⟨sl',e2⟩
 .obtain⟨o',e1⟩:=I.base.there b o e hx;exact free b o' (neC b o e hx) e1 (I.base.free b o e n hx)
 .obtain⟨o',e1⟩:=I.base.there b o e hx;exact there b o' (neC b o e hx) e1
 .obtain⟨m1,e1⟩:=I.base.tbls b ps e;obtain⟨m2,e2⟩:=tbls b _ e1;exact⟨m1++m2,by rw[e2,Array.append_assoc]⟩
 .obtain⟨m,hn,hl⟩:=I.loc;refine⟨m,ns m hn,λi x v e1 e2 e3=>?_⟩;obtain⟨u,r,l⟩:=hl i x v e1 e2 e3;refine⟨u,r,?_⟩;rcases l with l|⟨k,c,e,z⟩
  .exact .inl l
  .exact .inr ⟨k,c,e,cellK x c e _ z⟩
 .obtain⟨v,z⟩:=I.cell x c e;exact⟨v,cellK x c e v z⟩
 .obtain⟨m,⟨o,_,_,ho,_⟩,_⟩:=I.loc;exact free _ o (λz=>(hch _ z).2.1 rfl) ho I.free
 .obtain⟨v,o,ho,hd⟩:=I.cell x c e;exact free c o (λz=>(hch c z).2.2.1 x c e rfl) ho (I.freeC x c e)
 .obtain⟨e,n,ne,nf,d⟩:=I.pin p hp;have nch:p.1∉ch:=λz=>(hch p.1 z).2.2.2 p hp rfl;exact⟨keep p.1 p.2 ne nf nch e n,free p.1 p.2 nch e n,ne,nf,d⟩
def Inv.un{t':Nat}(I:Inv X pins σ H s)(u:Un X.fs [] H H' s.heap h')(hok:HOk X.prog X.w H' h'):Inv X pins σ H' { s with heap:=h',toks:=t' }:=by
 obtain⟨m,⟨o,es,ep,ho,r⟩,_⟩:=id I.loc;obtain⟨sl,hL⟩:=u.any ho I.free (by simp);exact I.step (g':=s.gens) (d':=s.drawn) (ch:=[]) (λ_ z=>nomatch z) (λb o _ hb _ e n=>u.keep b o e n hb (by simp)) (λb o _ hb _ e n=>u.slot b o e n hb (by simp)) (λb o _ e n=>u.free b o e n (by simp)) (λb o _ e=>u.there b o e (by simp)) u.tups u.frzs u.tbls (λm' hm=>by obtain⟨o',es',ep',ho',r'⟩:=hm;rw[ho]at ho';cases ho';exact⟨_,es',ep',hL,r'⟩) hok I.bare
def Inv.call{g':Array GenState}{t':Nat}{d':Drawn}{ch:List Addr}(I:Inv X pins σ H s)(u:Un (frs X.stack) ch H H' s.heap h')(hok:HOk X.prog X.w H' h')(hg:AllBare g')(hch:∀b∈ch,(b∈X.ex\/X.s₀.heap.objs.size<=b)/\b≠X.env.locals/\(∀x c,X.env.cells.lookup x=some c->c≠b)/\∀p∈X.pn++pins,p.1≠b) : Inv X pins σ H' { s with heap:=h',gens:=g',drawn:=d',toks:=t' }:=by
 obtain⟨m,⟨o,es,ep,ho,r⟩,_⟩:=id I.loc;obtain⟨sl,hL⟩:=u.any ho I.free λz=>(hch _ z).2.1 rfl;exact I.step (ch:=ch) hch (λb o hL hb hc e n=>u.keep b o e n (λz=>(y0l.mp (I.stkSub b z)).elim hL hb) hc) (λb o _ _ hc e n=>u.any e n hc) (λb o hc e n=>u.free b o e n hc) (λb o hc e=>u.there b o e hc) u.tups u.frzs u.tbls (λm' hm=>by obtain⟨o',es',ep',ho',r'⟩:=hm;rw[ho]at ho';cases ho';exact⟨_,es',ep',hL,r'⟩) hok hg
def Inv.turned{t':Nat}{it:Addr}(I:Inv X pins σ H s)(k:∀b o,b≠it->s.heap.get? b=some o->h'.get? b=some o)(hn:H it=none)(hL:it≠X.env.locals)(h1:it∈X.ex\/X.s₀.heap.objs.size<=it)(h2:∀x c,X.env.cells.lookup x=some c->c≠it)(h3:∀p∈X.pn++pins,p.1≠it):Inv X pins σ H { s with heap:=h',toks:=t' }:=by
 have nit:∀b u,H b=some u->b≠it:=λb u e z=>by rw[z,hn]at e;cases e
 refine I.step (g':=s.gens) (d':=s.drawn) (ch:=[it]) (λb hb=>?_) (λb o _ _ hc e _=>k b o (λz=>hc (by simp[z])) e) (λb o _ _ hc e _=>⟨o.slots,k b o (λz=>hc (by simp[z])) e⟩) (λ_ _ _ _ n=>n)
  (λb o hc e=>⟨o,k b o (λz=>hc (by simp[z])) e⟩) (λ_ _ e=>e) (λ_ _ _ e=>e) (λb ps e=>⟨#[],by rw[e];simp⟩) (λm hm=>?_) (λb u e=>?_) I.bare
 .have e:b=it:=by simpa using hb
  subst e;exact⟨h1,hL,h2,h3⟩
 .obtain⟨o,es,ep,ho,r⟩:=hm;exact⟨o,es,ep,k _ o (y10 hL) ho,r⟩
 .refine(I.hok b u e).stay (λc v hc q=>k c v ?_ q) (λ_ q=>q) λ_ _ q=>q;rcases hc with z|z
  .rw[z];exact nit b u e
  .exact nit c _ z
def Inv.tok(I:Inv X pins σ H s)(t:Nat):Inv X pins σ H { s with toks:=t }:=I.un (h':=s.heap) (t':=t) Un.refl I.hok
theorem Inv.kept{t':Nat}(I:Inv X pins σ H s)(k:∀b u,s.heap.get? b=some u->h'.get? b=some u):Inv X pins σ H { s with heap:=h',toks:=t' }:=I.un (Un.kept k) (I.hok.kept k)
theorem Inv.laid{a:Addr}{o:HO}{t':Nat}(I:Inv X pins σ H s)(k:∀b u,s.heap.get? b=some u->h'.get? b=some u)(hp:s.heap.objs.size<=a)(new:z0X X.prog X.w (upd H a o) h' a o) : Inv X pins σ (upd H a o) { s with heap:=h',toks:=t' }:=I.un (Un.laid k hp (I.hok.fresh hp)) (I.hok.laid k hp new)
theorem Inv.write{x e:Addr}{o:HO}{t':Nat}(I:Inv X pins σ H s)(mu:Mut (H x))(he:e=x\/H e=some (.own x))(k:∀b u,b≠e->s.heap.get? b=some u->h'.get? b=some u)(heo:∃u,h'.get? e=some u)(new:z0X X.prog X.w (upd H x o) h' x o):Inv X pins σ (upd H x o) { s with heap:=h',toks:=t' }:=I.un (Un.write mu he k heo) (I.hok.write mu he k heo new)
def Inv.pins_of{pins':yyP}(I:Inv X pins σ H s)(h:∀p∈pins',s.heap.get? p.1=some p.2/\H p.1=none/\p.1≠X.env.locals/\p.1∉X.fs/\∀v,p.2.data≠.cell v):Inv X pins' σ H s :=
 ⟨I.ok,I.os,I.bare,I.base,I.loc,I.cell,I.free,I.freeC,λp hp=>(y0S.mp hp).elim (λz=>I.pin p (y30 _ z)) (h p),I.hok,I.len⟩
def z4F{N:List Str}(hN:N.Nodup){i j:Nat}{x:Str}(a:N[i]?=some x)(b:N[j]?=some x):i=j:=by obtain⟨h1,e1⟩:=y0G.mp a;obtain⟨h2,e2⟩:=y0G.mp b;exact(List.getElem_inj hN).mp (e1.trans e2.symm)
def z3M{M:Model}{A:Around}{E:yyE}{i:Nat}{x:Str}{v:V}{u:Value}{Q:Unit->Shared->Prop}(I:Inv X pins σ H s)(hN:X.N.Nodup)(hi:X.N[i]?=some x)(hx:Loc X.env.scope x)(r:z0A v u)(h:∀s',Inv X pins (σ.set i (some v)) H s'->(∃a,Heap.SameBut a s.heap s'.heap/\(a=X.env.locals\/X.env.cells.lookup x=some a))->Q () s')(hf:X.fn x=true\/X.env.scope.names.lookup x=some .local:=by first|exact .inl rfl|exact .inr rfl|assumption):wpAny M A (storeName X.env x u) Q E s:=by
 obtain⟨m,hn,hl⟩:=id I.loc;have hcls:(X.env.scope.kind == .class||(X.env.scope.kind == .module&&X.env.locals != X.env.globals))=false:=by rw[I.ok.kind];rfl
 have hiσ:i<σ.length:=by rw[I.len];exact(y0G.mp hi).1
 have cne:=I.cne;have tracked:∀{a:Addr}{h':Heap},(∃o,s.heap.get? a=some o/\H a=none)->Heap.SameBut a s.heap h'->HOk X.prog X.w H h':=λ{a h'} ha hs b ob e=>by
  obtain⟨_,_,hfree⟩:=ha;refine(I.hok b ob e).stay (λc w' hc q=>(hs.2 c ?_).trans q) (λ_ q=>q) λ_ _ q=>q;rintro rfl;rcases hc with rfl|hc
  .rw[hfree]at e;cases e
  .rw[hfree]at hc;cases hc
 rcases hx with hk|hk
 .refine wpAny_storeName_local hk hn (λh' hn' hs=>?_) hcls;obtain⟨oL,_,_,hoL,_⟩:=id hn;refine h _ ⟨I.ok,I.os,I.bare,⟨λb o e n hb hx=>?_,λb o e n hb hx=>?_,I.base.free,λb o e hx=>?_,I.base.tups,I.base.frzs,I.base.tbls⟩,⟨_,hn',λj y v' e1 e2 e3=>?_⟩,λy c e=>?_,I.free,I.freeC,λp hp=>?_,tracked ⟨oL,hoL,I.free⟩ hs,by simpa using I.len⟩ ⟨_,hs,.inl rfl⟩
  .exact(hs.2 b (y0p (y0q (y07 e) I.ok.above))).trans (I.base.keep b o e n hb hx)
  .obtain⟨sl,e1⟩:=I.base.slot b o e n hb hx;exact⟨sl,(hs.2 b (y0p (y0q (y07 e) I.ok.above))).trans e1⟩
  .obtain⟨o',e1⟩:=I.base.there b o e hx;exact⟨o',(hs.2 b (y0p (y0q (y07 e) I.ok.above))).trans e1⟩
  .by_cases hj:j=i
   .subst hj;rw[hi]at e1;cases e1;rw[y2A hiσ]at e2;cases e2;exact⟨u,r,.inl ⟨hk,by simp⟩⟩
   .rw[y31 (y10 hj)]at e2;obtain⟨u',r',q⟩:=hl j y v' e1 e2 e3;refine⟨u',r',?_⟩;rcases q with⟨k,e⟩|⟨k,c,e,z⟩
    .refine .inl ⟨k,?_⟩;have:y≠x:=λe=>hj (z4F hN e1 (e▸hi));simp[this,e]
    .exact .inr ⟨k,c,e,z.sameBut hs (cne y c e)⟩
  .obtain⟨w',z⟩:=I.cell y c e;exact⟨w',z.sameBut hs (cne y c e)⟩
  .obtain⟨e,n,ne,nf,d⟩:=I.pin p hp;exact⟨(hs.2 p.1 ne).trans e,n,ne,nf,d⟩
 .have hfn:X.fn x=true:=by
   rcases hf with z|z
   .exact z
   .rw[z]at hk;cases hk
  obtain⟨c,hc⟩:=I.ok.has x (.inl hk);obtain⟨w',z⟩:=I.cell x c hc;refine wpAny_storeName_cell I.ok.kind hk hc z (λh' hc' hs=>?_);obtain⟨oc,hoc,hocd⟩:=id z;refine h { s with heap:=h' } ⟨I.ok,I.os,I.bare,⟨λb o e n hb hx=>?_,λb o e n hb hx=>?_,I.base.free,λb o e hx=>?_,I.base.tups,I.base.frzs,I.base.tbls⟩,⟨m,hn.sameBut hs (y10 (cne x c hc)),λj y v' e1 e2 e3=>?_⟩,λy c' e=>?_,I.free,I.freeC,λp hp=>?_,tracked ⟨oc,hoc,I.freeC x c hc⟩ hs,by simpa using I.len⟩ ⟨c,hs,.inr hc⟩
  .exact(hs.2 b (y0p (y0q (y07 e) (I.ok.cab x c hfn hc)))).trans (I.base.keep b o e n hb hx)
  .obtain⟨sl,e1⟩:=I.base.slot b o e n hb hx;exact⟨sl,(hs.2 b (y0p (y0q (y07 e) (I.ok.cab x c hfn hc)))).trans e1⟩
  .obtain⟨o',e1⟩:=I.base.there b o e hx;exact⟨o',(hs.2 b (y0p (y0q (y07 e) (I.ok.cab x c hfn hc)))).trans e1⟩
  .by_cases hj:j=i
   .subst hj;rw[hi]at e1;cases e1;rw[y2A hiσ]at e2;cases e2;exact⟨u,r,.inr ⟨.inl hk,c,hc,hc'⟩⟩
   .rw[y31 (y10 hj)]at e2;obtain⟨u',r',q⟩:=hl j y v' e1 e2 e3;refine⟨u',r',?_⟩;rcases q with q|⟨k,c',e,z'⟩
    .exact .inl q
    .refine .inr ⟨k,c',e,z'.sameBut hs ?_⟩;rintro rfl;exact hj (z4F hN e1 (I.ok.inj _ _ _ e hc▸hi))
  .by_cases hcc:c'=c
   .subst hcc;exact⟨_,hc'⟩
   .obtain⟨w2,z2⟩:=I.cell y c' e;exact⟨w2,z2.sameBut hs hcc⟩
  .obtain⟨e,n,ne,nf,d⟩:=I.pin p hp;refine⟨(hs.2 p.1 ?_).trans e,n,ne,nf,d⟩;intro q;rw[q,hoc]at e;have q':oc=p.2:=y0d e;exact d w' (by rw[<-q'];exact hocd)
def z50{M:Model}{A:Around}{E:yyE}{i:Nat}{x:Str}{v:V}{u:Value}{Q:Unit->Shared->Prop}(I:Inv X pins σ H s)(hN:X.N.Nodup)(hi:X.N[i]?=some x)(hx:Loc X.env.scope x)(r:z0A v u)(h:∀s',Inv X pins (σ.set i (some v)) H s'->Q () s')(hf:X.fn x=true\/X.env.scope.names.lookup x=some .local:=by first|exact .inl rfl|exact .inr rfl|assumption):wpAny M A (storeName X.env x u) Q E s :=
 z3M I hN hi hx r (λs' I' _=>h s' I') hf
def Inv.call'{s':Shared}{ch:List Addr}(I:Inv X pins σ H s)(ho:s'.os=s.os)(u:Un (frs X.stack) ch H H' s.heap s'.heap)(hok:HOk X.prog X.w H' s'.heap)(hg:AllBare s'.gens)(hch:∀b∈ch,(b∈X.ex\/X.s₀.heap.objs.size<=b)/\b≠X.env.locals/\(∀x c,X.env.cells.lookup x=some c->c≠b)/\∀p∈X.pn++pins,p.1≠b):Inv X pins σ H' s':=by obtain⟨h',g',d',t',o'⟩:=s';have e:o'=s.os:=ho;subst e;exact I.call (g':=g') (t':=t') (d':=d') u hok hg hch
end
abbrev XK:=Value->Option Addr->Hp->Prop
abbrev St:=List (Option V)
abbrev VK:=V->Hp->Prop
abbrev TE:=St->Hp->VK->Prop
abbrev TT:=St->Hp->(Bool->Hp->Prop)->Prop
abbrev TA:=St->Hp->(List V->Hp->Prop)->Prop
structure zce where
 nx:St->Hp->Prop
 rt:VK
 bk:St->Hp->Prop:=λ_ _=>False
 ct:St->Hp->Prop:=λ_ _=>False
abbrev TS:=zce->St->Hp->Prop
def EP(X:Cx)(pins:yyP)(σ:St)(Q:VK)(u:Value)(s':Shared):Prop:=∃v H',Inv X pins σ H' s'/\z0A v u/\Q v H'
def TP(X:Cx)(pins:yyP)(σ:St)(Q:Bool->Hp->Prop)(b:Bool)(s':Shared):Prop:=∃H',Inv X pins σ H' s'/\Q b H'
def AP(X:Cx)(pins:yyP)(σ:St)(Q:List V->Hp->Prop)(us:List Value)(s':Shared):Prop:=∃vs H',Inv X pins σ H' s'/\z0B vs us/\Q vs H'
def SP(X:Cx)(pins:yyP)(D:zce)(f:Flow)(s':Shared):Prop :=
 match f with
 |.next=>∃σ' H',Inv X pins σ' H' s'/\D.nx σ' H'
 |.brk=>∃σ' H',Inv X pins σ' H' s'/\D.bk σ' H'
 |.cont=>∃σ' H',Inv X pins σ' H' s'/\D.ct σ' H'
 |.ret u=>∃v σ' H',Inv X pins σ' H' s'/\z0A v u/\D.rt v H'
def PE(X:Cx)(e:Expr)(t:TE):Prop :=
 ∀(pins:yyP)(s:Shared)(σ:St)(H:Hp)(Q:VK),Inv X pins σ H s->t σ H Q->wpAny (model X.prog X.w) X.A (eval e X.env) (EP X pins σ Q) X.xe s
def PT(X:Cx)(e:Expr)(t:TT):Prop :=
 ∀(pins:yyP)(s:Shared)(σ:St)(H:Hp)(Q:Bool->Hp->Prop),Inv X pins σ H s->t σ H Q->wpAny (model X.prog X.w) X.A (isTrue e X.env (eval e X.env)) (TP X pins σ Q) X.xe s
def PW(X:Cx)(e:Expr)(t:TT):Prop :=
 ∀(whole:Sem Value)(pins:yyP)(s:Shared)(σ:St)(H:Hp)(Q:Bool->Hp->Prop),Inv X pins σ H s->t σ H Q->wpAny (model X.prog X.w) X.A (isTrue e X.env whole) (TP X pins σ Q) X.xe s
def PW.pt{X:Cx}{e:Expr}{t:TT}(h:PW X e t):PT X e t:=h _
def PA(X:Cx)(es:List Expr)(t:TA):Prop :=
 ∀(pos:Pos)(pins:yyP)(s:Shared)(σ:St)(H:Hp)(Q:List V->Hp->Prop),Inv X pins σ H s->t σ H Q->wpAny (model X.prog X.w) X.A (spliced (backTo pos (starEach es X.env))) (AP X pins σ Q) X.xe s
def PS(X:Cx)(st:Stmt)(t:TS):Prop :=
 ∀(pins:yyP)(s:Shared)(σ:St)(H:Hp)(D:zce),Inv X pins σ H s->t D σ H->wpAny (model X.prog X.w) X.A (exec st X.env) (SP X pins D) X.xe s
def PSs(X:Cx)(st:List Stmt)(t:TS):Prop :=
 ∀(pins:yyP)(s:Shared)(σ:St)(H:Hp)(D:zce),Inv X pins σ H s->t D σ H->wpAny (model X.prog X.w) X.A (execs st X.env) (SP X pins D) X.xe s
def thn{α:Type}{t:Sem α}{Q Q':α->Shared->Prop}{M:Model}{A:Around}{E:yyE}{s:Shared}(h:wpAny M A t Q E s)(hQ:∀a s,Q a s->Q' a s):wpAny M A t Q' E s:=y0I h hQ λ_ _ x=>x
def exA{α:Sort _}{f g:α->Prop}{a:α}(h:f a)(k:g a):∃x,f x/\g x:=⟨a,h,k⟩
def exB{α β:Sort _}{f g:α->β->Prop}{a:α}{b:β}(h:f a b)(k:g a b):∃x y,f x y/\g x y:=⟨a,b,h,k⟩
def exC{α β:Sort _}{f f' g:α->β->Prop}{a:α}{b:β}(h:f a b)(h':f' a b)(k:g a b):∃x y,f x y/\f' x y/\g x y:=⟨a,b,h,h',k⟩
def exD{α β γ δ:Sort _}{f1 f2 f3 f4 g:α->β->γ->δ->Prop}(a:α)(b:β)(c:γ)(d:δ)(h1:f1 a b c d)(h2:f2 a b c d)(h3:f3 a b c d)(h4:f4 a b c d)(k:g a b c d):∃x y z w,f1 x y z w/\f2 x y z w/\f3 x y z w/\f4 x y z w/\g x y z w:=⟨a,b,c,d,h1,h2,h3,h4,k⟩
def exF{α β:Sort _}{f1 f2 f3 g:α->β->Prop}(a:α){b:β}(h1:f1 a b)(h2:f2 a b)(h3:f3 a b)(k:g a b):∃x y,f1 x y/\f2 x y/\f3 x y/\g x y:=⟨a,b,h1,h2,h3,k⟩
def exG{α β:Sort _}{f1 f2 g:α->β->Prop}(a:α){b:β}(h1:f1 a b)(h2:f2 a b)(k:g a b):∃x y,f1 x y/\f2 x y/\g x y:=⟨a,b,h1,h2,k⟩
def z2L{X:Cx}{pins:yyP}{σ:St}{Q:VK}{t:Sem Value}{R:yyE}{s:Shared}(h:wpAny (model X.prog X.w) X.A t (EP X pins σ Q) X.xe s)(k:∀u s1 x H1,Inv X pins σ H1 s1->z0A x u->Q x H1->R u s1):wpAny (model X.prog X.w) X.A t R X.xe s:=thn h λu s1 z=>by obtain⟨x,H1,I1,r,q⟩:=z;exact k u s1 x H1 I1 r q
section
variable{X:Cx}
def zkz(i:Nat):TE:=λσ H Q=>∃v,σ[i]?=some (some v)/\Q v H
def tC(v:V):TE:=λ_ H Q=>Q v H
def z9r{i:Nat}{x:Str}{pos:Pos}(hN:X.N[i]?=some x)(hv:Vis X.env.scope x)(hd:(x==("__debug__":Str))=false:=by decide)(hcd:(x==("__classdict__":Str))=false:=by decide):PE X (.Name x pos) (zkz i):=by
 intro pins s σ H Q I h;obtain⟨v,e,h⟩:=h;obtain⟨m,hn,hl⟩:=I.loc;obtain⟨u,r,l⟩:=hl i x v hN e hv;have fin:EP X pins σ Q u s:=⟨v,H,I,r,h⟩;rcases l with⟨hk,hm⟩|⟨hk,c,hc,hcell⟩
 .exact wpAny_Name (wpAny_loadName_local I.ok.kind hk hn hm fin) hd
 .rcases hk with hk|hk
  .exact wpAny_Name (wpAny_loadName_cell I.ok.kind hk hc hcell fin) hd
  .exact wpAny_Name (wpAny_loadName_free I.ok.kind hk hc hcell fin hcd) hd
def zf0{i j pos}:PE X (.Constant (.int i) j pos) (tC (.int i)):=λ_ _ _ H _ I h=>wpAny_Constant_int ⟨.int i,H,I.tok _,⟨_,rfl⟩,h⟩
def ziq{b j pos}:PE X (.Constant (.bool b) j pos) (tC (.bl b)):=λ_ _ _ H _ I h=>Constant_bool ⟨.bl b,H,I,rfl,h⟩
def zgF{j pos}:PE X (.Constant .none j pos) (tC .non):=λ_ _ _ H _ I h=>Constant_none ⟨.non,H,I,rfl,h⟩
def zfi{x j pos}:PE X (.Constant (.str x) j pos) (tC (.str x)):=λ_ _ _ H _ I h=>Calls.Constant_str ⟨.str x,H,I.tok _,⟨_,rfl⟩,h⟩
def Gl(X:Cx)(x:Str):Prop:=X.env.kindOf x=some .globalImplicit
def z2R{E:yyE}{pins:yyP}{s:Shared}{σ:St}{H:Hp}{x:Str}{u:Value}{pos:Pos}{Q:yyE}(I:Inv X pins σ H s)(hg:Gl X x)(hm:X.mg x=some u)(h:Q u s)(hd:(x==("__debug__":Str))=false:=by decide):wpAny (model X.prog X.w) X.A (eval (.Name x pos) X.env) Q E s :=
 Calls.Name_function_global I.ok.kind hg (Calls.loadGlobal_global (by rw[I.ok.glob];exact I.mod.glob.keeps I.bk) hm h) hd
def z3W{E:yyE}{pins:yyP}{s:Shared}{σ:St}{H:Hp}{x:Str}{u:Value}{pos:Pos}{Q:yyE}(I:Inv X pins σ H s)(hg:Gl X x)(hm:X.mg x=none)(hv:bootBuiltins x=some u)(h:Q u s)(hn:x≠"__name__":=by decide)(hd:(x==("__debug__":Str))=false:=by decide):wpAny (model X.prog X.w) X.A (eval (.Name x pos) X.env) Q E s:=by obtain⟨mb,h1,h2⟩:=I.mod.blt;exact Calls.Name_function_global I.ok.kind hg (Calls.loadGlobal_builtin (by rw[I.ok.glob];exact I.mod.glob.keeps I.bk) hm (by rw[I.ok.blt];exact h1.keeps I.bk) ((h2 x hn).trans hv) h) hd
def zdF{x:Str}{v:V}{u:Value}{pos:Pos}(hg:Gl X x)(hm:X.mg x=none)(hv:bootBuiltins x=some u)(r:z0A v u)(hn:x≠"__name__":=by decide)(hd:(x==("__debug__":Str))=false:=by decide):PE X (.Name x pos) (tC v) :=
 λ_ _ _ H _ I h=>z3W I hg hm hv ⟨v,H,I,r,h⟩ hn hd
variable{a b:Expr}{ta tb:TE}{pos:Pos}
variable{tA tB':TT}{rest:List Expr}
def zjg(t u:TT):TT:=λσ H Q=>t σ H λc H1=>if c=true then u σ H1 Q else Q false H1
def tOr(t u:TT):TT:=λσ H Q=>t σ H λc H1=>if c=true then Q true H1 else u σ H1 Q
def zkp(t:TT):TT:=λσ H Q=>t σ H λc H1=>Q (!c) H1
def zdH(ha:PT X a tA):PW X (.BoolOp .And [a] pos) tA:=by
 intro wh pins s σ H Q I h;refine isTrue_and (thn (ha pins s σ H Q I h) λc s1 e=>?_);cases c with
 |true=>exact isTrue_and_nil e
 |false=>exact e
def zgN(ha:PT X a tA):PW X (.BoolOp .Or [a] pos) tA:=by
 intro wh pins s σ H Q I h;refine isTrue_or (thn (ha pins s σ H Q I h) λc s1 e=>?_);cases c with
 |false=>exact isTrue_or_nil e
 |true=>exact e
def zg3(ha:PT X a tA)(hb:PW X (.BoolOp .And (b::rest) pos) tB'):PW X (.BoolOp .And (a::b::rest) pos) (zjg tA tB'):=by
 intro wh pins s σ H Q I h;refine isTrue_and (thn (ha pins s σ H _ I h) λc s1 hz8=>?_);obtain⟨H1,I1,q1⟩:=hz8;cases c with
 |true=>exact hb wh pins s1 σ H1 Q I1 q1
 |false=>exact⟨H1,I1,q1⟩
def zi0(ha:PT X a tA)(hb:PW X (.BoolOp .Or (b::rest) pos) tB'):PW X (.BoolOp .Or (a::b::rest) pos) (tOr tA tB'):=by
 intro wh pins s σ H Q I h;refine isTrue_or (thn (ha pins s σ H _ I h) λc s1 hz8=>?_);obtain⟨H1,I1,q1⟩:=hz8;cases c with
 |true=>exact⟨H1,I1,q1⟩
 |false=>exact hb wh pins s1 σ H1 Q I1 q1
def zf6(ha:PT X a tA):PT X (.UnaryOp .Not a pos) (zkp tA):=by intro pins s σ H Q I h;exact isTrue_not (ha pins s σ H (λc H1=>Q (!c) H1) I h)
def zhL(ta tb:TE):TE:=λσ H Q=>ta σ H λx H1=>∃c,x=.bl c/\if c=true then tb σ H1 Q else Q (.bl false) H1
def zhY(ta:TE):TE:=λσ H Q=>ta σ H λx H1=>∃c,x=.bl c/\Q (.bl (!c)) H1
def zeI{op}{t:TE}(h:PE X a t):PE X (.BoolOp op [a] pos) t:=λpins s σ H Q I hw=>BoolOp_one (h pins s σ H Q I hw)
def zfh(ha:PE X a ta)(hb:PE X (.BoolOp .And (b::rest) pos) tb):PE X (.BoolOp .And (a::b::rest) pos) (zhL ta tb):=by
 intro pins s σ H Q I h;refine BoolOp_and (z2L (ha pins s σ H _ I h) λv s1 x H1 I1 r1 q1=>?_);obtain⟨c,rfl,q1⟩:=q1;cases r1;refine y1h ?_;cases c with
 |true=>exact hb pins s1 σ H1 Q I1 q1
 |false=>exact⟨.bl false,H1,I1,rfl,q1⟩
def zgC(ha:PE X a ta):PE X (.UnaryOp .Not a pos) (zhY ta):=by intro pins s σ H Q I h;refine UnaryOp_ (z2L (ha pins s σ H _ I h) λv s1 x H1 I1 r1 q1=>?_);obtain⟨c,rfl,q1⟩:=q1;cases r1;exact not_of (y1h ⟨.bl (!c),H1,I1,rfl,q1⟩)
def tIf(t:TT)(ta tb:TE):TE:=λσ H Q=>t σ H λc H1=>if c=true then ta σ H1 Q else tb σ H1 Q
def zbK{c:Expr}(hc:PT X c tA)(ha:PE X a ta)(hb:PE X b tb):PE X (.IfExp c a b pos) (tIf tA ta tb):=by
 intro pins s σ H Q I h;refine wpAny_IfExp (thn (hc pins s σ H _ I h) λd s1 hz8=>?_);obtain⟨H1,I1,q1⟩:=hz8;cases d with
 |true=>exact ha pins s1 σ H1 Q I1 q1
 |false=>exact hb pins s1 σ H1 Q I1 q1
end
def SqL(K:yyF)(H:Hp)(a:Addr)(xs:List V):Prop :=
 Rd H a (.lst xs) \/
  ∃(o:Obj) (its:Array Value) (n:Nat),K.lookup a=some o/\o.cls=.type "list"/\o.dict=none/\o.data=.seq its n/\its.size<=sizeLine/\z0B xs its.toList
def SqT(K:yyF)(H:Hp)(a:Addr)(xs:List V):Prop :=
 Rd H a (.tup xs) \/
  ∃(o:Obj) (its:Array Value) (n:Nat),K.lookup a=some o/\o.cls=.type "tuple"/\o.data=.seq its n/\its.size<=sizeLine/\z0B xs its.toList
def zk1:Value->Option V
 |.none=>some .non
 |.bool b=>some (.bl b)
 |.int i _=>some (.int i)
 |.str x _=>some (.str x)
 |.bytes b _=>some (.byt b)
 |.float b _=>some (.flt b)
 |.ref a=>some (.ref a)
 |.type n=>some (.ty n)
 |_=>none
def z0A.abs{x:V}{u:Value}(r:z0A x u):zk1 u=some x:=by
 cases x with
 |non=>cases r;rfl
 |bl _=>cases r;rfl
 |int _=>obtain⟨t,rfl⟩:=r;rfl
 |str _=>obtain⟨t,rfl⟩:=r;rfl
 |byt _=>obtain⟨t,rfl⟩:=r;rfl
 |flt _=>obtain⟨t,rfl⟩:=r;rfl
 |ref _=>cases r;rfl
 |ty _=>cases r;rfl
def z0A.inj{x y:V}{u:Value}(r:z0A x u)(q:z0A y u):x=y:=y0d (r.abs.symm.trans q.abs)
theorem z0B.inj:∀{xs ys:List V}{us:List Value},z0B xs us->z0B ys us->xs=ys
 |_,_,_,.nil,.nil=>rfl
 |_,_,_,.cons r t,.cons r' t'=>by rw[r.inj r',z0B.inj t t']
section
variable{X:Cx}{pins:yyP}{σ:St}{H:Hp}{s:Shared}{a:Addr}{xs ys:List V}
def SqL.of{K:yyF}(h:H a=some (.lst xs)):SqL K H a xs:=.inl (.inl h)
def SqT.of{K:yyF}(h:H a=some (.tup xs)):SqT K H a xs:=.inl (.inl h)
def Inv.list(I:Inv X pins σ H s)(h:SqL X.K H a xs):∃its:List Value,z0B xs its/\PlainL s.heap a its.toArray/\xs.length<=sizeLine:=by
 rcases h with h|⟨o,its,n,hk,hc,hd,hs,hz,r⟩
 .obtain⟨z,its,n,r,e⟩:=h.ok I.hok;exact⟨its,r,⟨_,n,e,rfl,rfl,rfl⟩,z⟩
 .refine⟨its.toList,r,⟨o,n,I.kIn a o hk,hc,hd,by simpa using hs⟩,?_⟩;have e:=r.length;simp only[y1B]at e;lia
def Inv.tuple(I:Inv X pins σ H s)(h:SqT X.K H a xs):∃its:List Value,z0B xs its/\IsTup s.heap a its.toArray/\xs.length<=sizeLine:=by
 rcases h with h|⟨o,its,n,hk,hc,hs,hz,r⟩
 .obtain⟨z,its,n,r,e⟩:=h.ok I.hok;exact⟨its,r,⟨_,e,rfl,n,rfl⟩,z⟩
 .refine⟨its.toList,r,⟨o,I.kIn a o hk,hc,n,by simpa using hs⟩,?_⟩;have e:=r.length;simp only[y1B]at e;lia
def Inv.list_inj(I:Inv X pins σ H s)(h:SqL X.K H a xs)(h':SqL X.K H a ys):xs=ys:=by
 obtain⟨its,r,⟨o,n,e,_,_,d⟩,_⟩:=I.list h;obtain⟨its',r',⟨o',n',e',_,_,d'⟩,_⟩:=I.list h';rw[e]at e';cases e';rw[d]at d';injection d' with d1 _;have:its=its':=by simpa using y2c Array.toList d1
 subst this;exact r.inj r'
def Inv.tuple_inj(I:Inv X pins σ H s)(h:SqT X.K H a xs)(h':SqT X.K H a ys):xs=ys:=by
 obtain⟨its,r,⟨o,e,_,n,d⟩,_⟩:=I.tuple h;obtain⟨its',r',⟨o',e',_,n',d'⟩,_⟩:=I.tuple h';rw[e]at e';cases e';rw[d]at d';injection d' with d1 _;have:its=its':=by simpa using y2c Array.toList d1
 subst this;exact r.inj r'
end
section
variable{X:Cx}{pins:yyP}{σ:St}{H:Hp}{s:Shared}{E:yyE}
end
section
variable{X:Cx}{st:Stmt}{rest:List Stmt}{t u:TS}{e:Expr}{te:TE}{pos:Pos}
def zir:TS:=λD σ H=>D.nx σ H
def zke(t u:TS):TS:=λD σ H=>t { D with nx:=u D } σ H
def zdc:PSs X [] zir:=λ_ _ σ H _ I h=>y2p ⟨σ,H,I,h⟩
def zaE(h1:PS X st t)(h2:PSs X rest u):PSs X (st::rest) (zke t u):=by
 intro pins s σ H D I h;refine wpAny_execs_cons (thn (h1 pins s σ H { D with nx:=u D } I h) λf s1 q=>?_);cases f with
 |next =>
  obtain⟨σ',H',I',q⟩:=q;exact h2 pins s1 σ' H' D I' q
 |ret v=>exact q
 |brk=>exact q
 |cont=>exact q
def zek(h1:PS X st t):PSs X [st] t:=by
 intro pins s σ H D I h;refine wpAny_execs_cons (thn (h1 pins s σ H D I h) λf s1 q=>?_);cases f with
 |next=>exact y2p q
 |ret v=>exact q
 |brk=>exact q
 |cont=>exact q
def Inv.quiet{pins:yyP}{σ:St}{H:Hp}{s:Shared}(I:Inv X pins σ H s):interactive X.env=false:=by simp[interactive,I.ok.kind]
def ziB(te:TE):TS:=λD σ H=>te σ H λ_ H1=>D.nx σ H1
def zcZ(he:PE X e te)(hs:swapsWith e none pos.line X.env=pure false:=by rfl):PS X (.Expr e pos) (ziB te):=by intro pins s σ H D I h;exact wpAny_Expr_any (z2L (he pins s σ H _ I h) λv s1 x H1 I1 r1 q1=>⟨σ,H1,I1,q1⟩) I.quiet hs
def zka(te:TE):TS:=λD σ H=>te σ H D.rt
def zfW(he:PE X e te):PS X (.Return (some e) pos) (zka te):=by intro pins s σ H D I h;exact wpAny_Return_some (z2L (he pins s σ H _ I h) λv s1 x H1 I1 r1 q1=>⟨x,σ,H1,I1,r1,q1⟩)
def zk6(c:TT)(t u:TS):TS:=λD σ H=>c σ H λb H1=>if b=true then t D σ H1 else u D σ H1
def zil{c:Expr}{a b:List Stmt}{tc:TT}(hc:PT X c tc)(ha:PSs X a t)(hb:PSs X b u):PS X (.If c a b pos) (zk6 tc t u):=by
 intro pins s σ H D I h;refine wpAny_If (thn (hc pins s σ H _ I h) λd s1 hz8=>?_);obtain⟨H1,I1,q1⟩:=hz8;cases d with
 |true=>exact ha pins s1 σ H1 D I1 q1
 |false=>exact hb pins s1 σ H1 D I1 q1
end
abbrev TG:=V->St->Hp->(St->Hp->Prop)->Prop
abbrev TGs:=List V->St->Hp->(St->Hp->Prop)->Prop
def PG(X:Cx)(target:Expr)(t:TG):Prop :=
 ∀(pins:yyP)(s:Shared)(σ:St)(H:Hp)(v:V)(u:Value)(Q:St->Hp->Prop),Inv X pins σ H s->z0A v u->t v σ H Q ->
  wpAny (model X.prog X.w) X.A (assign target X.env u) (λ_ s'=>∃σ' H',Inv X pins σ' H' s'/\Q σ' H') X.xe s
def PGs(X:Cx)(ts:List Expr)(t:TGs):Prop :=
 ∀(pins:yyP)(s:Shared)(σ:St)(H:Hp)(vs:List V)(us:List Value)(Q:St->Hp->Prop),Inv X pins σ H s->z0B vs us->t vs σ H Q ->
  wpAny (model X.prog X.w) X.A (assignInOrder ((assignEach ts X.env).map (·.2)) us) (λ_ s'=>∃σ' H',Inv X pins σ' H' s'/\Q σ' H') X.xe s
abbrev TIp:=V->V->Hp->VK->Prop
def PIp(X:Cx)(op:Operator)(t:TIp):Prop :=
 ∀(pins:yyP)(s:Shared)(σ:St)(H:Hp)(x y:V)(v u:Value)(Q:VK),Inv X pins σ H s->z0A x v->z0A y u->t x y H Q ->
  wpAny (model X.prog X.w) X.A (inplaceOp op v u) (EP X pins σ Q) X.xe s
section
variable{X:Cx}{pos:Pos}
def zet(i:Nat):TG:=λv σ H Q=>Q (σ.set i (some v)) H
def zex{i:Nat}{x:Str}(hN:X.N.Nodup)(hi:X.N[i]?=some x)(hx:Loc X.env.scope x)(hf:X.fn x=true\/X.env.scope.names.lookup x=some .local:=by first|exact .inl rfl|exact .inr rfl|assumption):PG X (.Name x pos) (zet i):=by intro pins s σ H v u Q I r h;exact wpAny_assign_Name (z50 I hN hi hx r (λs' I'=>⟨_,H,I',h⟩) hf)
def zha:TGs:=λvs σ H Q=>vs=[]/\Q σ H
def zbM(t:TG)(u:TGs):TGs:=λvs σ H Q=>∃v r,vs=v::r/\t v σ H λσ' H'=>u r σ' H' Q
def zcJ:PGs X [] zha:=by intro pins s σ H vs us Q I r h;obtain⟨e,h⟩:=h;subst e;cases r;exact assignInOrder_nil ⟨σ,H,I,h⟩
def zbs{e:Expr}{es:List Expr}{t:TG}{u:TGs}(h1:PG X e t)(h2:PGs X es u)(hs:(assignEach (e::es) X.env).map (·.2)=assign e X.env::(assignEach es X.env).map (·.2):=by rfl):PGs X (e::es) (zbM t u):=by
 intro pins s σ H vs us Q I r h;obtain⟨v,vr,e1,h⟩:=h;subst e1;cases r with
 |cons r rr =>
  rw[hs];refine assignInOrder_cons (thn (h1 pins s σ H _ _ _ I r h) λ_ s1 hz8=>?_);obtain⟨σ1,H1,I1,q1⟩:=hz8;exact h2 pins s1 σ1 H1 _ _ Q I1 rr q1
def zhe(K:yyF)(n:Nat)(t:TGs):TG:=λv σ H Q=>∃a xs,v=.ref a/\SqT K H a xs/\xs.length=n/\t xs σ H Q
def zfa{es:List Expr}{k:Nat}{t:TGs}{n:Nat}(hc:X.calm=true)(h:PGs X es t)(hn:(assignEach es X.env).length=n:=by rfl)(hst:(assignEach es X.env).findIdx? (·.1)=none:=by rfl):PG X (.Tuple es k pos) (zhe X.K n t):=by intro pins s σ H v u Q I r hw;obtain⟨a,xs,e1,hq,hl,hw⟩:=hw;subst e1;cases r;obtain⟨its,rv,ht,hz⟩:=I.tuple hq;refine assign_Tuple_tuple (I.ok.hd hc) ht (by simp[hn,<-hl,rv.length]) hst λh' hx=>?_;have I1:Inv X pins σ H { s with heap:=h' }:=I.kept (t':=s.toks) λb o e=>hx b o (y0p (y07 e)) e;exact h pins _ σ H xs _ Q I1 (by simpa using rv) hw
def ziz(te:TE)(g:TG):TS:=λD σ H=>te σ H λx H1=>g x σ H1 D.nx
def zgJ{tg e:Expr}{te:TE}{g:TG}(he:PE X e te)(hg:PG X tg g)(hs:swapsWithSole [tg] e pos.line X.env=pure false:=by rfl)(hw:swappedStores [tg] e X.env=pure none:=by rfl)(h1:(assignEach [tg] X.env).map (·.2)=[assign tg X.env]:=by rfl):PS X (.Assign [tg] e pos) (ziz te g):=by intro pins s σ H D I h;refine wpAny_Assign_stores (z2L (he pins s σ H _ I h) λv s1 x H1 I1 r1 q1=>?_) hs hw;rw[h1];exact thn (hg pins s1 σ H1 x v _ I1 r1 q1) λ_ s2 q=>q
def zft{i:Nat}{x:Str}{e:Expr}{te:TE}{pos':Pos}(hN:X.N.Nodup)(hi:X.N[i]?=some x)(hx:Loc X.env.scope x)(he:PE X e te)(hs:swapsWith e (some (.Name x pos')) pos.line X.env=pure false:=by rfl)(hf:X.fn x=true\/X.env.scope.names.lookup x=some .local:=by first|exact .inl rfl|exact .inr rfl|assumption) : PS X (.Assign [.Name x pos'] e pos) (ziz te (zet i)):=by intro pins s σ H D I h;refine wpAny_Assign_Name (z2L (he pins s σ H _ I h) λv s1 y H1 I1 r1 q1=>?_) hs;exact z50 I1 hN hi hx r1 (λs2 I2=>⟨_,H1,I2,q1⟩) hf
def zkd(i:Nat)(te:TE)(ti:TIp):TS:=λD σ H=>∃x,σ[i]?=some (some x)/\te σ H λy H1=>ti x y H1 λz H2=>D.nx (σ.set i (some z)) H2
def zgR{i:Nat}{x:Str}{e:Expr}{te:TE}{op:Operator}{ti:TIp}{pos':Pos}(hN:X.N.Nodup)(hi:X.N[i]?=some x)(hx:Loc X.env.scope x)(he:PE X e te)(ho:PIp X op ti)(hf:X.fn x=true\/X.env.scope.names.lookup x=some .local:=by first|exact .inl rfl|exact .inr rfl|assumption) : PS X (.AugAssign (.Name x pos') op e pos) (zkd i te ti):=by
 intro pins s σ H D I h;obtain⟨v,e1,h⟩:=h;obtain⟨m,hn,hl⟩:=I.loc;have vis:Vis X.env.scope x:=by rcases hx with k|k;exact .inl k;exact .inr (.inl k)
 obtain⟨u,r,l⟩:=hl i x v hi e1 vis;refine wpAny_AugAssign_Name ?_;have go:wpAny (model X.prog X.w) X.A (eval e X.env) (λw s₂=>wpAny (model X.prog X.w) X.A (inplaceOp op u w) (λr s₃=>wpAny (model X.prog X.w) X.A (storeName X.env x r) (λ_=>SP X pins D .next) X.xe s₃) X.xe s₂) X.xe s:=by refine z2L (he pins s σ H _ I h) λw s1 y H1 I1 r1 q1=>?_;refine z2L (ho pins s1 σ H1 v y u w _ I1 r r1 q1) λz s2 zv H2 I2 r2 q2=>?_;exact z50 I2 hN hi hx r2 (λs3 I3=>⟨_,H2,I3,q2⟩) hf
 rcases l with⟨hk,hm⟩|⟨hk,c,hc,hcell⟩
 .exact wpAny_loadName_local I.ok.kind hk hn hm go
 .rcases hk with hk|hk
  .exact wpAny_loadName_cell I.ok.kind hk hc hcell go
  .rcases hx with k|k
   .have:X.env.scope.names.lookup x=some .free:=hk;rw[k]at this;cases this
   .have:X.env.scope.names.lookup x=some .free:=hk;rw[k]at this;cases this
end
section
variable{X:Cx}{pos:Pos}
def zgb(c:TT)(tb:TS):TS:=λD σ H=>∃W:Nat->St->Hp->Prop,(∃m,W m σ H)/\∀m σ H,W m σ H ->
 c σ H λb H1=>if b=true then ∃N:St->Hp->Prop,(∀σ' H',N σ' H'->∃m',m'<m/\W m' σ' H')/\tb { D with nx:=N,ct:=N,bk:=D.nx } σ H1 else D.nx σ H1
def zbT{c:Expr}{body:List Stmt}{tc:TT}{tb:TS}(hp:PassesOwn (model X.prog X.w) X.A X.env X.xe)(hc:PT X c tc)(hb:PSs X body tb):PS X (.While c body [] pos) (zgb tc tb):=by
 intro pins s σ H D I h;obtain⟨W,⟨m0,w0⟩,turn⟩:=h;refine wpAny_While (codeAny_whileLoop (λn s'=>∃σ' H',Inv X pins σ' H' s'/\W n σ' H') ?_ m0 ⟨σ,H,I,w0⟩);rintro n s1 ⟨σ1,H1,I1,w1⟩;refine y1R hp (thn (hc pins s1 σ1 H1 _ I1 (turn n σ1 H1 w1)) λb s2 hz8=>?_);obtain⟨H2,I2,q2⟩:=hz8;cases b with
 |true =>
  obtain⟨N,hN,q2⟩:=q2;rw[if_pos rfl];refine y1R hp (thn (hb pins s2 σ1 H2 _ I2 q2) λf s3 q3=>?_);cases f with
  |next =>
   obtain⟨σ3,H3,I3,n3⟩:=q3;obtain⟨m',hm,w3⟩:=hN σ3 H3 n3;exact⟨m',hm,σ3,H3,I3,w3⟩
  |cont =>
   obtain⟨σ3,H3,I3,n3⟩:=q3;obtain⟨m',hm,w3⟩:=hN σ3 H3 n3;exact⟨m',hm,σ3,H3,I3,w3⟩
  |brk=>exact q3
  |ret v=>exact q3
 |false =>
  rw[if_neg y0c];exact y2p ⟨σ1,H2,I2,q2⟩
end
structure It where
 go:Nat->Hp->Prop
 yld:Nat->Hp->V->Hp->Prop
 stop:Nat->Hp->Prop
def z4n(X:Cx)(pins:yyP)(H:Hp)(b:Addr):Prop :=
 H b=none/\b≠X.env.locals/\b∉X.fs/\(b∈X.ex\/X.s₀.heap.objs.size<=b)/\(∀x c,X.env.cells.lookup x=some c->c≠b)/\∀p∈X.pn++pins,p.1≠b
def Inv.fpOk{X:Cx}{pins:yyP}{σ:St}{H H':Hp}{s:Shared}{b:Addr}(I:Inv X pins σ H s)(hb:s.heap.objs.size<=b)(hn:H' b=none):z4n X pins H' b:=by
 refine⟨hn,y3i (y0q I.lt hb),I.nofs hb,.inr (y0k I.sz hb),λx c e z=>?_,λp hp z=>?_⟩
 .obtain⟨v,q⟩:=I.cell x c e;exact absurd (y0q q.lt (by rw[z];exact hb)) (y1w _)
 .exact absurd (y0q (y07 (I.pin p hp).1) (by rw[z];exact hb)) (y1w _)
structure z8M(P:Program)(w:World)(K:yyF)(tg:Expr)(J:It)(fp:List Addr)(it:Addr)(tn:Nat->Heap->Prop):Prop where
 mem:it∈fp
 obj:∀i h,tn i h->∀b∈fp,∃o,h.get? b=some o/\∀v,o.data≠.cell v
 keep:∀i h h',tn i h->(∀b∈fp,∀o,h.get? b=some o->h'.get? b=some o)->tn i h'
 item:∀(X:Cx),X.prog=P->X.w=w->X.K=K->X.calm=true->∀(i:Nat)(pins:yyP)(s:Shared)(σ:St)(H:Hp)(E:yyE),Inv X pins σ H s->(∀b∈fp,z4n X pins H b)->tn i s.heap->J.go i H ->
  wpAny (model P w) X.A (pyNext (.ref it)) (λr s1=>∃u,r=some u /\
   wpAny (model P w) X.A (letOwnedTupleGo tg (.ref it) u) (λ_ s2=>∃x H',Inv X pins σ H' s2/\z0A x u/\J.yld i H x H'/\tn (i+1) s2.heap/\∀b∈fp,H' b=none) E s1) E s
 done:∀(X:Cx),X.prog=P->X.w=w->X.K=K->X.calm=true->∀(i:Nat)(pins:yyP)(s:Shared)(σ:St)(H:Hp)(E:yyE),Inv X pins σ H s->(∀b∈fp,z4n X pins H b)->tn i s.heap->J.stop i H ->
  wpAny (model P w) X.A (pyNext (.ref it)) (λr s1=>r=none/\Inv X pins σ H s1) E s
 self:∀(A:Around)(i:Nat)(s:Shared)(Q:yyE)(E:yyE),tn i s.heap->Q (.ref it) s->wpAny (model P w) A (pyIter (.ref it)) Q E s
abbrev TI:=St->Hp->(It->Hp->Prop)->Prop
def PIE(X:Cx)(pins:yyP)(σ:St)(tg:Expr)(R:It->Hp->Prop)(itv:Value)(s2:Shared):Prop :=
 ∃(it:Addr)(fp:List Addr)(tn:Nat->Heap->Prop)(J:It)(H':Hp),itv=.ref it/\Inv X pins σ H' s2/\z8M X.prog X.w X.K tg J fp it tn/\tn 0 s2.heap/\(∀b∈fp,z4n X pins H' b)/\R J H'
def PI(X:Cx)(tg iter:Expr)(wi:TI):Prop :=
 ∀(pins:yyP)(s:Shared)(σ:St)(H:Hp)(R:It->Hp->Prop),Inv X pins σ H s->wi σ H R ->
  wpAny (model X.prog X.w) X.A (eval iter X.env) (λv s1=>wpAny (model X.prog X.w) X.A (pyIter v) (PIE X pins σ tg R) X.xe s1) X.xe s
def z8t{M:Model}{A:Around}{E:yyE}{s:Shared}{tg:Expr}{it:Addr}{u:Value}{o:Obj}{n:String}{vs:Array Value}{Q:Unit->Shared->Prop}(ho:s.heap.get? it=some o)(hc:o.cls=.type n)(hd:o.data=.fields vs)(hn:["enumerate","zip","dict_itemiterator","dict_reverseitemiterator","odict_iterator","itertools.zip_longest","itertools.pairwise"].contains n=false)(hQ:Q () s):wpAny M A (letOwnedTupleGo tg (.ref it) u) Q E s:=by
 unfold letOwnedTupleGo;cases tg<;>first
  |exact y03 hQ
  | (cases u<;>first
    |exact y03 hQ
    | (refine y01 (wpAny_load ho ?_)
       rw[hc,hd];show wpAny M A (if(["enumerate","zip","dict_itemiterator","dict_reverseitemiterator","odict_iterator","itertools.zip_longest","itertools.pairwise"].contains n&&vs[0]?==some (rawInt _))=true then _ else _) Q E s;rw[if_neg (by intro h;rw[hn,Bool.false_and]at h;cases h)];exact y03 hQ))
def Itl(K:yyF)(a:Addr):It :=
 ⟨λi H=>∃xs x,SqL K H a xs/\xs[i]?=some x,λi H x H'=>H'=H/\∀xs,SqL K H a xs->xs[i]?=some x,λi H=>∃xs,SqL K H a xs/\xs.length<=i⟩
def Itt(K:yyF)(a:Addr):It :=
 ⟨λi H=>∃xs x,SqT K H a xs/\xs[i]?=some x,λi H x H'=>H'=H/\∀xs,SqT K H a xs->xs[i]?=some x,λi H=>∃xs,SqT K H a xs/\xs.length<=i⟩
def Itr(lo:Int)(n:Nat):It:=⟨λi _=>i<n,λi H x H'=>H'=H/\x=.int (lo+i),λi _=>n<=i⟩
def z96{P:Program}{w:World}{K:yyF}{tg:Expr}(a it:Addr):z8M P w K tg (Itl K a) [it] it (λi h=>h.IsListIter it a i) where
 mem:=by simp
 obj:=λi h st b hb=>by
  have e:b=it:=by simpa using hb
  subst e;obtain⟨o,e,c,d⟩:=st;exact⟨o,e,λv z=>by rw[d]at z;cases z⟩
 keep:=λi h h' st k=>st.at λo e=>k it (by simp) o e
 item:=by intro X hP hw hK hc i pins s σ H E I hf st hg;subst hP hw hK;obtain⟨xs,x,hq,hx⟩:=hg;obtain⟨its,rv,p,hz⟩:=I.list hq;obtain⟨u,hu,ru⟩:=rv.get hx;obtain⟨f0,f1,f2,f3,f4,f5⟩:=hf it (by simp);refine wpAny_pyNext_list_item st p.isList (x:=u) (by simpa using hu) λh' st' sb=>?_;have I1:Inv X pins σ H { s with heap:=h' }:=I.turned (t':=s.toks) (λb o hb e=>(sb.2 b hb).trans e) f0 f1 f3 f4 f5;obtain⟨o,e,c,d⟩:=id st';exact⟨u,rfl,z8t (s:={ s with heap:=h' }) e c d (by decide) ⟨x,H,I1,ru,⟨rfl,λys hy=>by rw[I.list_inj hy hq];exact hx⟩,st',λb hb=>(hf b hb).1⟩⟩
 done:=by intro X hP hw hK hc i pins s σ H E I hf st hg;subst hP hw hK;obtain⟨xs,hq,hx⟩:=hg;obtain⟨its,rv,p,hz⟩:=I.list hq;obtain⟨f0,f1,f2,f3,f4,f5⟩:=hf it (by simp);have hl:=rv.length;exact wpAny_pyNext_list_end (I.ok.hd hc) st p.isList (by simp;lia) λh' eb=>⟨rfl,I.turned (t':=s.toks) (λb o hb e=>eb b o hb e) f0 f1 f3 f4 f5⟩
 self:=λ_ _ _ _ _ st h=>wpAny_pyIter_listiter st h
def z8B{P:Program}{w:World}{K:yyF}{tg:Expr}(a it:Addr):z8M P w K tg (Itt K a) [it] it (λi h=>h.IsTupleIter it a i) where
 mem:=by simp
 obj:=λi h st b hb=>by
  have e:b=it:=by simpa using hb
  subst e;obtain⟨o,e,c,d⟩:=st;exact⟨o,e,λv z=>by rw[d]at z;cases z⟩
 keep:=λi h h' st k=>st.at λo e=>k it (by simp) o e
 item:=by intro X hP hw hK hc i pins s σ H E I hf st hg;subst hP hw hK;obtain⟨xs,x,hq,hx⟩:=hg;obtain⟨its,rv,p,hz⟩:=I.tuple hq;obtain⟨u,hu,ru⟩:=rv.get hx;obtain⟨f0,f1,f2,f3,f4,f5⟩:=hf it (by simp);refine wpAny_pyNext_tuple_item st (show s.heap.IsTuple a its.toArray from p) (x:=u) (by simpa using hu) λh' st' sb=>?_;have I1:Inv X pins σ H { s with heap:=h' }:=I.turned (t':=s.toks) (λb o hb e=>(sb.2 b hb).trans e) f0 f1 f3 f4 f5;obtain⟨o,e,c,d⟩:=id st';exact⟨u,rfl,z8t (s:={ s with heap:=h' }) e c d (by decide) ⟨x,H,I1,ru,⟨rfl,λys hy=>by rw[I.tuple_inj hy hq];exact hx⟩,st',λb hb=>(hf b hb).1⟩⟩
 done:=by intro X hP hw hK hc i pins s σ H E I hf st hg;subst hP hw hK;obtain⟨xs,hq,hx⟩:=hg;obtain⟨its,rv,p,hz⟩:=I.tuple hq;obtain⟨f0,f1,f2,f3,f4,f5⟩:=hf it (by simp);have hl:=rv.length;exact wpAny_pyNext_tuple_end (I.ok.hd hc) st (show s.heap.IsTuple a its.toArray from p) (by simp;lia) λh' eb=>⟨rfl,I.turned (t':=s.toks) (λb o hb e=>eb b o hb e) f0 f1 f3 f4 f5⟩
 self:=λ_ _ _ _ _ st h=>wpAny_pyIter_tupleiter st h
def z8G{P:Program}{w:World}{K:yyF}{tg:Expr}(it:Addr)(lo:Int)(n:Nat):z8M P w K tg (Itr lo n) [it] it (λi h=>IsRangeIter h it (lo+(i:Nat)*1) ((n:Int)-(i:Nat)) 1) where
 mem:=by simp
 obj:=λi h st b hb=>by
  have e:b=it:=by simpa using hb
  subst e;exact⟨_,st,λv z=>by have z':Data.fields _=Data.cell v:=z;cases z'⟩
 keep:=λi h h' st k=>k it (by simp) _ st
 item:=by intro X hP hw hK hc i pins s σ H E I hf st hg;subst hP hw hK;obtain⟨f0,f1,f2,f3,f4,f5⟩:=hf it (by simp);have W:=Walks.range (prog:=X.prog) (w:=X.w) (I.ok.hd hc) it lo 1 n;refine W.item i s _ _ hg st λv h' tk hv st' kk=>?_;obtain⟨t,rfl⟩:=hv;have I1:Inv X pins σ H { s with heap:=h',toks:=tk }:=I.turned (λb o hb e=>kk b o (by simpa using hb) e) f0 f1 f3 f4 f5;refine⟨_,rfl,z8t (s:={ s with heap:=h',toks:=tk }) (n:="range_iterator") st' rfl rfl (by decide) ⟨.int (lo+i),H,I1,⟨t,?_⟩,⟨rfl,rfl⟩,st',λb hb=>(hf b hb).1⟩⟩;rw[Int.mul_one]
 done:=by intro X hP hw hK hc i pins s σ H E I hf st hg;subst hP hw hK;obtain⟨f0,f1,f2,f3,f4,f5⟩:=hf it (by simp);exact wpAny_pyNext_range_end (I.ok.hd hc) st (by have:n<=i:=hg;lia) λh' eb=>⟨rfl,I.turned (t':=s.toks) (λb o hb e=>eb b o hb e) f0 f1 f3 f4 f5⟩
 self:=λ_ _ _ _ _ st h=>wpAny_pyIter_rangeiter st h
section
variable{X:Cx}{tg:Expr}
def z71{pins:yyP}{σ:St}{H:Hp}{s:Shared}{R:It->Hp->Prop}{E:yyE}{lo hi:Int}{t u v:Tok}{tk:Nat}(I:Inv X pins σ H s)(h1:-(2^62)<=lo)(h2:lo<2^62)(h3:-(2^62)<=hi)(h4:hi<2^62)(q:R (Itr lo (hi-lo).toNat) H):wpAny (model X.prog X.w) X.A (pyIter (.ref s.heap.objs.size)) (PIE X pins σ tg R) E { s with heap:=s.heap.push { cls:=.type "range",data:=.fields #[.int lo t,.int hi u,.int 1 v] },toks:=tk }:=by
 refine wpAny_pyIter_range (IsRange.new ..) (small_one h1 h2 h3 h4) ?_;have I1:Inv X pins σ H { s with heap:=s.heap.push { cls:=.type "range",data:=.fields #[.int lo t,.int hi u,.int 1 v] },toks:=tk }:=I.kept λb o e=>y02 _ e;refine⟨(s.heap.push { cls:=.type "range",data:=.fields #[.int lo t,.int hi u,.int 1 v] }).objs.size,[(s.heap.push { cls:=.type "range",data:=.fields #[.int lo t,.int hi u,.int 1 v] }).objs.size],_,_,H,rfl,
  I1.kept (t':=tk) λb o e=>y02 _ e,z8G _ lo (hi-lo).toNat,?_,λb hb=>?_,q⟩
 .have e1:lo+((0:Nat):Int)*1=lo:=by simp
  have e2:(((hi-lo).toNat:Nat):Int)-((0:Nat):Int)=Builtin.Range.rangeSize lo hi 1:=by rw[rangeSize_one];split<;>lia
  show IsRangeIter _ _ (lo+((0:Nat):Int)*1) ((((hi-lo).toNat:Nat):Int)-((0:Nat):Int)) 1;rw[e1,e2];exact y05 _ rfl
 .have e:b=(s.heap.push { cls:=.type "range",data:=.fields #[.int lo t,.int hi u,.int 1 v] }).objs.size:=by simpa using hb
  subst e;exact I1.fpOk (y0a _) (I1.hok.fresh (y0a _))
def ziv(ta:TA):TI:=λσ H R=>ta σ H λvs H1=>∃j:Int,vs=[.int j]/\-(2^62)<=j/\j<2^62/\R (Itr 0 j.toNat) H1
def zhW(ta:TA):TI:=λσ H R=>ta σ H λvs H1=>∃i j:Int,vs=[.int i,.int j]/\(-(2^62)<=i/\i<2^62/\-(2^62)<=j/\j<2^62)/\R (Itr i (j-i).toNat) H1
def z9B{a:Expr}{ta:TA}{p pos:Pos}(hg:Gl X "range")(hm:X.mg "range"=none)(ha:PA X [a] ta)(hs:starEach [a] X.env=[(false,eval a X.env)]:=by rfl):PI X tg (.Call (.Name "range" p) [a] [] pos) (ziv ta):=by
 intro pins s σ H R I h;refine Call_ (z3W I hg hm boot_range (y1c (thn (ha pos pins s σ H _ I h) λus s1 hz8=>?_) hs rfl));obtain⟨vs,H1,I1,r1,q1⟩:=hz8;obtain⟨j,e,q1,q2,q⟩:=q1;subst e;cases r1 with
 |cons r rr =>
  cases rr;obtain⟨t,rfl⟩:=r;exact call_range_1 (z71 I1 (by lia) (by lia) q1 q2 (by simpa using q))
def zad{a b:Expr}{ta:TA}{p pos:Pos}(hg:Gl X "range")(hm:X.mg "range"=none)(ha:PA X [a,b] ta)(hs:starEach [a,b] X.env=[(false,eval a X.env),(false,eval b X.env)]:=by rfl)(hs2:starEach [b] X.env=[(false,eval b X.env)]:=by rfl) : PI X tg (.Call (.Name "range" p) [a,b] [] pos) (zhW ta):=by
 intro pins s σ H R I h;refine Call_ (z3W I hg hm boot_range (y1c (thn (ha pos pins s σ H _ I h) λus s1 hz8=>?_) (by rw[hs,hs2]) (by rw[hs2];rfl)));obtain⟨vs,H1,I1,r1,q1⟩:=hz8;obtain⟨i,j,e,⟨q1,q2,q3,q4⟩,q⟩:=q1;subst e;cases r1 with
 |cons r rr =>
  cases rr with
  |cons r' rr =>
   cases rr;obtain⟨t,rfl⟩:=r;obtain⟨t',rfl⟩:=r';exact call_range_2 (z71 I1 q1 q2 q3 q4 q)
def zjA(wi:TI)(g:TG)(tb:TS):TS:=λD σ H=>wi σ H λJ H1=>∃W:Nat->Nat->St->Hp->Prop,(∃m,W 0 m σ H1)/\∀i m σ H,W i m σ H ->
 (J.stop i H/\D.nx σ H)\/(J.go i H/\∃N:St->Hp->Prop,(∀σ' H',N σ' H'->∃m',m'<m/\W (i+1) m' σ' H')/\∀x H',J.yld i H x H'->g x σ H' λσ2 H2=>tb { D with nx:=N,ct:=N,bk:=D.nx } σ2 H2)
def z5x(fp:List Addr)(h:Heap):yyP:=fp.filterMap λb=>(h.get? b).map λo=>(b,o)
def z1l{fp:List Addr}{h:Heap}{b:Addr}{o:Obj}(hb:b∈fp)(e:h.get? b=some o):(b,o)∈z5x fp h:=y2q.mpr ⟨b,hb,by rw[e];rfl⟩
def z9X{fp:List Addr}{h:Heap}{p:Addr × Obj}(hp:p∈z5x fp h):p.1∈fp/\h.get? p.1=some p.2:=by
 obtain⟨b,hb,e⟩:=y2q.mp hp;cases q:h.get? b with
 |none=>rw[q]at e;cases e
 |some o =>
  rw[q]at e;have e':(b,o)=p:=y0d e;subst e';exact⟨hb,q⟩
def Inv.pinned{pins:yyP}{σ:St}{H:Hp}{s:Shared}{fp:List Addr}(I:Inv X pins σ H s)(hf:∀b∈fp,z4n X pins H b)(ho:∀b∈fp,∃o,s.heap.get? b=some o/\∀v,o.data≠.cell v):Inv X (pins++z5x fp s.heap) σ H s :=
 I.pins_of λp hp=>(y0S.mp hp).elim (λz=>I.pin p (y0v _ z)) λz=>by obtain⟨hb,e⟩:=z9X z;obtain⟨f0,f1,f2,_⟩:=hf p.1 hb;obtain⟨o,e',d⟩:=ho p.1 hb;rw[e]at e';cases e';exact⟨e,f0,f1,f2,d⟩
def Inv.unpinned{pins pl:yyP}{σ:St}{H:Hp}{s:Shared}(I:Inv X (pins++pl) σ H s):Inv X pins σ H s:=I.pins_of λp hp=>I.pin p (y0v _ (y30 _ hp))
def zfZ{iter:Expr}{body:List Stmt}{wi:TI}{g:TG}{tb:TS}{pos:Pos}(hp:PassesOwn (model X.prog X.w) X.A X.env X.xe)(hc:X.calm=true)(hi:PI X tg iter wi)(hg:PG X tg g)(hb:PSs X body tb)(hs:∀x,foldedSetIterable iter X.env x=pure x:=by intro _;rfl):PS X (.For tg iter body [] pos) (zjA wi g tb):=by
 intro pins s σ H D I h;refine wpAny_For (thn (hi pins s σ H _ I h) λv s1 h1=>thn h1 λitv s2 h2=>?_) hs;obtain⟨it,fp,tn,J,H2,e,I2,T,st2,f2,W,⟨m0,w0⟩,turn⟩:=h2;subst e;have stat:∀{H':Hp},(∀b∈fp,H' b=none)->∀b∈fp,z4n X pins H' b:=λhn b hb=>⟨hn b hb,(f2 b hb).2⟩;refine codeAny_forLoop_any (λn s'=>∃i σ' H',Inv X pins σ' H' s'/\tn i s'.heap/\(∀b∈fp,H' b=none)/\W i n σ' H') ?_ m0 ⟨0,σ,H2,I2,st2,λb hb=>(f2 b hb).1,w0⟩;rintro n s3 ⟨i,σ3,H3,I3,st3,fr3,w3⟩;rcases turn i n σ3 H3 w3 with⟨stop,qn⟩|⟨go,N,hN,step⟩
 .refine y1R hp (thn (T.done X rfl rfl rfl hc i pins s3 σ3 H3 X.xe I3 (stat fr3) st3 stop) λr s4 hz8=>?_);obtain⟨hr,I4⟩:=hz8;subst hr;exact y2p ⟨σ3,H3,I4,qn⟩
 .refine y1R hp (thn (T.item X rfl rfl rfl hc i pins s3 σ3 H3 X.xe I3 (stat fr3) st3 go) λr s4 hz8=>?_);obtain⟨u,hr,h4⟩:=hz8;subst hr;refine y1R hp (thn h4 λ_ s5 hz8=>?_);obtain⟨x,H5,I5,r5,y5,st5,fr5⟩:=hz8;have I5':=I5.pinned (stat fr5) (T.obj _ _ st5);refine y1R hp (thn (hg _ s5 σ3 H5 x u _ I5' r5 (step x H5 y5)) λ_ s6 hz8=>?_);obtain⟨σ6,H6,I6,q6⟩:=hz8;refine y1R hp (thn (hb _ s6 σ6 H6 _ I6 q6) λf s7 q7=>?_);have again:∀{σ7:St}{H7:Hp},Inv X (pins++z5x fp s5.heap) σ7 H7 s7->N σ7 H7->∃m,m<n/\∃i σ' H',Inv X pins σ' H' s7/\tn i s7.heap/\(∀b∈fp,H' b=none)/\W i m σ' H':=λ{σ7 H7} I7 n7=>by
   obtain⟨m',hm,w7⟩:=hN σ7 H7 n7;refine⟨m',hm,i+1,σ7,H7,I7.unpinned,T.keep _ _ _ st5 λb hb o e=>(I7.pin (b,o) (y0v _ (y0v _ (z1l hb e)))).1,λb hb=>?_,w7⟩;obtain⟨o,e,d⟩:=T.obj _ _ st5 b hb;exact(I7.pin (b,o) (y0v _ (y0v _ (z1l hb e)))).2.1
  cases f with
  |next=>obtain⟨σ7,H7,I7,n7⟩:=q7;exact again I7 n7
  |cont=>obtain⟨σ7,H7,I7,n7⟩:=q7;exact again I7 n7
  |brk=>obtain⟨σ7,H7,I7,q7⟩:=q7;exact⟨σ7,H7,I7.unpinned,q7⟩
  |ret v=>obtain⟨x7,σ7,H7,I7,r7,q7⟩:=q7;exact⟨x7,σ7,H7,I7.unpinned,r7,q7⟩
end
abbrev R2:=V->V->Hp->VK->Prop
def OpR(X:Cx)(f:Value->Value->Sem Value)(r:R2):Prop :=
 ∀(pins:yyP)(s:Shared)(σ:St)(H:Hp)(x y:V)(v u:Value)(Q:VK),Inv X pins σ H s->z0A x v->z0A y u->r x y H Q ->
  wpAny (model X.prog X.w) X.A (f v u) (EP X pins σ Q) X.xe s
def UnR(X:Cx)(f:Value->Sem Value)(r:V->Hp->VK->Prop):Prop :=
 ∀(pins:yyP)(s:Shared)(σ:St)(H:Hp)(x:V)(v:Value)(Q:VK),Inv X pins σ H s->z0A x v->r x H Q ->
  wpAny (model X.prog X.w) X.A (f v) (EP X pins σ Q) X.xe s
def z0Q(X:Cx)(f:Value)(r:List V->Hp->VK->Prop):Prop :=
 ∀(pins:yyP)(s:Shared)(σ:St)(H:Hp)(xs:List V)(us:List Value)(Q:VK),Inv X pins σ H s->z0B xs us->r xs H Q ->
  wpAny (model X.prog X.w) X.A (call f us) (EP X pins σ Q) X.xe s
def zkw(X:Cx)(r:V->Hp->(Bool->Hp->Prop)->Prop):Prop :=
 ∀(pins:yyP)(s:Shared)(σ:St)(H:Hp)(x:V)(v:Value)(Q:Bool->Hp->Prop),Inv X pins σ H s->z0A x v->r x H Q ->
  wpAny (model X.prog X.w) X.A (truthy v) (TP X pins σ Q) X.xe s
def tOp(r:R2)(ta tb:TE):TE:=λσ H Q=>ta σ H λx H1=>tb σ H1 λy H2=>r x y H2 Q
def tUn(r:V->Hp->VK->Prop)(ta:TE):TE:=λσ H Q=>ta σ H λx H1=>r x H1 Q
def rI(C:Int->Int->Prop)(g:Int->Int->V):R2:=λx y H Q=>∃i j,x=.int i/\y=.int j/\C i j/\Q (g i j) H
def rI0(g:Int->Int->V):R2:=λx y H Q=>∃i j,x=.int i/\y=.int j/\Q (g i j) H
def rU(g:Int->V):V->Hp->VK->Prop:=λx H Q=>∃i,x=.int i/\Q (g i) H
section
variable{X:Cx}{a b c:Expr}{ta tb tc:TE}{pos:Pos}
def ziC(ha:PE X a ta)(hb:PE X b tb){pins:yyP}{s:Shared}{σ:St}{H:Hp}{R:V->V->Hp->Prop}(I:Inv X pins σ H s)(h:ta σ H λx H1=>tb σ H1 λy H2=>R x y H2){Q:yyE}{f:Value->Value->Sem Value}(hf:∀v u s2 x y H2,Inv X pins σ H2 s2->z0A x v->z0A y u->R x y H2->wpAny (model X.prog X.w) X.A (f v u) Q X.xe s2) : wpAny (model X.prog X.w) X.A (eval a X.env) (λv s₁=>wpAny (model X.prog X.w) X.A (eval b X.env) (λu s₂=>wpAny (model X.prog X.w) X.A (f v u) Q X.xe s₂) X.xe s₁) X.xe s:=by refine z2L (ha pins s σ H _ I h) λv s1 x H1 I1 r1 q1=>?_;refine z2L (hb pins s1 σ H1 _ I1 q1) λu s2 y H2 I2 r2 q2=>?_;exact hf v u s2 x y H2 I2 r1 r2 q2
def zhk{op:Operator}{r:R2}(ho:OpR X (binaryOp op) r)(ha:PE X a ta)(hb:PE X b tb):PE X (.BinOp a op b pos) (tOp r ta tb):=by intro pins s σ H Q I h;exact wpAny_BinOp (ziC ha hb I h λv u s2 x y H2 I2 rx ry q=>ho pins s2 σ H2 x y v u Q I2 rx ry q)
def zhu{op:UnaryOp}{r:V->Hp->VK->Prop}(ho:UnR X (unaryOp op) r)(ha:PE X a ta):PE X (.UnaryOp op a pos) (tUn r ta):=by intro pins s σ H Q I h;exact UnaryOp_ (z2L (ha pins s σ H _ I h) λv s1 x H1 I1 r1 q1=>ho pins s1 σ H1 x v Q I1 r1 q1)
def opI{f:Value->Value->Sem Value}{C:Int->Int->Prop}{g:Int->Int->Int}(rule:∀(i j:Int)(t u:Tok)(s:Shared)(Q:yyE)(E:yyE),C i j->Q (.int (g i j) s.toks) { s with toks:=s.toks+1 }->wpAny (model X.prog X.w) X.A (f (.int i t) (.int j u)) Q E s) : OpR X f (rI C λi j=>.int (g i j)):=by intro pins s σ H x y v u Q I rx ry h;obtain⟨i,j,rfl,rfl,hc,q⟩:=h;obtain⟨t,rfl⟩:=rx;obtain⟨t',rfl⟩:=ry;exact rule i j t t' s _ _ hc ⟨.int (g i j),H,I.tok _,⟨_,rfl⟩,q⟩
def zhq{f:Value->Value->Sem Value}{g:Int->Int->Int}(rule:∀(i j:Int)(t u:Tok)(s:Shared)(Q:yyE)(E:yyE),Q (.int (g i j) s.toks) { s with toks:=s.toks+1 }->wpAny (model X.prog X.w) X.A (f (.int i t) (.int j u)) Q E s) : OpR X f (rI0 λi j=>.int (g i j)):=by intro pins s σ H x y v u Q I rx ry h;obtain⟨i,j,rfl,rfl,q⟩:=h;obtain⟨t,rfl⟩:=rx;obtain⟨t',rfl⟩:=ry;exact rule i j t t' s _ _ ⟨.int (g i j),H,I.tok _,⟨_,rfl⟩,q⟩
def zhN{f:Value->Value->Sem Value}{g:Int->Int->Bool}(rule:∀(i j:Int)(t u:Tok)(s:Shared)(Q:yyE)(E:yyE),Q (.bool (g i j)) s->wpAny (model X.prog X.w) X.A (f (.int i t) (.int j u)) Q E s) : OpR X f (rI0 λi j=>.bl (g i j)):=by intro pins s σ H x y v u Q I rx ry h;obtain⟨i,j,rfl,rfl,q⟩:=h;obtain⟨t,rfl⟩:=rx;obtain⟨t',rfl⟩:=ry;exact rule i j t t' s _ _ ⟨.bl (g i j),H,I,rfl,q⟩
def zj5(i j:Int):Prop:=0<j/\j<1073741824
def zjj(i j:Int):Prop:=0<=j/\j<=1000000/\i.natAbs<2^64
def zhc(i j:Int):Prop:=(-(2^64)<i/\i<2^64)\/(-(2^64)<j/\j<2^64)
def zhc.ok{i j:Int}(h:zhc i j):IntMulOk i j:=by
 rcases h with⟨h1,h2⟩|⟨h1,h2⟩
 .exact .of_left (intBits_le_64 h1 h2)
 .exact .of_right (intBits_le_64 h1 h2)
def zgY:OpR X (binaryOp .Add) (rI0 λi j=>.int (i+j)):=zhq λ_ _ _ _ _ _ _ q=>add_int q
def zfe:OpR X (binaryOp .Sub) (rI0 λi j=>.int (i-j)):=zhq λ_ _ _ _ _ _ _ q=>sub_int q
def zf1:OpR X (binaryOp .Mult) (rI zhc λi j=>.int (i*j)):=opI λ_ _ _ _ _ _ _ hc q=>mul_int q hc.ok
def zcP:OpR X (binaryOp .FloorDiv) (rI zj5 λi j=>.int (i/j)):=opI λi j _ _ _ _ _ hc q=>by have h1:(0:Int)<j:=hc.1;have h2:j<1073741824:=hc.2;exact floordiv_int (by lia) (by rw[Int.fdiv_eq_ediv_of_nonneg i (by lia)];exact q) (.inl (PyProof.noPylong_small (by lia)))
def zgw:OpR X (binaryOp .Mod) (rI (λ_ j=>0<j) λi j=>.int (i%j)):=opI λi j _ _ _ _ _ hc q=>by have h1:(0:Int)<j:=hc;exact mod_int' (by lia) (by rw[Int.fmod_eq_emod_of_nonneg i (by lia)];exact q)
def zfN:OpR X (binaryOp .Pow) (rI zjj λi j=>.int (i^j.toNat)):=opI λ_ _ _ _ _ _ _ hc q=>pow_int_small hc.1 hc.2.1 hc.2.2 q
def zdf:OpR X (inplaceOp .Add) (rI0 λi j=>.int (i+j)):=zhq λ_ _ _ _ _ _ _ q=>iadd_int q
def unI{f:Value->Sem Value}{g:Int->Int}(rule:∀(i:Int)(t:Tok)(s:Shared)(Q:yyE)(E:yyE),Q (.int (g i) s.toks) { s with toks:=s.toks+1 }->wpAny (model X.prog X.w) X.A (f (.int i t)) Q E s) : UnR X f (rU λi=>.int (g i)):=by intro pins s σ H x v Q I rx h;obtain⟨i,rfl,q⟩:=h;obtain⟨t,rfl⟩:=rx;exact rule i t s _ _ ⟨.int (g i),H,I.tok _,⟨_,rfl⟩,q⟩
def zeO:UnR X (unaryOp .USub) (rU λi=>.int (-i)):=unI λ_ _ _ _ _ q=>neg_int q
end
section
variable{X:Cx}{a b c:Expr}{ta tb tc:TE}{pos:Pos}
def zch{pins:yyP}{σ:St}{H:Hp}{s:Shared}{Q:VK}{k k':Bool}(I:Inv X pins σ H s)(q:Q (.bl k) H)(e:k=k'):EP X pins σ Q (.bool k') s:=by subst e;exact⟨.bl k,H,I,rfl,q⟩
def z4P:OpR X (compareOp .Lt) (rI0 λi j=>.bl (decide (i<j))):=zhN λ_ _ _ _ _ _ _ q=>lt_int q
def z2Q:OpR X (compareOp .LtE) (rI0 λi j=>.bl (decide (i<=j))):=zhN λ_ _ _ _ _ _ _ q=>le_int q
def z8n:OpR X (compareOp .Gt) (rI0 λi j=>.bl (decide (j<i))):=zhN λ_ _ _ _ _ _ _ q=>gt_int q
def z95:OpR X (compareOp .In) (λx y H Q=>∃i j,x=.str i/\y=.str j/\Q (.bl (!(Builtin.Str.occurrences j i 0 j.length 1).isEmpty)) H):=by intro pins s σ H x y v u Q I rx ry h;obtain⟨i,j,rfl,rfl,q⟩:=h;obtain⟨t,rfl⟩:=rx;obtain⟨t',rfl⟩:=ry;exact in_str (zch I q rfl)
def zgS:OpR X (compareOp .Is) (λx y H Q=>y=.non/\Q (.bl (decide (x=.non))) H):=by
 intro pins s σ H x y v u Q I rx ry h;obtain⟨rfl,q⟩:=h;cases ry;refine is_none_gen (zch I q ?_);cases x<;>first
  | (cases rx;rfl)
  | (obtain⟨t,rfl⟩:=rx;rfl)
def zcp(b:Expr){op:CmpOp}(h:op≠.In:=by decide)(h2:op≠.NotIn:=by decide):behindInMarks op b=false:=by
 have e1:(op==CmpOp.In)=false:=by cases op<;>first|rfl|exact absurd rfl h
 have e2:(op==CmpOp.NotIn)=false:=by cases op<;>first|rfl|exact absurd rfl h2
 cases b<;>simp[behindInMarks,e1,e2]
def zdj{op:CmpOp}{r:R2}(ho:OpR X (compareOp op) r)(ha:PE X a ta)(hb:PE X b tb)(hm:behindInMarks op b=false):PE X (.Compare a [op] [b] pos) (tOp r ta tb):=by intro pins s σ H Q I h;exact wpAny_Compare1 (ziC ha hb I h λv u s2 x y H2 I2 rx ry q=>ho pins s2 σ H2 x y v u Q I2 rx ry q) hm
def zeR(t:TE):TT:=λσ H Q=>t σ H λx H'=>∃k,x=.bl k/\Q k H'
def zeu{op:CmpOp}{r:R2}(ho:OpR X (compareOp op) r)(ha:PE X a ta)(hb:PE X b tb)(hm:behindInMarks op b=false):PT X (.Compare a [op] [b] pos) (zeR (tOp r ta tb)):=by
 intro pins s σ H Q I h;refine wpAny_isTrue_Compare1 (z2L (ha pins s σ H _ I h) λv s1 x H1 I1 r1 q1=>z2L (hb pins s1 σ H1 _ I1 q1) λu s2 y H2 I2 r2 q2 =>
  thn (ho pins s2 σ H2 x y v u _ I2 r1 r2 q2) λc s3 ⟨z,H3,I3,r3,k,e,q3⟩=>?_) hm
 subst e;cases r3;exact y1h ⟨H3,I3,q3⟩
def zaa(r r':R2)(ta tb tc:TE):TE:=λσ H Q=>ta σ H λx H1=>tb σ H1 λy H2=>r x y H2 λz H3=>∃k,z=.bl k /\
 (if k=true then tc σ H3 λw' H4=>r' y w' H4 Q else Q (.bl false) H3)
def zbZ{op op':CmpOp}{r r':R2}(ho:OpR X (compareOp op) r)(ho':OpR X (compareOp op') r')(ha:PE X a ta)(hb:PE X b tb)(hc:PE X c tc)(hm:lastMarks [op,op'] [b,c]=false:=by with_unfolding_all rfl):PE X (.Compare a [op,op'] [b,c] pos) (zaa r r' ta tb tc):=by
 intro pins s σ H Q I h;refine Compare_chain (z2L (ha pins s σ H _ I h) λv s1 x H1 I1 r1 q1=>chain_link (z2L (hb pins s1 σ H1 _ I1 q1) λu s2 y H2 I2 r2 q2 =>
  thn (ho pins s2 σ H2 x y v u _ I2 r1 r2 q2) λd s3 ⟨z,H3,I3,r3,k,e,q3⟩=>?_)) hm
 subst e;cases r3;refine y1h ?_;cases k with
 |false=>exact ite_ff ⟨.bl false,H3,I3,rfl,q3⟩
 |true=>exact ite_tt (chain_last (thn (hc pins s3 σ H3 _ I3 q3) λw' s4 ⟨z',H4,I4,r4,q4⟩=>ho' pins s4 σ H4 y z' u w' Q I4 r2 r4 q4))
def zbL{op op':CmpOp}{r r':R2}(ho:OpR X (compareOp op) r)(ho':OpR X (compareOp op') r')(ha:PE X a ta)(hb:PE X b tb)(hc:PE X c tc)(hm:lastMarks [op,op'] [b,c]=false:=by with_unfolding_all rfl):PT X (.Compare a [op,op'] [b,c] pos) (zeR (zaa r r' ta tb tc)):=by
 intro pins s σ H Q I h;refine isTrue_chain (z2L (ha pins s σ H _ I h) λv s1 x H1 I1 r1 q1=>test_link (z2L (hb pins s1 σ H1 _ I1 q1) λu s2 y H2 I2 r2 q2 =>
  thn (ho pins s2 σ H2 x y v u _ I2 r1 r2 q2) λd s3 ⟨z,H3,I3,r3,k,e,q3⟩=>?_)) hm
 subst e;cases r3;refine y1h ?_;cases k with
 |false =>
  obtain⟨k',e',q'⟩:=q3;cases e';exact ite_ff ⟨H3,I3,q'⟩
 |true =>
  refine ite_tt (test_last (z2L (hc pins s3 σ H3 _ I3 q3) λw' s4 z' H4 I4 r4 q4=>z2L (ho' pins s4 σ H4 y z' u w' _ I4 r2 r4 q4) λd' s5 z2 H5 I5 r5 hz9=>?_));obtain⟨k2,e2,q5⟩:=hz9;subst e2;cases r5;exact y1h ⟨H5,I5,q5⟩
def zhX(K:yyF)(x:V)(H:Hp)(k:Bool):Prop :=
 match x with
 |.non=>k=false
 |.bl b=>k=b
 |.int i=>k=(i != 0)
 |.str y=>y.length<=sizeLine/\k=((y.length:Int) != 0)
 |.byt y=>y.size<=sizeLine/\k=((y.size:Int) != 0)
 |.ref p=>(∃xs,SqL K H p xs/\k=!xs.isEmpty)\/(∃xs,SqT K H p xs/\k=!xs.isEmpty)\/∃kvs,H p=some (.dK kvs)/\k=!kvs.isEmpty
 |_=>False
def z8d{κ:Type}{kvs:List (κ × V)}{vs:List (κ × Value)}(r:KV kvs vs):(!vs.isEmpty)=!kvs.isEmpty:=by cases r<;>rfl
def z4o{xs:List V}{its:List Value}(r:z0B xs its):(!its.toArray.isEmpty)=!xs.isEmpty:=by cases r<;>simp
def z30:(sizeLine:Nat)<2^63:=by rw[y2h];decide
def zeP:zkw X (λx H Q=>∃k,zhX X.K x H k/\Q k H):=by
 intro pins s σ H x v Q I rx h;obtain⟨k,e,q⟩:=h;have hl:=z30;have hs:sizeLine=16777216:=y2h;cases x with
 |non =>
  cases rx;have e':k=false:=e;subst e';exact truthy_none ⟨H,I,q⟩
 |bl b =>
  cases rx;have e':k=b:=e;subst e';exact y1h ⟨H,I,q⟩
 |int i =>
  obtain⟨t,rfl⟩:=rx;have e':k=(i != 0):=e;subst e';exact PySem.P.truthy_int ⟨H,I,q⟩
 |str y =>
  obtain⟨t,rfl⟩:=rx;obtain⟨hy,e'⟩:y.length<=sizeLine/\k=((y.length:Int) != 0):=e;subst e';exact PySem.P.truthy_str (by lia) ⟨H,I.tok _,q⟩
 |byt y =>
  obtain⟨t,rfl⟩:=rx;obtain⟨hy,e'⟩:y.size<=sizeLine/\k=((y.size:Int) != 0):=e;subst e';exact PySem.W.truthy_bytes (by lia) ⟨H,I.tok _,q⟩
 |ref p =>
  cases rx;have e':(∃xs,SqL X.K H p xs/\k=!xs.isEmpty)\/(∃xs,SqT X.K H p xs/\k=!xs.isEmpty)\/∃kvs,H p=some (.dK kvs)/\k=!kvs.isEmpty:=e;rcases e' with⟨xs,hx,e'⟩|⟨xs,hx,e'⟩|⟨kvs,hx,e'⟩
  .subst e';obtain⟨its,r,pl,hz⟩:=I.list hx;have hlen:=r.length;exact wpAny_truthy_list pl.isList (by simp only[y06];lia) ⟨H,I.tok _,by rw[z4o r];exact q⟩
  .subst e';obtain⟨its,r,pl,hz⟩:=I.tuple hx;have hlen:=r.length;exact truthy_tuple pl (by simp only[y06];lia) ⟨H,I.tok _,by rw[z4o r];exact q⟩
  .subst e';obtain⟨hz,hS,vs,r,m⟩:kvs.length<=sizeLine/\(p==sysModules)=false/\∃vs,KV kvs vs/\s.heap.DictOf (z0O X.prog X.w) p vs:=I.hok p _ hx;have hlen:kvs.length=vs.length:=y1j r;exact wpAny_truthy_dict hS m (by lia) ⟨H,I.tok _,by rw[z8d r];exact q⟩
 |_=>exact(show False from e).elim
def zbD(ha:PE X a ta)(he:∀whole,isTrue a X.env whole=(do let v <-whole;standAt a.pos;holding [v] (truthy v))) : PT X a (λσ H Q=>ta σ H λx H'=>∃k,zhX X.K x H' k/\Q k H'):=by intro pins s σ H Q I h;exact isTrue_plain (z2L (ha pins s σ H _ I h) λv s1 x H1 I1 r1 q1=>zeP pins s1 σ H1 x v Q I1 r1 q1) (he _)
def z8C:OpR X (binaryOp .Add) (λx y H Q=>∃i j,x=.str i/\y=.str j/\i.length+j.length<=sizeLine/\Q (.str (i++j)) H):=by intro pins s σ H x y v u Q I rx ry h;obtain⟨i,j,rfl,rfl,hz,q⟩:=h;obtain⟨t,rfl⟩:=rx;obtain⟨t',rfl⟩:=ry;exact add_str (λt' tk=>⟨.str (i++j),H,I.tok _,⟨_,rfl⟩,q⟩) hz
def z1Z{x:V}{us:List Value}(r:z0B [x] us):∃u,us=[u]/\z0A x u:=by
 cases r with
 |cons r1 r2=>cases r2;exact⟨_,rfl,r1⟩
def z9q{x y:V}{us:List Value}(r:z0B [x,y] us):∃u w',us=[u,w']/\z0A x u/\z0A y w':=by
 cases r with
 |cons r1 r2 =>
  cases r2 with
  |cons r3 r4=>cases r4;exact⟨_,_,rfl,r1,r3⟩
def z9D(hc:X.calm=true):z0Q X (.builtin "max") (λxs H Q=>∃i j,xs=[.int i,.int j]/\Q (.int (if j>i then j else i)) H):=by
 intro pins s σ H xs us Q I r h;obtain⟨i,j,rfl,q⟩:=h;obtain⟨u,w',rfl,⟨t,rfl⟩,⟨t',rfl⟩⟩:=z9q r;refine max_two_ints (I.ok.hd hc) λh' tk k=>⟨_,H,I.kept k,?_,q⟩;by_cases hj:j>i
 .rw[if_pos hj,if_pos hj];exact⟨_,rfl⟩
 .rw[if_neg hj,if_neg hj];exact⟨_,rfl⟩
def zaf(hc:X.calm=true):z0Q X (.builtin "min") (λxs H Q=>∃i j,xs=[.int i,.int j]/\Q (.int (if j<i then j else i)) H):=by
 intro pins s σ H xs us Q I r h;obtain⟨i,j,rfl,q⟩:=h;obtain⟨u,w',rfl,⟨t,rfl⟩,⟨t',rfl⟩⟩:=z9q r;refine min_two_ints (I.ok.hd hc) λh' tk k=>⟨_,H,I.kept k,?_,q⟩;by_cases hj:j<i
 .rw[if_pos hj,if_pos hj];exact⟨_,rfl⟩
 .rw[if_neg hj,if_neg hj];exact⟨_,rfl⟩
def z6c:z0Q X (.type "str") (λxs H Q=>∃i,xs=[.int i]/\i.natAbs.log2<1920/\Q (.str (toString i)) H):=by intro pins s σ H xs us Q I r h;obtain⟨i,rfl,hz,q⟩:=h;obtain⟨u,rfl,t,rfl⟩:=z1Z r;exact PySem.P.str_of_int hz ⟨.str _,H,I.tok _,⟨_,rfl⟩,q⟩
end
structure zcV(h:Heap)(x dx C:Addr)(mA:yyS):Prop where
 obj:h.get? x=some (PySem.W.instObj C dx)
 ns:h.Ns1 dx mA
 ne:dx≠x
def z9j{h:Heap}{dx:Addr}{mA:yyS}(n:h.Ns1 dx mA):∃od,h.get? dx=some od/\∀name,PySem.W.lookIn name od=some (mA name):=by
 obtain⟨o,es,ep,ho,hd,hk,_,hm⟩:=n;refine⟨o,ho,λname=>?_⟩;have e:=hm name;unfold nsFind findBy at e;rw[<-Array.find?_toList]at e;unfold PySem.W.lookIn;rw[hd];dsimp only;split
 .rename_i y q;rw[q]at e;exact y2c some e
 .rename_i q;rw[q]at e;have a:es.toList.any (·.refKey)=false:=by
   rw[List.any_eq_false];intro y hy;obtain⟨z,t,hkey⟩:=hk y (Array.mem_toList_iff.mp hy);simp[DictEntry.refKey,hkey]
  have a':¬es.toList.any (·.refKey)=true:=by rw[a];exact y0c
  rw[if_neg a'];exact y2c some e
def zcV.look{h:Heap}{x dx C:Addr}{mA:yyS}(I:zcV h x dx C mA):∃od,PySem.W.InstAt h x (PySem.W.instObj C dx) C (some od)/\∀name,PySem.W.lookIn name od=some (mA name) :=
 let⟨od,ho,hl⟩:=z9j I.ns
 ⟨od,⟨I.obj,rfl,rfl,ho⟩,hl⟩
section
variable{prog:Program}{w:World}{A:Around}{E:yyE}{s:Shared}{K:yyF}{x dx C f:Addr}{mA:yyS}{name:Str}{v:Value}
def zdS{expr:Bool}{Q:yyE}(X:K.In s.heap)(I:zcV s.heap x dx C mA)(hg:PySem.W.plainGet K C name=true)(hh:PySem.W.hasDictIn K C=true)(ha:PySem.W.findIn K (.ref C) name=some none)(hv:mA name=some v)(hv':PySem.W.handedIn v=true)(h:Q v { s with toks:=s.toks+1 }) : wpAny (model prog w) A (getAttr (.ref x) name expr) Q E s:=by obtain⟨od,J,hl⟩:=I.look;exact PySem.W.get_value X J (PySem.W.plainGet_of hg).1 (PySem.W.findObj_own hh ha rfl (by rw[hl,hv])) hv' h
def zbf{pl:Sem Bool}{Q:Value × List Value->Shared->Prop}(X:K.In s.heap)(I:zcV s.heap x dx C mA)(hg:PySem.W.plainGet K C name=true)(hf:PySem.W.findIn K (.ref C) name=some (some (.ref f)))(ht:PySem.W.isFn K (.ref f)=true)(hv:mA name=none)(h:Q (.ref f,[.ref x]) s) : wpAny (model prog w) A (getMethod (.ref x) name pl) Q E s:=by obtain⟨od,J,hl⟩:=I.look;exact PySem.W.method_fn X J (PySem.W.plainGet_of hg).1 (PySem.W.plainGet_of hg).2 hf (y2k.mp ht) (by show(PySem.W.lookIn name od).map (·.isSome)=some false;rw[hl,hv];rfl) h
def zdm{ns:List Str}{Q:Unit->Shared->Prop}(X:K.In s.heap)(I:zcV s.heap x dx C mA)(hs:PySem.W.findIn K (.ref C) "__setattr__"=some (some (.builtin "object.__setattr__")))(hp:PySem.W.plainOver K C=true)(ht:PySem.W.takerIn K C name=some none)(hh:PySem.W.hasDictIn K C=true)(hw:PySem.Within mA ns)(hsz:ns.length<=sizeLine)(h:∀h',zcV h' x dx C (λy=>if y=name then some v else mA y)->Heap.SameBut dx s.heap h'->Q () { s with heap:=h',toks:=s.toks+2 }) : wpAny (model prog w) A (setAttr (.ref x) name v) Q E s:=by obtain⟨od,J,hl⟩:=I.look;refine PySem.W.set_plain X J hs (PySem.W.osa_open (s:={ s with toks:=s.toks+1 }) (r:=none) X J hp ht λb=>?_);obtain⟨cd,hc,hd'⟩:=PySem.W.any_some hh;have hx:s.heap.get? x=some ⟨.ref C,some dx,.plain,#[]⟩:=I.obj;refine y01 (y03 (y01 (y01 (wpAny_loadPart hx (y01 (PySem.W.Looks.here (s:={ s with toks:=s.toks+1 }) (PySem.W.looks_clsIn X hc) ?_))))));rw[hd'];refine y03 (a:=some dx) (y01 (y03 (y01 ?_)));refine wpAny_nsSet1 (s:={ s with toks:=s.toks+1 }) I.ns λh' hn2 hs2=>?_;obtain⟨oD,esD,epD,hoD,hdD,hcD⟩:=hn2.count (PySem.Within.cons name v hw);refine y01 (wpAny_lookBehind hoD (by rw[hdD];exact pastItsLine_dict (y0k hcD (by rw[y0b];lia))) ?_);exact y03 (h _ ⟨(hs2.2 _ (y10 I.ne)).trans I.obj,hn2,I.ne⟩ hs2)
def zb2{R:Result->Shared->Prop}{vs:List Value}{kw:List (Str × Value)}(X:K.In s.heap)(hm:PySem.W.makesIn K C=true)(hi:PySem.W.findIn K (.ref C) "__init__"=some (some (.ref f)))(hf:PySem.W.typeIn K (.ref f)=some (.type "function"))(h:codeAny (model prog w) (A.under (.builtin "type.__call__" ⟨.ref C::vs,kw⟩)) (.call (.ref f) ⟨.ref (s.heap.objs.size+1)::vs,kw⟩) (PySem.W.InitBack (s.heap.objs.size+1) R) { s with heap:=(s.heap.push PySem.W.emptyDict).push (PySem.W.instObj C s.heap.objs.size) }) : codeAny (model prog w) A (.call (.ref C) ⟨vs,kw⟩) R s:=by obtain⟨hh,g,d,t,os⟩:=s;exact PySem.W.make_core (PySem.W.makes_of X hm) (PySem.W.looks_findIn X hi) (λself=>PySem.W.bind_fn X self hf) (.inl rfl) h
end
def z5q(f:Str)(v:V):List (Str × V)->List (Str × V)
 |[]=>[(f,v)]
 | (g,x)::r=>if g=f then(g,v)::r else(g,x)::z5q f v r
theorem z3l(f g:Str)(v:V):∀fs:List (Str × V),(z5q f v fs).lookup g=if g=f then some v else fs.lookup g
 |[]=>by
  show List.lookup g [(f,v)]=_;by_cases h:g=f
  .have hb:(g==f)=true:=y2k.mpr h;simp only[List.lookup,hb,if_pos h]
  .have hb:(g==f)=false:=y1A.mpr h;simp only[List.lookup,hb,if_neg h]
 | (k,x)::r=>by
  have ih:=z3l f g v r;rw[show z5q f v ((k,x)::r)=(if k=f then(k,v)::r else(k,x)::z5q f v r)from rfl];by_cases hk:k=f
  .rw[if_pos hk];by_cases h:g=k
   .have hb:(g==k)=true:=y2k.mpr h;simp only[List.lookup,hb,if_pos (h.trans hk)]
   .have hb:(g==k)=false:=y1A.mpr h;simp only[List.lookup,hb,if_neg (λe:g=f=>h (e.trans hk.symm))]
  .rw[if_neg hk];by_cases h:g=k
   .have hb:(g==k)=true:=y2k.mpr h;simp only[List.lookup,hb,if_neg (λe:g=f=>hk (h.symm.trans e))]
   .have hb:(g==k)=false:=y1A.mpr h;simp only[List.lookup,hb];exact ih
theorem z3q(f:Str)(v:V):∀fs:List (Str × V),f∈(z5q f v fs).map (·.1)/\∀g,g∈fs.map (·.1)->g∈(z5q f v fs).map (·.1)
 |[]=>⟨by simp[z5q],λg h=>by simp at h⟩
 | (k,x)::r=>by
  obtain⟨i1,i2⟩:=z3q f v r;rw[show z5q f v ((k,x)::r)=(if k=f then(k,v)::r else(k,x)::z5q f v r)from rfl];by_cases hk:k=f
  .rw[if_pos hk];subst hk;exact⟨by simp,λg h=>by simpa using h⟩
  .rw[if_neg hk];refine⟨?_,λg h=>?_⟩
   .rw[y0m];exact y0g _ i1
   .rw[y0m]at h⊢;rcases y0l.mp h with e|e
    .exact y0l.mpr (.inl e)
    .exact y0g _ (i2 g e)
theorem z3s(f:Str)(v:V):∀fs:List (Str × V),(z5q f v fs).length<=fs.length+1
 |[]=>by simp[z5q]
 | (k,x)::r=>by
  have ih:=z3s f v r;rw[show z5q f v ((k,x)::r)=(if k=f then(k,v)::r else(k,x)::z5q f v r)from rfl];by_cases hk:k=f
  .rw[if_pos hk,y0b,y0b];lia
  .rw[if_neg hk,y0b,y0b];lia
def z5p.some_of{v:V}{o:Option Value}(r:z5p (some v) o):∃u,o=some u/\z0A v u:=by
 cases o with
 |none=>exact(show False from r).elim
 |some u=>exact⟨u,rfl,r⟩
def z5p.none_of{o:Option Value}(r:z5p none o):o=none:=by
 cases o with
 |none=>rfl
 |some u=>exact(show False from r).elim
def z9H{v:V}{u:Value}(r:z0A v u):PySem.W.handedIn u=true:=by
 cases v with
 |non=>cases(show u=Value.none from r);rfl
 |bl b=>cases(show u=Value.bool b from r);rfl
 |int i=>obtain⟨t,e⟩:=(show ∃t,u=Value.int i t from r);cases e;rfl
 |str x=>obtain⟨t,e⟩:=(show ∃t,u=Value.str x t from r);cases e;rfl
 |byt b=>obtain⟨t,e⟩:=(show ∃t,u=Value.bytes b t from r);cases e;rfl
 |flt b=>obtain⟨t,e⟩:=(show ∃t,u=Value.float b t from r);cases e;rfl
 |ref a=>cases(show u=Value.ref a from r);rfl
 |ty n=>cases(show u=Value.type n from r);rfl
section
variable{P:Program}{w:World}{H H':Hp}{h h':Heap}{a C dx:Addr}{fs fs':List (Str × V)}
def z4X(hok:HOk P w H h)(e:H a=some (.ins C dx fs)):∃mA,zcV h a dx C mA/\(∀f,z5p (fs.lookup f) (mA f))/\PySem.Within mA (fs.map (·.1))/\fs.length<=1000/\H dx=some (.own a):=by obtain⟨d,z,ne,ob,mA,n,r,q⟩:=(show z0X P w H h a (.ins C dx fs)from hok a _ e);exact⟨mA,⟨ob,n,ne⟩,r,q,z,d⟩
end
structure Cls(K:yyF)(C:Addr):Prop where
 pg:PySem.W.plainGet K C Str.empty=true
 hd:PySem.W.hasDictIn K C=true
 po:PySem.W.plainOver K C=true
 sa:PySem.W.findIn K (.ref C) "__setattr__"=some (some (.builtin "object.__setattr__"))
def Cls.get{K:yyF}{C:Addr}(c:Cls K C)(f:Str):PySem.W.plainGet K C f=true:=c.pg
def z2X(K:yyF)(C:Addr)(f:Str):Prop:=PySem.W.findIn K (.ref C) f=some none
def z2X.taker{K:yyF}{C:Addr}{f:Str}(n:z2X K C f):PySem.W.takerIn K C f=some none:=by unfold PySem.W.takerIn;rw[show PySem.W.findIn K (.ref C) f=some none from n];rfl
structure zhg(K:yyF)(C:Addr)(m:Str)(f:Addr):Prop where
 at_:PySem.W.findIn K (.ref C) m=some (some (.ref f))
 fn:PySem.W.isFn K (.ref f)=true
 kp:PySem.W.keepIn K (.ref f)=true
section
variable{X:Cx}{pins:yyP}{σ:St}{H:Hp}{s:Shared}{a C dx:Addr}{fs:List (Str × V)}{f:Str}{v:V}{A:Around}{E:yyE}
def z8K{b:Bool}{Q:yyE}(I:Inv X pins σ H s)(e:H a=some (.ins C dx fs))(c:Cls X.K C)(n:z2X X.K C f)(l:fs.lookup f=some v)(h:∀u s',Inv X pins σ H s'->z0A v u->Q u s'):wpAny (model X.prog X.w) A (getAttr (.ref a) f b) Q E s:=by obtain⟨mA,O,r,_,_,_⟩:=z4X I.hok e;obtain⟨u,hu,ru⟩:=z5p.some_of (v:=v) (o:=mA f) (by rw[<-l];exact r f);exact zdS I.kIn O (c.get f) c.hd n hu (z9H ru) (h u _ (I.tok _) ru)
def z4i{m:Str}{g:Addr}{pl:Sem Bool}{Q:Value × List Value->Shared->Prop}(I:Inv X pins σ H s)(e:H a=some (.ins C dx fs))(c:Cls X.K C)(k:zhg X.K C m g)(l:fs.lookup m=none)(h:Q (.ref g,[.ref a]) s):wpAny (model X.prog X.w) A (getMethod (.ref a) m pl) Q E s:=by obtain⟨mA,O,r,_,_,_⟩:=z4X I.hok e;have hn:mA m=none:=z5p.none_of (by rw[<-l];exact r m);exact zbf I.kIn O (c.get m) k.at_ k.fn hn h
def z8h{y:V}{u:Value}{Q:Unit->Shared->Prop}(I:Inv X pins σ H s)(e:H a=some (.ins C dx fs))(c:Cls X.K C)(n:z2X X.K C f)(hl:fs.length<1000)(ry:z0A y u)(h:∀s',Inv X pins σ (upd H a (.ins C dx (z5q f y fs))) s'->Q () s'):wpAny (model X.prog X.w) A (setAttr (.ref a) f u) Q E s:=by
 obtain⟨mA,O,r,wi,_,ho⟩:=z4X I.hok e;have hz:(fs.map (·.1)).length<=sizeLine:=by rw[y00,y2h];lia
 refine zdm I.kIn O c.sa c.po n.taker c.hd wi hz λh' O' sb=>h _ ?_;have hd:∃o,h'.get? dx=some o:=let⟨o,_,_,e',_⟩:=O'.ns;⟨o,e'⟩;refine I.write (x:=a) (e:=dx) (by rw[e];exact y0Y) (.inr ho) (λb q hb z=>(sb.2 b hb).trans z) hd ?_;refine⟨by rw[z0f O.ne];exact ho,?_,O.ne,O'.obj,_,O'.ns,λg=>?_,λg hg=>?_⟩
 .have:=z3s f y fs;lia
 .show z5p ((z5q f y fs).lookup g) (if g=f then some u else mA g);rw[z3l];by_cases q:g=f
  .rw[if_pos q,if_pos q];exact ry
  .rw[if_neg q,if_neg q];exact r g
 .by_cases q:g=f
  .rw[q];exact(z3q f y fs).1
  .refine(z3q f y fs).2 g (wi g λz=>hg ?_);show(if g=f then some u else mA g)=none;rw[if_neg q];exact z
def Inv.made(I:Inv X pins σ H s):Inv X pins σ (upd (upd H s.heap.objs.size (.own (s.heap.objs.size+1))) (s.heap.objs.size+1) (.ins C s.heap.objs.size [])) { s with heap:=(s.heap.push PySem.W.emptyDict).push (PySem.W.instObj C s.heap.objs.size) }:=by
 have e1:(s.heap.push PySem.W.emptyDict).get? s.heap.objs.size=some PySem.W.emptyDict:=y05 s.heap rfl;have e2:((s.heap.push PySem.W.emptyDict).push (PySem.W.instObj C s.heap.objs.size)).get? (s.heap.objs.size+1)=some (PySem.W.instObj C s.heap.objs.size):=by
  have:=y05 (s.heap.push PySem.W.emptyDict) (o:=PySem.W.instObj C s.heap.objs.size) rfl
  rwa [y1k]at this
 have e3:(s.heap.push PySem.W.emptyDict).Ns s.heap.objs.size (λ_=>none):=⟨PySem.W.emptyDict,#[],_,e1,rfl,(λe he=>absurd he (by simp)),λ_=>rfl⟩;have I1:=I.laid (a:=s.heap.objs.size) (o:=.own (s.heap.objs.size+1)) (h':=s.heap.push PySem.W.emptyDict) (t':=s.toks) (λb u q=>y02 _ q) (y0a _) ⟨_,e1⟩;refine I1.laid (a:=s.heap.objs.size+1) (o:=.ins C s.heap.objs.size []) (t':=s.toks) (λb u q=>y02 _ q) (y2l (y1k _ _)) ?_;have ne:s.heap.objs.size≠s.heap.objs.size+1:=y0p (y2d _);refine⟨by rw[z0f ne,z0e],y1M _,ne,e2,λ_=>none,(Heap.Ns1.of_empty e3).at λo q=>y02 _ q,λ_=>y0Y,λy hy=>absurd rfl hy⟩
def zcL{prog:Program}{w:World}{env:Env}{e:Expr}{f:Str}{pos:Pos}{s:Shared}{Q:yyE}(hb:attributeBase e f env (eval e env)=eval e env)(h:wpAny (model prog w) A (eval e env) (λo s₁=>wpAny (model prog w) A (getAttr o f true) Q E s₁) E s):wpAny (model prog w) A (eval (.Attribute e f pos) env) Q E s :=
 Attribute_any_ h (by rw[arm_eval_Attribute,hb])
end
def zk3(K:yyF)(ta:TE)(f:Str):TE:=λσ H Q=>ta σ H λx H1=>∃a C dx fs v,x=.ref a/\H1 a=some (.ins C dx fs)/\Cls K C/\z2X K C f/\fs.lookup f=some v/\Q v H1
section
variable{X:Cx}{o e value:Expr}{f:Str}{pos pos' tpos:Pos}{ta tv:TE}
def zgo(he:PE X e ta)(hb:attributeBase e f X.env (eval e X.env)=eval e X.env):PE X (.Attribute e f pos) (zk3 X.K ta f):=by intro pins s σ H Q I h;refine zcL hb (thn (he pins s σ H _ I h) λu s1 hz8=>?_);obtain⟨x,H1,I1,rx,a,C,dx,fs,v,ex,ea,c,n,l,q⟩:=hz8;subst ex;obtain rfl:u=Value.ref a:=rx;exact z8K I1 ea c n l λu' s2 I2 ru=>⟨v,H1,I2,ru,q⟩
end
section
variable{X:Cx}{pins:yyP}{σ:St}{H:Hp}{s:Shared}{A:Around}{E:yyE}{Q:yyE}{c:Value}{b:Bool}
inductive z8e(K:yyF)(H:Hp):V->Value->Prop where
 |non:z8e K H .non (.type "NoneType")
 |bl (x:Bool):z8e K H (.bl x) (.type "bool")
 |int (i:Int):z8e K H (.int i) (.type "int")
 |str (x:Str):z8e K H (.str x) (.type "str")
 |flt (x:UInt64):z8e K H (.flt x) (.type "float")
 |lst {a:Addr} {xs:List V} (e:H a=some (.lst xs)):z8e K H (.ref a) (.type "list")
 |frz {a:Addr} {o:Obj} {xs:List V} (e:H a=some (.frz o (.lst xs))):z8e K H (.ref a) (.type "list")
 |tup {a:Addr} {xs:List V} (e:H a=some (.tup xs)):z8e K H (.ref a) (.type "tuple")
 |dK {a:Addr} {kvs:List (Key × V)} (e:H a=some (.dK kvs)):z8e K H (.ref a) (.type "dict")
 |dT {a:Addr} {kvs:List (List Key × V)} (e:H a=some (.dT kvs)):z8e K H (.ref a) (.type "dict")
 |ins {a C dx:Addr} {fs:List (Str × V)} (e:H a=some (.ins C dx fs)) (cl:Cls K C) (ha:PySem.W.findIn K (.ref C) "__class__"=some (some (.builtin "object.__class__")))
   (hn:PySem.W.specialIn K (.builtin "object.__class__") "__get__"=some (some (.builtin "getset_descriptor.__get__"))) (htk:PySem.W.takesIn K (.builtin "object.__class__")=some true)
   (hm:PySem.W.mroIn K C (.type "object")=some true):z8e K H (.ref a) (.ref C)
def z9C{x:V}{u t:Value}(I:Inv X pins σ H s)(rx:z0A x u)(ty:z8e X.K H x t)(e:PySem.W.kitOne X.K t c=some b)(h:∀tk,Q (.bool b) { s with toks:=tk }) : wpAny (model X.prog X.w) A (call (.builtin "isinstance") [u,c]) Q E s:=by
 cases ty with
 |non=>cases(show u=Value.none from rx);exact y0T PySem.W.kitx_none I.kIn y0Y e (λz=>nomatch z) h
 |bl y=>cases(show u=Value.bool y from rx);exact y0T PySem.W.kitx_bool I.kIn y0Y e (λz=>nomatch z) h
 |int i=>obtain⟨t,q⟩:=(show ∃t,u=Value.int i t from rx);cases q;exact y0T PySem.W.kitx_int I.kIn y0Y e (λz=>nomatch z) h
 |str y=>obtain⟨t,q⟩:=(show ∃t,u=Value.str y t from rx);cases q;exact y0T PySem.W.kitx_str I.kIn y0Y e (λz=>nomatch z) h
 |flt y=>obtain⟨t,q⟩:=(show ∃t,u=Value.float y t from rx);cases q;exact y0T PySem.W.kitx_float I.kIn y0Y e (λz=>nomatch z) h
 |@lst a xs ea =>
  cases(show u=Value.ref a from rx);obtain⟨_,_,n,_,h1⟩:=(show z0X X.prog X.w H s.heap a (.lst xs)from I.hok a _ ea);exact y0T PySem.W.kitx_list I.kIn ⟨_,h1,rfl⟩ e (λz=>nomatch z) h
 |@frz a ob xs ea =>
  cases(show u=Value.ref a from rx);obtain⟨_,_,_,n,_,h1⟩:=(show z0X X.prog X.w H s.heap a (.frz ob (.lst xs))from I.hok a _ ea);exact y0T PySem.W.kitx_list I.kIn ⟨_,h1,rfl⟩ e (λz=>nomatch z) h
 |@tup a xs ea =>
  cases(show u=Value.ref a from rx);obtain⟨_,_,n,_,h1⟩:=(show z0X X.prog X.w H s.heap a (.tup xs)from I.hok a _ ea);exact y0T PySem.W.kitx_tuple I.kIn ⟨_,h1,rfl⟩ e (λz=>nomatch z) h
 |@dK a kvs ea =>
  cases(show u=Value.ref a from rx);obtain⟨_,_,vs,_,p⟩:=(show z0X X.prog X.w H s.heap a (.dK kvs)from I.hok a _ ea);obtain⟨o,es,ep,h1,h2,_⟩:=p;exact y0T PySem.W.kitx_dict I.kIn ⟨o,h1,h2.1⟩ e (λz=>nomatch z) h
 |@dT a kvs ea =>
  cases(show u=Value.ref a from rx);obtain⟨_,_,xs,_,o,es,ep,h1,h2,_⟩:=(show z0X X.prog X.w H s.heap a (.dT kvs)from I.hok a _ ea);exact y0T PySem.W.kitx_dict I.kIn ⟨o,h1,h2.1⟩ e (λz=>nomatch z) h
 |@ins a C dx fs ea cl ha hn htk hm =>
  cases(show u=Value.ref a from rx);obtain⟨mA,O,_⟩:=z4X I.hok ea;obtain⟨od,J,_⟩:=O.look;exact y0T (PySem.W.kitx_own (cl.get _) cl.hd ha hn htk hm) I.kIn J e (λz=>nomatch z) h
end
structure z1C(k:Nat)(A:Around):Prop where
 hd:A.handled=none
 dp:A.depth+3*k+5<recursionLimit
 un:A.units+16*k+200<cLine
def z1C.mono{j k:Nat}{A:Around}(r:z1C k A)(h:j<=k):z1C j A:=⟨r.hd,by have:=r.dp;lia,by have:=r.un;lia⟩
theorem z1C.deeper{k:Nat}{A:Around}(r:z1C (k+1) A)(env:Env):z1C k (A.deeper env) :=
 ⟨r.hd,by have:=r.dp;show A.depth+1+3*k+5<_;lia,by have:=r.un;show A.units+3+16*k+200<_;lia⟩
def z8i{A:Around}{C:Addr}{us:List Value}{kw:List (Str × Value)}:(A.under (.builtin "type.__call__" ⟨.ref C::us,kw⟩)).depth=A.depth+1:=by
 first|rfl|simp[Around.under,Code.weight,Code.isCreation,Code.isGuard,Code.isCaller,Code.frames,Code.isFrame,guardIds]
def z8l{A:Around}{C:Addr}{us:List Value}{kw:List (Str × Value)}:(A.under (.builtin "type.__call__" ⟨.ref C::us,kw⟩)).units=A.units+1:=by
 first|rfl|simp[Around.under,Code.cUnits,Code.frames,Code.isFrame]
def z1C.make{k:Nat}{A:Around}(r:z1C (k+1) A)(C:Addr)(us:List Value)(kw:List (Str × Value)):z1C k (A.under (.builtin "type.__call__" ⟨.ref C::us,kw⟩)) :=
 ⟨r.hd,by have:=r.dp;rw[z8i];lia,by have:=r.un;rw[z8l];lia⟩
theorem z1C.depth{k:Nat}{A:Around}(r:z1C k A):A.depth<recursionLimit:=by have:=r.dp;lia
def ziy:TA:=λ_ H Q=>Q [] H
def z9A(ta:TE)(tr:TA):TA:=λσ H Q=>ta σ H λx H1=>tr σ H1 λxs H2=>Q (x::xs) H2
section
variable{X:Cx}{e:Expr}{es:List Expr}{te:TE}{t:TA}{pos:Pos}
def z40:PA X [] ziy:=λ_ _ _ _ H Q I h=>Calls.spliced_nil ⟨[],H,I,.nil,h⟩
def z1L(ha:PE X e te)(hr:PA X es t)(hs:starEach (e::es) X.env=(false,eval e X.env)::starEach es X.env:=by rfl):PA X (e::es) (z9A te t):=by intro pos pins s σ H Q I h;rw[hs];show wpAny _ _ (spliced ((false,eval e X.env)::backTo pos (starEach es X.env))) _ _ s;refine Calls.spliced_cons (z2L (ha pins s σ H _ I h) λu s1 x H1 I1 r1 q1=>?_);exact thn (hr pos pins s1 σ H1 _ I1 q1) λus s2 ⟨xs,H2,I2,r2,q2⟩=>⟨x::xs,H2,I2,.cons r1 r2,q2⟩
def zjL(t:TA):TE:=λσ H Q=>t σ H λxs H1=>xs.length<=sizeLine/\∀p,H1 p=none->Q (.ref p) (upd H1 p (.tup xs))
def zkj(t:TA):TE:=λσ H Q=>t σ H λxs H1=>xs.length<=sizeLine/\∀p,H1 p=none->Q (.ref p) (upd H1 p (.lst xs))
def zg1{x1}(h:PA X es t):PE X (.Tuple es x1 pos) (zjL t):=by intro pins s σ H Q I hq;refine wpAny_Tuple_spliced (thn (h pos pins s σ H _ I hq) λus s1 ⟨xs,H1,I1,r,z,q⟩=>⟨by rw[<-r.length];exact z,?_⟩);have hf:H1 s1.heap.objs.size=none:=I1.hok.fresh (y0a _);refine⟨.ref s1.heap.objs.size,upd H1 s1.heap.objs.size (.tup xs),I1.laid (t':=s1.toks) (λb u e=>y02 _ e) (y0a _) ?_,rfl,q _ hf⟩;exact⟨z,us,0,r,y05 _ rfl⟩
def zfL(h:PA X es t):PE X (.List es pos) (zkj t):=by intro pins s σ H Q I hq;refine wpAny_List_spliced (thn (h pos pins s σ H _ I hq) λus s1 ⟨xs,H1,I1,r,z,q⟩=>⟨by rw[<-r.length];exact z,?_⟩);have hf:H1 s1.heap.objs.size=none:=I1.hok.fresh (y0a _);refine⟨.ref s1.heap.objs.size,upd H1 s1.heap.objs.size (.lst xs),I1.laid (t':=s1.toks) (λb u e=>y02 _ e) (y0a _) ?_,rfl,q _ hf⟩;exact⟨z,us,0,r,y05 _ rfl⟩
end
abbrev Sp:=List V->Hp->VK->XK->Prop
abbrev CXT:=List Env->Hp->Shared->XK->yyE
structure zaz(P:Program)(w:World)(K:yyF)(mg:yyS)(base:Heap)(A:Around)(outer:List Env)(s:Shared)(H:Hp):Prop where
 frames:A.frames=some outer
 mod:Mod K mg base
 bs:∀b o,base.get? b=some o->s.heap.get? b=some o/\H b=none
 bsz:base.objs.size<=s.heap.objs.size
 funs:s.heap.FunFrames base outer
 frf:∀b∈frs outer,H b=none
 hok:HOk P w H s.heap
 bare:AllBare s.gens
def CE(outer:List Env)(P:Program)(w:World)(H:Hp)(s:Shared)(Q:VK)(u:Value)(s':Shared):Prop :=
 ∃v H',s'.os=s.os/\AllBare s'.gens/\Un (frs outer) [] H H' s.heap s'.heap/\HOk P w H' s'.heap/\z0A v u/\Q v H'
def CR(CX:CXT)(outer:List Env)(P:Program)(w:World)(H:Hp)(s:Shared)(Q:VK)(E:XK)(r:Result)(s':Shared):Prop :=
 match r with
 |.ok (.ret u)=>CE outer P w H s Q u s'
 |.ok _=>False
 |.error e=>CX outer H s E e s'
structure z2h(P:Program)(w:World)(K:yyF)(mg:yyS)(base:Heap)(CX:CXT)(k:Nat)(f:Addr)(fd:FuncData)(ps:List Str)(sp:Sp):Prop where
 len:∀vs H Q E,sp vs H Q E->vs.length=ps.length
 run:∀(A:Around)(outer:List Env)(s:Shared)(H:Hp)(args:Args)(us:List Value)(vs:List V)(Q:VK)(E:XK),z1C k A->zaz P w K mg base A outer s H->BindsTo s fd args (ps.zip us)->z0B vs us->sp vs H Q E ->
  codeAny (model P w) A (.call (.ref f) args) (CR CX outer P w H s Q E) s
theorem z2h.mono{P:Program}{w:World}{K:yyF}{mg:yyS}{base:Heap}{CX:CXT}{j k:Nat}{f:Addr}{fd:FuncData}{ps:List Str}{sp:Sp}(F:z2h P w K mg base CX j f fd ps sp)(h:j<=k) : z2h P w K mg base CX k f fd ps sp:=⟨F.len,λA outer s H args us vs Q E hr=>F.run A outer s H args us vs Q E (hr.mono h)⟩
def zaz.make{P:Program}{w:World}{K:yyF}{mg:yyS}{base:Heap}{A:Around}{outer:List Env}{s:Shared}{H:Hp}(e:zaz P w K mg base A outer s H)(C:Addr)(us:List Value)(kw:List (Str × Value)) : zaz P w K mg base (A.under (.builtin "type.__call__" ⟨.ref C::us,kw⟩)) outer s H:=⟨by first|exact e.frames|(simpa[Around.under,Code.envs,Code.isFrame,pushEnvs]using e.frames),e.mod,e.bs,e.bsz,e.funs,e.frf,e.hok,e.bare⟩
section
variable{X:Cx}{pins:yyP}{σ:St}{H:Hp}{s s':Shared}
def Inv.env0(I:Inv X pins σ H s):zaz X.prog X.w X.K X.mg X.base X.A X.stack s H :=
 ⟨I.ok.frames,I.ok.mod,I.bs,y0k I.ok.bsz I.sz,I.stack,I.stkFree,I.hok,I.bare⟩
def Inv.after{Q:VK}{u:Value}(I:Inv X pins σ H s)(h:CE X.stack X.prog X.w H s Q u s'):EP X pins σ Q u s':=by obtain⟨v,H',os,bare,un,hok,r,q⟩:=h;obtain⟨hh,g,d,t,os'⟩:=s';obtain rfl:os'=s.os:=os;exact⟨v,H',I.call (h':=hh) (g':=g) (d':=d) (t':=t) (ch:=[]) un hok bare (λb z=>absurd z (by simp)),r,q⟩
end
def zhK(C:Addr)(sp:Sp)(dvs:List V)(E:XK)(t:TA):TE:=λσ H Q=>t σ H λvs H1=>∀x dx,H1 x=none->H1 dx=none->dx≠x ->
 sp (.ref x::(vs++dvs)) (upd (upd H1 dx (.own x)) x (.ins C dx [])) (λv H2=>v=.non/\Q (.ref x) H2) E
def z1q(K:yyF)(fd:FuncData)(ps:List Str)(ds:List Value):Prop :=
 ∀(s:Shared)(us:List Value),K.In s.heap->(us++ds).length=ps.length->BindsTo s fd ⟨us,[]⟩ (ps.zip (us++ds))
def z1q.all{K:yyF}{fd:FuncData}{ps:List Str}(h:∀us:List Value,us.length=ps.length->bindArgs fd ⟨us,[]⟩=pure (ps.zip us)):z1q K fd ps []:=λs us _ hl=>by rw[y0j]at hl⊢;exact .of_eq (h us hl)
def z2r(CX:CXT)(X:Cx)(E:XK):Prop:=∀(pins:yyP)(σ:St)(H:Hp)(s:Shared)(e:Value)(s':Shared),Inv X pins σ H s->CX X.stack H s E e s'->X.xe e s'
section
variable{X:Cx}{CX:CXT}{k:Nat}{f C:Addr}{fd:FuncData}{ps:List Str}{sp:Sp}{dvs:List V}{ds:List Value}{E:XK}{x m:Str}{p pos apos:Pos}{e o:Expr}{es:List Expr}{ta:TE}{t:TA}
def zgn{pins:yyP}{σ:St}{H:Hp}{s:Shared}{Q:VK}{us:List Value}{vs:List V}(F:z2h X.prog X.w X.K X.mg X.base CX k f fd ps sp)(hr:z1C k X.A)(hb:z1q X.K fd ps ds)(hd:z0B dvs ds)(hx:z2r CX X E)(I:Inv X pins σ H s)(r:z0B vs us)(h:sp (vs++dvs) H Q E):wpAny (model X.prog X.w) X.A (call (.ref f) us) (EP X pins σ Q) X.xe s:=by
 have r2:z0B (vs++dvs) (us++ds):=r.append hd;have hl:(us++ds).length=ps.length:=by rw[<-r2.length];exact F.len _ _ _ _ h
 refine wpAny_call (y23 (F.run X.A X.stack s H ⟨us,[]⟩ (us++ds) (vs++dvs) Q E hr I.env0 (hb s us I.kIn hl) r2 h) λr s' hq=>?_);cases r with
 |error e=>exact hx pins σ H s e s' I hq
 |ok fl =>
  cases fl with
  |ret u=>exact I.after hq
  |next=>exact False.elim hq
  |brk=>exact False.elim hq
  |cont=>exact False.elim hq
structure Mk(K:yyF)(C f:Addr):Prop where
 makes:PySem.W.makesIn K C=true
 init:PySem.W.findIn K (.ref C) "__init__"=some (some (.ref f))
 fn:PySem.W.isFn K (.ref f)=true
 kp:PySem.W.keepIn K (.ref C)=true
def zb6{pins:yyP}{σ:St}{H:Hp}{s:Shared}{Q:VK}{us:List Value}{vs:List V}(M:Mk X.K C f)(F:z2h X.prog X.w X.K X.mg X.base CX k f fd ps sp)(hr:z1C (k+1) X.A)(hb:z1q X.K fd ps ds)(hd:z0B dvs ds)(hx:z2r CX X E)(I:Inv X pins σ H s)(r:z0B vs us)(h:∀x dx,H x=none->H dx=none->dx≠x->sp (.ref x::(vs++dvs)) (upd (upd H dx (.own x)) x (.ins C dx [])) (λv H2=>v=.non/\Q (.ref x) H2) E) : wpAny (model X.prog X.w) X.A (call (.ref C) us) (EP X pins σ Q) X.xe s:=by
 have hq:=h (s.heap.objs.size+1) s.heap.objs.size (I.hok.fresh (Nat.le_succ _)) (I.hok.fresh (y0a _)) (y0p (y2d _));have I2:=Inv.made (C:=C) I;have r2:z0B (V.ref (s.heap.objs.size+1)::(vs++dvs)) (Value.ref (s.heap.objs.size+1)::(us++ds)):=.cons rfl (r.append hd);have hl:(Value.ref (s.heap.objs.size+1)::us++ds).length=ps.length:=by have e:=r2.length;rw[F.len _ _ _ _ hq]at e;exact e.symm
 refine wpAny_call (zb2 (f:=f) I.kIn M.makes M.init (y2k.mp M.fn) (y23 (F.run _ X.stack _ _ ⟨Value.ref (s.heap.objs.size+1)::us,[]⟩ (Value.ref (s.heap.objs.size+1)::(us++ds)) _ _ E (hr.make C us [])
  (I2.env0.make C us []) (hb _ (Value.ref (s.heap.objs.size+1)::us) I2.kIn hl) r2 hq) λr s' hq'=>?_))
 cases r with
 |error e=>exact hx pins σ _ _ e s' I2 hq'
 |ok fl =>
  cases fl with
  |ret u =>
   obtain⟨v,H',I3,rv,ev,q3⟩:=I2.after hq';subst ev;exact⟨rv,⟨V.ref (s.heap.objs.size+1),H',I3,rfl,q3⟩⟩
  |next=>exact False.elim hq'
  |brk=>exact False.elim hq'
  |cont=>exact False.elim hq'
def zdv(M:Mk X.K C f)(F:z2h X.prog X.w X.K X.mg X.base CX k f fd ps sp)(hr:z1C (k+1) X.A)(hg:Gl X x)(hm:X.mg x=some (.ref C))(hb:z1q X.K fd ps ds)(hd:z0B dvs ds)(hx:z2r CX X E)(ha:PA X (e::es) t)(hdb:(x==("__debug__":Str))=false:=by decide)(he:starEach (e::es) X.env=(false,eval e X.env)::starEach es X.env:=by rfl)(hpl:(backTo pos (starEach es X.env)).any (·.1)=false:=by rfl) : PE X (.Call (.Name x p) (e::es) [] pos) (zhK C sp dvs E t):=by intro pins s σ H Q I h;refine y1q (z2R I hg hm ?_ hdb);refine y20 (h₀:=X.base) I.ok.mod.kin M.kp (thn (ha pos pins s σ H _ I h) λus s1 ⟨vs,H1,I1,r,q⟩=>⟨I1.kIn,?_⟩) he hpl;exact zb6 M F hr hb hd hx I1 r q
end
section
variable{X:Cx}{CX:CXT}{k:Nat}{f C:Addr}{fd:FuncData}{ps ks:List Str}{sp:Sp}{E:XK}{x m:Str}{p pos apos kpos:Pos}{e o:Expr}{es:List Expr}{kws:List Keyword}{te ta:TE}{t tk:TA}{nm:Option Str}
variable{g:List Value->List Value->List Value}{gV:List V->List V->List V}
end
structure z1M(N P:List Str)(sc:Scope):Prop where
 kind:sc.kind=.function:=by rfl
 co:sc.isCoroutine=false:=by rfl
 gen:sc.isGenerator=false:=by rfl
 nd:N.Nodup:=by decide +kernel
 pre:N.take P.length=P:=by rfl
 par:∀x∈P,sc.names.lookup x=some .local\/sc.names.lookup x=some .cell:=by decide +kernel
 nofree:∀y∈sc.names,y.2≠.free:=by decide +kernel
theorem z5v{kindOf:Str->Option NameKind}{x:Str}:∀{binds:List (Str × Value)}{m:yyS},(∀v,(x,v)∉binds)->bindL kindOf binds m x=m x
 |[],_,_=>rfl
 | (n,v)::r,m,h=>by
  unfold bindL;rw[z5v λw hw=>h w (y0g _ hw)];split
  .have:x≠n:=by rintro rfl;exact h v y0t
   simp[this]
  .rfl
theorem z66{kindOf:Str->Option NameKind}{x:Str}:∀{binds:List (Str × Value)}{m:yyS},(∀v,(x,v)∉binds)->bindC kindOf binds m x=m x
 |[],_,_=>rfl
 | (n,v)::r,m,h=>by
  unfold bindC;rw[z66 λw hw=>h w (y0g _ hw)];split
  .rfl
  .have:x≠n:=by rintro rfl;exact h v y0t
   simp[this]
theorem z5R{kindOf:Str->Option NameKind}{x:Str}{v:Value}:∀{P:List Str}{vs:List Value}{i:Nat}{m:yyS},P.Nodup->P[i]?=some x->vs[i]?=some v->kindOf x=some .local ->
  bindL kindOf (P.zip vs) m x=some v
 |[],_,_,_,_,h,_,_=>by simp at h
 |_::_,[],_,_,_,_,h,_=>by simp at h
 |p::P,w::vs,0,m,nd,h1,h2,hk=>by
  simp at h1 h2;subst h1;subst h2;show bindL kindOf ((p,w)::P.zip vs) m p=_;unfold bindL;rw[z5v λv hv=>(y0U.mp nd).1 (y2r hv).1,if_pos hk];simp
 |p::P,w::vs,i+1,m,nd,h1,h2,hk=>by show bindL kindOf ((p,w)::P.zip vs) m x=_;unfold bindL;exact z5R (i:=i) (y0U.mp nd).2 (by simpa using h1) (by simpa using h2) hk
theorem z5Y{kindOf:Str->Option NameKind}{x:Str}{v:Value}:∀{P:List Str}{vs:List Value}{i:Nat}{m:yyS},P.Nodup->P[i]?=some x->vs[i]?=some v->kindOf x≠some .local ->
  bindC kindOf (P.zip vs) m x=some v
 |[],_,_,_,_,h,_,_=>by simp at h
 |_::_,[],_,_,_,_,h,_=>by simp at h
 |p::P,w::vs,0,m,nd,h1,h2,hk=>by
  simp at h1 h2;subst h1;subst h2;show bindC kindOf ((p,w)::P.zip vs) m p=_;unfold bindC;rw[z66 λv hv=>(y0U.mp nd).1 (y2r hv).1,if_neg hk];simp
 |p::P,w::vs,i+1,m,nd,h1,h2,hk=>by show bindC kindOf ((p,w)::P.zip vs) m x=_;unfold bindC;exact z5Y (i:=i) (y0U.mp nd).2 (by simpa using h1) (by simpa using h2) hk
def start(N:List Str)(vs:List V):St:=vs.map some++List.replicate (N.length-vs.length) none
def z2V(CX:CXT)(P:Program)(w:World)(K:yyF)(mg:yyS)(base:Heap)(N:List Str)(qual:Str)(scope:Scope)(f:Addr)(cd:Value)(A:Around)(outer:List Env)(s:Shared)(H:Hp)(E:XK):Cx where
 prog:=P
 w:=w
 K:=K
 mg:=mg
 base:=base
 A:=A.deeper (envOfC qual scope s.heap.objs.size f cd)
 N:=N
 s₀:=s
 H₀:=H
 env:=envOfC qual scope s.heap.objs.size f cd
 outer:=outer
 stack:=envOfC qual scope s.heap.objs.size f cd::outer
 ex:=[]
 calm:=true
 fn:=λ_=>true
 pn:=[]
 xe:=λe s'=>wpAny (model P w) (A.deeper (envOfC qual scope s.heap.objs.size f cd)) (leaving (envOfC qual scope s.heap.objs.size f cd) e) (λ_ s''=>CX outer H s E e s'') (λe' s''=>CX outer H s E e' s'') s'
def z83{sc:Scope}{n:Nat}{x:Str}(h:sc.names.lookup x=some .cell):∃c,(cellsFrom n sc.names []).lookup x=some c:=by have q:=PySem.W.cellsFrom_some sc.names n [] (.inl h);exact y1r.mp q
def z9K{CX:CXT}{P:Program}{w:World}{K:yyF}{mg:yyS}{base:Heap}{N ps:List Str}{qual:Str}{scope:Scope}{f:Addr}{cd:Value}{A:Around}{outer:List Env}{s s1:Shared}{H:Hp}{E:XK}{us:List Value}{vs:List V}(S:z1M N ps scope)(hd:A.handled=none)(e0:zaz P w K mg base A outer s H)(hl:vs.length=ps.length)(r:z0B vs us)(x:InCallC s s.heap.objs.size (bindL (envOfC qual scope s.heap.objs.size f cd).kindOf (ps.zip us) λ_=>none) (cellsFrom (s.heap.objs.size+1) scope.names []) (bindC (envOfC qual scope s.heap.objs.size f cd).kindOf (ps.zip us) λ_=>none) s1) : Inv (z2V CX P w K mg base N qual scope f cd A outer s H E) [] (start N vs) H s1:=by
 have hpl:ps.length<=N.length:=by have:=y2c List.length S.pre;rw[y0z]at this;lia
 obtain⟨h1,tk,rfl,hk⟩:=x.done;have noA:∀b:Addr,b∉(z2V CX P w K mg base N qual scope f cd A outer s H E).ex:=λb z=>absurd (show b∈([]:List Addr)from z) (by simp);refine⟨⟨e0.mod,S.kind,rfl,rfl,y0a _,λy z c h1 h2=>?_,λy hy=>?_,λy c _ h=>?_,λ_=>hd,Around.frames_deeper e0.frames,.inr ⟨rfl,rfl⟩,λb z=>absurd z (noA b),e0.bs,e0.bsz,λb _ _=>noA b,λb z=>absurd z (noA b),e0.funs,e0.frf⟩,
  rfl,e0.bare,Un.kept hk,⟨_,x.toInCall.ns,λi y v h1 h2 h3=>?_⟩,λy c h=>⟨_,x.cell y c h⟩,e0.hok.fresh (y0a _),λy c h=>?_,λp hp=>absurd (show p∈([]:yyP)from hp) (by simp),e0.hok.kept hk,?_⟩
 .exact name_of_addr x.apart (y0N h1) (y0N h2)
 .have hy:scope.names.lookup y=some .cell\/scope.names.lookup y=some .free:=hy;rcases hy with hy|hy
  .exact z83 hy
  .exact absurd rfl (S.nofree _ (y0N hy))
 .exact y0Z (x.above y c (y0N h))
 .have hi:i<vs.length:=by
   unfold start at h2;by_cases hi:i<vs.length
   .exact hi
   .rw[y15 (by simpa using hi)]at h2;rw[List.getElem?_replicate]at h2;split at h2<;>cases h2
  have ha:vs[i]?=some v:=by
   unfold start at h2;rw[y1l (by simpa using hi),y0x]at h2;cases e:vs[i]? with
   |none=>rw[e]at h2;cases h2
   |some a=>rw[e]at h2;cases h2;rfl
  obtain⟨u,hu,rv⟩:=r.get ha;have hp:ps[i]?=some y:=by rw[<-S.pre,List.getElem?_take_of_lt (by lia)];exact h1
  have ndP:ps.Nodup:=by rw[<-S.pre];exact S.nd.sublist (List.take_sublist _ _)
  refine⟨u,rv,?_⟩;rcases S.par y (y1v hp)with k|k
  .exact .inl ⟨k,z5R ndP hp hu k⟩
  .obtain⟨c,e⟩:=z83 (n:=s.heap.objs.size+1) k;refine .inr ⟨.inl k,c,e,?_⟩;have q:=x.cell y c e;rw[z5Y ndP hp hu (by show scope.names.lookup y≠_;rw[k];decide)]at q;exact q
 .exact e0.hok.fresh (y0Z (x.above y c (y0N h)))
 .unfold start;show _=N.length;rw[y04,y00,List.length_replicate];lia
def zfp{CX:CXT}{P:Program}{w:World}{K:yyF}{mg:yyS}{base:Heap}{k:Nat}{f:Addr}{name qual:Str}{params:Arguments}{body:List Stmt}{scope:Scope}{dV kV doc pm cdv ct oc:Value}{an od:Option Addr}{osl:Array (Option Value)}{N ps:List Str}{sp:Sp}(lk:K.lookup f=some ⟨oc,od,.func (PySem.W.fnOf name qual params body scope dV kV doc pm an cdv ct),osl⟩)(hcd:PySem.W.codeIn K cdv qual=true)(S:z1M N ps scope)(len:∀vs H Q E,sp vs H Q E->vs.length=ps.length)(hbody:∀(A:Around)(outer:List Env)(s:Shared)(H:Hp)(vs:List V)(Q:VK)(E:XK),z1C k (A.deeper (envOfC qual scope s.heap.objs.size f cdv))->sp vs H Q E -> ∃t,PSs (z2V CX P w K mg base N qual scope f cdv A outer s H E) body t/\t { nx:=λ_ H'=>Q .non H',rt:=Q } (start N vs) H) : z2h P w K mg base CX (k+1) f (PySem.W.fnOf name qual params body scope dV kV doc pm an cdv ct) ps sp:=by
 refine⟨len,λA outer s H args us vs Q E hr e0 hb r hsp=>?_⟩;have hl:=len _ _ _ _ hsp;have KX:K.In s.heap:=e0.mod.kin.keeps λb o e=>(e0.bs b o e).1;have lim:s.heap.NoLimit:=e0.mod.nolimit.keeps λb o e=>(e0.bs b o e).1;have hkind:∀y∈ps.zip us,scope.names.lookup y.1=some .local\/(scope.names.lookup y.1=some .cell/\((cellsFrom (s.heap.objs.size+1) scope.names []).lookup y.1).isSome=true):=λ⟨n,v⟩ hy=>by
  rcases S.par n (y2r hy).1 with q|q
  .exact .inl q
  .exact .inr ⟨q,PySem.W.cellsFrom_some _ _ _ (.inl q)⟩
 refine codeAny_call_function hr.depth (KX _ _ lk) rfl S.co S.gen rfl (PySem.W.codeRec_of KX hcd) (hb _ _ _ _ ?_);refine wpAny_newFunctionEnv_cells S.kind hkind λenv he s1 x=>?_;subst he;refine⟨lim.keeps x.toInCall.keep,codeAny_func ?_⟩;obtain⟨t,ht,hq⟩:=hbody A outer s H vs Q E (hr.deeper _) hsp;have I:Inv (z2V CX P w K mg base N qual scope f cdv A outer s H E) [] (start N vs) H s1:=z9K S hr.hd e0 hl r x;refine y0I (ht [] s1 (start N vs) H _ I hq) (λfl s' hs=>?_) λe s' hs=>hs;have fin:∀{σ':St}{H':Hp}{v:V}{u:Value},Inv (z2V CX P w K mg base N qual scope f cdv A outer s H E) [] σ' H' s'->z0A v u->Q v H'->CE outer P w H s Q u s' :=
  λ{σ' H' v u} J rv q=>⟨v,H',J.os,J.bare,J.base,J.hok,rv,q⟩
 cases fl with
 |ret u =>
  obtain⟨v,σ',H',J,rv,q⟩:=hs;exact fin J rv q
 |next =>
  obtain⟨σ',H',J,q⟩:=hs;exact fin (v:=V.non) (u:=Value.none) J rfl q
 |brk =>
  obtain⟨_,_,_,q⟩:=hs;exact False.elim q
 |cont =>
  obtain⟨_,_,_,q⟩:=hs;exact False.elim q
section
variable{X:Cx}{x:Str}{p pos:Pos}{e:Expr}{es:List Expr}{t:TA}{id T:String}{r:List V->Hp->VK->Prop}
def tCB(r:List V->Hp->VK->Prop)(t:TA):TE:=λσ H Q=>t σ H λvs H1=>r vs H1 Q
def z7M(hc:z0Q X (.builtin id) r)(hg:Gl X x)(hm:X.mg x=none)(hv:bootBuiltins x=some (.builtin id))(ha:PA X (e::es) t)(hn:x≠"__name__":=by decide)(hdb:(x==("__debug__":Str))=false:=by decide)(he:starEach (e::es) X.env=(false,eval e X.env)::starEach es X.env:=by rfl)(hpl:(backTo pos (starEach es X.env)).any (·.1)=false:=by rfl):PE X (.Call (.Name x p) (e::es) [] pos) (tCB r t):=by intro pins s σ H Q I h;refine y1q (z3W I hg hm hv ?_ hn hdb);exact PyProof.Rows.callWith_builtin1 (thn (ha pos pins s σ H _ I h) λus s1 ⟨vs,H1,I1,r1,q1⟩=>hc pins s1 σ H1 vs us Q I1 r1 q1) he hpl
def z25(hc:z0Q X (.type T) r)(hg:Gl X x)(hm:X.mg x=none)(hv:bootBuiltins x=some (.type T))(ha:PA X (e::es) t)(hn:x≠"__name__":=by decide)(hdb:(x==("__debug__":Str))=false:=by decide)(he:starEach (e::es) X.env=(false,eval e X.env)::starEach es X.env:=by rfl)(hpl:(backTo pos (starEach es X.env)).any (·.1)=false:=by rfl):PE X (.Call (.Name x p) (e::es) [] pos) (tCB r t):=by intro pins s σ H Q I h;refine y1q (z3W I hg hm hv ?_ hn hdb);exact y1c (thn (ha pos pins s σ H _ I h) λus s1 ⟨vs,H1,I1,r1,q1⟩=>hc pins s1 σ H1 vs us Q I1 r1 q1) he hpl
end
end L2
namespace HT
open PySem PyProof.Rows
section
open PySem.SeqAt
open PySem.AutoSeq1 (wpAny_loadPart')
open PySem.MeetsSeq PySem.MeetsSeq2 PySem.MeetsSeq3
end
section
variable{prog:Program}{w:World}{A:Around}{E:yyE}{s:Shared}
def cat_tup{t b:Addr}{vs ws:List Value}{Q:yyE}(ht:IsTup s.heap t vs.toArray)(hb:IsTup s.heap b ws.toArray)(hv:vs≠[])(h1:ws=[]->Q (.ref t) s)(h2:ws≠[]->Q (.ref s.heap.objs.size) { s with heap:=s.heap.push { cls:=.type "tuple",data:=.seq (vs++ws).toArray } })(hsz:vs.length+ws.length<=sizeLine):wpAny (model prog w) A (binaryOp .Add (.ref t) (.ref b)) Q E s:=by
 obtain⟨⟨cls,dd,data,sl⟩,ho,hc,n,hd⟩:=id ht;obtain⟨⟨cls2,dd2,data2,sl2⟩,ho2,hc2,n2,hd2⟩:=id hb;simp only at hc hd hc2 hd2;subst hc hd hc2 hd2;have e:vs.toArray++ws.toArray=(vs++ws).toArray:=by simp
 by_cases hw:ws=[]
 .exact concat_meets ⟨_,ho,rfl⟩ ⟨_,ho2,rfl⟩ noFill_tuple_add seq_tuple_add y2B y2s (y2m _ _)
   (tuple_addW1 t b vs.toArray ws.toArray n n2 dd dd2 sl sl2 (by simpa using hv) (by simp[hw])) ⟨ho,ho2,h1 hw⟩
 .refine concat_meets ⟨_,ho,rfl⟩ ⟨_,ho2,rfl⟩ noFill_tuple_add seq_tuple_add y2B y2s (y2m _ _)
   (tuple_addW2 t b vs.toArray ws.toArray n n2 dd dd2 sl sl2 (by simpa using hv) (by simpa using hw) (by rw[y06,y06];exact hsz)) ⟨ho,ho2,?_⟩
  rw[e];exact h2 hw
def sIx(n d:Nat):Option Int->Nat
 |none=>d
 |some v=>if v<0 then(v+(n:Int)).toNat else min v.toNat n
def sIx_none(n d:Nat):sIx n d none=d:=rfl
def sIx_nat(n d k:Nat):sIx n d (some (k:Int))=min k n:=by show(if(k:Int)<0 then((k:Int)+(n:Int)).toNat else min (k:Int).toNat n)=min k n;rw[if_neg (by lia),y0J]
def zg6(n d:Nat)(hd:d<=n)(o:Option Int):sIx n d o<=n:=by
 cases o with
 |none=>exact hd
 |some v =>
  show(if v<0 then(v+(n:Int)).toNat else min v.toNat n)<=n;by_cases hv:v<0
  .rw[if_pos hv];lia
  .rw[if_neg hv];exact Nat.min_le_right _ _
def z9P(v:Int)(n d:Nat):(if v<0 then max (v+(n:Int)) 0 else min v (n:Int))=((sIx n d (some v):Nat):Int):=by
 show(if v<0 then max (v+(n:Int)) 0 else min v (n:Int))=(((if v<0 then(v+(n:Int)).toNat else min v.toNat n):Nat):Int);by_cases hv:v<0
 .simp only[if_pos hv];lia
 .simp only[if_neg hv];lia
def z8v(lo hi:Option Int)(n:Nat):Builtin.Slice.sliceAdjust lo hi 1 (n:Int)=(((sIx n 0 lo:Nat):Int),((sIx n n hi:Nat):Int)):=by
 have h1:¬((1:Int)<0):=by lia
 unfold Builtin.Slice.sliceAdjust;simp only[h1,y35];refine Prod.ext ?_ ?_
 .cases lo with
  |none=>rfl
  |some v=>exact z9P v n 0
 .cases hi with
  |none=>rfl
  |some v=>exact z9P v n n
def z8x(i j:Nat):Builtin.Slice.slicePlaces (i:Int) (j:Int) 1=j-i:=by
 unfold Builtin.Slice.slicePlaces;have h1:(1:Int)>0:=by lia
 simp only[h1,if_true,Int.ediv_one];split<;>lia
def z4r{v:Value}{o:Option Int}{Q:Option Int->Shared->Prop}(p:IsPart v o)(h:Q o s):wpAny (model prog w) A (Builtin.Slice.slicePartIndex v) Q E s:=by
 cases p with
 |none=>exact slicePart_none h
 |int i t=>exact slicePart_int h
def sliceApplied_gen{sl:Addr}{vl vu:Value}{lo hi:Option Int}{n:Nat}{Q:Int × Int × Nat->Shared->Prop}(hs:s.heap.IsSliceOf sl vl vu .none)(pl:IsPart vl lo)(pu:IsPart vu hi)(h:Q (((sIx n 0 lo:Nat):Int),1,sIx n n hi-sIx n 0 lo) s):wpAny (model prog w) A (Builtin.Slice.sliceApplied (.ref sl) (pure (n:Int))) Q E s:=by
 obtain⟨os,hos,hcs,hds⟩:=id hs;unfold Builtin.Slice.sliceApplied Builtin.Slice.sliceFields;refine y01 (y01 (y1d hos hds (x:=vl) rfl (y01 (y1d hos hds (x:=vu) rfl (y01 (y1d hos hds (x:=.none) rfl (y03 ?_)))))));refine y01 (slicePart_none ?_);show wpAny _ _ (if((1:Int)==0)=true then _ else _) _ _ s;rw[if_neg (by decide)];refine y01 (z4r pl (y01 (z4r pu (y01 (y03 ?_)))));show wpAny _ _ (match Builtin.Slice.sliceAdjust lo hi 1 (n:Int)with|(lo,hi)=>pure (lo,(1:Int),Builtin.Slice.slicePlaces lo hi 1)) _ _ s
 rw[z8v lo hi n];show wpAny _ _ (pure (((sIx n 0 lo:Nat):Int),(1:Int),Builtin.Slice.slicePlaces ((sIx n 0 lo:Nat):Int) ((sIx n n hi:Nat):Int) 1)) _ _ s;rw[z8x];exact y03 h
def zaU(xs:Array Value)(i k:Nat):((List.range k).filterMap λ(m:Nat)=>xs[((i:Int)+(m:Int)*1).toNat]?).toArray=((xs.toList.drop i).take k).toArray:=by
 have e:(λ(m:Nat)=>xs[((i:Int)+(m:Int)*1).toNat]?)=λm=>xs[i+m]?:=by
  funext m;have:((i:Int)+(m:Int)*1).toNat=i+m:=by lia
  rw[this]
 rw[e];have:=pick_run xs i k;rw[List.filterMap_map]at this;have e2:((λx=>xs[x]?)∘λx=>i+x)=λm=>xs[i+m]?:=rfl;rw[e2]at this;rw[this]
def getItem_tuple_cut{t sl:Addr}{items:Array Value}{vl vu:Value}{lo hi:Option Int}{Q:yyE}(ht:IsTup s.heap t items)(hs:s.heap.IsSliceOf sl vl vu .none)(pl:IsPart vl lo)(pu:IsPart vu hi)(hw:¬(sIx items.size 0 lo=0/\sIx items.size items.size hi=items.size))(h:Q (.ref s.heap.objs.size) { s with heap:=s.heap.push { cls:=.type "tuple",data:=.seq ((items.toList.drop (sIx items.size 0 lo)).take (sIx items.size items.size hi-sIx items.size 0 lo)).toArray } })(hsz:items.size<=sizeLine):wpAny (model prog w) A (getItem (.ref t) (.ref sl)) Q E s:=by
 have htake:sizeOk (.seq ((items.toList.drop (sIx items.size 0 lo)).take (sIx items.size items.size hi-sIx items.size 0 lo)).toArray):=by show((items.toList.drop (sIx items.size 0 lo)).take (sIx items.size items.size hi-sIx items.size 0 lo)).toArray.size<=sizeLine;rw[y06,y0z,y12,y1B];lia
 have hj:sIx items.size items.size hi<=items.size:=zg6 _ _ (y0a _) hi;obtain⟨os,hos,hcs,hds⟩:=id hs;have hTs:s.TypeIs (.ref sl) "slice":=⟨os,hos,hcs⟩;unfold getItem;try with_reducible refine y1e ?_
 first|refine y01 (y03 ?_)|skip
 refine y01 (wpAny_sequenceKey ht.typeIs (by decide) ?_);refine y01 (y0E (name:=Str.ofString "__getitem__") ht.typeIs y0P
  (y0K y0P ht.typeIs entry_tuple_getitem ?_ (args_tuple_getitem _ _)))
 show wpAny _ _ (Builtin.Tuple.tupleItemsOf (.ref t)>>=_) _ _ s;refine y01 (tupleItemsOf_ ht ?_);refine y01 (wpAny_typeOf hTs ?_);rw[if_pos (by decide)];refine y01 (sliceApplied_gen hs pl pu ?_);have hno:¬((((sIx items.size 0 lo:Nat):Int)==0&&(1:Int)==1&&(sIx items.size items.size hi-sIx items.size 0 lo)==items.size)=true):=by intro q;rw[y0h,y0h]at q;have q1:((sIx items.size 0 lo:Nat):Int)=0:=eq_of_beq q.1.1;have q2:sIx items.size items.size hi-sIx items.size 0 lo=items.size:=eq_of_beq q.2;exact hw ⟨by lia,by lia⟩
 show wpAny _ _ (if(((sIx items.size 0 lo:Nat):Int)==0&&(1:Int)==1&&(sIx items.size items.size hi-sIx items.size 0 lo)==items.size)=true then _ else _) _ _ s;rw[if_neg hno,zaU];first
  |exact y01 (m:=Builtin.Tuple.tupleExact _) (y0A (y03 ⟨_,rfl,y03 h⟩) htake)
  |exact y01 (m:=Builtin.Tuple.tupleExact _) (y0A (y01 (y03 (y03 ⟨_,rfl,y03 h⟩))) htake)
  |exact y01 (y01 (m:=Builtin.Tuple.tupleExact _) (y0A (y03 (y03 ⟨_,rfl,y03 h⟩)) htake))
  |exact y01 (y01 (m:=Builtin.Tuple.tupleExact _) (y0A (y03 ⟨_,rfl,y03 h⟩) htake))
end
end HT
namespace L2
open PySem PySem.Spec PyProof.Rows
abbrev TO:=St->Hp->(Option Int->Hp->Prop)->Prop
def PO(X:Cx)(e:Option Expr)(t:TO):Prop :=
 ∀(pins:yyP)(s:Shared)(σ:St)(H:Hp)(Q:Option Int->Hp->Prop),Inv X pins σ H s->t σ H Q ->
  wpAny (model X.prog X.w) X.A (evalPart e X.env) (λu s'=>∃o H',Inv X pins σ H' s'/\IsPart u o/\Q o H') X.xe s
def zen:TO:=λ_ H Q=>Q none H
def zhP(t:TE):TO:=λσ H Q=>t σ H λx H1=>∃i,x=.int i/\Q (some i) H1
section
variable{X:Cx}{e:Expr}{te:TE}{lo hi:Option Expr}{tl th:TO}{pos p2:Pos}
def zdJ:PO X none zen:=by intro pins s σ H Q I h;rw[evalPart_none];exact y03 ⟨none,H,I,.none,h⟩
def zeb(h:PE X e te):PO X (some e) (zhP te):=by intro pins s σ H Q I hw;rw[evalPart_some];refine z2L (h pins s σ H _ I hw) λu s1 x H1 I1 r1 q1=>?_;obtain⟨i,rfl,q⟩:=q1;obtain⟨t,rfl⟩:=r1;exact⟨some i,H1,I1,.int i t,q⟩
def SlR(X:Cx)(r:V->Option Int->Option Int->Hp->VK->Prop):Prop :=
 ∀(pins:yyP)(s:Shared)(σ:St)(H:Hp)(x:V)(v vl vu:Value)(lo hi:Option Int)(sl:Addr)(Q:VK),Inv X pins σ H s->z0A x v->s.heap.IsSliceOf sl vl vu .none->IsPart vl lo->IsPart vu hi->r x lo hi H Q ->
  ∃T id,typeLookup (.type T) "__getitem__"=pure (some (.builtin id))/\s.TypeIs v T/\wpAny (model X.prog X.w) X.A (getItem v (.ref sl)) (EP X pins σ Q) X.xe s
def tSl(r:V->Option Int->Option Int->Hp->VK->Prop)(te:TE)(tl th:TO):TE:=λσ H Q=>te σ H λx H1=>tl σ H1 λl H2=>th σ H2 λu H3=>r x l u H3 Q
def zbO{r:V->Option Int->Option Int->Hp->VK->Prop}(hr:SlR X r)(he:PE X e te)(hl:PO X lo tl)(hu:PO X hi th):PE X (.Subscript e (.Slice lo hi none p2) pos) (tSl r te tl th):=by intro pins s σ H Q I h;refine Subscript_ (z2L (he pins s σ H _ I h) λv s1 x H1 I1 r1 q1=>?_);refine wpAny_Slice (thn (hl pins s1 σ H1 _ I1 q1) λvl s2 ⟨l,H2,I2,pl,q2⟩=>thn (hu pins s2 σ H2 _ I2 q2) λvu s3 hz8=>?_);obtain⟨u,H3,I3,pu,q3⟩:=hz8;rw[evalPart_none];refine y03 ?_;have I4:Inv X pins σ H3 { s3 with heap:=s3.heap.push { cls:=.type "slice",data:=.fields #[vl,vu,.none] } }:=I3.kept (t':=s3.toks) λb ob q=>y02 _ q;obtain⟨T,id,hT,ht,hg⟩:=hr pins { s3 with heap:=s3.heap.push { cls:=.type "slice",data:=.fields #[vl,vu,.none] } } σ H3 x v vl vu l u s3.heap.objs.size Q I4 r1 (Heap.IsSliceOf.new ..) pl pu q3;show wpAny (model X.prog X.w) X.A (subscriptTail e (.Slice lo hi none p2) v (.ref s3.heap.objs.size)) (EP X pins σ Q) X.xe { s3 with heap:=s3.heap.push { cls:=.type "slice",data:=.fields #[vl,vu,.none] } };exact tail_any (ops:=[.ref s3.heap.objs.size,v]) ht hT hg (by with_unfolding_all rfl)
def z9U(xs:List V)(lo hi:Option Int):List V:=(xs.drop (HT.sIx xs.length 0 lo)).take (HT.sIx xs.length xs.length hi-HT.sIx xs.length 0 lo)
def z3P(xs:List V)(lo hi:Option Int):(z9U xs lo hi).length<=xs.length:=by unfold z9U;rw[y0z,y12];lia
def zjX(K:yyF):V->Option Int->Option Int->Hp->VK->Prop:=λx lo hi H Q=>∃a xs,x=.ref a/\SqT K H a xs /\
 ¬(HT.sIx xs.length 0 lo=0/\HT.sIx xs.length xs.length hi=xs.length)/\∀p,H p=none->Q (.ref p) (upd H p (.tup (z9U xs lo hi)))
def zgi:SlR X (zjX X.K):=by
 intro pins s σ H x v vl vu lo hi sl Q I rx hs pl pu h;obtain⟨a,xs,rfl,hx,hw,q⟩:=h;cases rx;obtain⟨its,r,ht,hz⟩:=I.tuple hx;have hlen:its.toArray.size=xs.length:=by rw[y06];exact r.length.symm
 refine⟨"tuple",_,y0P.lookup,ht.typeIs,?_⟩;refine HT.getItem_tuple_cut ht hs pl pu (by rw[hlen];exact hw) ?_ (by rw[hlen];exact hz);rw[hlen];refine⟨.ref s.heap.objs.size,_,I.laid (t':=s.toks) (o:=.tup (z9U xs lo hi)) (λb ob q=>y02 _ q) (y0a _) ?_,rfl,q _ (I.hok.fresh (y0a _))⟩;exact⟨y0k (z3P xs lo hi) hz,_,0,(r.drop (HT.sIx xs.length 0 lo)).take (HT.sIx xs.length xs.length hi-HT.sIx xs.length 0 lo),y05 _ rfl⟩
def zhI(K:yyF):R2:=λx y H Q=>∃a b xs ys,x=.ref a/\y=.ref b/\SqT K H a xs/\SqT K H b ys/\xs≠[]/\xs.length+ys.length<=sizeLine /\
 (ys=[]->Q (.ref a) H)/\(ys≠[]->∀p,H p=none->Q (.ref p) (upd H p (.tup (xs++ys))))
def z0B.nil_iff{xs:List V}{us:List Value}(r:z0B xs us):us=[]↔xs=[]:=by
 cases r with
 |nil=>simp
 |cons _ _=>simp
def zdw:OpR X (binaryOp .Add) (zhI X.K):=by intro pins s σ H x y v u Q I rx ry h;obtain⟨a,b,xs,ys,rfl,rfl,ha,hb,hx,hz,q1,q2⟩:=h;cases rx;cases ry;obtain⟨its,r1,p1,_⟩:=I.tuple ha;obtain⟨its2,r2,p2,_⟩:=I.tuple hb;refine HT.cat_tup p1 p2 (λz=>hx (r1.nil_iff.mp z)) (λz=>⟨.ref a,H,I,rfl,q1 (r2.nil_iff.mp z)⟩) (λz=>?_) (by rw[<-r1.length,<-r2.length];exact hz);refine⟨.ref s.heap.objs.size,_,I.laid (t':=s.toks) (o:=.tup (xs++ys)) (λb ob q=>y02 _ q) (y0a _) ?_,rfl,q2 (λw=>z (r2.nil_iff.mpr w)) _ (I.hok.fresh (y0a _))⟩;exact⟨by rw[y04];exact hz,_,0,r1.append r2,y05 _ rfl⟩
end
def ixN(n:Nat)(i:Int):Option Nat:=if 0<=i then(if i<n then some i.toNat else none)else if -(n:Int)<=i then some (i+n).toNat else none
def atI{α:Type}(xs:List α)(i:Int):Option α:=(ixN xs.length i).bind λj=>xs[j]?
def zdo{n:Nat}{i:Int}{j:Nat}(h:ixN n i=some j):seqIndex? i n=some j/\j<n/\-(n:Int)<=i/\i<n:=by
 unfold ixN at h;by_cases h0:0<=i
 .rw[if_pos h0]at h;by_cases h1:i<n
  .rw[if_pos h1]at h;have e:i.toNat=j:=y0d h;exact⟨by rw[seqIndex_of h0 h1,e],by lia,by lia,h1⟩
  .rw[if_neg h1]at h;cases h
 .rw[if_neg h0]at h;by_cases h1:-(n:Int)<=i
  .rw[if_pos h1]at h;have e:(i+n).toNat=j:=y0d h;exact⟨by rw[seqIndex_neg (by lia) h1,e],by lia,h1,by lia⟩
  .rw[if_neg h1]at h;cases h
def z6v{α:Type}{xs:List α}{i:Int}{v:α}(h:atI xs i=some v):∃j,seqIndex? i xs.length=some j/\xs[j]?=some v/\j<xs.length/\-(xs.length:Int)<=i/\i<xs.length:=by
 unfold atI at h;cases e:ixN xs.length i with
 |none=>rw[e]at h;cases h
 |some j =>
  rw[e]at h;obtain⟨h1,h2,h3,h4⟩:=zdo e;exact⟨j,h1,h,h2,h3,h4⟩
def z8O(b:Expr):Prop:=∀o i,subscripted b false o i=operate [o,i] (getItem o i)
def IxR(X:Cx)(r:R2):Prop :=
 ∀(value slice:Expr)(pins:yyP)(s:Shared)(σ:St)(H:Hp)(x y:V)(v u:Value)(Q:VK),Inv X pins σ H s->z0A x v->z0A y u->r x y H Q ->
  subscripted slice false v u=operate [v,u] (getItem v u)->wpAny (model X.prog X.w) X.A (subscriptTail value slice v u) (EP X pins σ Q) X.xe s
def MtR(X:Cx)(id:String)(r:V->List V->Hp->VK->Prop):Prop :=
 ∀(pins:yyP)(s:Shared)(σ:St)(H:Hp)(x:V)(xs:List V)(v:Value)(us:List Value)(Q:VK),Inv X pins σ H s->z0A x v->z0B xs us->r x xs H Q ->
  wpAny (model X.prog X.w) X.A (call (.builtin id) (v::us)) (EP X pins σ Q) X.xe s
section
variable{X:Cx}{a b:Expr}{ta tb:TE}{pos:Pos}
def zio{r:R2}(hr:IxR X r)(ha:PE X a ta)(hb:PE X b tb)(hs:z8O b):PE X (.Subscript a b pos) (tOp r ta tb):=by intro pins s σ H Q I h;exact Subscript_ (ziC ha hb I h λv u s2 x y H2 I2 rx ry q=>hr a b pins s2 σ H2 x y v u Q I2 rx ry q (hs _ _))
def zkh(K:yyF):R2:=λx y H Q=>∃p xs i v,x=.ref p/\y=.int i/\SqL K H p xs/\atI xs i=some v/\Q v H
def zkg(K:yyF):R2:=λx y H Q=>∃p xs i v,x=.ref p/\y=.int i/\SqT K H p xs/\atI xs i=some v/\Q v H
def zkx:R2:=λx y H Q=>∃z i c,x=.str z/\y=.int i/\z.length<=sizeLine/\atI z.cps.toList i=some c/\Q (.str ⟨#[c]⟩) H
def zel:IxR X (zkh X.K):=by
 intro value slice pins s σ H x y v u Q I rx ry h hs;obtain⟨p,xs,i,z,rfl,rfl,hq,he,q⟩:=h;cases rx;obtain⟨t,rfl⟩:=ry;obtain⟨its,r,pl,hz⟩:=I.list hq;obtain⟨j,h1,h2,h3,h4,h5⟩:=z6v he;obtain⟨w,ew,rw'⟩:=r.get h2;have hl:=r.length;have hn:=z30;have fin:EP X pins σ Q w s:=⟨z,H,I,rw',q⟩;by_cases h0:0<=i
 .have hj:i.toNat=j:=by
   rw[seqIndex_of h0 h5]at h1;exact y0d h1
  exact item_listR pl.isList h0 (by lia) (by rw[hj];simpa using ew) fin hs
 .have hj:(i+(its.toArray.size:Int)).toNat=j:=by
   rw[seqIndex_neg (by lia) h4]at h1;rw[y06,<-hl];exact y0d h1
  exact subscriptTail_builtinR (x:=w) pl.isList.typeIs slot_list_getitem.lookup
   (wpAny_getItem_list_neg (Q:=λr s'=>r=w/\EP X pins σ Q r s') pl.isList (by lia) (by rw[y06]<;>lia) (by lia) (by rw[hj];simpa using ew) ⟨rfl,fin⟩) hs
def zgK:IxR X (zkg X.K):=by
 intro value slice pins s σ H x y v u Q I rx ry h hs;obtain⟨p,xs,i,z,rfl,rfl,hq,he,q⟩:=h;cases rx;obtain⟨t,rfl⟩:=ry;obtain⟨its,r,pl,hz⟩:=I.tuple hq;obtain⟨j,h1,h2,h3,h4,h5⟩:=z6v he;obtain⟨w,ew,rw'⟩:=r.get h2;have hl:=r.length;have hn:=z30;have fin:EP X pins σ Q w s:=⟨z,H,I,rw',q⟩;exact subscriptTail_builtinR (x:=w) pl.typeIs slot_tuple_getitem.lookup
  (getItem_tuple (j:=j) (Q:=λr s'=>r=w/\EP X pins σ Q r s') pl (by lia) (by lia) (by rw[y06,<-hl];exact h1) (by simpa using ew) ⟨rfl,fin⟩) hs
def zf7:IxR X zkx:=by
 intro value slice pins s σ H x y v u Q I rx ry h hs;obtain⟨z,i,c,rfl,rfl,hz,he,q⟩:=h;obtain⟨t,rfl⟩:=rx;obtain⟨t',rfl⟩:=ry;obtain⟨j,h1,h2,h3,h4,h5⟩:=z6v he;have hl:z.cps.toList.length=z.length:=by simp[Str.length]
 rw[hl]at h1 h4 h5;have hn:=z30;exact tail_any (typeIs_str s z t) slot_str_getitem.lookup (getItem_str (c:=c) (by have e1:decide (i < -(2^63:Int))=false:=y0u (by lia);have e2:decide (i ≥ 2^63)=false:=y0u (by lia);rw[e1,e2,Bool.or_false]) (by rw[h1];simpa using h2) ⟨.str ⟨#[c]⟩,H,I.tok _,⟨_,rfl⟩,q⟩) hs
def z5W(lo hi:Option Int)(n:Nat):(sliceBounds lo hi none n).1=((HT.sIx n 0 lo:Nat):Int)/\(sliceBounds lo hi none n).2.1=((HT.sIx n n hi:Nat):Int)/\(sliceBounds lo hi none n).2.2=1:=by
 refine⟨?_,?_,rfl⟩
 .cases lo with
  |none=>simp[sliceBounds,HT.sIx]
  |some i =>
   simp only[sliceBounds,HT.sIx,Option.getD_none,show(1:Int)>0 by decide,if_true];by_cases h:i<0
   .simp only[h,if_true]<;>lia
   .simp only[h,y35]<;>lia
 .cases hi with
  |none=>simp[sliceBounds,HT.sIx]
  |some i =>
   simp only[sliceBounds,HT.sIx,Option.getD_none,show(1:Int)>0 by decide,if_true];by_cases h:i<0
   .simp only[h,if_true]<;>lia
   .simp only[h,y35]<;>lia
def z5m(its:List Value)(lo hi:Option Int):slicePick its.toArray lo hi none=((its.drop (HT.sIx its.length 0 lo)).take (HT.sIx its.length its.length hi-HT.sIx its.length 0 lo)).toArray:=by obtain⟨h1,h2,h3⟩:=z5W lo hi its.toArray.size;unfold slicePick;rw[h1,h2,h3];simp only[sliceRange_one,pick_run,y06]<;>rfl
def zkf(K:yyF):V->Option Int->Option Int->Hp->VK->Prop:=λx lo hi H Q=>∃a xs,x=.ref a/\SqL K H a xs/\∀p,H p=none->Q (.ref p) (upd H p (.lst (z9U xs lo hi)))
def zcO:SlR X (zkf X.K):=by intro pins s σ H x v vl vu lo hi sl Q I rx hs pl pu h;obtain⟨a,xs,rfl,hx,q⟩:=h;cases rx;obtain⟨its,r,ht,hz⟩:=I.list hx;have hlen:=r.length;refine⟨"list",_,slot_list_getitem.lookup,ht.isList.typeIs,?_⟩;refine wpAny_getItem_list_slice ht.isList hs pl pu .none (by simp) ?_ (by rw[y06]<;>lia);rw[z5m,<-hlen];refine⟨.ref s.heap.objs.size,_,I.laid (t':=s.toks) (o:=.lst (z9U xs lo hi)) (λb ob q=>y02 _ q) (y0a _) ?_,rfl,q _ (I.hok.fresh (y0a _))⟩;exact⟨y0k (z3P xs lo hi) hz,_,0,(r.drop (HT.sIx xs.length 0 lo)).take (HT.sIx xs.length xs.length hi-HT.sIx xs.length 0 lo),y05 _ rfl⟩
def z5n:V->Bool
 |.non=>true
 |.bl _=>true
 |.int _=>true
 |.str _=>true
 |_=>false
def eqV:V->V->Bool
 |.non,.non=>true
 |.bl a,.bl b=>a==b
 |.bl a,.int b=>(if a then 1 else 0)==b
 |.int a,.bl b=>a==(if b then 1 else 0)
 |.int a,.int b=>a==b
 |.str a,.str b=>a==b
 |_,_=>false
def zgH{A:Around}{s:Shared}{y x:V}{u v:Value}(ry:z0A y u)(rx:z0A x v)(fy:z5n y=true)(fx:z5n x=true):SeqAt.EqAt A s u v (eqV y x):=by
 cases y with
 |non =>
  cases ry;cases x with
  |non=>cases rx;exact SeqAt.EqAt.same _
  |bl b=>cases rx;exact SeqAt.EqAt.none_bool b
  |int b=>obtain⟨t,rfl⟩:=rx;exact SeqAt.EqAt.none_int b t
  |str b=>obtain⟨t,rfl⟩:=rx;exact SeqAt.EqAt.none_str b t
  |_=>exact absurd (show false=true from fx) y0c
 |bl a =>
  cases ry;cases x with
  |non=>cases rx;exact SeqAt.EqAt.bool_none a
  |bl b=>cases rx;exact SeqAt.EqAt.bool_bool a b
  |int b=>obtain⟨t,rfl⟩:=rx;exact SeqAt.EqAt.bool_int a b t
  |str b=>obtain⟨t,rfl⟩:=rx;exact SeqAt.EqAt.bool_str a b t
  |_=>exact absurd (show false=true from fx) y0c
 |int a =>
  obtain⟨t',rfl⟩:=ry;cases x with
  |non=>cases rx;exact SeqAt.EqAt.int_none a t'
  |bl b=>cases rx;exact SeqAt.EqAt.int_bool a t' b
  |int b=>obtain⟨t,rfl⟩:=rx;exact SeqAt.EqAt.int_int a t' b t
  |str b=>obtain⟨t,rfl⟩:=rx;exact SeqAt.EqAt.int_str a t' b t
  |_=>exact absurd (show false=true from fx) y0c
 |str a =>
  obtain⟨t',rfl⟩:=ry;cases x with
  |non=>cases rx;exact SeqAt.EqAt.str_none a t'
  |bl b=>cases rx;exact SeqAt.EqAt.str_bool a t' b
  |int b=>obtain⟨t,rfl⟩:=rx;exact SeqAt.EqAt.str_int a t' b t
  |str b=>obtain⟨t,rfl⟩:=rx;exact SeqAt.EqAt.str_str a t' b t
  |_=>exact absurd (show false=true from fx) y0c
 |_=>exact absurd (show false=true from fy) y0c
def eqU(x:V)(u:Value):Bool:=match u with
 |.none=>eqV .non x
 |.bool b=>eqV (.bl b) x
 |.int i _=>eqV (.int i) x
 |.str z _=>eqV (.str z) x
 |_=>false
def z2D{x y:V}{u:Value}(r:z0A y u)(f:z5n y=true):eqU x u=eqV y x:=by
 cases y with
 |non=>cases r;rfl
 |bl b=>cases r;rfl
 |int i=>obtain⟨t,rfl⟩:=r;rfl
 |str z=>obtain⟨t,rfl⟩:=r;rfl
 |_=>exact absurd (show false=true from f) y0c
theorem z3j{x:V}:∀{xs:List V}{us:List Value},z0B xs us->xs.all z5n=true->us.any (eqU x)=xs.any λy=>eqV y x
 |_,_,.nil,_=>rfl
 |y::xs,u::us,.cons r t,f=>by rw[y36,y0h]at f;rw[y28,y28,z2D r f.1,z3j t f.2]
theorem z2t{A:Around}{s:Shared}{x:V}{v:Value}(rx:z0A x v)(fx:z5n x=true):∀{xs:List V}{us:List Value},z0B xs us->xs.all z5n=true->∀u∈us,SeqAt.EqAt A s u v (eqU x u)
 |_,_,.nil,_=>λu hu=>by cases hu
 |y::xs,u::us,.cons r t,f=>λu' hu=>by
  rw[y36,y0h]at f;rcases y0l.mp hu with rfl|hu
  .rw[z2D r f.1];exact zgH r rx f.1 fx
  .exact z2t rx fx t f.2 u' hu
def inV(x:V)(xs:List V):Bool:=xs.any λy=>eqV y x
def rIn(K:yyF)(neg:Bool):R2:=λx y H Q=>∃p xs,y=.ref p/\(SqL K H p xs\/SqT K H p xs)/\z5n x=true/\xs.all z5n=true/\Q (.bl (if neg then !inV x xs else inV x xs)) H
def z9v:OpR X (compareOp .In) (rIn X.K false):=by
 intro pins s σ H x y v u Q I rx ry h;obtain⟨p,xs,rfl,hq,fx,fs,q⟩:=h;cases ry;rcases hq with hq|hq
 .obtain⟨its,r,pl,hz⟩:=I.list hq;refine SeqAt.in_listAt (eqU x) pl.isList (λw hw=>z2t rx fx r fs w (by simpa using hw)) ⟨.bl _,H,I,rfl,?_⟩;rw[show its.toArray.any (eqU x)=its.any (eqU x)by simp,z3j r fs];exact q
 .obtain⟨its,r,pl,hz⟩:=I.tuple hq;refine SeqAt.in_tupleAt (eqU x) pl (λw hw=>z2t rx fx r fs w (by simpa using hw)) ⟨.bl _,H,I,rfl,?_⟩;rw[show its.toArray.any (eqU x)=its.any (eqU x)by simp,z3j r fs];exact q
def z6b:OpR X (compareOp .NotIn) (rIn X.K true):=by
 intro pins s σ H x y v u Q I rx ry h;obtain⟨p,xs,rfl,hq,fx,fs,q⟩:=h;cases ry;rcases hq with hq|hq
 .obtain⟨its,r,pl,hz⟩:=I.list hq;refine SeqAt.notIn_listAt (eqU x) pl.isList (λw hw=>z2t rx fx r fs w (by simpa using hw)) ⟨.bl _,H,I,rfl,?_⟩;rw[show its.toArray.any (eqU x)=its.any (eqU x)by simp,z3j r fs];exact q
 .obtain⟨its,r,pl,hz⟩:=I.tuple hq;refine SeqAt.notIn_tupleAt (eqU x) pl (λw hw=>z2t rx fx r fs w (by simpa using hw)) ⟨.bl _,H,I,rfl,?_⟩;rw[show its.toArray.any (eqU x)=its.any (eqU x)by simp,z3j r fs];exact q
def z2W:z0Q X (.builtin "len") (λxs H Q=>∃p ys,xs=[.ref p]/\(SqL X.K H p ys\/SqT X.K H p ys)/\Q (.int ys.length) H):=by
 intro pins s σ H xs us Q I r h;obtain⟨p,ys,rfl,hq,q⟩:=h;obtain⟨u,rfl,rx⟩:=z1Z r;cases rx;have hn:=z30;rcases hq with hq|hq
 .obtain⟨its,r',pl,hz⟩:=I.list hq;have hlen:=r'.length;exact Calls.call_len_list pl.isList (by simp only[y06]<;>lia) ⟨.int ys.length,H,I.tok _,⟨s.toks+1,by rw[y06,hlen]⟩,q⟩
 .obtain⟨its,r',pl,hz⟩:=I.tuple hq;have hlen:=r'.length;exact len_tuple pl (by simp only[y06]<;>lia) ⟨.int ys.length,H,I.tok _,⟨s.toks+1,by rw[y06,hlen]⟩,q⟩
def z5S:z0Q X (.builtin "len") (λxs H Q=>∃z,xs=[.str z]/\z.length<=sizeLine/\Q (.int z.length) H):=by intro pins s σ H xs us Q I r h;obtain⟨z,rfl,hz,q⟩:=h;obtain⟨u,rfl,t,rfl⟩:=z1Z r;have hn:=z30;exact len_str (by lia) ⟨.int z.length,H,I.tok _,⟨_,rfl⟩,q⟩
def z34:z0Q X (.type "list") (λxs H Q=>∃p ys,xs=[.ref p]/\(SqL X.K H p ys\/SqT X.K H p ys)/\∀l,H l=none->Q (.ref l) (upd H l (.lst ys))):=by
 intro pins s σ H xs us Q I r h;obtain⟨p,ys,rfl,hq,q⟩:=h;obtain⟨u,rfl,rx⟩:=z1Z r;cases rx;have fin:∀(its:List Value),z0B ys its->ys.length<=sizeLine->∀(h':Heap)(c':Nat),(∀b o',s.heap.get? b=some o'->h'.get? b=some o') ->
   h'.get? s.heap.objs.size=some { cls:=.type "list",dict:=none,data:=.seq its.toArray c',slots:=#[] }->EP X pins σ Q (.ref s.heap.objs.size) { s with heap:=h' }:=λits r' hz h' c' kp e =>
  ⟨.ref s.heap.objs.size,_,I.laid (t':=s.toks) kp (y0a _) (show z0X X.prog X.w _ h' _ (.lst ys)from⟨hz,its,c',r',e⟩),rfl,q _ (I.hok.fresh (y0a _))⟩
 rcases hq with hq|hq
 .obtain⟨its,r',pl,hz⟩:=I.list hq;have hlen:=r'.length;obtain⟨o,ho,hc,n,hd⟩:=pl.isList;exact call_list_seq p (.inl rfl) ho hc hd (λh' c' kp e=>fin its r' hz h' c' kp e) (by simp only[y06]<;>lia)
 .obtain⟨its,r',pl,hz⟩:=I.tuple hq;have hlen:=r'.length;obtain⟨o,ho,hc,n,hd⟩:=pl;exact call_list_seq p (.inr rfl) ho hc hd (λh' c' kp e=>fin its r' hz h' c' kp e) (by simp only[y06]<;>lia)
def z2v:z0Q X (.type "tuple") (λxs H Q=>∃p ys,xs=[.ref p]/\((SqL X.K H p ys/\∀l,H l=none->Q (.ref l) (upd H l (.tup ys)))\/(SqT X.K H p ys/\Q (.ref p) H))):=by
 intro pins s σ H xs us Q I r h;obtain⟨p,ys,rfl,h⟩:=h;obtain⟨u,rfl,rx⟩:=z1Z r;cases rx;rcases h with⟨hq,q⟩|⟨hq,q⟩
 .obtain⟨its,r',pl,hz⟩:=I.list hq;have hlen:=r'.length;refine call_tuple_list pl.isList (λh' kp=>?_) (by simp only[y06]<;>lia);have I1:Inv X pins σ H { s with heap:=h' }:=I.kept (t':=s.toks) kp;have I2:Inv X pins σ (upd H h'.objs.size (.tup ys)) { s with heap:=h'.push { cls:=.type "tuple",data:=.seq its.toArray } } :=
   I1.laid (t':=s.toks) (λb o e=>y02 _ e) (y0a _) (show z0X X.prog X.w _ _ _ (.tup ys)from⟨hz,its,0,r',y05 _ rfl⟩)
  exact⟨.ref h'.objs.size,_,I2,rfl,q _ (I1.hok.fresh (y0a _))⟩
 .obtain⟨its,r',pl,hz⟩:=I.tuple hq;exact call_tuple_same pl ⟨.ref p,H,I,rfl,q⟩
def tyV(K:yyF)(T:String)(x:V)(H:Hp):Prop:=match x with
 |.str _=>T="str"
 |.int _=>T="int"
 |.ref p=>(T="list"/\∃xs,SqL K H p xs)\/(T="tuple"/\((∃o,K.lookup p=some o/\o.cls=.type "tuple"/\o.dict=none)\/∃xs,H p=some (.tup xs))) \/
   (T="dict"/\((∃kvs,H p=some (.dK kvs))\/∃kvs,H p=some (.dT kvs)))\/(T="set"/\∃S n,H p=some (.set S n))
 |_=>False
def zcd{pins:yyP}{σ:St}{H:Hp}{s:Shared}{T:String}{x:V}{v:Value}(I:Inv X pins σ H s)(r:z0A x v)(ty:tyV X.K T x H) : s.TypeIs v T/\∀a,v=.ref a->∃ob,s.heap.get? a=some ob/\ob.dict=none:=by
 cases x with
 |str z =>
  obtain⟨t,rfl⟩:=r;cases(show T="str" from ty);exact⟨typeIs_str s z t,λ_ e=>nomatch e⟩
 |int i =>
  obtain⟨t,rfl⟩:=r;cases(show T="int" from ty);exact⟨y2n s i t,λ_ e=>nomatch e⟩
 |ref p =>
  cases r;rcases ty with⟨rfl,xs,hq⟩|⟨rfl,⟨o,hk,hc,hd⟩|⟨xs,hq⟩⟩|⟨rfl,hk⟩|⟨rfl,S,n,hk⟩
  .obtain⟨its,_,pl,_⟩:=I.list hq;refine⟨pl.isList.typeIs,λa e=>?_⟩;cases e;obtain⟨o,n,e,c,hd,_⟩:=pl;exact⟨o,e,hd⟩
  .refine⟨⟨o,I.kIn p o hk,hc⟩,λa e=>?_⟩;cases e;exact⟨o,I.kIn _ o hk,hd⟩
  .obtain⟨_,its,n,_,h1⟩:=(show z0X X.prog X.w H s.heap p (.tup xs)from I.hok p _ hq);refine⟨⟨_,h1,rfl⟩,λa e=>?_⟩;cases e;exact⟨_,h1,rfl⟩
  .have z:∃o,s.heap.get? p=some o/\o.ExactDict:=by
    rcases hk with⟨kvs,hk⟩|⟨kvs,hk⟩
    .obtain⟨_,_,_,_,o,_,_,e,ex,_⟩:=I.hok p _ hk;exact⟨o,e,ex⟩
    .obtain⟨_,_,_,_,o,_,_,e,ex,_⟩:=I.hok p _ hk;exact⟨o,e,ex⟩
   obtain⟨o,e,ex⟩:=z;refine⟨⟨o,e,ex.1⟩,λa e2=>?_⟩;cases e2;exact⟨o,e,ex.2.1⟩
  .obtain⟨o,_,_,_,e,ex,_⟩:=I.hok p _ hk;refine⟨⟨o,e,ex.1⟩,λa e2=>?_⟩;cases e2;exact⟨o,e,ex.2.1⟩
 |_=>exact False.elim ty
def zjH(K:yyF)(T:String)(r:V->List V->Hp->VK->Prop)(to:TE):TE:=λσ H Q=>to σ H λx H1=>tyV K T x H1/\r x [] H1 Q
def tBM(K:yyF)(T:String)(r:V->List V->Hp->VK->Prop)(to:TE)(t:TA):TE:=λσ H Q=>to σ H λx H1=>tyV K T x H1/\t σ H1 λxs H2=>r x xs H2 Q
variable{o e:Expr}{es:List Expr}{to:TE}{t:TA}{name:Str}{apos cpos:Pos}{T id:String}{r:V->List V->Hp->VK->Prop}
def zfk(pa:PlainAttrs T)(slot:Slot T name id)(hty:typeOf (.builtin id)=pure (.type "method_descriptor"))(hm:MtR X id r)(ho:PE X o to)(hbase:attributeBase o name X.env (eval o X.env)=eval o X.env:=by rfl)(hline:(apos.endLine==cpos.line)=true:=by rfl):PE X (.Call (.Attribute o name apos) [] [] cpos) (zjH X.K T r to):=by intro pins s σ H Q I h;refine wpAny_Call_method0_late hbase hline (z2L (ho pins s σ H _ I h) λv s1 x H1 I1 r1 hz9=>?_);obtain⟨ty,q1⟩:=hz9;obtain⟨h1,h2⟩:=zcd I1 r1 ty;exact⟨T,id,pa,slot,hty,h1,h2,y2C rfl (PySem.evalArgs_none (hm pins s1 σ H1 x [] v [] Q I1 r1 .nil q1))⟩
def zhs(pa:PlainAttrs T)(slot:Slot T name id)(hty:typeOf (.builtin id)=pure (.type "method_descriptor"))(hm:MtR X id r)(ho:PE X o to)(ha:PA X (e::es) t)(hbase:attributeBase o name X.env (eval o X.env)=eval o X.env:=by rfl)(hfew:((backTo cpos (starEach (e::es) X.env)).all (λx=>!x.1)&&(backToKw cpos (keywordEach [] X.env)).all (λx=>x.1.isSome)&&decide ((e::es).length+([]:List Keyword).length+(if([]:List Keyword).isEmpty then 0 else 1)<30))=true:=by rfl)(hline:(apos.endLine==cpos.line)=true:=by rfl)(hs:starEach (e::es) X.env=(false,eval e X.env)::starEach es X.env:=by rfl)(hplain:(backTo cpos (starEach es X.env)).any (·.1)=false:=by rfl) : PE X (.Call (.Attribute o name apos) (e::es) [] cpos) (tBM X.K T r to t):=by intro pins s σ H Q I h;refine wpAny_Call_method_late hbase hfew hline rfl (z2L (ho pins s σ H _ I h) λv s1 x H1 I1 r1 hz9=>?_);obtain⟨ty,q1⟩:=hz9;obtain⟨h1,h2⟩:=zcd I1 r1 ty;refine⟨T,id,pa,slot,hty,h1,h2,?_⟩;have hA:=ha cpos pins s1 σ H1 _ I1 q1;rw[hs]at hA⊢;refine y2C (by show(false||(backTo cpos (starEach es X.env)).any (·.1))=false;rw[hplain]<;>rfl) (y32 ?_);exact thn hA λus s2 ⟨vs,H2,I2,r2,q2⟩=>hm pins s2 σ H2 x vs v us Q I2 r1 r2 q2
end
def MtM(X:Cx)(id:String)(r:V->List V->Hp->VK->Prop):Prop :=
 ∀(pins:yyP)(s:Shared)(σ:St)(H:Hp)(x:V)(xs:List V)(v:Value)(us:List Value)(Q:VK),Inv X pins σ H s->z0A x v->z0B xs us->r x xs H Q ->
  wpAny (model X.prog X.w) X.A (call (.builtin id) (v::us)) (EP X pins σ Q) X.xe s
def z0B.one:∀{x:V}{us:List Value},z0B [x] us->∃u,us=[u]/\z0A x u
 |_,_,.cons r .nil=>⟨_,rfl,r⟩
def z0B.zero:∀{us:List Value},z0B [] us->us=[]
 |_,.nil=>rfl
theorem z0B.dropLast{xs:List V}{us:List Value}(h:z0B xs us):z0B xs.dropLast us.dropLast:=by
 induction h with
 |nil=>exact .nil
 |cons r t ih =>
  cases t with
  |nil=>exact .nil
  |cons q t'=>exact .cons r ih
theorem z0B.eraseIdx:∀{xs:List V}{us:List Value}(i:Nat),z0B xs us->z0B (xs.eraseIdx i) (us.eraseIdx i)
 |_,_,_,.nil=>.nil
 |_,_,0,.cons _ t=>t
 |_,_,i+1,.cons r t=>.cons r (z0B.eraseIdx i t)
theorem z0B.rep{xs:List V}{us:List Value}(h:z0B xs us):∀k:Nat,z0B (List.replicate k xs).flatten (List.replicate k us).flatten
 |0=>.nil
 |k+1=>by rw[y0O,y0O,y14,y14];exact z0B.append h (z0B.rep h k)
def z8o{α:Type}(l:List α):l.eraseIdx (l.length-1)=l.dropLast:=by
 induction l with
 |nil=>rfl
 |cons a r ih =>
  cases r with
  |nil=>rfl
  |cons b r =>
   have e:(a::b::r).length-1=((b::r).length-1)+1:=by have h1:(a::b::r).length=r.length+2:=rfl;have h2:(b::r).length=r.length+1:=rfl;lia
   rw[e,List.eraseIdx_cons_succ,ih];all_goals rfl
theorem z5G{α:Type}:∀(l:List α)(i:Nat),(l.eraseIdx i).length<=l.length
 |[],_=>y0a _
 |_::_,0=>Nat.le_succ _
 |_::r,i+1=>y2e (z5G r i)
theorem z3V(its:List Value):∀(k:Nat)(acc:List Value),
  List.foldl (λx1 x2=>x1++x2) acc.toArray (List.replicate k its.toArray)=(acc++(List.replicate k its).flatten).toArray
 |0,acc=>by simp
 |k+1,acc=>by
  have e:acc.toArray++its.toArray=(acc++its).toArray:=by simp
  have e2:(acc++its)++(List.replicate k its).flatten=acc++(List.replicate (k+1) its).flatten:=by rw[y0O,y14,y19]
  rw[<-e2,<-z3V its k (acc++its),<-e,y0O,List.foldl_cons]
section
variable{X:Cx}{pins:yyP}{σ:St}{H:Hp}{s:Shared}{l b:Addr}{xs ys zs:List V}
def Inv.lset{its its':List Value}{n:Nat}{f:Array Value->Array Value}{t':Nat}(I:Inv X pins σ H s)(hH:H l=some (.lst xs))(e:s.heap.get? l=some { cls:=.type "list",data:=.seq its.toArray n })(hf:f its.toArray=its'.toArray)(hv:z0B ys its')(hz:ys.length<=sizeLine) : Inv X pins σ (upd H l (.lst ys)) { s with heap:=s.heap.update l (Obj.mapSeq f),toks:=t' }:=by have q:=PySem.IsL.update e f;rw[hf]at q;refine I.write (x:=l) (e:=l) (by rw[hH];exact trivial) (.inl rfl) (λb' u hb hu=>(Heap.get?_update_other s.heap (Obj.mapSeq f) (y10 hb)).trans hu) ⟨_,q⟩ ?_;exact⟨hz,its',_,hv,q⟩
def Inv.lnew{its:List Value}{t':Nat}(I:Inv X pins σ H s)(hv:z0B ys its)(hz:ys.length<=sizeLine) : Inv X pins σ (upd H s.heap.objs.size (.lst ys)) { s with heap:=s.heap.push { cls:=.type "list",data:=.seq its.toArray },toks:=t' } :=
 I.laid (λ_ _ q=>y02 _ q) (y0a _) ⟨hz,its,0,hv,y05 _ rfl⟩
theorem Inv.fresh(I:Inv X pins σ H s):H s.heap.objs.size=none:=I.hok.fresh (y0a _)
def Inv.lstM(I:Inv X pins σ H s)(hH:H l=some (.lst xs)):xs.length<=sizeLine/\∃(its:List Value) (n:Nat),z0B xs its/\xs.length=its.length/\s.heap.get? l=some { cls:=.type "list",data:=.seq its.toArray n }:=by obtain⟨z,its,n,r,e⟩:=I.hok l _ hH;exact⟨z,its,n,r,r.length,e⟩
def z4R{n:Nat}(h:n<=sizeLine):Builtin.List.listTooLong n=false:=by unfold Builtin.List.listTooLong;exact y0u (by lia)
end
section
variable{X:Cx}
def zev:V->List V->Hp->VK->Prop:=λx vs H Q=>∃l xs y,x=.ref l/\vs=[y]/\H l=some (.lst xs)/\xs.length<sizeLine/\Q .non (upd H l (.lst (xs++[y])))
def z5y:MtM X "list.append" zev:=by intro pins s σ H x vs v us Q I rx rv h;obtain⟨l,xs,y,rfl,rfl,hH,hz,q⟩:=h;cases rx;obtain⟨u,rfl,ru⟩:=rv.one;obtain⟨z,its,n,r,hl,e⟩:=I.lstM hH;refine y1z F.slot_list_append ⟨_,e,rfl⟩ F.entry_list_append (F.args_list_append_2 _ _) (PySem.list_append l its.toArray n u (by rw[y06];lia)) ⟨e,?_⟩;refine⟨.non,_,I.lset (its':=its++[u]) hH e (by simp) (r.append (.cons ru .nil)) ?_,rfl,q⟩;rw[y04,y1n];lia
def zd8:V->List V->Hp->VK->Prop:=λx vs H Q=>∃l b xs zs,x=.ref l/\vs=[.ref b]/\H l=some (.lst xs)/\H b=some (.lst zs)/\xs.length+zs.length<=sizeLine/\Q .non (upd H l (.lst (xs++zs)))
def z9f:MtM X "list.extend" zd8:=by
 intro pins s σ H x vs v us Q I rx rv h;obtain⟨l,b,xs,zs,rfl,rfl,hH,hB,hz,q⟩:=h;cases rx;obtain⟨u,rfl,ru⟩:=rv.one;cases ru;obtain⟨z,its,n,r,hl,e⟩:=I.lstM hH;obtain⟨z2,its2,n2,r2,hl2,e2⟩:=I.lstM hB;have hsz:its.toArray.size+its2.toArray.size<=sizeLine:=by rw[y06,y06];lia
 have hlong:¬(!its.toArray.isEmpty&&Builtin.List.listTooLong (its.toArray.size+its2.toArray.size))=true:=by rw[z4R hsz,Bool.and_false];exact y0c
 refine y1z F.slot_list_extend ⟨_,e,rfl⟩ F.entry_list_extend (F.args_list_extend_2 _ _)
  (AutoSeq1.list_extend_list_list_0 l its.toArray n b its2.toArray n2 hlong (by rw[y06];lia) (by lia)) ⟨e,e2,?_⟩
 refine⟨.non,_,I.lset (its':=its++its2) hH e (by simp) (r.append r2) ?_,rfl,q⟩;rw[y04];lia
def zk8:V->List V->Hp->VK->Prop:=λx vs H Q=>∃l xs y,x=.ref l/\vs=[]/\H l=some (.lst xs)/\xs[xs.length-1]?=some y/\Q y (upd H l (.lst xs.dropLast))
def zfq:MtM X "list.pop" zk8:=by
 intro pins s σ H x vs v us Q I rx rv h;obtain⟨l,xs,y,rfl,rfl,hH,hy,q⟩:=h;cases rx;have hus:=rv.zero;subst hus;obtain⟨z,its,n,r,hl,e⟩:=I.lstM hH;obtain⟨u,hu,ru⟩:=r.get hy;have hy':its.toArray[its.toArray.size-1]?=some u:=by show its.toArray[its.length-1]?=some u;rw[<-y2M,<-hl];exact hu
 refine y1z F.slot_list_pop ⟨_,e,rfl⟩ F.entry_list_pop (F.args_list_pop_1 _) (MeetsSeq.list_pop_last l its.toArray n u hy' (by rw[y06];lia)) ⟨e,?_⟩;refine⟨y,_,I.lset (its':=its.dropLast) hH e ?_ r.dropLast ?_,ru,q⟩
 .show its.toArray.eraseIdxIfInBounds (its.toArray.size-1)=its.dropLast.toArray;rw[y06,List.eraseIdxIfInBounds_toArray,z8o]
 .rw[List.length_dropLast];lia
def zgm:V->List V->Hp->VK->Prop:=λx vs H Q=>∃l xs i k y,x=.ref l/\vs=[.int i]/\H l=some (.lst xs)/\-(2^63)<=i/\i<2^63/\seqIndex? i xs.length=some k/\xs[k]?=some y/\Q y (upd H l (.lst (xs.eraseIdx k)))
def zbA:MtM X "list.pop" zgm:=by
 intro pins s σ H x vs v us Q I rx rv h;obtain⟨l,xs,i,k,y,rfl,rfl,hH,h1,h2,hk,hy,q⟩:=h;cases rx;obtain⟨u,rfl,ru⟩:=rv.one;obtain⟨t,rfl⟩:=ru;obtain⟨z,its,n,r,hl,e⟩:=I.lstM hH;obtain⟨w,hw,rw'⟩:=r.get hy;refine y1z F.slot_list_pop ⟨_,e,rfl⟩ F.entry_list_pop (F.args_list_pop_2 _ _)
  (MeetsSeq.list_pop_at l its.toArray n i t k w (fitsIndex_both h1 h2) (by rw[y06,<-hl];exact hk) (by rw[<-y2M];exact hw) (by rw[y06];lia)) ⟨e,?_⟩
 refine⟨y,_,I.lset (its':=its.eraseIdx k) hH e ?_ (r.eraseIdx k) ?_,rw',q⟩
 .show its.toArray.eraseIdxIfInBounds k=(its.eraseIdx k).toArray;rw[List.eraseIdxIfInBounds_toArray]
 .have:=z5G xs k;lia
def zfr:V->List V->Hp->VK->Prop:=λx vs H Q=>∃l xs,x=.ref l/\vs=[]/\H l=some (.lst xs)/\Q .non (upd H l (.lst []))
def zbC:MtM X "list.clear" zfr:=by intro pins s σ H x vs v us Q I rx rv h;obtain⟨l,xs,rfl,rfl,hH,q⟩:=h;cases rx;have hus:=rv.zero;subst hus;obtain⟨z,its,n,r,hl,e⟩:=I.lstM hH;refine y1z F.slot_list_clear ⟨_,e,rfl⟩ F.entry_list_clear (F.args_list_clear_1 _) (AutoSeq1.list_clear_list_0 l its.toArray n (by rw[y06];lia)) ⟨e,?_⟩;exact⟨.non,_,I.lset (its':=[]) (ys:=[]) hH e rfl .nil (y1M _),rfl,q⟩
def zjD:R2:=λx y H Q=>∃l b xs zs,x=.ref l/\y=.ref b/\H l=some (.lst xs)/\H b=some (.lst zs)/\xs.length+zs.length<=sizeLine/\∀p,H p=none->Q (.ref p) (upd H p (.lst (xs++zs)))
def zff:OpR X (binaryOp .Add) zjD:=by
 intro pins s σ H x y v u Q I rx ry h;obtain⟨l,b,xs,zs,rfl,rfl,hH,hB,hz,q⟩:=h;cases rx;cases ry;obtain⟨z,its,n,r,hl,e⟩:=I.lstM hH;obtain⟨z2,its2,n2,r2,hl2,e2⟩:=I.lstM hB;refine PySem.P.add_list e e2 ?_ (by rw[y06,y06];lia);have ea:its.toArray++its2.toArray=(its++its2).toArray:=by simp
 rw[ea];exact⟨.ref _,_,I.lnew (t':=s.toks) (r.append r2) (by rw[y04];lia),rfl,q _ I.fresh⟩
def zkr:R2:=λx y H Q=>∃l k xs,x=.ref l/\y=.int k/\H l=some (.lst xs)/\-(2^63)<=k/\k<2^63/\xs.length*k.toNat<=sizeLine /\
 ∀p,H p=none->Q (.ref p) (upd H p (.lst (List.replicate k.toNat xs).flatten))
def z4v{α:Type}(xs:List α)(k:Nat):(List.replicate k xs).flatten.length=k*xs.length:=by
 induction k with
 |zero=>simp
 |succ k ih=>rw[y0O,y14,y04,ih,Nat.succ_mul,Nat.add_comm]
def zgT:OpR X (binaryOp .Mult) zkr:=by
 intro pins s σ H x y v u Q I rx ry h;obtain⟨l,k,xs,rfl,rfl,hH,h1,h2,hz,q⟩:=h;cases rx;obtain⟨t,rfl⟩:=ry;obtain⟨z,its,n,r,hl,e⟩:=I.lstM hH;have hlen:its.toArray.size*k.toNat<=sizeLine:=by rw[y06,<-hl];exact hz
 have hcap:¬its.toArray.size*k.toNat>(2^63-1)/8:=by
  have:(sizeLine:Nat)<=(2^63-1)/8:=by decide
  lia
 have hfit:¬(!Builtin.List.listFitsIndex k)=true:=by rw[fitsIndex_both h1 h2];exact y0c
 have hlong:¬Builtin.List.listTooLong (its.toArray.size*k.toNat)=true:=by rw[z4R hlen];exact y0c
 have hnew:List.foldl (λx1 x2=>x1++x2) #[] (List.replicate (if its.toArray.isEmpty=true then 0 else k.toNat) its.toArray)=(List.replicate k.toNat its).flatten.toArray:=by
  have f0:∀m:Nat,List.foldl (λx1 x2=>x1++x2) #[] (List.replicate m its.toArray)=(List.replicate m its).flatten.toArray:=λm=>by have:=z3V its m [];rw[y24]at this;exact this
  rw[f0];cases its with
  |nil=>simp
  |cons a r'=>rw[if_neg (by simp)]
 refine y1N (T:="list") (U:="int") (by decide) ⟨_,e,rfl⟩ (λs'=>y2n s' k t) noFill_list_mul y39 y1C repeat_list y2U.lookup
  (y1z y1C (y2n s k t) y2V (y2G _ _) (int___rmul___int_list k t l its.toArray n)
   ⟨e,rfl,⟨_,e,rfl⟩,y1z F.slot_list_mul ⟨_,e,rfl⟩ F.entry_list_mul (F.args_list_mul_2 _ _) (AutoListH.list___mul___list_int_3 l its.toArray n k t hfit hcap hlong) ⟨e,?_⟩⟩)
 rw[hnew];exact⟨.ref _,_,I.lnew (t':=s.toks) (r.rep k.toNat) (by rw[z4v,y3j];exact hz),rfl,q _ I.fresh⟩
end
section
variable{prog:Program}{w:World}{A:Around}{E:yyE}{s:Shared}
end
section
variable{X:Cx}
end
section
variable{κ:Type}[DecidableEq κ]
def z6p(kvs:List (κ × V))(k:κ):Option V:=(kvs.find? λkv=>decide (kv.1=k)).map (·.2)
def z46(kvs:List (κ × V))(k:κ)(v:V):List (κ × V) :=
 if(kvs.any λkv=>decide (kv.1=k))=true then kvs.map (λkv=>if kv.1=k then(kv.1,v)else kv)else kvs++[(k,v)]
def z6B(kvs:List (κ × V))(k:κ):List (κ × V):=kvs.filter λkv=>decide (kv.1≠k)
def z3e{p:κ × V}{r:List (κ × V)}{k:κ}(e:p.1=k):z6p (p::r) k=some p.2:=by simp[z6p,y1D,e]
def z3d{p:κ × V}{r:List (κ × V)}{k:κ}(e:¬p.1=k):z6p (p::r) k=z6p r k:=by simp[z6p,y1D,e]
theorem z5b(k:κ):∀kvs:List (κ × V),(kvs.any λkv=>decide (kv.1=k))=(z6p kvs k).isSome
 |[]=>rfl
 |p::r=>by
  rw[y28];by_cases e:p.1=k
  .simp only[z3e e,y18 e,Bool.true_or,Option.isSome_some]
  .rw[z3d e,y0u e,Bool.false_or];exact z5b k r
def z1O(kvs:List (κ × V))(k:κ)(v:V):(z46 kvs k v).length<=kvs.length+1:=by
 unfold z46;split
 .rw[y00];lia
 .rw[y04,y0b,y1o];lia
def z5p.isSome_eq{o:Option V}{u:Option Value}(r:z5p o u):o.isSome=u.isSome:=by
 cases o with
 |none=>cases u with
  |none=>rfl
  |some _=>exact(show False from r).elim
 |some _=>cases u with
  |none=>exact(show False from r).elim
  |some _=>rfl
theorem z5p.getD{o:Option V}{u:Option Value}{d:V}{d':Value}(r:z5p o u)(rd:z0A d d'):z0A (o.getD d) (u.getD d'):=by
 cases o with
 |none=>cases u with
  |none=>exact rd
  |some _=>exact(show False from r).elim
 |some _=>cases u with
  |none=>exact(show False from r).elim
  |some _=>exact r
def KV.val{kvs:List (κ × V)}{vs:List (κ × Value)}(r:KV kvs vs)(k:κ):z5p (z6p kvs k) (valueAt vs k):=by
 unfold KV at r;induction r with
 |nil=>exact y0Y
 |@cons p q ps qs h t ih =>
  obtain⟨h1,h2⟩:=h;by_cases e:p.1=k
  .have e':q.1=k:=h1.symm.trans e;have b:valueAt (q::qs) k=some q.2:=by simp[valueAt,y1D,e']
   rw[z3e e,b];exact h2
  .have e':¬q.1=k:=λz=>e (h1.trans z);have b:valueAt (q::qs) k=valueAt qs k:=by simp[valueAt,y1D,e']
   rw[z3d e,b];exact ih
theorem KV.any{kvs:List (κ × V)}{vs:List (κ × Value)}(r:KV kvs vs)(k:κ):(kvs.any λkv=>decide (kv.1=k))=vs.any λkv=>decide (kv.1=k):=by
 unfold KV at r;induction r with
 |nil=>rfl
 |cons h t ih=>rw[y28,y28,ih,h.1]
def KV.repl{kvs:List (κ × V)}{vs:List (κ × Value)}(r:KV kvs vs)(k:κ){y:V}{u:Value}(ry:z0A y u) : KV (kvs.map λkv=>if kv.1=k then(kv.1,y)else kv) (vs.map λkv=>if kv.1=k then(kv.1,u)else kv):=by
 unfold KV at r⊢;induction r with
 |nil=>exact .nil
 |@cons p q ps qs h t ih =>
  rw[y0m,y0m];refine .cons ?_ ih;obtain⟨h1,h2⟩:=h;by_cases e:p.1=k
  .rw[if_pos e,if_pos (h1.symm.trans e)];exact⟨h1,ry⟩
  .rw[if_neg e,if_neg (λz=>e (h1.trans z))];exact⟨h1,h2⟩
def KV.put{kvs:List (κ × V)}{vs:List (κ × Value)}(r:KV kvs vs)(k:κ){y:V}{u:Value}(ry:z0A y u):KV (z46 kvs k y) (stored vs k u):=by
 unfold z46 stored;rw[r.any k];by_cases e:(vs.any λkv=>decide (kv.1=k))=true
 .rw[if_pos e,if_pos e];exact r.repl k ry
 .rw[if_neg e,if_neg e];exact Paired.snoc r ⟨rfl,ry⟩
def KV.drop{kvs:List (κ × V)}{vs:List (κ × Value)}(r:KV kvs vs)(k:κ):KV (z6B kvs k) (without vs k):=by
 unfold KV at r⊢;unfold z6B without;induction r with
 |nil=>exact .nil
 |@cons p q ps qs h t ih =>
  obtain⟨h1,h2⟩:=h;rw[y2W,y2W];by_cases e:p.1=k
  .have a:¬decide (p.1≠k)=true:=by simp[e]
   have b:¬decide (q.1≠k)=true:=by simp[h1.symm.trans e]
   rw[if_neg a,if_neg b];exact ih
  .have e':¬q.1=k:=λz=>e (h1.trans z);have a:decide (p.1≠k)=true:=by simp[e]
   have b:decide (q.1≠k)=true:=by simp[e']
   rw[if_pos a,if_pos b];exact .cons ⟨h1,h2⟩ ih
theorem KV.length{kvs:List (κ × V)}{vs:List (κ × Value)}(r:KV kvs vs):kvs.length=vs.length:=y1j r
def zba(kvs:List (κ × V))(k:κ):(z6B kvs k).length<=kvs.length:=y2N _ _
end
def z4D{P:Program}{w:World}{k:Key}{u:Value}(r:z0A (kV k) u):(z0O P w).is k u=true:=by
 cases k with
 |inl i=>obtain⟨t,e⟩:=(show ∃t,u=Value.int i t from r);subst e;exact z6r P w i t
 |inr x=>obtain⟨t,e⟩:=(show ∃t,u=Value.str x t from r);subst e;exact z6Z P w x t
theorem z64{P:Program}{w:World}:∀{ks:List Key}{us:List Value},z0B (ks.map kV) us->ItemsAre (z0O P w) ks us
 |[],_,r=>by rw[y25]at r;cases r;exact .nil
 |k::ks,_,r=>by
  rw[y0m]at r;cases r with
  |cons h t=>exact .cons (z4D h) (z64 t)
abbrev KT(H:Hp):List (List Key × V)->List (List Key × Addr × Value)->Prop:=Paired λp q=>p.1=q.1/\H q.2.1=some (.tup (p.1.map kV))/\z0A p.2 q.2.2
def KT.val{H:Hp}{kvs:List (List Key × V)}{xs:List (List Key × Addr × Value)}(r:KT H kvs xs)(k:List Key):z5p (z6p kvs k) ((atKey xs k).map (·.2)):=by
 induction r with
 |nil=>exact y0Y
 |@cons p q ps qs h t ih =>
  obtain⟨h1,_,h2⟩:=h;by_cases e:p.1=k
  .have e':q.1=k:=h1.symm.trans e;have b:atKey (q::qs) k=some q.2:=by simp[atKey,y1D,e']
   rw[z3e e,b];exact h2
  .have e':¬q.1=k:=λz=>e (h1.trans z);have b:atKey (q::qs) k=atKey qs k:=by simp[atKey,y1D,e']
   rw[z3d e,b];exact ih
def KT.repl{H:Hp}{kvs:List (List Key × V)}{xs:List (List Key × Addr × Value)}(r:KT H kvs xs)(k:List Key){y:V}{u:Value}(ry:z0A y u) : KT H (kvs.map λkv=>if kv.1=k then(kv.1,y)else kv) (xs.map (putAt k u)):=by
 induction r with
 |nil=>exact .nil
 |@cons p q ps qs h t ih =>
  rw[y0m,y0m];refine .cons ?_ ih;obtain⟨h1,h2,h3⟩:=h;unfold putAt;by_cases e:p.1=k
  .rw[if_pos e,if_pos (h1.symm.trans e)];exact⟨h1,h2,ry⟩
  .rw[if_neg e,if_neg (λz=>e (h1.trans z))];exact⟨h1,h2,h3⟩
def KT.put{H:Hp}{kvs:List (List Key × V)}{xs:List (List Key × Addr × Value)}(r:KT H kvs xs)(k:List Key){b:Addr}{y:V}{u:Value}(hb:H b=some (.tup (k.map kV)))(ry:z0A y u) : KT H (z46 kvs k y) (storedH xs k b u):=by
 have e:(kvs.any λkv=>decide (kv.1=k))=(atKey xs k).isSome:=by rw[z5b,(r.val k).isSome_eq,y2H]
 unfold z46 storedH;rw[e];by_cases q:(atKey xs k).isSome=true
 .rw[if_pos q,if_pos q];exact r.repl k ry
 .rw[if_neg q,if_neg q];exact Paired.snoc r ⟨rfl,hb,ry⟩
def KT.keeps{H H':Hp}{kvs:List (List Key × V)}{xs:List (List Key × Addr × Value)}(r:KT H kvs xs)(ht:∀b ys,H b=some (.tup ys)->H' b=some (.tup ys)):KT H' kvs xs :=
 Paired.mapP r λ_ _ z=>⟨z.1,ht _ _ z.2.1,z.2.2⟩
section
variable{P:Program}{w:World}{H:Hp}{h:Heap}{a:Addr}
def zf2{u:HO}(ok:HOk P w H h)(e:Rd H a u):z0X P w H h a u:=e.ok ok
def z6h{kvs:List (Key × V)}(ok:HOk P w H h)(e:Rd H a (.dK kvs)):kvs.length<=sizeLine/\(a==sysModules)=false/\∃vs,KV kvs vs/\h.DictOf (z0O P w) a vs :=
 show z0X P w H h a (.dK kvs)from zf2 ok e
def zak{kvs:List (Key × V)}(ok:HOk P w H h)(e:H a=some (.dK kvs)):kvs.length<=sizeLine/\(a==sysModules)=false/\∃vs,KV kvs vs/\h.DictOf (z0O P w) a vs:=z6h ok (.inl e)
def z4l{ks:List Key}(ok:HOk P w H h)(e:H a=some (.tup (ks.map kV))):(tupleKind (z0O P w)).is h ks a:=by obtain⟨_,its,n,r,h1⟩:=(show z0X P w H h a (.tup (ks.map kV))from ok a _ e);exact⟨_,its.toArray,n,h1,rfl,rfl,by simpa using z64 r⟩
def z8F{kvs:List (List Key × V)}(ok:HOk P w H h)(e:Rd H a (.dT kvs)):kvs.length<=sizeLine/\(a==sysModules)=false /\ ∃xs,KT H kvs xs/\h.DictOfH (tupleKind (z0O P w)) a xs:=by
 obtain⟨z,y,xs,r,o,es,ep,h1,h2,h3,h4,h5⟩:=(show z0X P w H h a (.dT kvs)from zf2 ok e);refine⟨z,y,xs,r,o,es,ep,h1,h2,h3,h4,λx hx=>?_,h5⟩;have all:∀{l:List (List Key × V)}{m:List (List Key × Addr × Value)},KT H l m->∀x∈m,(tupleKind (z0O P w)).is h x.1 x.2.1:=by
  intro l m q;induction q with
  |nil=>intro x hx;exact nomatch hx
  |@cons p q ps qs hq t ih =>
   intro x hx;rcases y0l.mp hx with e|hx
   .subst e;exact z4l ok (by rw[<-hq.1];exact hq.2.1)
   .exact ih x hx
 exact all r x hx
def zhi{kvs:List (List Key × V)}(ok:HOk P w H h)(e:H a=some (.dT kvs)):kvs.length<=sizeLine/\(a==sysModules)=false /\ ∃xs,KT H kvs xs/\h.DictOfH (tupleKind (z0O P w)) a xs:=z8F ok (.inl e)
end
def zaB(H:Hp)(a:Addr)(y:V)(r:Option V):Prop :=
 (∃kvs k,Rd H a (.dK kvs)/\y=kV k/\r=z6p kvs k)\/∃kvs k b,Rd H a (.dT kvs)/\y=.ref b/\H b=some (.tup (k.map kV))/\r=z6p kvs k
def zh9(H:Hp)(a:Addr)(y v:V)(H':Hp):Prop :=
 (∃kvs k,H a=some (.dK kvs)/\y=kV k/\kvs.length<sizeLine/\H'=upd H a (.dK (z46 kvs k v))) \/
 ∃kvs k b,H a=some (.dT kvs)/\y=.ref b/\H b=some (.tup (k.map kV))/\kvs.length<sizeLine/\H'=upd H a (.dT (z46 kvs k v))
theorem zaB.k{H:Hp}{a:Addr}{kvs:List (Key × V)}{k:Key}(e:H a=some (.dK kvs)):zaB H a (kV k) (z6p kvs k):=.inl ⟨kvs,k,.inl e,rfl,rfl⟩
theorem zh9.k{H:Hp}{a:Addr}{kvs:List (Key × V)}{k:Key}{v:V}(e:H a=some (.dK kvs))(hl:kvs.length<sizeLine):zh9 H a (kV k) v (upd H a (.dK (z46 kvs k v))):=.inl ⟨kvs,k,e,rfl,hl,rfl⟩
section
variable{X:Cx}{pins:yyP}{σ:St}{H:Hp}{s:Shared}{a:Addr}{y v:V}{u r:Value}{o:Option V}{A:Around}{E:yyE}
def Inv.big(I:Inv X pins σ H s):sysModules<s.heap.objs.size:=by have h:mainGlobals<s.heap.objs.size:=(I.mod.glob.keeps I.bk).lt;exact y3k (by decide) h
def za0{Q:yyE}(hu:A.units+1<cLine)(I:Inv X pins σ H s)(g:zaB H a y (some v))(ry:z0A y u)(h:∀w' s',Inv X pins σ H s'->z0A v w'->Q w' s') : wpAny (model X.prog X.w) A (getItem (.ref a) u) Q E s:=by
 rcases g with⟨kvs,k,e,ey,l⟩|⟨kvs,k,b,e,ey,eb,l⟩
 .subst ey;obtain⟨z,hd,vs,rel,dd⟩:=z6h I.hok e;obtain⟨w',hw,rw'⟩:=z5p.some_of (v:=v) (o:=valueAt vs k) (by rw[l];exact rel.val k);exact wpAny_getItem_of (z4D ry) dd.mapOf hw (h w' _ (I.tok _) rw')
 .subst ey;cases(show u=Value.ref b from ry);obtain⟨z,hd,xs,rel,dd⟩:=z8F I.hok e;obtain⟨w',hw,rw'⟩:=z5p.some_of (v:=v) (o:=(atKey xs k).map (·.2)) (by rw[l];exact rel.val k);obtain⟨p,hp,hp2⟩:=Option.map_eq_some_iff.mp hw;refine wpAny_getItem_heap (y21 hu) (z4l I.hok eb) dd hp ?_;rw[hp2];exact h w' _ (I.tok _) rw'
def zki{Q:yyE}(hu:A.units+1<cLine)(I:Inv X pins σ H s)(g:zaB H a y o)(ry:z0A y u)(h:∀s',Inv X pins σ H s'->Q (.bool o.isSome) s') : wpAny (model X.prog X.w) A (compareOp .In u (.ref a)) Q E s:=by
 rcases g with⟨kvs,k,e,ey,l⟩|⟨kvs,k,b,e,ey,eb,l⟩
 .subst ey;obtain⟨z,hd,vs,rel,dd⟩:=z6h I.hok e;refine wpAny_in_of (z4D ry) hd dd.mapOf ?_;rw[<-(rel.val k).isSome_eq,<-l];exact h _ (I.tok _)
 .subst ey;cases(show u=Value.ref b from ry);obtain⟨z,hd,xs,rel,dd⟩:=z8F I.hok e;refine wpAny_in_heap (y21 hu) (z4l I.hok eb) hd dd ?_;have q:=(rel.val k).isSome_eq;rw[y2H]at q;rw[<-q,<-l];exact h _ (I.tok _)
def zdN{Q:yyE}(hu:A.units+1<cLine)(I:Inv X pins σ H s)(g:zaB H a y o)(ry:z0A y u)(h:∀s',Inv X pins σ H s'->Q (.bool (!o.isSome)) s') : wpAny (model X.prog X.w) A (compareOp .NotIn u (.ref a)) Q E s:=by
 rcases g with⟨kvs,k,e,ey,l⟩|⟨kvs,k,b,e,ey,eb,l⟩
 .subst ey;obtain⟨z,hd,vs,rel,dd⟩:=z6h I.hok e;refine wpAny_notIn_of (z4D ry) hd dd.mapOf ?_;rw[<-(rel.val k).isSome_eq,<-l];exact h _ (I.tok _)
 .subst ey;cases(show u=Value.ref b from ry);obtain⟨z,hd,xs,rel,dd⟩:=z8F I.hok e;refine wpAny_notIn_heap (y21 hu) (z4l I.hok eb) hd dd ?_;have q:=(rel.val k).isSome_eq;rw[y2H]at q;rw[<-q,<-l];exact h _ (I.tok _)
def z1d{h':Heap}{t':Nat}{ob:HO}(I:Inv X pins σ H s)(mu:Mut (H a))(hs:Heap.SameBut a s.heap h')(he:∃q,h'.get? a=some q)(new:z0X X.prog X.w (upd H a ob) h' a ob) : Inv X pins σ (upd H a ob) { s with heap:=h',toks:=t' } :=
 I.write (x:=a) (e:=a) mu (.inl rfl) (λb q hb z=>(hs.2 b hb).trans z) he new
def z7H{P:Program}{w:World}{H':Hp}{h':Heap}{kvs:List (Key × V)}{vs:List (Key × Value)}(z:kvs.length<=sizeLine)(hd:(a==sysModules)=false)(rel:KV kvs vs)(dd:h'.DictOf (z0O P w) a vs) : z0X P w H' h' a (.dK kvs):=⟨z,hd,vs,rel,dd⟩
def zal{H':Hp}{Q:Unit->Shared->Prop}(hu:A.units+1<cLine)(I:Inv X pins σ H s)(g:zh9 H a y v H')(ry:z0A y u)(rv:z0A v r)(h:∀s',Inv X pins σ H' s'->Q () s') : wpAny (model X.prog X.w) A (setItem (.ref a) u r) Q E s:=by
 rcases g with⟨kvs,k,e,ey,l,eH⟩|⟨kvs,k,b,e,ey,eb,l,eH⟩
 .subst ey eH;obtain⟨z,hd,vs,rel,dd⟩:=zak I.hok e;have hz:vs.length<=sizeLine:=by rw[<-rel.length];exact z
  have hl:(z46 kvs k v).length<=sizeLine:=by have:=z1O kvs k v;lia
  refine wpAny_setItem_pairs (hsz:=hz) (z4D ry) dd λh' dd' hs=>h _ ?_;have he:∃q,h'.get? a=some q:=let⟨q,_,_,hq,_⟩:=dd';⟨q,hq⟩;exact z1d I (by rw[e];exact y0Y) hs he (z7H hl hd (rel.put k rv) dd')
 .subst ey eH;cases(show u=Value.ref b from ry);obtain⟨z,hd,xs,rel,dd⟩:=zhi I.hok e;have hz:xs.length<=sizeLine:=by rw[<-y1j rel];exact z
  have hl:(z46 kvs k v).length<=sizeLine:=by have:=z1O kvs k v;lia
  refine wpAny_setItem_heap (hsz:=hz) (y21 hu) (z4l I.hok eb) dd λh' dd' hs=>h _ ?_;obtain⟨q,es,ep,hq,h2,h3,h4,_,h5⟩:=dd';refine z1d I (by rw[e];exact y0Y) hs ⟨q,hq⟩ ⟨hl,hd,_,(rel.put k eb rv).keeps λc ys ec=>?_,q,es,ep,hq,h2,h3,h4,h5⟩;rw[z0f (zho ec e (λz=>nomatch z))];exact ec
end
section
variable{X:Cx}{pins:yyP}{σ:St}{H:Hp}{s:Shared}{a:Addr}{kvs:List (Key × V)}{k:Key}{u:Value}{A:Around}{E:yyE}
def za6{Q:Unit->Shared->Prop}(I:Inv X pins σ H s)(e:H a=some (.dK kvs))(ry:z0A (kV k) u)(l:(z6p kvs k).isSome=true)(h:∀s',Inv X pins σ (upd H a (.dK (z6B kvs k))) s'->Q () s') : wpAny (model X.prog X.w) A (delItem (.ref a) u) Q E s:=by
 obtain⟨z,hd,vs,rel,dd⟩:=zak I.hok e;refine wpAny_delItem_slot dd.typeIs (by decide) y1O
  (call_meetsIn y1O dd.typeIs PySem.F.entry_dict_delitem (PySem.F.args_dict_delitem_2 _ _) (meets_dict_delitem_pairs (z0O X.prog X.w) a (z4D ry)) ⟨vs,dd,by rw[<-rel.length];exact z,by rw[<-(rel.val k).isSome_eq];exact l,λh' dd' hs=>h _ ?_⟩)
 have he:∃q,h'.get? a=some q:=let⟨q,_,_,hq,_⟩:=dd';⟨q,hq⟩;exact z1d I (by rw[e];exact y0Y) hs he (z7H (y0k (zba kvs k) z) hd (rel.drop k) dd')
def ziE{Q:yyE}(I:Inv X pins σ H s)(e:Rd H a (.dK kvs))(h:∀t s',Inv X pins σ H s'->Q (.int kvs.length t) s'):wpAny (model X.prog X.w) A (call (.builtin "len") [.ref a]) Q E s:=by obtain⟨z,hd,vs,rel,dd⟩:=z6h I.hok e;refine call_len_dict hd dd (by rw[<-rel.length];rw[y2h]at z;lia) ?_;rw[<-rel.length];exact h _ _ (I.tok _)
end
def zia(i:Expr):Prop:=∀ov iv,subscripted i false ov iv=operate [ov,iv] (getItem ov iv)
def zdM{prog:Program}{w:World}{A:Around}{E:yyE}{s:Shared}{env:Env}{value slice:Expr}{pos:Pos}{T id:String}{Q:yyE}(hl:typeLookup (.type T) "__getitem__"=pure (some (.builtin id)))(hs:zia slice)(h:wpAny (model prog w) A (eval value env) (λo s₁=>wpAny (model prog w) A (eval slice env) (λi s₂=>s₂.TypeIs o T/\wpAny (model prog w) A (getItem o i) Q E s₂) E s₁) E s) : wpAny (model prog w) A (eval (.Subscript value slice pos) env) Q E s:=by
 refine Subscript_ (y0I h (λo s₁ h₁=>y0I h₁ (λi s₂ h₂=>?_) λ_ _ x=>x) λ_ _ x=>x);obtain⟨hT,h₂⟩:=h₂;unfold subscriptTail;refine y01 ?_;rw[getitemInPython_of_ne hT.not_modules];refine y01 (y2t hT hl ?_);have fin:wpAny (model prog w) A (subscripted slice false o i) (λr s₃=>wpAny (model prog w) A (letTemporaryGo value o r>>=λ_=>pure r) Q E s₃) E s₂:=by rw[hs o i];exact wpAny_operating (y0I h₂ (λr s₃ h₃=>y01 (wpAny_letTemporaryGo (y03 h₃))) λ_ _ x=>x)
 first
  |exact y03 (y01 fin)
  |exact y01 (y03 (y01 fin))
  |exact y01 fin
section
variable{X:Cx}{o i e value:Expr}{pos pos' tpos:Pos}{td ty tv:TE}
end
def z5j{P:Program}{w:World}{H:Hp}(h:Heap)(hb:sysModules<h.objs.size):z0X P w H (h.push { cls:=.type "dict",data:=.dict #[] }) h.objs.size (.dK []) :=
 ⟨y1M _,y1A.mpr (y10 (y0p hb)),[],.nil,Heap.DictOf.new h⟩
section
variable{X:Cx}{pos:Pos}
end
structure M1(X:Cx)(o:Expr)(m:Str)(apos:Pos)(e:Expr)(cpos:Pos):Prop where
 base:attributeBase o m X.env (eval o X.env)=eval o X.env
 few:((backTo cpos (starEach [e] X.env)).all (λx=>!x.1)&&(backToKw cpos (keywordEach [] X.env)).all (λx=>x.1.isSome)
  && decide (([e]:List Expr).length+([]:List Keyword).length+(if([]:List Keyword).isEmpty then 0 else 1)<30))=true
 line:(apos.endLine==cpos.line)=true
 trees:backTo cpos (starEach [e] X.env)=[(false,eval e X.env)]
def IsD(H:Hp)(a:Addr):Prop:=(∃kvs,Rd H a (.dK kvs))\/∃kvs,Rd H a (.dT kvs)
def zeU{X:Cx}{pins:yyP}{σ:St}{H:Hp}{s:Shared}{a:Addr}(I:Inv X pins σ H s)(d:IsD H a) : s.TypeIs (.ref a) "dict"/\(∀b,Value.ref a=.ref b->∃ob,s.heap.get? b=some ob/\ob.dict=none)/\(a==sysModules)=false:=by
 rcases d with⟨kvs,e⟩|⟨kvs,e⟩
 .obtain⟨_,hd,vs,_,dd⟩:=z6h I.hok e;refine⟨dd.typeIs,λb q=>?_,hd⟩;cases q;obtain⟨ob,_,_,h1,h2,_⟩:=dd;exact⟨ob,h1,h2.2.1⟩
 .obtain⟨_,hd,xs,_,dd⟩:=z8F I.hok e;refine⟨dd.typeIs,λb q=>?_,hd⟩;cases q;obtain⟨ob,_,_,h1,h2,_⟩:=dd;exact⟨ob,h1,h2.2.1⟩
section
variable{X:Cx}{pins:yyP}{σ:St}{H:Hp}{s:Shared}{a:Addr}{y d:V}{u r:Value}{o:Option V}{A:Around}{E:yyE}
def zfM{Q:yyE}(hu:A.units+1<cLine)(I:Inv X pins σ H s)(g:zaB H a y o)(ry:z0A y u)(h:∀w' s',Inv X pins σ H s'->z0A (o.getD .non) w'->Q w' s') : wpAny (model X.prog X.w) A (call (.builtin "dict.get") [.ref a,u]) Q E s:=by
 rcases g with⟨kvs,k,e,ey,l⟩|⟨kvs,k,b,e,ey,eb,l⟩
 .subst ey;obtain⟨z,hd,vs,rel,dd⟩:=z6h I.hok e;refine call_meetsIn y26 dd.typeIs y2D (y2u _ _) (meets_dict_get (z0O X.prog X.w) a (z4D ry) hd) ⟨_,dd.mapOf,h _ _ (I.tok _) ?_⟩;rw[l];exact(rel.val k).getD rfl
 .subst ey;cases(show u=Value.ref b from ry);obtain⟨z,hd,xs,rel,dd⟩:=z8F I.hok e;refine call_meetsIn y26 dd.typeIs y2D (y2u _ _) (meetsH_dict_get (tupleKind (z0O X.prog X.w)) a b hd) ⟨y21 hu,k,xs,z4l I.hok eb,dd,h _ _ (I.tok _) ?_⟩;rw[l];exact(rel.val k).getD rfl
end
section
variable{X:Cx}{o e f:Expr}{apos cpos:Pos}{td ty tx:TE}
end
section
variable{X:Cx}{pins:yyP}{σ:St}{H:Hp}{s:Shared}{a:Addr}{kvs:List (Key × V)}{A:Around}{E:yyE}
end
section
variable{X:Cx}{pins:yyP}{σ:St}{H:Hp}{s:Shared}{a:Addr}{y:V}{u:Value}{A:Around}{E:yyE}
end
end L2
namespace Att
open PySem PySem.W PySem.Calls PyProof.Rows
def z3t{P:Params}{h:Heap}:∀(ns:List Int)(vs:List Value),WellAll P h vs (ns.map WData.int)->IntsAre vs ns:=by
 intro ns;induction ns with
 |nil =>
  intro vs w;rw[y25]at w;cases w;exact .nil
 |cons n ns ih =>
  intro vs w;rw[y0m]at w;cases w with
  |cons a b =>
   cases a;exact .cons _ _ (ih _ b)
def z91{l:OpenLaw}{n:Nat}(hn:l.most=some n){P:Params}{h:Heap}{args:List WData}{vals:List Value}(hpre:l.row.toRowW.claim.pre args=true)(hwl:WellAll P h vals args) : ∃a vs ns,vals=[Value.ref a]/\args=[WData.list (ns.map WData.int)]/\h.get? a=some { cls:=.type "list",data:=.seq vs.toArray }/\IntsAre vs ns/\ns.length<=n:=by
 have hsh:WShape.hasAll [] args [.list .int]=true:=(pre_splitW hpre).1;have hc:l.pre.holds [] { args:=args }=true:=(pre_splitW hpre).2;obtain⟨d,r,rfl,h1,h2⟩:=hasAllW_cons hsh;obtain rfl:=hasAllW_nil h2;obtain⟨xs,rfl,h3⟩:=hasW_list h1;obtain⟨ns,rfl⟩:=items_int h3;have hlen:ns.length<=n:=by
  unfold OpenLaw.pre at hc;have h4:(WTm.not (.lt (.lit (.int (n:Int))) (.len (.arg 0)))).holds [] { args:=[.list (ns.map .int)] }=true:=by have h4:=(holds_andW hc).1;rw[hn]at h4;exact h4
  have h5:=condW_of h4 (w_not (w_lt w_lit (w_len_list (w_arg rfl))));rw[y00]at h5;refine Nat.le_of_not_lt λq=>?_;have q':(n:Int)<((ns.length:Nat):Int):=by lia
  first
   | (rw[y18 q']at h5;exact absurd h5 (by decide))
   | (simp at h5;lia)
 cases hwl with
 |cons w1 w2 =>
  cases w2;cases w1 with
  |list ho hall=>exact⟨_,_,ns,rfl,rfl,ho,z3t ns _ hall,hlen⟩
def z92(l:OpenLaw)(args:List WData):l.row.toRowW.claim.post args (.bool true) args=true :=
 postW_of (r:=l.row.toRowW) (X:=(true==true))
  (show WShape.has [] (.bool true) .bool=true by first|rfl|decide|simp[WShape.has,WShape.arms,WShape.armsAll])
  (show(WTm.eq .res (.lit (.bool true))).value [] { args:=args,res:=some (.bool true),after:=args }=some (.bool (true==true))from w_eq_bool (w_res rfl) w_lit) rfl
def attach_call{l:OpenLaw}{n:Nat}{q:Program}{loose:List Str}{XP:(yyS)->Heap->Prop}{YP:World->Heap->Prop}{d:DefRec}(hn:l.most=some n)(hdf:d.params.defaults=[])(call:∀(w:World) (s₀ s₁:Shared) (mg mb:yyS) (fa:Addr) (o:Obj) (pm cd doc:Value) (a:Addr) (vs:List Value) (ns:List Int), Ground q loose [] XP w s₀ mg mb s₁.heap->YP w s₁.heap -> s₁.heap.get? fa=some o->o.data=.func (docDef d.name d.params d.body d.scope pm cd doc)->s₁.heap.CodeRec cd d.name->mg d.name=some (.ref fa) -> s₁.heap.get? a=some { cls:=.type "list",data:=.seq vs.toArray }->IntsAre vs ns->ns.length<=n->s₁.gens=#[] -> codeAny (model l.prog w) callerA (.call (.ref fa) ⟨[.ref a],[]⟩) (λr s'=>r=.ok (.ret (.bool true))/\OldK s₁.heap s'.heap/\s'.os=s₁.os/\AllBare s'.gens) s₁) : WalkO q loose XP YP l.row.toRowW d [] (λf vs=>PySem.call f vs):=by intro w s₀ s₁ mg mb G Y fa o pm cd doc dV kV ho hd hcd hD hmg hg args vals as hpre hlay hrd hwl hlo;obtain rfl:dV=.none:=Dflts.none hD hdf;obtain rfl:kV=.none:=Dflts.noKw hD;obtain⟨a,vs,ns,rfl,rfl,hobj,hints,hlen⟩:=z91 hn hpre hwl;refine enter_call (y23 (call w s₀ s₁ mg mb fa o pm cd doc a vs ns G Y ho (fd_plain hd) hcd hmg hobj hints hlen hg) λr s' hq=>?_);obtain⟨rfl,h2,h3,h4⟩:=hq;exact⟨.inl ⟨.bool true,.bool true,[],rfl,λ_=>rfl,.bool true,z92 l _,λ_=>⟨List.Pairwise.nil,λ_ hm=>(nomatch hm)⟩⟩,h2,h3,h4⟩
section
variable{prog:Program}{w:World}{A:Around}{E:yyE}{s:Shared}{K:Frag}
end
end Att
namespace L2
open PySem PySem.Spec PyProof.Rows
theorem z5V:∀{vs:List Value}{ns:List Int},IntsAre vs ns->z0B (ns.map V.int) vs
 |_,_,.nil=>.nil
 |_,_,.cons n t h=>.cons ⟨t,rfl⟩ (z5V h)
def z0P(s:Stmt)(j:Nat):Stmt:=match s with
 |.ClassDef _ _ _ body _ _ _ _ _ _ _=>body.getD j (.Pass ⟨0,0,0,0⟩)
 |_=>.Pass ⟨0,0,0,0⟩
def z13(s:Stmt):Arguments:=match s with
 |.FunctionDef _ a _ _ _ _ _ _ _ _=>a
 |_=>{ posonlyargs:=[],args:=[],vararg:=none,kwonlyargs:=[],kw_defaults:=[],kwarg:=none,defaults:=[] }
def z0v(s:Stmt):List Stmt:=match s with
 |.FunctionDef _ _ b _ _ _ _ _ _ _=>b
 |_=>[]
def z0a(s:Stmt):Scope:=match s with
 |.FunctionDef _ _ _ _ _ _ sc _ _ _=>sc
 |_=>{ kind:=.function,names:=[],isGenerator:=false,isCoroutine:=false }
abbrev E0:XK:=λ_ _ _=>False
structure Fun(K:yyF)(x qual:Str)(st:Stmt)(f:Addr)(fd:FuncData):Prop where
 ex:∃(oc:Value)(od:Option Addr)(kV doc pm:Value)(an:Option Addr)(cdv ct:Value)(osl:Array (Option Value)),
  fd=PySem.W.fnOf x qual (z13 st) (z0v st) (z0a st) .none kV doc pm an cdv ct/\K.lookup f=some ⟨oc,od,.func fd,osl⟩/\PySem.W.codeIn K cdv qual=true
 kp:PySem.W.keepIn K (.ref f)=true
section
variable{P:Program}{w:World}{K:yyF}{mg:yyS}{base:Heap}
def Fun.binds{x qual:Str}{st:Stmt}{f:Addr}{fd:FuncData}{ps:List Str}(F:Fun K x qual st f fd)(h:∀(kV doc pm:Value)(an:Option Addr)(cdv ct:Value)(us:List Value),us.length=ps.length->bindArgs (PySem.W.fnOf x qual (z13 st) (z0v st) (z0a st) .none kV doc pm an cdv ct) ⟨us,[]⟩=pure (ps.zip us)):z1q K fd ps []:=by obtain⟨oc,od,kV,doc,pm,an,cdv,ct,osl,rfl,lk,hcd⟩:=F.ex;exact .all (h kV doc pm an cdv ct)
def z69{x qual:Str}{st:Stmt}{f:Addr}{oc:Value}{od an:Option Addr}{osl:Array (Option Value)}{kV doc pm cdv ct:Value}(l:K.lookup f=some ⟨oc,od,.func (PySem.W.fnOf x qual (z13 st) (z0v st) (z0a st) .none kV doc pm an cdv ct),osl⟩)(c:PySem.W.codeIn K cdv qual=true)(k:PySem.W.keepIn K (.ref f)=true):Fun K x qual st f (PySem.W.fnOf x qual (z13 st) (z0v st) (z0a st) .none kV doc pm an cdv ct):=⟨⟨oc,od,kV,doc,pm,an,cdv,ct,osl,rfl,l,c⟩,k⟩
end
def za5{n:Nat}(h:n<=1000):n<sizeLine:=y0L h (by decide)
section
variable{X:Cx}
def z8Y:z0Q X (.builtin "len") (λxs H Q=>∃a kvs,xs=[V.ref a]/\H a=some (.dK kvs)/\Q (.int kvs.length) H):=by intro pins s σ H xs us Q I r h;obtain⟨a,kvs,rfl,ha,q⟩:=h;obtain⟨u,rfl,ru⟩:=z1Z r;cases ru;exact ziE I (.inl ha) λt s' I'=>⟨.int kvs.length,H,I',⟨t,rfl⟩,q⟩
end
def Same(H H':Hp):Prop:=∀b o,H b=some o->H' b=some o
def Same.refl(H:Hp):Same H H:=λ_ _ h=>h
section
variable{κ:Type}[DecidableEq κ]
theorem z9t:∀{l:List κ}{k:κ},l.Nodup->¬k∈l->(l++[k]).Nodup
 |[],k,_,_=>by simp
 |a::r,k,h,hk=>by
  obtain⟨h1,h2⟩:=y0U.mp h;show(a::(r++[k])).Nodup;refine y0U.mpr ⟨λm=>?_,z9t h2 λm=>hk (y0l.mpr (Or.inr m))⟩;rcases y0S.mp m with q|q
  .exact h1 q
  .exact hk (y0l.mpr (Or.inl (y0w.mp q).symm))
end
end L2
namespace Gu
open PySem L2
def top(i:Nat):Stmt:=PySem.Challenge.pw_guisery_k46_whole_worn_and_doffed.main.body.getD i (.Pass ⟨0,0,0,0⟩)
abbrev zam:Stmt:=top 18
abbrev z4W:Stmt:=top 22
abbrev zag:Stmt:=top 24
abbrev z7Q:Stmt:=top 25
abbrev z9c:Stmt:=top 26
abbrev zaH:Stmt:=top 27
abbrev z5s:Stmt:=top 28
abbrev zbN:Stmt:=top 29
abbrev z2u:Stmt:=top 30
abbrev z4I:Stmt:=top 32
abbrev z5h:Stmt:=top 33
abbrev zds:Stmt:=top 34
abbrev z6V:Stmt:=top 35
abbrev z6J:Stmt:=top 36
abbrev z6M:Stmt:=top 37
abbrev z8P:Stmt:=top 53
abbrev z53:Stmt:=top 54
abbrev z4G:Stmt:=top 68
abbrev z4U:Stmt:=top 69
abbrev z54:Stmt:=top 70
abbrev z74:Stmt:=top 71
abbrev z4Y:Stmt:=top 72
abbrev z1W:Stmt:=top 74
abbrev z1u:Stmt:=top 77
abbrev z1y:Stmt:=top 78
abbrev z2B:Stmt:=top 79
abbrev z70:Stmt:=top 80
abbrev z23:Stmt:=top 81
abbrev zdg:Stmt:=z0P (top 88) 0
abbrev zh5:Stmt:=z0P (top 88) 1
abbrev zcS:Stmt:=z0P (top 88) 6
abbrev zd0:Stmt:=z0P (top 88) 7
abbrev zdZ:Stmt:=z0P (top 88) 8
abbrev ze7:Stmt:=z0P (top 88) 9
abbrev z9T:Stmt:=z0P (top 88) 15
abbrev z9a:Stmt:=z0P (top 88) 17
abbrev zcH:Stmt:=z0P (top 88) 18
abbrev z2M:Stmt:=z0P (top 88) 19
abbrev z6Q:Stmt:=z0P (top 88) 20
abbrev z3Y:Stmt:=z0P (top 88) 27
abbrev z6D:Stmt:=z0P (top 88) 28
abbrev z4z:Stmt:=z0P (top 88) 29
abbrev zdu:Stmt:=z0P (top 88) 30
abbrev zig:Stmt:=z0P (top 88) 31
abbrev zdB:Stmt:=top 90
abbrev z4Z:Stmt:=top 91
abbrev z4J:Stmt:=top 92
abbrev z3Q:Stmt:=top 93
abbrev zer:Stmt:=top 94
abbrev z8q:Stmt:=top 95
abbrev za8:Stmt:=top 96
abbrev z7n:Stmt:=top 97
abbrev z4S:Stmt:=top 98
abbrev z9F:Stmt:=top 99
abbrev z9x:Stmt:=top 100
abbrev zaj:Stmt:=top 101
abbrev zb1:Stmt:=top 102
open PySem.W PyProof.Rows
section
variable(tb:String->Option Builtin)(p:Program)(w:World)(m:Nat)(an:Option Value)
def zgu:Nat->SharedT->Thread->Option SharedT
 |0,_,_=>none
 |n+1,x,y=>match through y,stepOk m an y with
  |true,_=>some x
  |false,false=>none
  |false,true=>match stepT (denote tb) p w x y with
   |some z=>zgu n z.1 z.2
   |none=>none
end
section
variable{tb:String->Option Builtin}{p:Program}{w:World}{m:Nat}{an:Option Value}
theorem z8Z:∀(n:Nat)(x r:SharedT)(y:Thread),zgu tb p w m an n x y=some r->topRun tb p w m an n x.abs y=some r.abs
 |0,_,_,_,h=>by cases h
 |n+1,x,r,y,h=>by
  unfold zgu at h;unfold topRun;cases ht:through y<;>cases hk:stepOk m an y<;>rw[ht,hk]at h<;>dsimp only at h⊢
  .cases h
  .cases hs:stepT (denote tb) p w x y with
   |none=>rw[hs]at h;cases h
   |some z =>
    rw[hs]at h;rw[stepT_spec (s':=z.1) (t':=z.2) hs];exact z8Z n _ _ _ h
  .cases h;rfl
  .cases h;rfl
end
noncomputable def zbg(P:Params):BT:=(.node (boot_o_0 P) (.node (boot_o_1 P) (.node (boot_o_3 P) (.node (boot_o_7 P) .nil .nil) .nil) (.node (boot_o_5 P) (.node (boot_o_9 P) .nil .nil) .nil)) (.node (boot_o_2 P) (.node (boot_o_4 P) (.node (boot_o_8 P) .nil .nil) .nil) (.node (boot_o_6 P) (.node (boot_o_10 P) .nil .nil) .nil)))
noncomputable def zbR(w:World)(os:OsState):SharedT:=⟨zbg w.params,11,(boot_heap w.params).life,Array.mk [],boot_drawn,boot_toks,os⟩
def zbU(P:Params):absHeap (zbg P) 11 (boot_heap P).life=boot_heap P:=by kernel_rfl
section
variable(tb:String->Option Builtin)(p:Program)(w:World)(m:Nat)(an:Option Value)
def z8b:Nat->SharedT->Thread->Option (SharedT × Thread)
 |0,x,y=>some (x,y)
 |n+1,x,y=>match through y,stepOk m an y with
  |true,_=>none
  |false,false=>none
  |false,true=>match stepT (denote tb) p w x y with
   |some z=>z8b n z.1 z.2
   |none=>none
end
section
variable{tb:String->Option Builtin}{p:Program}{w:World}{m:Nat}{an:Option Value}
theorem z88:∀(n:Nat)(x x':SharedT)(y y':Thread),z8b tb p w m an n x y=some (x',y')->topGo tb p w m an n x.abs y=some (x'.abs,y')
 |0,_,_,_,_,h=>by cases h;rfl
 |n+1,x,x',y,y',h=>by
  unfold z8b at h;unfold topGo;cases ht:through y<;>cases hk:stepOk m an y<;>rw[ht,hk]at h<;>dsimp only at h⊢
  .cases h
  .cases hs:stepT (denote tb) p w x y with
   |none=>rw[hs]at h;cases h
   |some z =>
    rw[hs]at h;rw[stepT_spec (s':=z.1) (t':=z.2) hs];exact z88 n _ _ _ _ h
  .cases h
  .cases h
end
abbrev St0:=World->OsState->SharedT
def zaC(T:BT)(l:List (Nat × Obj)):BT:=l.foldl (λt x=>t.ins x.1 x.2) T
noncomputable def z1k(T:Params->BT)(n k:Nat):St0:=λw os=>⟨T w.params,n,(boot_heap w.params).life,Array.mk [],boot_drawn,k,os⟩
def z8p(p:Program)(c:Value)(fr:Addr):Env:={ scope:=p.main.scope,locals:=mainNs,globals:=mainNs,cells:=[],code:=c,frame:=some fr }
def cdP(p:Program)(c:Value)(fr:Addr):Code:=.body (behindTheImports p) (z8p p c fr)
def zeD(p:Program)(a n:Nat):List Stmt:=((behindTheImports p).drop a).take n
def zP:Pos:=⟨0,0,0,0⟩
def z0H(tb:String->Option Builtin)(p:Program)(c:Value)(fr:Addr)(a n k:Nat)(S S':St0)(q q':Pos):Prop :=
 ∀w os,segRunT tb p w 11 (some (.ref 6)) 1 k (S w os) (piecesOf (zeD p a n) (z8p p c fr) (cdP p c fr) q [topFrame zP])=some (.next,S' w os,cdP p c fr,q')
def zfJ{tb:String->Option Builtin}{p:Program}{c:Value}{fr:Addr}{a n k:Nat}{S S':St0}{q q':Pos}(hf:∀(w:World) os,segRunT tb p (w.withFollow "special-get-raises" false) 11 (some (.ref 6)) 1 k (S (w.withFollow "special-get-raises" false) os) (piecesOf (zeD p a n) (z8p p c fr) (cdP p c fr) q [topFrame zP])=some (.next,S' (w.withFollow "special-get-raises" false) os,cdP p c fr,q'))(ht:∀(w:World) os,segRunT tb p (w.withFollow "special-get-raises" true) 11 (some (.ref 6)) 1 k (S (w.withFollow "special-get-raises" true) os) (piecesOf (zeD p a n) (z8p p c fr) (cdP p c fr) q [topFrame zP])=some (.next,S' (w.withFollow "special-get-raises" true) os,cdP p c fr,q')):z0H tb p c fr a n k S S' q q' :=
 λw os=>byRow2 "special-get-raises" (P:=λw=>∀os,segRunT tb p w 11 (some (.ref 6)) 1 k (S w os) (piecesOf (zeD p a n) (z8p p c fr) (cdP p c fr) q [topFrame zP])=some (.next,S' w os,cdP p c fr,q')) hf ht w os
def z0H.app{tb:String->Option Builtin}{p:Program}{c:Value}{fr:Addr}{a n k N:Nat}{S S':St0}{q q':Pos}{w:World}{os:OsState}{r:Shared}(h:z0H tb p c fr a n k S S' q q')(z:topRun tb p w 11 (some (.ref 6)) N (S' w os).abs (restOf ((behindTheImports p).drop (a+n)) (z8p p c fr) (cdP p c fr) q' [topFrame zP])=some r) : topRun tb p w 11 (some (.ref 6)) (k+N) (S w os).abs (restOf ((behindTheImports p).drop a) (z8p p c fr) (cdP p c fr) q [topFrame zP])=some r:=by
 have e:(behindTheImports p).drop a=zeD p a n++(behindTheImports p).drop (a+n):=by unfold zeD;rw[<-List.drop_drop,y1K]
 rw[e];exact piece_app (segRun_of (h w os)) z
def z6H{p q:Program}{loose:List Str}{Xt:Shared->Bool}{α:Type}{Yf:Shared->α}{Ya:World->α}{N M k0:Nat}{c:Value}{fr:Addr}{q0:Pos}{Sa Sf:St0}{Tf:Params->BT}{nf kf:Nat}(eo:opening p=plainProg p.main.scope.names)(hN:Nat.ble 600 N=true)(f:∀s,fenceModules? p s=some s)(hSf:Sf=z1k Tf nf kf){Hf:Params->Heap}(hH:∀P,absHeap (Tf P) nf (boot_heap P).life=Hf P)(pre:∀w os,z8b treeTable p w 11 (some (.ref 6)) k0 (zbR w os) (topStub p)=some (Sa w os,⟨denote treeTable (cdP p c fr),cdP p c fr,q0,[topFrame zP]⟩))(blk:∀w os,segRunT treeTable p w 11 (some (.ref 6)) 1 1 (Sa w os) (blockOf (behindTheImports p) (z8p p c fr) (cdP p c fr) q0 [topFrame zP])=some (.next,Sa w os,cdP p c fr,q0))(run:∀w os,topRun treeTable p w 11 (some (.ref 6)) M (Sa w os).abs (restOf ((behindTheImports p).drop 0) (z8p p c fr) (cdP p c fr) q0 [topFrame zP])=some (Sf w os).abs)(le:Nat.ble (k0+(1+M)) N=true)(looks:∀w os,((staticsOk (importedModules p.main.body) (boot_heap w.params) (Hf w.params)&&namesBound p (Hf w.params)&&gensDone ⟨Hf w.params,Array.mk [],boot_drawn,kf,os⟩&&laidKept (boot_heap w.params) (Hf w.params)),openSeen q loose (importedModules p.main.body) Xt true ⟨Hf w.params,Array.mk [],boot_drawn,kf,os⟩,Yf ⟨Hf w.params,Array.mk [],boot_drawn,kf,os⟩)=(true,openGood q loose,Ya w)):LeftO p q loose Xt Yf Ya N:=by
 subst hSf;refine LeftO.of_pieces (H₀:=boot_heap) (H₁:=Hf) (gs₀:=Array.mk []) (gs₁:=Array.mk []) (d₀:=boot_drawn) (d₁:=boot_drawn) (k₀:=boot_toks) (k₁:=kf) (m₀:=11) (ann:=some (.ref 6)) (M:=k0+(1+M)) (boot_open eo hN f) (λw=>by kernel_rfl) (λw os=>?_) le (λw=>funext λos=>looks w os);have z0:(⟨boot_heap w.params,Array.mk [],boot_drawn,boot_toks,os⟩:Shared)=(zbR w os).abs:=by show _=(⟨absHeap (zbg w.params) 11 (boot_heap w.params).life,_,_,_,_⟩:Shared);rw[zbU];rfl
 rw[z0];have z1:(⟨Hf w.params,Array.mk [],boot_drawn,kf,os⟩:Shared)=(z1k Tf nf kf w os).abs:=by show _=(⟨absHeap (Tf w.params) nf (boot_heap w.params).life,_,_,_,_⟩:Shared);rw[hH];rfl
 rw[z1];exact go_top (z88 _ _ _ _ _ (pre w os)) (piece_block (segRun_of (blk w os)) (run w os))
def yE(P:Params)(x:Str)(t:Tok)(v:Value):DictEntry:={ hash:=PyData.keyHash P x,key:=Value.str x t,val:=v }
def yR(P:Params)(x:Str)(t:Tok)(a:Addr):DictEntry:=yE P x t (.ref a)
def yN(P:Params)(x:Str)(t:Tok):DictEntry:=yE P x t .none
def yDi(l:Array DictEntry)(n:Nat):Obj:={ cls:=.type "dict",data:=.dict l n }
def yF(s:Stmt)(x y:Str)(kV dc pm:Value)(an:Option Addr)(cd ct:Value):Obj:=⟨.type "function",none,.func (PySem.W.fnOf x y (z13 s) (z0v s) (z0a s) .none kV dc pm an cd ct),#[]⟩
def yM(s:Stmt)(x y m:Str)(t:Tok)(c:Addr):Obj:=yF s x y .none .none (.str m t) none (.ref c) .none
def yP(s:Stmt)(x y:Str):Obj:=⟨.none,none,.func { PySem.W.fnOf x y (z13 s) (z0v s) (z0a s) .none .none .none .none none .none .none with globals:=0 },#[]⟩
def yC(vs:Array Value):Obj:={ cls:=.type "code",data:=.fields vs }
def yT(vs:Array Value):Obj:={ cls:=.type "tuple",data:=.seq vs }
def yQ(vs:Array Value):Obj:={ cls:=.none,data:=.fields vs }
def yB(t:String)(vs:Array Value):Obj:={ cls:=.type t,data:=.fields vs }
def yG(a b:Addr)(x:Str)(t:Tok):Obj:={ cls:=.type "frame",slots:=#[some (.ref a),some (.ref 3),some (.ref b),none,some (.str x t),none,some (.ref 0)] }
def yK(n q:Str)(a:Tok)(l r f:Int)(A:Addr)(t:Bool)(B:Addr)(v w x y:Value)(k:Int)(d:Tok):Obj:=yC #[.str n a,.str q (a+1),.str "/claim/cut.py" (a+2),.int l 0,.int r 0,.int 0 0,.int 0 0,.int f 0,.ref A,.bool t,.int 181 0,.ref B,v,w,x,y,.int k 0,.int l 0,.str "/claim/cut.py" d]
def yL(n q:Str)(a:Tok)(l r:Int)(A B w x y:Addr)(k:Nat):Obj:=yK n q a l r 3 A true B .none (.ref w) (.ref x) (.ref y) k (k+1)
def yX(n:Str)(b m s a:Addr)(t u:Tok):Obj:={ cls:=.type "type",data:=Data.cls { name:=n,bases:=[.ref b],mro:=[.ref m,.ref b,.type "ValueError",.type "Exception",.type "BaseException",.type "object"],ns:=s,qualname:=n },slots:=#[some (.ref a),none,some (.str n t),some (.str n u),some (.builtin "ValueError.__new__"),some (.bool true)] }
def eT:Obj:=yT #[]
def eQ:Obj:=yQ #[]
def yl(n q:Str)(a:Tok)(l r:Int)(A:Nat)(k:Nat):Obj:=yL n q a l r A (A+1) (A+2) (A+3) (A+4) k
def yS(t:Tok)(l:List Str):Obj:=yT ((l.zipIdx t).map λp=>Value.str p.1 p.2).toArray
def zc0(t:BT)(b:Nat)(l:List Obj):BT:=zaC t ((l.zipIdx b).map λp=>(p.2,p.1))
def nI(s:Stmt):Str × Nat × Nat × List (Str × NameKind):=match s with
 |.FunctionDef n a _ _ _ _ sc _ _ p=>(n,p.line,a.args.length,sc.names)
 |.ClassDef n _ _ _ _ _ _ _ _ _ p=>(n,p.line,0,[])
 |_=>("",0,0,[])
def vN(s:Stmt):List Str:=(nI s).2.2.2.filterMap λp=>match p.2 with
 |.local=>some p.1
 |.cell=>some p.1
 |_=>none
def cN(s:Stmt):List Str:=(nI s).2.2.2.filterMap λp=>match p.2 with
 |.cell=>some p.1
 |_=>none
structure GX where
 s:Stmt
 a:Nat
 A:Nat
 w:Nat
def gO(m:Str)(t:Tok)(q:Str->Str)(x:GX):List Obj :=
 let n:=(nI x.s).1;let l:=(nI x.s).2.1;let k:=(nI x.s).2.2.1;match Nat.beq x.w 0 with
 |true=>[eT,eQ,yP x.s n (q n),yK n (q n) x.a l k 3 x.A true (x.A+1) .none .none .none (.ref (x.A+2)) (x.a+3:Nat) (x.a+4),yM x.s n (q n) m t (x.A+3)]
 |false=>[eT,eQ,yS (x.a+3) (vN x.s),yS (x.a+3+(vN x.s).length) (cN x.s),yP x.s n (q n),yl n (q n) x.a l k x.A (x.a+3+x.w),yM x.s n (q n) m t (x.A+5)]
def gf(x:GX):Nat:=x.A+match Nat.beq x.w 0 with
 |true=>3
 |false=>5
def gE(P:Params)(x:GX):DictEntry:=yR P (nI x.s).1 (x.a+x.w+5) (gf x+1)
def gQ(c:Nat)(x:GX):List Value:=[.int (nI x.s).2.1 0,.int c 0,.ref (gf x)]
def gC(P:Params)(m:Str)(mt:Tok)(x:GX):List Obj :=
 let n:=(nI x.s).1;let l:Int:=(nI x.s).2.1;let t:=x.a;let A:=x.A;let c:=A+9
 [yT #[.ref 31],yB "builtin_function_or_method" #[.builtin "type.__prepare__",.type "type"],yDi (#[yE P "__module__" (t+7) (.str m mt),yE P "__qualname__" (t+9) (.str n (t+8)),yE P "__firstlineno__" (t+11) (.int l (t+10)),yR P "__static_attributes__" (t+12) (A+7)]) 4,eT,eQ,yK n n (t+2) l 0 0 (A+3) false (A+4) .none .none .none .none (t+5:Nat) (t+6),yG (A+5) (A+2) m mt,eT,
  yDi (#[yE P "__module__" (t+7) (.str m mt),yE P "__firstlineno__" (t+11) (.int l (t+10)),yR P "__static_attributes__" (t+12) (A+7),yN P "__doc__" (t+13)]) 2,yX n 31 c (A+8) A t (t+8),yB "super" #[.ref c,.ref c,.ref c],yB "builtin_function_or_method" #[.builtin "object.__init_subclass__",.ref c]]
def gF(P:Params)(x:GX):DictEntry:=yR P (nI x.s).1 (x.a+15) (x.A+9)
def gV(x:GX):List Value:=[.int (nI x.s).2.1 0,.int 0 0,.ref (x.A+5)]
def M2(s:Stmt)(n:Str)(c:Addr):Obj:=yM s n n "guisery.letters" 390 c
def M3(s:Stmt)(n:Str)(c:Addr):Obj:=yM s n n "guisery.machines" 423 c
def M4(s:Stmt)(n:Str)(c:Addr):Obj:=yM s n n "guisery.words" 510 c
def M7(s:Stmt)(n:Str)(c:Addr):Obj:=yM s n n "guisery.wearing" 651 c
def M9(s:Stmt)(n:Str)(c:Addr):Obj:=yM s n n "guisery.lines" 731 c
def M10(s:Stmt)(n:Str)(c:Addr):Obj:=yM s n n "guisery.sewing" 835 c
def z6f(s:Stmt)(n q:Str)(c:Addr):Obj:=yM s n q "guisery.house" 875 c
def M12(s:Stmt)(n:Str)(c:Addr):Obj:=yM s n n "law_guisery_k46_whole_worn_and_doffed" 1187 c
def r0:List GX:=[⟨top 0,187,15,1⟩]
def r1:List GX:=[⟨top 3,214,35,0⟩,⟨top 4,230,47,0⟩,⟨top 5,246,59,0⟩]
def r2:List GX:=[⟨top 6,262,71,0⟩,⟨top 7,278,83,0⟩,⟨top 8,294,95,0⟩,⟨top 9,310,107,0⟩]
def r3:List GX:=[⟨top 10,326,119,0⟩,⟨top 11,342,131,0⟩,⟨top 12,358,143,0⟩,⟨top 13,374,155,0⟩]
def r4:List GX:=[⟨top 15,392,167,1⟩]
def r5:List GX:=[⟨top 16,399,174,0⟩,⟨top 17,405,179,4⟩,⟨top 18,415,186,2⟩]
def r6:List GX:=[⟨top 21,427,193,1⟩,⟨top 22,434,200,3⟩,⟨top 23,443,207,3⟩,⟨top 24,452,214,8⟩,⟨top 25,466,221,0⟩,⟨top 26,472,226,8⟩,⟨top 27,486,233,0⟩,⟨top 28,492,238,0⟩,⟨top 29,498,243,0⟩,⟨top 30,504,248,0⟩]
def r7:List GX:=[⟨top 32,512,253,0⟩,⟨top 33,518,258,4⟩,⟨top 34,528,265,1⟩,⟨top 35,535,272,5⟩,⟨top 36,546,279,2⟩,⟨top 37,554,286,3⟩,⟨top 38,563,293,4⟩,⟨top 39,573,300,4⟩]
def r8:List GX:=[⟨top 42,587,307,4⟩,⟨top 43,597,314,0⟩,⟨top 44,603,319,2⟩,⟨top 45,611,326,0⟩,⟨top 46,617,331,4⟩,⟨top 47,627,338,4⟩]
def r9:List GX:=[⟨top 49,639,345,5⟩]
def r10:List GX:=[⟨top 52,653,352,4⟩,⟨top 53,663,359,10⟩,⟨top 54,679,366,0⟩]
def r11:List GX:=[⟨top 58,691,371,4⟩,⟨top 59,701,378,7⟩,⟨top 60,714,385,4⟩,⟨top 61,724,392,0⟩]
def r12:List GX:=[⟨top 68,781,408,0⟩,⟨top 69,787,413,1⟩,⟨top 70,794,420,0⟩,⟨top 71,800,425,0⟩,⟨top 72,806,430,0⟩]
def r13:List GX:=[⟨top 74,823,436,6⟩]
def r14:List GX:=[⟨top 77,839,443,0⟩,⟨top 78,845,448,0⟩,⟨top 79,851,453,4⟩,⟨top 80,861,460,0⟩]
def r15:List GX:=[⟨top 81,867,465,2⟩]
def cM(i:Nat):Stmt:=z0P (top 88) i
def r16:List GX:=[⟨cM 0,899,479,2⟩,⟨cM 1,907,486,0⟩,⟨cM 2,913,491,4⟩,⟨cM 3,923,498,3⟩,⟨cM 4,932,505,4⟩,⟨cM 5,942,512,4⟩,⟨cM 6,952,519,2⟩,⟨cM 7,960,526,4⟩,⟨cM 8,970,533,6⟩,⟨cM 9,982,540,4⟩,⟨cM 10,992,547,2⟩,⟨cM 11,1000,554,1⟩,⟨cM 12,1007,561,1⟩,⟨cM 13,1014,568,1⟩,⟨cM 14,1021,575,1⟩,⟨cM 15,1028,582,1⟩,⟨cM 16,1035,589,1⟩,⟨cM 17,1042,596,2⟩,⟨cM 18,1050,603,4⟩,⟨cM 19,1060,610,4⟩,⟨cM 20,1070,617,4⟩,⟨cM 21,1080,624,3⟩,⟨cM 22,1089,631,3⟩,⟨cM 23,1098,638,3⟩,⟨cM 24,1107,645,3⟩,⟨cM 25,1116,652,3⟩,⟨cM 26,1125,659,1⟩,⟨cM 27,1132,666,3⟩,⟨cM 28,1141,673,2⟩,⟨cM 29,1149,680,0⟩,⟨cM 30,1155,685,5⟩,⟨cM 31,1166,692,3⟩]
def r17:List GX:=[⟨top 90,1189,706,2⟩,⟨top 91,1197,713,2⟩,⟨top 92,1205,720,5⟩,⟨top 93,1216,727,0⟩,⟨top 94,1222,732,6⟩,⟨top 95,1234,739,0⟩,⟨top 96,1240,744,5⟩,⟨top 97,1251,751,0⟩,⟨top 98,1257,756,6⟩,⟨top 99,1269,763,1⟩,⟨top 100,1276,770,0⟩,⟨top 101,1282,775,2⟩,⟨top 102,1290,782,12⟩]
def q12:List Value:=List.flatten [[.int 1 0,.int 0 0,.ref 20,.int 5 0,.int 0 0,.ref 27],r1.flatMap gV,r2.flatMap gV,r3.flatMap gV,r4.flatMap (gQ 0),r5.flatMap (gQ 0),r6.flatMap (gQ 0),r7.flatMap (gQ 0),r8.flatMap (gQ 0),r9.flatMap (gQ 0),r10.flatMap (gQ 0),r11.flatMap (gQ 0),r12.flatMap (gQ 0),r13.flatMap (gQ 0),r14.flatMap (gQ 0),r15.flatMap (gQ 0),[.int 283 0,.int 0 0,.ref 477],r17.flatMap (gQ 0)]
def s31:List Value:=List.flatten [[.ref 44,.ref 56,.ref 68],(r2.map λx=>Value.ref (x.A+9)),(r3.map λx=>Value.ref (x.A+9))]
def e31(l:List Value):Obj:={ cls:=.type "type",data:=Data.cls { name:="GuiseError",bases:=[.type "ValueError"],mro:=[.ref 31,.type "ValueError",.type "Exception",.type "BaseException",.type "object"],ns:=30,qualname:="GuiseError",subclasses:=l },slots:=#[some (.ref 22),none,some (.str "GuiseError" 196),some (.str "GuiseError" 204),some (.builtin "ValueError.__new__"),some (.bool true)] }
def KA:List Addr:=[3,30,31,32,43,44,55,56,67,68,79,80,91,92,103,104,115,116,127,128,139,140,151,152,163,164,191,192,205,206,219,220,224,225,231,232,236,237,241,242,246,247,251,252,256,257,263,264,270,271,277,278,284,285,291,292,364,365,369,370,397,398,399,400,401,402,403,404,405,406,407,411,412,418,419,423,424,428,429,433,434,435,441,442,446,447,451,452,458,459,463,464,470,471,484,485,489,490,524,525,531,532,538,539,545,546,587,588,601,602,608,609,615,616,622,623,671,672,678,679,683,684,690,691,697,698,700,701,702,703,711,712,718,719,725,726,730,731,737,738,742,743,749,750,754,755,761,762,768,769,773,774,780,781,787,788]
variable(P:Params)
def g3e:List DictEntry:=List.flatten [[yE P "__name__" 165 (.str "law_guisery_k46_whole_worn_and_doffed" 1187),yN P "__doc__" 166,yN P "__package__" 167,yE P "__loader__" 168 (.builtin "__main__.__loader__#opaque"),yN P "__spec__" 169,yR P "__annotations__" 170 6,yR P "__builtins__" 171 4,yE P "__file__" 173 (.str "/claim/cut.py" 172),yN P "__cached__" 174,yR P "_wall" 193 21,yR P "GuiseError" 213 31],r1.map (gF P),r2.map (gF P),r3.map (gF P),[yR P "same_letters" 398 173],r5.map (gE P),[yE P "MOST_FORM_ROWS" 426 (.int 60 425)],r6.map (gE P),r7.map (gE P),[yE P "MOST_TIMES" 586 (.int 64 585)],r8.map (gE P),[yR P "order" 649 351,yR P "order_crews" 650 351],r10.map (gE P),[yE P "MOST_WORDS" 688 (.int 1024 687),yE P "MOST_LETTERS_TOLD" 690 (.int 1000 689)],r11.map (gE P),[yR P "floor_floors" 730 396,yE P "SMALL_LETTERS" 734 (.str "abcdefghijklmnopqrstuvwxyz" 733),yE P "MOST_LETTERS_OF_NAME" 736 (.int 12 735),yE P "EMPTY" 738 (.str "-" 737),yR P "DEEDS" 780 397],r12.map (gE P),[yR P "WRITERS" 822 435,yR P "line_written" 834 442,yE P "MOST_SEWN_ROWS" 838 (.int 60 837)],r14.map (gE P),[yR P "place_gone_to" 874 471,yE P "LEAST_BREADTH" 878 (.int 2 877),yE P "MOST_BREADTH" 880 (.int 5 879),yE P "MOST_WORN" 882 (.int 1000 881),yE P "GUISE" 884 (.str "guise" 883),yE P "PEG" 886 (.str "peg" 885),yR P "House" 1186 701],r17.map (gE P)]
def L1(P:Params):List Obj:=[eT,eQ,yK "<module>" "<module>" 182 1 0 0 11 false 12 .none .none .none .none 185 186,yG 13 3 "__main__" 164]
noncomputable def T1:BT:=zc0 (zaC (zbg P) []) 11 (L1 P)
def L2(P:Params):List Obj:=List.flatten [(r0.flatMap (gO "__main__" 164 id)),[yT #[.type "ValueError"],yB "builtin_function_or_method" #[.builtin "type.__prepare__",.type "type"],yDi (#[yE P "__module__" 203 (.str "guisery.errors" 194),yE P "__qualname__" 205 (.str "GuiseError" 204),yE P "__firstlineno__" 207 (.int 5 206),yR P "__static_attributes__" 208 29]) 4,eT,eQ,yK "GuiseError" "GuiseError" 198 5 0 0 25 false 26 .none .none .none .none 201 202,yG 27 24 "guisery.errors" 194,eT,yDi (#[yE P "__module__" 203 (.str "guisery.errors" 194),yE P "__firstlineno__" 207 (.int 5 206),yR P "__static_attributes__" 208 29,yR P "__weakref__" 210 32,yN P "__doc__" 211]) 3,e31 (s31.take 3),yB "getset_descriptor" #[.str "__weakref__" 209,.ref 31,.builtin "ExceptionGroup.__weakref__",.none],yB "super" #[.ref 31,.ref 31,.ref 31],yB "builtin_function_or_method" #[.builtin "object.__init_subclass__",.ref 31]],(r1.flatMap (gC P "guisery.errors" 194))]
noncomputable def T2:BT:=zc0 (zaC (T1 P) [(3,yDi ⟨((g3e P).take 14).set 0 (yE P "__name__" 165 (.str "guisery.errors" 194))⟩ 14),(12,yQ ⟨q12.take 15⟩)]) 15 (L2 P)
def L3(P:Params):List Obj:=(r2.flatMap (gC P "guisery.errors" 194))
noncomputable def T3:BT:=zc0 (zaC (T2 P) [(3,yDi ⟨((g3e P).take 18).set 0 (yE P "__name__" 165 (.str "guisery.errors" 194))⟩ 18),(12,yQ ⟨q12.take 27⟩),(31,e31 (s31.take 7))]) 71 (L3 P)
def L4(P:Params):List Obj:=List.flatten [(r3.flatMap (gC P "guisery.errors" 194)),(r4.flatMap (gO "guisery.letters" 390 id))]
noncomputable def T4:BT:=zc0 (zaC (T3 P) [(3,yDi ⟨((g3e P).take 23).set 0 (yE P "__name__" 165 (.str "guisery.letters" 390))⟩ 23),(12,yQ ⟨q12.take 42⟩),(31,e31 (s31.take 11))]) 119 (L4 P)
def L5(P:Params):List Obj:=List.flatten [(r5.flatMap (gO "guisery.letters" 390 id)),(r6.flatMap (gO "guisery.machines" 423 id)),(r7.flatMap (gO "guisery.words" 510 id)),(r8.flatMap (gO "guisery.joining" 583 id)),(r9.flatMap (gO "guisery.crews" 637 id))]
noncomputable def T5:BT:=zc0 (zaC (T4 P) [(3,yDi ⟨((g3e P).take 53).set 0 (yE P "__name__" 165 (.str "guisery.crews" 637))⟩ 53),(12,yQ ⟨q12.take 126⟩)]) 174 (L5 P)
def L6(P:Params):List Obj:=List.flatten [(r10.flatMap (gO "guisery.wearing" 651 id)),(r11.flatMap (gO "guisery.floors" 685 id)),[yDi (#[yR P "sew" 739 398,yR P "join" 742 399,yR P "turn" 746 400,yR P "look" 749 401,yR P "power" 753 402,yR P "drop" 757 403,yR P "hang" 759 404,yR P "wear" 763 405,yR P "doff" 766 406,yR P "unhang" 768 407]) 10,yS 740 ["name","rows"],yS 743 ["name","name","name"],yS 747 ["name","name"],yS 750 ["name","name","word"],yS 754 ["name","name","number"],yS 758 ["name"],yS 760 ["name","word","ring"],yS 764 ["name","name"],yS 767 ["name"],yS 769 ["name"]],(r12.flatMap (gO "guisery.lines" 731 id)),[yDi (#[yR P "name" 812 419,yR P "number" 813 419,yR P "word" 814 424,yR P "ring" 815 424,yR P "rows" 816 434]) 5],(r13.flatMap (gO "guisery.lines" 731 id)),(r14.flatMap (gO "guisery.sewing" 835 id))]
noncomputable def T6:BT:=zc0 (zaC (T5 P) [(3,yDi ⟨((g3e P).take 80).set 0 (yE P "__name__" 165 (.str "guisery.sewing" 835))⟩ 80),(12,yQ ⟨q12.take 177⟩)]) 352 (L6 P)
def L7(P:Params):List Obj:=(r15.flatMap (gO "guisery.sewing" 835 id))
noncomputable def T7:BT:=zc0 (zaC (T6 P) [(3,yDi ⟨((g3e P).take 86).set 0 (yE P "__name__" 165 (.str "guisery.house" 875))⟩ 86),(12,yQ ⟨q12.take 180⟩)]) 465 (L7 P)
def L8(P:Params):List Obj:=List.flatten [[eT,yB "builtin_function_or_method" #[.builtin "type.__prepare__",.type "type"],yDi ⟨List.flatten [[yE P "__module__" 894 (.str "guisery.house" 875),yE P "__qualname__" 896 (.str "House" 895),yE P "__firstlineno__" 898 (.int 283 897)],r16.map (gE P),[yR P "__static_attributes__" 1179 699]]⟩ 36,eT,yQ ⟨r16.flatMap (gQ 4)⟩,yK "House" "House" 889 283 0 0 475 false 476 .none .none .none .none 892 893,yG 477 474 "guisery.house" 875],(r16.flatMap (gO "guisery.house" 875 (λn=>"House."++n))),[yS 1175 ["done","many_letters","taken_back","things"],yDi ⟨List.flatten [[yE P "__module__" 894 (.str "guisery.house" 875),yE P "__firstlineno__" 898 (.int 283 897)],r16.map (gE P),[yR P "__static_attributes__" 1179 699,yR P "__dict__" 1181 702,yR P "__weakref__" 1183 703,yN P "__doc__" 1184]]⟩ 4,({ cls:=.type "type",data:=Data.cls { name:="House",bases:=[.type "object"],mro:=[.ref 701,.type "object"],ns:=700,qualname:="House" },slots:=#[none,none,some (.str "House" 887),some (.str "House" 895),some (.builtin "object.__new__"),some (.bool true)] }:Obj),yB "getset_descriptor" #[.str "__dict__" 1180,.ref 701,.builtin "function.__dict__",.builtin "function.__dict__#set"],yB "getset_descriptor" #[.str "__weakref__" 1182,.ref 701,.builtin "ExceptionGroup.__weakref__",.none],yB "super" #[.ref 701,.ref 701,.ref 701],yB "builtin_function_or_method" #[.builtin "object.__init_subclass__",.ref 701]]]
noncomputable def T8:BT:=zc0 (zaC (T7 P) [(3,yDi ⟨((g3e P).take 87).set 0 (yE P "__name__" 165 (.str "guisery.house" 875))⟩ 87),(12,yQ ⟨q12.take 183⟩)]) 472 (L8 P)
def L9(P:Params):List Obj:=(r17.flatMap (gO "law_guisery_k46_whole_worn_and_doffed" 1187 id))
noncomputable def T9:BT:=zc0 (zaC (T8 P) [(3,yDi ⟨g3e P⟩ 100),(12,yQ ⟨q12⟩)]) 706 (L9 P)
def al:List Obj:=(((List.flatten [L1 P,L2 P,L3 P,L4 P,L5 P,L6 P,L7 P,L8 P,L9 P]).set 1 (yQ ⟨q12⟩)).set 20 (e31 s31))
def oB(a:Nat):Obj:=(al P).getD (a-11) eT
def KH(P:Params):PySem.W.Frag:=(nat_lit 3,yDi ⟨g3e P⟩ 100)::(nat_lit 30,oB P 30)::(nat_lit 31,oB P 31)::(nat_lit 32,oB P 32)::(nat_lit 43,oB P 43)::(nat_lit 44,oB P 44)::(nat_lit 55,oB P 55)::(nat_lit 56,oB P 56)::(nat_lit 67,oB P 67)::(nat_lit 68,oB P 68)::(nat_lit 79,oB P 79)::(nat_lit 80,oB P 80)::(nat_lit 91,oB P 91)::(nat_lit 92,oB P 92)::(nat_lit 103,oB P 103)::(nat_lit 104,oB P 104)::(nat_lit 115,oB P 115)::(nat_lit 116,oB P 116)::(nat_lit 127,oB P 127)::(nat_lit 128,oB P 128)::(nat_lit 139,oB P 139)::(nat_lit 140,oB P 140)::(nat_lit 151,oB P 151)::(nat_lit 152,oB P 152)::(nat_lit 163,oB P 163)::(nat_lit 164,oB P 164)::(nat_lit 191,oB P 191)::(nat_lit 192,M2 zam "rearranges" 191)::(nat_lit 205,oB P 205)::(nat_lit 206,M3 z4W "breadth" 205)::(nat_lit 219,oB P 219)::(nat_lit 220,M3 zag "read_from" 219)::(nat_lit 224,oB P 224)::(nat_lit 225,M3 z7Q "check_machine" 224)::(nat_lit 231,oB P 231)::(nat_lit 232,M3 z9c "least_form" 231)::(nat_lit 236,oB P 236)::(nat_lit 237,M3 zaH "rows_come_to" 236)::(nat_lit 241,oB P 241)::(nat_lit 242,M3 z5s "kinds_of_rows" 241)::(nat_lit 246,oB P 246)::(nat_lit 247,M3 zbN "kinds_gone_to" 246)::(nat_lit 251,oB P 251)::(nat_lit 252,M3 z2u "numbered" 251)::(nat_lit 256,oB P 256)::(nat_lit 257,M4 z4I "check_word" 256)::(nat_lit 263,oB P 263)::(nat_lit 264,M4 z5h "check_endless" 263)::(nat_lit 270,oB P 270)::(nat_lit 271,M4 zds "check_ring" 270)::(nat_lit 277,oB P 277)::(nat_lit 278,M4 z6V "plain_word" 277)::(nat_lit 284,oB P 284)::(nat_lit 285,M4 z6J "least_ring" 284)::(nat_lit 291,oB P 291)::(nat_lit 292,M4 z6M "count_ringed" 291)::(nat_lit 364,oB P 364)::(nat_lit 365,M7 z8P "worn_endless" 364)::(nat_lit 369,oB P 369)::(nat_lit 370,M7 z53 "strung" 369)::(nat_lit 397,oB P 397)::(nat_lit 398,oB P 398)::(nat_lit 399,oB P 399)::(nat_lit 400,oB P 400)::(nat_lit 401,oB P 401)::(nat_lit 402,oB P 402)::(nat_lit 403,oB P 403)::(nat_lit 404,oB P 404)::(nat_lit 405,oB P 405)::(nat_lit 406,oB P 406)::(nat_lit 407,oB P 407)::(nat_lit 411,oB P 411)::(nat_lit 412,M9 z4G "is_name" 411)::(nat_lit 418,oB P 418)::(nat_lit 419,M9 z4U "plainly_written" 418)::(nat_lit 423,oB P 423)::(nat_lit 424,M9 z54 "word_written" 423)::(nat_lit 428,oB P 428)::(nat_lit 429,M9 z74 "row_written" 428)::(nat_lit 433,oB P 433)::(nat_lit 434,M9 z4Y "rows_written" 433)::(nat_lit 435,oB P 435)::(nat_lit 441,oB P 441)::(nat_lit 442,M9 z1W "line_written" 441)::(nat_lit 446,oB P 446)::(nat_lit 447,M10 z1u "check_sewing" 446)::(nat_lit 451,oB P 451)::(nat_lit 452,M10 z1y "names_gone_to" 451)::(nat_lit 458,oB P 458)::(nat_lit 459,M10 z2B "sewn" 458)::(nat_lit 463,oB P 463)::(nat_lit 464,M10 z70 "row_at" 463)::(nat_lit 470,oB P 470)::(nat_lit 471,M10 z23 "place_gone_to" 470)::(nat_lit 484,oB P 484)::(nat_lit 485,z6f zdg "__init__" "House.__init__" 484)::(nat_lit 489,oB P 489)::(nat_lit 490,z6f zh5 "sew" "House.sew" 489)::(nat_lit 524,oB P 524)::(nat_lit 525,z6f zcS "drop" "House.drop" 524)::(nat_lit 531,oB P 531)::(nat_lit 532,z6f zd0 "hang" "House.hang" 531)::(nat_lit 538,oB P 538)::(nat_lit 539,z6f zdZ "wear" "House.wear" 538)::(nat_lit 545,oB P 545)::(nat_lit 546,z6f ze7 "doff" "House.doff" 545)::(nat_lit 587,oB P 587)::(nat_lit 588,z6f z9T "names" "House.names" 587)::(nat_lit 601,oB P 601)::(nat_lit 602,z6f z9a "guise" "House.guise" 601)::(nat_lit 608,oB P 608)::(nat_lit 609,z6f zcH "word" "House.word" 608)::(nat_lit 615,oB P 615)::(nat_lit 616,z6f z2M "first_word" "House.first_word" 615)::(nat_lit 622,oB P 622)::(nat_lit 623,z6f z6Q "layers" "House.layers" 622)::(nat_lit 671,oB P 671)::(nat_lit 672,z6f z3Y "check_new" "House.check_new" 671)::(nat_lit 678,oB P 678)::(nat_lit 679,z6f z6D "held_by" "House.held_by" 678)::(nat_lit 683,oB P 683)::(nat_lit 684,z6f z4z "called" "House.called" 683)::(nat_lit 690,oB P 690)::(nat_lit 691,z6f zdu "keep" "House.keep" 690)::(nat_lit 697,oB P 697)::(nat_lit 698,z6f zig "put" "House.put" 697)::(nat_lit 700,oB P 700)::(nat_lit 701,oB P 701)::(nat_lit 702,oB P 702)::(nat_lit 703,oB P 703)::(nat_lit 711,oB P 711)::(nat_lit 712,M12 zdB "_law_cell" 711)::(nat_lit 718,oB P 718)::(nat_lit 719,M12 z4Z "_law_letters" 718)::(nat_lit 725,oB P 725)::(nat_lit 726,M12 z4J "_law_numbers" 725)::(nat_lit 730,oB P 730)::(nat_lit 731,M12 z3Q "_law_coming" 730)::(nat_lit 737,oB P 737)::(nat_lit 738,M12 zer "_law_rearranged" 737)::(nat_lit 742,oB P 742)::(nat_lit 743,M12 z8q "_law_rows" 742)::(nat_lit 749,oB P 749)::(nat_lit 750,M12 za8 "_law_read" 749)::(nat_lit 754,oB P 754)::(nat_lit 755,M12 z7n "_law_plain" 754)::(nat_lit 761,oB P 761)::(nat_lit 762,M12 z4S "_law_dressed" 761)::(nat_lit 768,oB P 768)::(nat_lit 769,M12 z9F "_law_whole" 768)::(nat_lit 773,oB P 773)::(nat_lit 774,M12 z9x "_law_like" 773)::(nat_lit 780,oB P 780)::(nat_lit 781,M12 zaj "_law_bare" 780)::(nat_lit 787,oB P 787)::(nat_lit 788,M12 zb1 "law" 787)::[]
noncomputable def Hf:Heap:=⟨Array.mk ([boot_o_0 P,boot_o_1 P,boot_o_2 P,yDi ⟨g3e P⟩ 100,boot_o_4 P,boot_o_5 P,boot_o_6 P,boot_o_7 P,boot_o_8 P,boot_o_9 P,boot_o_10 P]++al P),(boot_heap P).life⟩
end Gu
lay_quick PySem.Challenge.pw_guisery_k46_whole_worn_and_doffed
namespace Gu
open PySem PySem.W PyProof.Rows PySem.W.Fast
noncomputable abbrev pY:Program:=PySem.Challenge.pw_guisery_k46_whole_worn_and_doffed
noncomputable abbrev pQ:Program:=tw2632489950527330090
noncomputable abbrev tQ:String->Option Builtin:=tw14364793385576792824
def pqe:pY=pQ:=te2632489950527330090
def tqe:treeTable=tQ:=te14364793385576792824
set_option maxHeartbeats 0
def zkv:∀w os,z8b tQ pQ w 11 (some (.ref 6)) 12 (zbR w os) (topStub pQ)=some ((z1k T1 15 187) w os,⟨denote tQ (cdP pQ (Value.ref 13) 14),cdP pQ (Value.ref 13) 14,⟨0,0,0,0⟩,[topFrame zP]⟩):=λw os=>by kernel_rfl
def zk4:∀w os,segRunT tQ pQ w 11 (some (.ref 6)) 1 1 ((z1k T1 15 187) w os) (blockOf (behindTheImports pQ) (z8p pQ (Value.ref 13) 14) (cdP pQ (Value.ref 13) 14) ⟨0,0,0,0⟩ [topFrame zP])=some (.next,(z1k T1 15 187) w os,cdP pQ (Value.ref 13) 14,⟨0,0,0,0⟩):=λw os=>by kernel_rfl
def pc1:z0H tQ pQ (Value.ref 13) 14 0 6 864 (z1k T1 15 187) (z1k T2 71 262) ⟨0,0,0,0⟩ ⟨11,0,12,8⟩:=λw os=>by kernel_rfl
def pc2:z0H tQ pQ (Value.ref 13) 14 6 4 853 (z1k T2 71 262) (z1k T3 119 326) ⟨11,0,12,8⟩ ⟨19,0,20,8⟩:=λw os=>by kernel_rfl
def pc3:z0H tQ pQ (Value.ref 13) 14 10 6 891 (z1k T3 119 326) (z1k T4 174 399) ⟨19,0,20,8⟩ ⟨30,0,31,32⟩:=λw os=>by kernel_rfl
def pc4:z0H tQ pQ (Value.ref 13) 14 16 34 892 (z1k T4 174 399) (z1k T5 352 650) ⟨30,0,31,32⟩ ⟨174,0,183,15⟩:=λw os=>by kernel_rfl
def pc5:z0H tQ pQ (Value.ref 13) 14 50 31 890 (z1k T5 352 650) (z1k T6 465 867) ⟨174,0,183,15⟩ ⟨271,0,274,81⟩:=zfJ (λw os=>by kernel_rfl) (λw os=>by kernel_rfl)
def pc6:z0H tQ pQ (Value.ref 13) 14 81 7 85 (z1k T6 465 867) (z1k T7 472 887) ⟨271,0,274,81⟩ ⟨282,0,282,3⟩:=λw os=>by kernel_rfl
def pc7:z0H tQ pQ (Value.ref 13) 14 88 1 1234 (z1k T7 472 887) (z1k T8 706 1187) ⟨282,0,282,3⟩ ⟨283,0,418,36⟩:=λw os=>by kernel_rfl
def pc8:z0H tQ pQ (Value.ref 13) 14 89 14 407 (z1k T8 706 1187) (z1k T9 789 1308) ⟨283,0,418,36⟩ ⟨521,0,556,91⟩:=λw os=>by kernel_rfl
def zk7:∀w os,zgu tQ pQ w 11 (some (.ref 6)) 2 ((z1k T9 789 1308) w os) ⟨doneF .next,cdP pQ (Value.ref 13) 14,⟨521,0,556,91⟩,[topFrame zP]⟩=some ((z1k T9 789 1308) w os):=λw os=>by kernel_rfl
def zjG:∀w os,z8b treeTable pY w 11 (some (.ref 6)) 12 (zbR w os) (topStub pY)=some ((z1k T1 15 187) w os,⟨denote treeTable (cdP pY (Value.ref 13) 14),cdP pY (Value.ref 13) 14,⟨0,0,0,0⟩,[topFrame zP]⟩):=by rw[tqe,pqe];exact zkv
def zkc:∀w os,segRunT treeTable pY w 11 (some (.ref 6)) 1 1 ((z1k T1 15 187) w os) (blockOf (behindTheImports pY) (z8p pY (Value.ref 13) 14) (cdP pY (Value.ref 13) 14) ⟨0,0,0,0⟩ [topFrame zP])=some (.next,(z1k T1 15 187) w os,cdP pY (Value.ref 13) 14,⟨0,0,0,0⟩):=by rw[tqe,pqe];exact zk4
def pY1:z0H treeTable pY (Value.ref 13) 14 0 6 864 (z1k T1 15 187) (z1k T2 71 262) ⟨0,0,0,0⟩ ⟨11,0,12,8⟩:=by rw[tqe,pqe];exact pc1
def pY2:z0H treeTable pY (Value.ref 13) 14 6 4 853 (z1k T2 71 262) (z1k T3 119 326) ⟨11,0,12,8⟩ ⟨19,0,20,8⟩:=by rw[tqe,pqe];exact pc2
def pY3:z0H treeTable pY (Value.ref 13) 14 10 6 891 (z1k T3 119 326) (z1k T4 174 399) ⟨19,0,20,8⟩ ⟨30,0,31,32⟩:=by rw[tqe,pqe];exact pc3
def pY4:z0H treeTable pY (Value.ref 13) 14 16 34 892 (z1k T4 174 399) (z1k T5 352 650) ⟨30,0,31,32⟩ ⟨174,0,183,15⟩:=by rw[tqe,pqe];exact pc4
def pY5:z0H treeTable pY (Value.ref 13) 14 50 31 890 (z1k T5 352 650) (z1k T6 465 867) ⟨174,0,183,15⟩ ⟨271,0,274,81⟩:=by rw[tqe,pqe];exact pc5
def pY6:z0H treeTable pY (Value.ref 13) 14 81 7 85 (z1k T6 465 867) (z1k T7 472 887) ⟨271,0,274,81⟩ ⟨282,0,282,3⟩:=by rw[tqe,pqe];exact pc6
def pY7:z0H treeTable pY (Value.ref 13) 14 88 1 1234 (z1k T7 472 887) (z1k T8 706 1187) ⟨282,0,282,3⟩ ⟨283,0,418,36⟩:=by rw[tqe,pqe];exact pc7
def pY8:z0H treeTable pY (Value.ref 13) 14 89 14 407 (z1k T8 706 1187) (z1k T9 789 1308) ⟨283,0,418,36⟩ ⟨521,0,556,91⟩:=by rw[tqe,pqe];exact pc8
def zjy:∀w os,zgu treeTable pY w 11 (some (.ref 6)) 2 ((z1k T9 789 1308) w os) ⟨doneF .next,cdP pY (Value.ref 13) 14,⟨521,0,556,91⟩,[topFrame zP]⟩=some ((z1k T9 789 1308) w os):=by rw[tqe,pqe];exact zk7
def zjW:(behindTheImports pY).drop 103=[]:=by kernel_rfl
def zjR:∀w os,topRun treeTable pY w 11 (some (.ref 6)) (864+(853+(891+(892+(890+(85+(1234+(407+2)))))))) ((z1k T1 15 187) w os).abs (restOf ((behindTheImports pY).drop 0) (z8p pY (Value.ref 13) 14) (cdP pY (Value.ref 13) 14) ⟨0,0,0,0⟩ [topFrame zP])=some ((z1k T9 789 1308) w os).abs:=λw os=>by
 have z:=z8Z _ _ _ _ (zjy w os);have z0:topRun treeTable pY w 11 (some (.ref 6)) 2 ((z1k T9 789 1308) w os).abs (restOf ((behindTheImports pY).drop 103) (z8p pY (Value.ref 13) 14) (cdP pY (Value.ref 13) 14) ⟨521,0,556,91⟩ [topFrame zP])=some ((z1k T9 789 1308) w os).abs:=by rw[zjW];exact piece_nil z
 have z1:=z0H.app pY8 z0;have z2:=z0H.app pY7 z1;have z3:=z0H.app pY6 z2;have z4:=z0H.app pY5 z3;have z5:=z0H.app pY4 z4;have z6:=z0H.app pY3 z5;have z7:=z0H.app pY2 z6;have z8:=z0H.app pY1 z7;exact z8
noncomputable abbrev rY:OpenRow:=PySem.Challenge.rw_guisery_k46_whole_worn_and_doffed.row
noncomputable def viewOf(p:Program):Program:={ p with main:={ p.main with body:=[0,2,3,4,5,6,7,8,9,10,11,12,13,15,16,17,18,20,21,22,23,24,25,26,27,28,29,30,32,33,34,35,36,37,38,39,41,42,43,44,45,46,47,49,50,52,53,54,56,57,58,59,60,61,62,64,65,66,67,68,69,70,71,72,73,74,76,77,78,79,80,81,83,84,85,86,87,88,90,91,92,93,94,95,96,97,98,99,100,101,102].map λi=>p.main.body.getD i (.Pass ⟨0,0,0,0⟩) } }
def looseY:List Str:=["order_crews","floor_floors","DEEDS","WRITERS"]
noncomputable abbrev HK:Hook:=PySem.W.kmHook Gu.KH Gu.KA (λ_=>by kernel_rfl) [454]
def hfY:∀P,absHeap (T9 P) 789 (boot_heap P).life=Hf P:=λP=>by kernel_rfl
def lk0:∀(w:World)(os:OsState),(staticsOk (tw5923862056798008813 pQ.main.body) (boot_heap w.params) (Hf w.params)&&namesBound pQ (Hf w.params)&&gensDone (⟨Hf w.params,Array.mk [],boot_drawn,1308,os⟩:Shared)&&laidKept (boot_heap w.params) (Hf w.params))=true:=λw os=>by kernel_rfl
def lk1:∀(w:World)(os:OsState),HK.obs (⟨Hf w.params,Array.mk [],boot_drawn,1308,os⟩:Shared)=HK.val w:=λw os=>by kernel_rfl
noncomputable abbrev qV:Program:=viewOf pQ
noncomputable abbrev sV(w:World)(os:OsState):Shared:=(⟨Hf w.params,Array.mk [],boot_drawn,1308,os⟩:Shared)
def ls0:∀(w:World)(os:OsState),PyProof.Rows.seen ((recsOf qV).map (·.name)) (ownsOf qV) [] { sV w os with gens:=#[] }=expectedOf qV:=λw os=>by kernel_rfl
def ls1:∀(w:World)(os:OsState),(sV w os).heap.bltView=bltViewBooted:=λw os=>by kernel_rfl
def ls2:∀(w:World)(os:OsState),((sV w os).heap.keysOk (looseW qV looseY) ((recsOf qV).map (·.name)) ((litsOf qV).map (·.1)) ((clssOf qV (looseW qV looseY)).map (·.name))&&(sV w os).heap.accountedOkI (tw5923862056798008813 pQ.main.body)&&(sV w os).heap.isNs mainGlobals&&(sV w os).heap.isNs builtinsNs&&tablesOk qV (sV w os).heap&&(xlAt qV [] (sV w os)&&recOk [] (sV w os))&&(if true then(sV w os).gens.size==0 else !leftWithCleanup (sV w os).gens))=true:=λw os=>by kernel_rfl
def ls3:∀(w:World)(os:OsState),tabsOk qV (sV w os)=true:=λw os=>by kernel_rfl
def ls4:∀(w:World)(os:OsState),pinSeenD qV (drecsOf qV) (sV w os)=pinGoodD (drecsOf qV):=λw os=>by kernel_rfl
def ls5:∀(w:World)(os:OsState),plainSeenE qV (looseW qV looseY) (sV w os)=plainGoodE qV (looseW qV looseY):=λw os=>by kernel_rfl
def ls6:∀(w:World)(os:OsState),plainSeenD qV looseY (sV w os)=plainGoodD qV looseY:=λw os=>by kernel_rfl
def ls7:∀(w:World)(os:OsState),wideSeen qV (sV w os)=wideGood qV:=λw os=>by kernel_rfl
def ls8:∀(w:World)(os:OsState),clsSeenW qV looseY (sV w os)=clsGoodW qV looseY:=λw os=>by kernel_rfl
def zg8:∀(w:World)(os:OsState),((staticsOk (tw5923862056798008813 pQ.main.body) (boot_heap w.params) (Hf w.params)&&namesBound pQ (Hf w.params)&&gensDone (⟨Hf w.params,Array.mk [],boot_drawn,1308,os⟩:Shared)&&laidKept (boot_heap w.params) (Hf w.params)),openSeen qV looseY (tw5923862056798008813 pQ.main.body) (λs=>xlAt qV [] s&&recOk [] s) true (sV w os),HK.obs (⟨Hf w.params,Array.mk [],boot_drawn,1308,os⟩:Shared))=(true,openGood qV looseY,HK.val w):=λw os=>by rw[lk0,lk1];unfold openSeen openGood;rw[ls0,ls1,ls2,ls3,ls4,ls5,ls6,ls7,ls8]
def left:LeftO rY.prog (viewOf pY) looseY (λs=>xlAt (viewOf pY) [] s&&recOk (RowW.records rY.toRowW) s) HK.obs HK.val 12342:=by have h:=zg8;rw[<-te5923862056798008813,<-pqe]at h;exact z6H (by kernel_rfl) (by rfl) (λ_=>rfl) rfl hfY zjG zkc zjR (by decide +kernel) h
end Gu
namespace L2
open PySem PySem.Spec PyProof.Rows
def z0s(cells:List (Str × Addr)):List (Str × NameKind)->List (Str × Addr)->List (Str × Addr)
 |[],cs=>cs
 | (n,k)::r,cs=>z0s cells r (if k=.free then(n,(cells.lookup n).getD 0)::cs else cs)
theorem z1p{cells:List (Str × Addr)}:∀(l:List (Str × NameKind))(cs:List (Str × Addr))(x:Str),(∀y,(y,NameKind.free)∈l->∃c,cells.lookup y=some c)->((x,NameKind.free)∈l\/cs.lookup x=cells.lookup x)->(z0s cells l cs).lookup x=cells.lookup x
 |[],cs,x,_,h=>by
  rcases h with h|h
  .cases h
  .exact h
 | (n,k)::r,cs,x,hc,h=>by
  refine z1p r _ x (λy hy=>hc y (y0g _ hy)) ?_;by_cases hk:k=.free
  .subst hk;rw[if_pos rfl];by_cases e:x=n
   .subst e;obtain⟨c,hcx⟩:=hc x y0t;right;rw[y0H,hcx];simp
   .rcases h with h|h
    .rcases y0l.mp h with h|h
     .exact absurd (y2c Prod.fst h) e
     .exact .inl h
    .right;have:(x==n)=false:=by simpa using e
     rw[y0H,this];exact h
  .rw[if_neg hk];rcases h with h|h
   .rcases y0l.mp h with h|h
    .exact absurd (y2c Prod.snd h).symm hk
    .exact .inl h
   .exact .inr h
theorem z2T{cells:List (Str × Addr)}:∀(l:List (Str × NameKind))(cs:List (Str × Addr))(x:Str),(x,NameKind.free)∉l->(z0s cells l cs).lookup x=cs.lookup x
 |[],cs,x,_=>rfl
 | (n,k)::r,cs,x,h=>by
  refine(z2T r _ x (λhy=>h (y0g _ hy))).trans ?_;by_cases hk:k=.free
  .subst hk;rw[if_pos rfl];have e:x≠n:=λe=>h (by subst e;exact y0t);have:(x==n)=false:=by simpa using e
   rw[y0H,this]
  .rw[if_neg hk]
def z1a{scope:Scope}{env:Env}(h:∀y,(y,NameKind.free)∈scope.names->∃c,env.cells.lookup y=some c):closureFor scope env=pure (z0s env.cells scope.names []):=by
 have key:∀(l:List (Str × NameKind))(cs:List (Str × Addr)),(∀y,(y,NameKind.free)∈l->∃c,env.cells.lookup y=some c) ->
   (forIn l cs (λ(x:Str × NameKind)(r:List (Str × Addr))=>if(x.2==NameKind.free)=true then(do let c <-cellOf env x.1;pure (ForInStep.yield ((x.1,c)::r)):Sem _)else pure (ForInStep.yield r)):Sem (List (Str × Addr)))=pure (z0s env.cells l cs):=by
  intro l;induction l with
  |nil=>intro cs _;rfl
  |cons x r ih =>
   intro cs hc;obtain⟨n,k⟩:=x;rw[y27];by_cases hk:k=.free
   .subst hk;obtain⟨c,e⟩:=hc n y0t;have e1:cellOf env n=pure c:=by unfold cellOf;rw[e]
    have e2:z0s env.cells ((n,NameKind.free)::r) cs=z0s env.cells r ((n,c)::cs):=by show z0s env.cells r (if NameKind.free=NameKind.free then(n,(env.cells.lookup n).getD 0)::cs else cs)=_;rw[if_pos rfl,e];all_goals rfl
    rw[e2,<-ih _ (λy hy=>hc y (y0g _ hy))];simp only[beq_self_eq_true,if_true,e1];rfl
   .have hb:(k==NameKind.free)=false:=by simpa using hk
    have e2:z0s env.cells ((n,k)::r) cs=z0s env.cells r cs:=by show z0s env.cells r (if k=NameKind.free then _ else cs)=_;rw[if_neg hk]
    rw[e2,<-ih _ (λy hy=>hc y (y0g _ hy))];simp only[hb,y0B,y35];rfl
 have:=key scope.names [] h;unfold closureFor;simp only[]at this⊢;exact(y2c (λm=>m>>=pure) this).trans rfl
def noE:yyE:=λ_ _=>False
section
variable{prog:Program}{w:World}{A:Around}{R:Result->Shared->Prop}{s:Shared}
end
def zeE(env:Env)(p:Str × NameKind):Str × NameKind:=if(p.2==NameKind.free&&env.scope.kind == .function&&env.kindOf p.1==some .cell)=true then(p.1,NameKind.cell)else p
def z7L{env:Env}{p:Str × NameKind}(h:(p.2==NameKind.free&&env.scope.kind == .function&&env.kindOf p.1==some .cell)=true):zeE env p=(p.1,NameKind.cell):=if_pos h
def z7Z{env:Env}{p:Str × NameKind}(h:¬(p.2==NameKind.free&&env.scope.kind == .function&&env.kindOf p.1==some .cell)=true):zeE env p=p:=if_neg h
theorem z1A{env:Env}{x:Str}:∀{l:List (Str × NameKind)},l.lookup x=some .free->(l.map (zeE env)).lookup x=some .cell\/(l.map (zeE env)).lookup x=some .free
 |[],h=>by simp at h
 | (n,k)::r,h=>by
  rw[y0m];by_cases hc:(k==NameKind.free&&env.scope.kind == .function&&env.kindOf n==some .cell)=true
  .rw[z7L (p:=(n,k)) hc];cases hx:x==n with
   |true=>left;rw[y0H,hx]
   |false =>
    rw[y0H,hx]at h;rw[y0H,hx];exact z1A h
  .rw[z7Z (p:=(n,k)) hc];cases hx:x==n with
   |true=>right;rw[y0H,hx]at h;rw[y0H,hx];exact h
   |false =>
    rw[y0H,hx]at h;rw[y0H,hx];exact z1A h
theorem z1V{env:Env}{x:Str}{kd:NameKind}(hkd:kd=.cell\/kd=.free):∀{l:List (Str × NameKind)},(∀y∈l,y.2≠.cell)->(l.map (zeE env)).lookup x=some kd->(x,NameKind.free)∈l
 |[],_,h=>by simp at h
 | (n,k)::r,hn,h=>by
  rw[y0m]at h;have hk:k≠.cell:=hn (n,k) y0t;have up:(r.map (zeE env)).lookup x=some kd->(x,NameKind.free)∈(n,k)::r:=λh2=>y0g _ (z1V hkd (λy hy=>hn y (y0g _ hy)) h2);by_cases hc:(k==NameKind.free&&env.scope.kind == .function&&env.kindOf n==some .cell)=true
  .rw[z7L (p:=(n,k)) hc]at h;cases hx:x==n with
   |true =>
    have hxn:x=n:=by simpa using hx
    subst hxn;have z:=hc;simp only[y0h,y2k]at z;rw[z.1.1];exact y0t
   |false=>rw[y0H,hx]at h;exact up h
  .rw[z7Z (p:=(n,k)) hc]at h;cases hx:x==n with
   |true =>
    have hxn:x=n:=by simpa using hx
    subst hxn;rw[y0H,hx]at h;have e:k=kd:=y0d h;rcases hkd with z|z
    .exact absurd (e.trans z) hk
    .rw[e,z];exact y0t
   |false=>rw[y0H,hx]at h;exact up h
def z0W(X:Cx)(N:List Str)(scope:Scope)(cl:List (Str × Addr))(C:Addr)(ex:List Addr)(s:Shared)(H:Hp):Cx where
 prog:=X.prog
 w:=X.w
 K:=X.K
 mg:=X.mg
 base:=X.base
 A:=X.A
 N:=N
 s₀:=s
 H₀:=H
 env:=compEnvC scope cl C X.env
 outer:=X.stack
 stack:=X.stack
 ex:=ex
 fn:=λ_=>false
 calm:=X.calm
 pn:=[]
 xe:=noE
structure z0K(XN:List Str)(xsc:Scope)(N:List Str)(ix:List (Option Nat))(scope:Scope):Prop where
 kind:scope.kind=.function:=by rfl
 nocell:∀y∈scope.names,y.2≠.cell:=by decide +kernel
 names:∀y∈scope.names,y.2=.local->scope.names.lookup y.1=some .local:=by decide +kernel
 frees:∀y∈scope.names,y.2=.free->xsc.names.lookup y.1=some .cell\/xsc.names.lookup y.1=some .free:=by decide +kernel
 len:ix.length=N.length:=by rfl
 has:((ix.zip N).all λp=>match p.1 with|none=>true|some j=>XN[j]?==some p.2&&scope.names.lookup p.2==some .free)=true:=by decide +kernel
 nd:N.Nodup:=by decide +kernel
def z18(ix:List (Option Nat))(σ:St):St:=ix.map λo=>o.bind λj=>(σ[j]?).join
def z0K.at_{XN:List Str}{xsc:Scope}{N:List Str}{ix:List (Option Nat)}{scope:Scope}(S:z0K XN xsc N ix scope){i:Nat}{x:Str}{v:V}{σ:St}(hi:N[i]?=some x)(hv:(z18 ix σ)[i]?=some (some v)) : ∃j:Nat,XN[j]?=some x/\scope.names.lookup x=some .free/\σ[j]?=some (some v):=by
 unfold z18 at hv;rw[y0x]at hv;cases e:ix[i]? with
 |none=>rw[e]at hv;cases hv
 |some o =>
  rw[e]at hv;cases o with
  |none=>cases hv
  |some j =>
   have hv':(σ[j]?).join=some v:=y0d hv;have hm:((some j:Option Nat),x)∈ix.zip N:=by
    have:(ix.zip N)[i]?=some (some j,x):=by rw[y2a];exact⟨e,hi⟩
    exact y1v this
   have q:=y0D.mp S.has _ hm;simp only[y0h,y2k]at q;refine⟨j,q.1,q.2,?_⟩;cases z:σ[j]? with
   |none=>rw[z]at hv';cases hv'
   |some u=>rw[z]at hv';exact y2c some hv'
section
variable{X:Cx}{pins:yyP}{σ:St}{H:Hp}{s s1:Shared}{N:List Str}{ix:List (Option Nat)}{scope:Scope}{fp:List Addr}{C:Addr}
def z0y(I:Inv X pins σ H s)(S:z0K X.N X.env.scope N ix scope):∀y,(y,NameKind.free)∈scope.names->∃c,X.env.cells.lookup y=some c:=λy hy=>I.ok.has y (S.frees _ hy rfl)
def z1c(I:Inv X pins σ H s)(S:z0K X.N X.env.scope N ix scope){x:Str}{c:Addr}(h:(z0s X.env.cells scope.names []).lookup x=some c):X.env.cells.lookup x=some c:=by
 by_cases hm:(x,NameKind.free)∈scope.names
 .rw[<-z1p scope.names [] x (z0y I S) (.inl hm)];exact h
 .rw[z2T scope.names [] x hm]at h;cases h
def z78(I:Inv X pins σ H s)(S:z0K X.N X.env.scope N ix scope)(hC:C=s.heap.objs.size)(hf:∀b∈fp,z4n X pins H b)(hfl:∀b∈fp,b<s.heap.objs.size){h1:Heap}{m:yyS}{tk:Nat}(hn:h1.Ns C m)(hk:∀b o,s.heap.get? b=some o->h1.get? b=some o) : Inv (z0W X N scope (z0s X.env.cells scope.names []) C fp s H) [] (z18 ix σ) H { s with heap:=h1,toks:=tk }:=by
 have hne:∀{b:Addr}{o:Obj},X.base.get? b=some o->b∉fp:=λ{b o} e hb=>by
  obtain⟨_,_,_,hx,_⟩:=hf b hb;rcases hx with hx|hx
  .exact I.ok.noex b o e hx
  .exact absurd (y0q (y07 (I.ok.bs b o e).1) hx) (y1w _)
 refine⟨⟨I.ok.mod,S.kind,I.ok.glob,I.ok.blt,y2l hC.symm,?_,?_,?_,I.ok.hd,I.ok.frames,.inl rfl,?_,I.bs,y0k I.ok.bsz I.sz,λb o e=>hne e,?_,I.stack,I.stkFree⟩,
  rfl,I.bare,Un.kept hk,⟨m,hn,?_⟩,?_,I.hok.fresh (y2l hC.symm),?_,λp hp=>absurd (show p∈([]:yyP)from hp) (by simp),I.hok.kept hk,?_⟩
 .intro x y c h1 h2;exact I.ok.inj x y c (z1c I S h1) (z1c I S h2)
 .intro x hx;have hm:(x,NameKind.free)∈scope.names:=by
   rcases hx with hx|hx
   .exact z1V (.inl rfl) S.nocell hx
   .exact z1V (.inr rfl) S.nocell hx
  obtain⟨c,e⟩:=z0y I S x hm;exact⟨c,(z1p scope.names [] x (z0y I S) (.inl hm)).trans e⟩
 .intro x c hx;cases hx
 .intro b hb;obtain⟨_,_,_,_,f4,_⟩:=hf b hb;refine⟨λe=>?_,λx c e=>f4 x c (z1c I S e)⟩;have z:=hfl b hb;have e':b=C:=e;rw[e',hC]at z;exact y1w _ z
 .intro b hb hb2;obtain⟨_,f1,f2,_⟩:=hf b hb;exact(y0l.mp (I.stkSub b hb2)).elim f1 f2
 .intro i x v e1 e2 e3;obtain⟨j,g1,g2,g3⟩:=S.at_ e1 e2;have hm:(x,NameKind.free)∈scope.names:=y0N g2;have hk2:=S.frees _ hm rfl;obtain⟨m0,hn0,hl0⟩:=id I.loc;obtain⟨u,r,l⟩:=hl0 j x v g1 g3 (hk2.elim (λz=>.inr (.inl z)) (λz=>.inr (.inr z)));refine⟨u,r,.inr ⟨z1A g2,?_⟩⟩;rcases l with⟨k,_⟩|⟨k,c,e,z⟩
  .have k':X.env.scope.names.lookup x=some .local:=k;rcases hk2 with z|z<;>(rw[k']at z;cases z)
  .refine⟨c,(z1p scope.names [] x (z0y I S) (.inl hm)).trans e,?_⟩;obtain⟨o,ho,hd⟩:=z;exact⟨o,hk _ _ ho,hd⟩
 .intro x c e;obtain⟨v,o,ho,hd⟩:=I.cell x c (z1c I S e);exact⟨v,o,hk _ _ ho,hd⟩
 .intro x c e;exact I.freeC x c (z1c I S e)
 .unfold z18;rw[y00];exact S.len
end
section
variable{X:Cx}{pins:yyP}{σ:St}{H:Hp}{s:Shared}{N:List Str}{ix:List (Option Nat)}{scope:Scope}{elt iter tg:Expr}{pos:Pos}{g:TG}{te:TE}{E:yyE}
def z8g{C:Addr}{fp:List Addr}{pins':yyP}{σ':St}{Hc:Hp}{s':Shared}(I:Inv X pins σ H s)(S:z0K X.N X.env.scope N ix scope)(J:Inv (z0W X N scope (z0s X.env.cells scope.names []) C fp s H) pins' σ' Hc s'):Inv (z0W X N scope (z0s X.env.cells scope.names []) C fp s H) [] (z18 ix σ) Hc s':=by
 obtain⟨m,hn,_⟩:=J.loc;refine⟨J.ok,J.os,J.bare,J.base,⟨m,hn,?_⟩,J.cell,J.free,J.freeC,λp hp=>absurd (show p∈([]:yyP)from hp) (by simp),J.hok,?_⟩
 .intro i x v e1 e2 e3;obtain⟨j,g1,g2,g3⟩:=S.at_ e1 e2;have hm:(x,NameKind.free)∈scope.names:=y0N g2;have hk2:=S.frees _ hm rfl;obtain⟨m0,hn0,hl0⟩:=id I.loc;obtain⟨u,r,l⟩:=hl0 j x v g1 g3 (hk2.elim (λz=>.inr (.inl z)) (λz=>.inr (.inr z)));refine⟨u,r,.inr ⟨z1A g2,?_⟩⟩;rcases l with⟨k,_⟩|⟨k,c,e,z⟩
  .have k':X.env.scope.names.lookup x=some .local:=k;rcases hk2 with z|z<;>(rw[k']at z;cases z)
  .have ec:(z0s X.env.cells scope.names []).lookup x=some c:=(z1p scope.names [] x (z0y I S) (.inl hm)).trans e;refine⟨c,ec,?_⟩;obtain⟨o,ho,hd⟩:=z;obtain⟨sl,q⟩:=J.base.any ho (I.freeC x c e) (λhx=>(J.ok.exf c hx).2 x c ec rfl);exact⟨_,q,hd⟩
 .unfold z18;rw[y00];exact S.len
end
open PySem.AutoSeq1 (wpAny_loadPart')
def zaw(lo:Int)(n:Nat):List V:=(List.range n).map λi=>V.int (lo+(i:Nat))
def z3p(lo:Int)(n:Nat):(zaw lo n).length=n:=by unfold zaw;simp
def z2A{lo c:Int}{acc:Array Value}{n:Nat}(hc:c=1)(h:ItemsOf (λi v=>∃t,v=.int (lo+i*c) t) acc n):z0B (zaw lo n) acc.toList:=by
 subst hc;obtain⟨hs,hi⟩:=h;have key:∀(k:Nat)(i:Nat),i+k=n->z0B (((List.range n).drop i).map λj=>V.int (lo+(j:Nat))) (acc.toList.drop i):=by
  intro k;induction k with
  |zero =>
   intro i hk;rw[y1g (by simp;lia),y1g (by simp;lia)];exact .nil
  |succ k ih =>
   intro i hk;have h1:i<acc.size:=by lia
   have e1:(List.range n).drop i=i::(List.range n).drop (i+1):=by rw[y1P (by simp;lia)];simp
   have e2:acc.toList.drop i=acc[i]::acc.toList.drop (i+1):=by rw[y1P (by simpa using h1)];simp
   rw[e1,e2,y0m];refine .cons ?_ (ih (i+1) (by lia));obtain⟨t,e⟩:=hi i acc[i] (by simp[h1]);exact⟨t,by rw[e,Int.mul_one]⟩
 have:=key n 0 (by lia);simpa[zaw]using this
section
variable{X:Cx}
def z85:z0Q X (.type "range") (λxs H Q=>∃j:Int,xs=[.int j]/\-(2^62)<=j/\j<2^62/\∀p,H p=none->Q (.ref p) (upd H p (.rng 0 j))):=by intro pins s σ H xs us Q I r h;obtain⟨j,rfl,h1,h2,q⟩:=h;obtain⟨u,rfl,ru⟩:=z1Z r;obtain⟨t,rfl⟩:=ru;refine call_range_1 ?_;exact⟨.ref s.heap.objs.size,upd H s.heap.objs.size (.rng 0 j),I.laid (o:=.rng 0 j) (λb u e=>y02 _ e) (y0a _) ⟨_,_,_,y05 _ rfl⟩,rfl,q _ I.fresh⟩
theorem Inv.rng{pins:yyP}{σ:St}{H:Hp}{s:Shared}{p:Addr}{lo hi:Int}(I:Inv X pins σ H s)(h:H p=some (.rng lo hi)):∃t u v,IsRange s.heap p lo hi 1 t u v:=by obtain⟨t,u,v,e⟩:=I.hok p _ h;exact⟨t,u,v,e⟩
def z7a{lo hi:Int}:Builtin.Range.rangeSize lo hi 1=(((hi-lo).toNat:Nat):Int):=by rw[rangeSize_one];split<;>lia
def z4Q(hc:X.calm=true):z0Q X (.type "list") (λxs H Q=>∃p lo hi,xs=[.ref p]/\H p=some (.rng lo hi)/\(-(2^62)<=lo/\lo<2^62/\-(2^62)<=hi/\hi<2^62)/\(hi-lo).toNat<=2^24 /\ ∀l,H l=none->Q (.ref l) (upd H l (.lst (zaw lo (hi-lo).toNat)))):=by intro pins s σ H xs us Q I r h;obtain⟨p,lo,hi,rfl,hp,⟨b1,b2,b3,b4⟩,hn,q⟩:=h;obtain⟨u,rfl,ru⟩:=z1Z r;cases ru;obtain⟨t,u,v,hr⟩:=I.rng hp;refine call_list_range (I.ok.hd hc) hr (small_one b1 b2 b3 b4) z7a hn λh' tk acc c' hk hl hacc=>?_;have hv:=z2A rfl hacc;exact⟨.ref _,_,I.laid (o:=.lst (zaw lo (hi-lo).toNat)) (λb u e=>hk b u e) (y0a _) ⟨by rw[z3p,y2h];lia,acc.toList,c',hv,by simpa using hl⟩,rfl,q _ I.fresh⟩
end
section
variable{prog:Program}{w:World}{A:Around}{E:yyE}{s:Shared}
def z6g{Q:List Value->Shared->Prop}{r:Addr}{a b c:Int}{t u v:Tok}{n:Nat}(hh:A.handled=none)(hr:IsRange s.heap r a b c t u v)(hsmall:Builtin.Range.small a b c=true)(hn:Builtin.Range.rangeSize a b c=n)(hlen:n<=2^24)(hQ:∀h' tk acc,(∀b o,s.heap.get? b=some o->h'.get? b=some o)->s.heap.objs.size<=h'.objs.size->ItemsOf (λi v=>∃t,v=.int (a+i*c) t) acc n->Q acc.toList { s with heap:=h',toks:=tk }) : wpAny (model prog w) A (collect (.ref r)) Q E s:=by
 unfold collect;refine y01 (wpAny_runValue (codeAny_builtin F.entry_proto_collect ?_));rw[Around.under_plainId F.plain_proto_collect _];show wpAny _ A.in1 (newList []>>=λl =>
  again (.builtin "list.__iadd__" ⟨[l,.ref r],[]⟩)) _ _ s
 refine y01 (y0A ?_);refine y03 ⟨plainId_quiet F.plain_list_iadd _,codeAny_builtin F.entry_list_iadd ?_⟩;rw[Around.under_plainId F.plain_list_iadd _];show wpAny _ A.in1 (Builtin.List.listExtendWith (.ref s.heap.objs.size) (.ref r)
  (.ref s.heap.objs.size)) _ _ _
 have hS:(s.heap.push { cls:=.type "list",data:=.seq ([]:List Value).toArray }).get? s.heap.objs.size=some
  { cls:=.type "list",data:=.seq #[] 0 }:=y05 _ rfl
 have fin':∀(h':Heap) (tk:Nat) (acc:Array Value) (c':Nat),(∀b o,b≠s.heap.objs.size->(s.heap.push { cls:=.type "list",data:=.seq ([]:List Value).toArray }).get? b=some o->h'.get? b=some o) ->
   h'.get? s.heap.objs.size=some { cls:=.type "list",dict:=none,data:=.seq acc c',slots:=#[] }->ItemsOf (λi v=>∃t,v=.int (a+i*c) t) acc n ->
   wpAny (model prog w) A (match Value.ref s.heap.objs.size with
    |Value.ref a=>do
     match (<-load a).data with
      |Data.seq xs _=>pure xs.toList
      |_=>unsupported "internal:collect"
    |_=>unsupported "internal:collect") Q E { s with heap:=h',toks:=tk }:=λh' tk acc c' hk hS' hacc=>by
  show wpAny _ A (load s.heap.objs.size>>=_) _ _ _;refine y01 (wpAny_load hS' (y03 ?_));exact hQ h' tk acc (λb o e=>hk b o (y0p (y07 e)) (y02 _ e)) (y0Z (y07 hS')) hacc
 refine y0I (wpAny_extend_range (A:=A) (R:=λr s'=>r=.ok (.ret (.ref s.heap.objs.size))/\wpAny (model prog w) A (match Value.ref s.heap.objs.size with
    |Value.ref a=>do
     match (<-load a).data with
      |Data.seq xs _=>pure xs.toList
      |_=>unsupported "internal:collect"
    |_=>unsupported "internal:collect") Q E s') (s:={ s with heap:=s.heap.push { cls:=.type "list",data:=.seq ([]:List Value).toArray } }) hh (y02 _ hr) hsmall hn hlen _ (.ref s.heap.objs.size) 0 hS
  λh' tk acc c' hk hS' hacc=>⟨rfl,fin' h' tk acc c' hk hS' hacc⟩) (λfin s' h=>?_) (λe s' h=>?_)
 .cases fin with
  |done f =>
   obtain⟨e,h⟩:=h;cases e;exact h
  |again c'=>exact⟨h.1,y23 h.2 λr s'' hr=>by obtain⟨rfl,h2⟩:=hr;exact h2⟩
 .exact absurd h.1 (by simp)
end
def z3y(r:Addr){a b c:Int}{t u v:Tok}{n:Nat}(hsmall:Builtin.Range.small a b c=true)(hn:Builtin.Range.rangeSize a b c=n)(hlen:n<=2^24) : Meets (Builtin.«tuple.__new__» ⟨[.type "tuple",.ref r],[]⟩) (λA R s=>A.handled=none/\IsRange s.heap r a b c t u v/\∀(h':Heap) (tk:Nat) (acc:Array Value),(∀b o,s.heap.get? b=some o->h'.get? b=some o)->s.heap.objs.size<=h'.objs.size->ItemsOf (λi v=>∃t,v=.int (a+i*c) t) acc n -> R (.ok (.ret (.ref h'.objs.size))) { s with heap:=h'.push { cls:=.type "tuple",data:=.seq acc },toks:=tk }) :=
 .of_wp λprog w A R s h=>by
  obtain⟨hh,hr,h⟩:=h;have hsub:=sub_tuple_self;have hinit:=init_tuple_lookup;have hmh:=madeHere_tuple;have hT:s.TypeIs (.ref r) "range":=⟨_,hr,rfl⟩;have hh1:A.in1.handled=none:=hh
  wp_walk using wpAny_typeOf hT,z6g hh1 hr hsmall hn hlen
  intro h' tk acc hk hz hacc;show wpAny _ _ (Builtin.Tuple.tupleExact acc.toList.toArray >>=
   λv=>ret v) _ _ _
  unfold Builtin.Tuple.tupleExact;refine y01 (y0A ?_ (show acc.toList.toArray.size<=sizeLine by simp only[Array.toArray_toList];rw[hacc.1,y2h];lia));refine y03 ⟨_,rfl,?_⟩;have e:acc.toList.toArray=acc:=by simp
  rw[e];exact h h' tk acc hk hz hacc
section
variable{X:Cx}
def z49(hc:X.calm=true):z0Q X (.type "tuple") (λxs H Q=>∃p lo hi,xs=[.ref p]/\H p=some (.rng lo hi)/\(-(2^62)<=lo/\lo<2^62/\-(2^62)<=hi/\hi<2^62)/\(hi-lo).toNat<=2^24 /\ ∀l,H l=none->Q (.ref l) (upd H l (.tup (zaw lo (hi-lo).toNat)))):=by
 intro pins s σ H xs us Q I r h;obtain⟨p,lo,hi,rfl,hp,⟨b1,b2,b3,b4⟩,hn,q⟩:=h;obtain⟨u,rfl,ru⟩:=z1Z r;cases ru;obtain⟨t,u,v,hr⟩:=I.rng hp;refine callType_new F.called_tuple (by decide) (F.typeCall_tuple_1 _) (F.newCall_tuple_1 _) (λobj=>F.args_object_init_2 obj _) F.entry_tuple_new
  (z3y p (t:=t) (u:=u) (v:=v) (small_one b1 b2 b3 b4) z7a hn) ⟨I.ok.hd hc,hr,λh' tk acc hk hz hacc=>⟨⟨_,y05 _ rfl,rfl⟩,?_⟩⟩
 have hv:=z2A rfl hacc;have hf:H h'.objs.size=none:=I.hok.fresh hz;refine⟨.ref _,_,I.laid (o:=.tup (zaw lo (hi-lo).toNat)) (λb u e=>y02 _ (hk b u e)) hz ⟨by rw[z3p,y2h];lia,acc.toList,0,hv,by rw[show acc.toList.toArray=acc by simp];exact y05 _ rfl⟩,rfl,q _ hf⟩
end
section
variable{X:Cx}
def z3k{prog:Program}{w:World}{A:Around}{its:Array Value}{bs:List Bool}(r:z0B (bs.map V.bl) its.toList):TruthOf prog w A (λi v=>its[i]?=some v) (λi=>bs.getD i false):=by
 intro i v s Q E hi hq;have hl:=r.length;rw[y00]at hl;have hlt:i<bs.length:=by
  have:i<its.size:=by
   rcases Nat.lt_or_ge i its.size with z|z
   .exact z
   .rw[y1Y z]at hi;cases hi
  simp at hl;lia
 have h1:(bs.map V.bl)[i]?=some (.bl bs[i]):=by simp[hlt]
 obtain⟨u,hu,ru⟩:=r.get h1;have:u=v:=by
  have e:its.toList[i]?=some v:=by simpa using hi
  rw[e]at hu;exact(y0d hu).symm
 subst this;cases ru;refine y1h ?_;have e:bs.getD i false=bs[i]:=by simp[hlt]
 have hq':Q (bs.getD i false) s:=hq;rw[e]at hq';exact hq'
def za1{n:Nat}{bs:List Bool}(h:bs.length=n):(List.range n).all (λi=>bs.getD i false)=bs.all id:=by
 subst h;rw[Bool.eq_iff_iff,y0D,y0D];constructor
 .intro h b hb;obtain⟨i,hi,e⟩:=y2i hb;have:=h i (by simpa using hi);simp[hi,e]at this;exact this
 .intro h i hi;have hi:i<bs.length:=by simpa using hi
  have:=h bs[i] (y13 hi);simp[hi];exact this
def z8U{n:Nat}{bs:List Bool}(h:bs.length=n):(List.range n).any (λi=>bs.getD i false)=bs.any id:=by
 subst h;rw[Bool.eq_iff_iff,List.any_eq_true,List.any_eq_true];constructor
 .rintro⟨i,hi,e⟩;have hi:i<bs.length:=by simpa using hi
  refine⟨bs[i],y13 hi,?_⟩;simp[hi]at e;exact e
 .rintro⟨b,hb,e⟩;obtain⟨i,hi,e'⟩:=y2i hb;refine⟨i,by simpa using hi,?_⟩;simp[hi,e'];exact e
def zbp(hc:X.calm=true):z0Q X (.builtin "all") (λxs H Q=>∃(p:Addr) (bs:List Bool),xs=[.ref p]/\SqL X.K H p (bs.map V.bl)/\Q (.bl (bs.all id)) H):=by
 intro pins s σ H xs us Q I r h;obtain⟨p,bs,rfl,hp,q⟩:=h;obtain⟨u,rfl,ru⟩:=z1Z r;cases ru;obtain⟨its,rv,pl,hz⟩:=I.list hp;have hlt:p<s.heap.objs.size:=by obtain⟨o,n,e,_⟩:=pl;exact y07 e
 have hl:=rv.length;rw[y00]at hl;refine call_all_walk (wpAny_pyIter_list pl.isList ?_);refine⟨s.heap.objs.size,_,_,_,_,_,λi=>bs.getD i false,rfl,Walks.list (A:=X.A.in1) (show X.A.in1.handled=none from I.ok.hd hc) s.heap.objs.size p (y0p hlt) its.toArray,⟨⟨_,y05 _ rfl,rfl,rfl⟩,Heap.IsList.push pl.isList _⟩,z3k (by simpa using rv),λh' tk hk=>?_⟩;rw[za1 (by simpa using hl)];exact⟨.bl _,H,I.kept (t':=tk) (λb o e=>hk b o (by simpa using(y0p (y07 e))) (y02 _ e)),rfl,q⟩
def zbi(hc:X.calm=true):z0Q X (.builtin "any") (λxs H Q=>∃(p:Addr) (bs:List Bool),xs=[.ref p]/\SqL X.K H p (bs.map V.bl)/\Q (.bl (bs.any id)) H):=by
 intro pins s σ H xs us Q I r h;obtain⟨p,bs,rfl,hp,q⟩:=h;obtain⟨u,rfl,ru⟩:=z1Z r;cases ru;obtain⟨its,rv,pl,hz⟩:=I.list hp;have hlt:p<s.heap.objs.size:=by obtain⟨o,n,e,_⟩:=pl;exact y07 e
 have hl:=rv.length;rw[y00]at hl;refine call_any_walk (wpAny_pyIter_list pl.isList ?_);refine⟨s.heap.objs.size,_,_,_,_,_,λi=>bs.getD i false,rfl,Walks.list (A:=X.A.in1) (show X.A.in1.handled=none from I.ok.hd hc) s.heap.objs.size p (y0p hlt) its.toArray,⟨⟨_,y05 _ rfl,rfl,rfl⟩,Heap.IsList.push pl.isList _⟩,z3k (by simpa using rv),λh' tk hk=>?_⟩;rw[z8U (by simpa using hl)];exact⟨.bl _,H,I.kept (t':=tk) (λb o e=>hk b o (by simpa using(y0p (y07 e))) (y02 _ e)),rfl,q⟩
end
open PySem.AutoSeq1 (wpAny_loadPart')
section
variable{prog:Program}{w:World}{A:Around}{E:yyE}{s:Shared}
def z59{it t:Addr}{i:Nat}{its:Array Value}{x:Value}{Q:yyE}(hit:s.heap.IsTupleIter it t i)(ht:s.heap.IsTuple t its)(hx:its[i]?=some x)(hQ:∀h',h'.IsTupleIter it t (i+1)->Heap.SameBut it s.heap h'->Q x { s with heap:=h' }):wpAny (model prog w) A (Builtin.SmallTypes.nextOf (.ref it)) Q E s:=by
 obtain⟨o,ho,hc,hd⟩:=id hit;obtain⟨ol,hol,_,nl,hdl⟩:=ht;unfold Builtin.SmallTypes.nextOf;refine y01 (y0E (name:=Str.ofString "__next__") hit.typeIs y1F
  (y0K y1F hit.typeIs F.entry_tuple_iterator_next ?_
   (F.args_tuple_iterator_next_1 _)))
 show wpAny _ _ (field (.ref it) 0>>=_) _ _ s;refine y01 (y1d ho hd (x:=.ref t) rfl ?_);show wpAny _ _ (if(Value.ref t==Value.none)=true
  then _ else _) _ _ s
 rw[if_neg (show ¬((Value.ref t==Value.none)=true)
  from y0c)]
 show wpAny _ _ (field (.ref it) 1>>=_) _ _ s;refine y01 (y1d ho hd (x:=.int i 0) rfl ?_);show wpAny _ _ (seqItems? (.ref t)>>=_) _ _ s;refine y01 (y1Q hol hdl ?_);simp only[y0J,hx];refine y01 (y2L ho hd (by simp) (y03
  ⟨x,rfl,y03 (hQ _ ?_ (y1E ..))⟩))
 exact⟨_,y2O _ ho (Obj.isFreed_of_fields (y2v hd _)),
  (Obj.cls_mapFields ..).trans hc,by rw[y2v hd];simp[rawInt]⟩
def z65{it t:Addr}{i:Nat}{its:Array Value}{Q:yyE}(hh:A.handled=none)(hit:s.heap.IsTupleIter it t i)(ht:s.heap.IsTuple t its)(hx:its[i]?=none)(hE:∀h' e,Heap.ExtBut it s.heap h'->(∃o,h'.get? e=some o/\o.cls=.type "StopIteration")->E (.ref e) { s with heap:=h' }):wpAny (model prog w) A (Builtin.SmallTypes.nextOf (.ref it)) Q E s:=by
 obtain⟨o,ho,hc,hd⟩:=id hit;obtain⟨ol,hol,_,nl,hdl⟩:=ht;unfold Builtin.SmallTypes.nextOf;refine y01 (y0E (name:=Str.ofString "__next__") hit.typeIs y1F
  (y0K y1F hit.typeIs F.entry_tuple_iterator_next ?_
   (F.args_tuple_iterator_next_1 _)))
 show wpAny _ _ (field (.ref it) 0>>=_) _ _ s;refine y01 (y1d ho hd (x:=.ref t) rfl ?_);show wpAny _ _ (if(Value.ref t==Value.none)=true
  then _ else _) _ _ s
 rw[if_neg (show ¬((Value.ref t==Value.none)=true)
  from y0c)]
 show wpAny _ _ (field (.ref it) 1>>=_) _ _ s;refine y01 (y1d ho hd (x:=.int i 0) rfl ?_);show wpAny _ _ (seqItems? (.ref t)>>=_) _ _ s;refine y01 (y1Q hol hdl ?_);simp only[y0J,hx];refine y01 (wpAny_rule (y01 (y2L ho hd (by simp) ?_)));show wpAny _ _ (newExc (.type "StopIteration") []>>=_) _ _ _;refine y01 ?_;simp only[newExc,newTuple];refine y01 (y0A ?_ (by size_fits));refine y01 (m:=firstArgMember _ _) (wpAny_of_eq (a:=Value.none)
  (by first|rfl|(simp only[firstArgMember];rfl)) ?_)
 refine y0A ?_ (by size_fits);simp only[raiseNew];refine y01 (wpAny_handled ?_);first|rw[show A.in1.handled=none from hh]|rw[hh]
 refine y01 (y03 (wpAny_throw ?_));exact hE _ _ (((y1E ..).extBut.push _).push _)
  ⟨_,y05 _ rfl,rfl⟩
def z3w(hh:A.handled=none)(it t:Addr)(hne:t≠it)(its:Array Value):Draws prog w A it [it,t] its.size (λi v=>its[i]?=some v) (λi h=>h.IsTupleIter it t i/\h.IsTuple t its) where
 live:=λi h st=>by obtain⟨⟨o,e,_⟩,_⟩:=st;exact⟨o,e⟩
 frame:=λi h h' st hk=>by obtain⟨⟨o,e,c⟩,⟨o2,e2,c2⟩⟩:=st;exact⟨⟨o,hk it (by simp) _ e,c⟩,⟨o2,hk t (by simp) _ e2,c2⟩⟩
 item:=λi s Q E hi st hQ=>by refine z59 st.1 st.2 (x:=its[i]) (by simp[hi]) λh' hit' hs'=>?_;obtain⟨o2,e2,c2⟩:=st.2;exact hQ _ h' s.toks (by simp[hi]) ⟨hit',⟨o2,(hs'.2 t hne).trans e2,c2⟩⟩ hs'
 done:=λs Q E st hE=>z65 hh st.1 st.2 (by simp) hE
end
def Inv.turnedNew{X:Cx}{pins:yyP}{σ:St}{H:Hp}{s:Shared}{ch:List Addr}{p:Addr}{o:HO}{h':Heap}{t':Nat}(I:Inv X pins σ H s)(k:∀b u,b∉ch->s.heap.get? b=some u->h'.get? b=some u)(hp:s.heap.objs.size<=p)(new:z0X X.prog X.w (upd H p o) h' p o)(hf:∀b∈ch,z4n X pins H b):Inv X pins σ (upd H p o) { s with heap:=h',toks:=t' }:=by
 have hn:H p=none:=I.hok.fresh hp;have nc:∀b u,H b=some u->b∉ch:=λb u e z=>by rw[(hf b z).1]at e;cases e
 refine I.step (g':=s.gens) (d':=s.drawn) (ch:=ch) (λb hb=>?_) (λb u _ _ hc e _=>k b u hc e) (λb u _ _ hc e _=>⟨u.slots,k b u hc e⟩) (λb u _ e n=>?_) (λb u hc e=>⟨u,k b u hc e⟩)
  (λb xs e=>?_) (λb u xs e=>?_) (λb ps e=>⟨#[],?_⟩) (λm hm=>?_) (λb u e=>?_) I.bare
 .obtain⟨_,f1,_,f3,f4,f5⟩:=hf b hb;exact⟨f3,f1,f4,f5⟩
 .rw[z0f (y0p (y0q (y07 e) hp))];exact n
 .rw[z0f (z0i e hn)];exact e
 .rw[z0f (z0i e hn)];exact e
 .rw[z0f (z0i e hn),e];simp
 .obtain⟨ob,es,ep,ho,r⟩:=hm;exact⟨ob,es,ep,k _ ob (λz=>(hf _ z).2.1 rfl) ho,r⟩
 .by_cases hb:b=p
  .subst hb;rw[z0e]at e;cases e;exact new
  .rw[z0f hb]at e;refine(I.hok b u e).stay (λc v hc q=>k c v ?_ q) (λc q=>by rw[z0f (z0i q hn)];exact q) λc xs q=>by rw[z0f (z0i q hn)];exact q
   rcases hc with z|z
   .rw[z];exact nc b u e
   .exact nc c _ z
def Inv.turnedL{X:Cx}{pins:yyP}{σ:St}{H:Hp}{s:Shared}{ch:List Addr}{h':Heap}{t':Nat}(I:Inv X pins σ H s)(k:∀b u,b∉ch->s.heap.get? b=some u->h'.get? b=some u)(hf:∀b∈ch,z4n X pins H b):Inv X pins σ H { s with heap:=h',toks:=t' }:=by
 have nc:∀b u,H b=some u->b∉ch:=λb u e z=>by rw[(hf b z).1]at e;cases e
 refine I.step (g':=s.gens) (d':=s.drawn) (ch:=ch) (λb hb=>?_) (λb u _ _ hc e _=>k b u hc e) (λb u _ _ hc e _=>⟨u.slots,k b u hc e⟩) (λb u _ e n=>n) (λb u hc e=>⟨u,k b u hc e⟩)
  (λb xs e=>e) (λb u xs e=>e) (λb ps e=>⟨#[],by rw[e];simp⟩) (λm hm=>?_) (λb u e=>?_) I.bare
 .obtain⟨_,f1,_,f3,f4,f5⟩:=hf b hb;exact⟨f3,f1,f4,f5⟩
 .obtain⟨ob,es,ep,ho,r⟩:=hm;exact⟨ob,es,ep,k _ ob (λz=>(hf _ z).2.1 rfl) ho,r⟩
 .refine(I.hok b u e).stay (λc v hc q=>k c v ?_ q) (λc q=>q) λc xs q=>q;rcases hc with z|z
  .rw[z];exact nc b u e
  .exact nc c _ z
section
variable{X:Cx}{elts:List Expr}{tk:Nat}{tp:Pos}
def Itz(K:yyF)(a b:Addr):It :=
 ⟨λi H=>∃xs ys x y,SqL K H a xs/\SqL K H b ys/\xs[i]?=some x/\ys[i]?=some y,
  λi H v H'=>∃p x y,v=.ref p/\H p=none/\(∀xs,SqL K H a xs->xs[i]?=some x)/\(∀ys,SqL K H b ys->ys[i]?=some y)/\H'=upd H p (.tup [x,y]),
  λi H=>∃xs ys,SqL K H a xs/\SqL K H b ys/\(xs.length<=i\/ys.length<=i)⟩
def z1t{h:Heap}{a b:Addr}{o u:Obj}{x y:String}(ha:h.get? a=some o)(hb:h.get? b=some u)(hx:o.cls=.type x)(hy:u.cls=.type y)(hxy:x≠y):a≠b:=by intro e;subst e;rw[ha]at hb;cases hb;rw[hx]at hy;injection hy with hy;exact hxy hy
def zbF{P:Program}{w:World}{K:yyF}(a b z TI TO i1 i2:Addr)(D:TI≠z/\TO≠z/\i1≠z/\i2≠z/\TI≠TO/\TI≠i1/\TI≠i2/\TO≠i1/\TO≠i2/\i1≠i2) : z8M P w K (.Tuple elts tk tp) (Itz K a b) [z,TI,TO,i1,i2] z (λi h=>IsZip h z TI TO .none/\IsPair h TI (.ref i1) (.ref i2)/\(∃u v,IsPair h TO u v)/\h.IsListIter i1 a i/\h.IsListIter i2 b i) where
 mem:=by simp
 obj:=λi h st c hc=>by
  obtain⟨hz,hTI,⟨u,v,hTO⟩,⟨o1,e1,c1,d1⟩,⟨o2,e2,c2,d2⟩⟩:=st;simp at hc;rcases hc with q|q|q|q|q
  .rw[q];exact⟨_,hz,λv z=>by cases z⟩
  .rw[q];exact⟨_,hTI,λv z=>by cases z⟩
  .rw[q];exact⟨_,hTO,λv z=>by cases z⟩
  .rw[q];exact⟨_,e1,λv z=>by rw[d1]at z;cases z⟩
  .rw[q];exact⟨_,e2,λv z=>by rw[d2]at z;cases z⟩
 keep:=λi h h' st k=>by obtain⟨hz,hTI,⟨u,v,hTO⟩,⟨o1,e1,c1⟩,⟨o2,e2,c2⟩⟩:=st;exact⟨k z (by simp) _ hz,k TI (by simp) _ hTI,⟨u,v,k TO (by simp) _ hTO⟩,⟨o1,k i1 (by simp) _ e1,c1⟩,⟨o2,k i2 (by simp) _ e2,c2⟩⟩
 item:=by
  intro X hP hw hK hc i pins s σ H E I hf st hg;subst hP hw hK;obtain⟨hz,hTI,⟨u,v,hTO⟩,h1,h2⟩:=st;obtain⟨xs,ys,x,y,hxs,hys,hx,hy⟩:=hg;obtain⟨its,rv,p,_⟩:=I.list hxs;obtain⟨itt,rw',p',_⟩:=I.list hys;obtain⟨ux,hux,rux⟩:=rv.get hx;obtain⟨uy,huy,ruy⟩:=rw'.get hy;obtain⟨d1,d2,d3,d4,d5,d6,d7,d8,d9,d10⟩:=D;have Da:∀{l:Addr}{its:Array Value},s.heap.IsList l its->l≠z/\l≠TO/\l≠i1/\l≠i2:=λ{l its} hl=>by obtain⟨o,e,c,_⟩:=hl;obtain⟨o1,e1,c1,_⟩:=id h1;obtain⟨o2,e2,c2,_⟩:=id h2;exact⟨z1t e hz c rfl (by decide),z1t e hTO c rfl (by decide),z1t e e1 c c1 (by decide),z1t e e2 c c2 (by decide)⟩
  obtain⟨a1,a2,a3,a4⟩:=Da p.isList;obtain⟨b1,b2,b3,b4⟩:=Da p'.isList;refine wpAny_pyNext_zip_item ⟨d1,d2,d3,d4,d5,d6,d7,d8,d9,d10,a1,a2,a3,a4,b1,b2,b3,b4⟩ hz hTI hTO h1 h2 p.isList p'.isList (x:=ux) (y:=uy) (by simpa using hux) (by simpa using huy) λh' q1 q2 q3 q4 q5 q6 hk=>?_;refine⟨_,rfl,wpAny_letOwnedTupleGo_zip q1 λh2' hz2 hs2=>?_⟩;have zlt:z<s.heap.objs.size:=y07 hz;have kk:∀c o,c∉[z,TO,i1,i2]->s.heap.get? c=some o->h2'.get? c=some o:=λc o hc q=>by simp at hc;exact(hs2.2 c hc.1).trans (hk c o hc.1 hc.2.1 hc.2.2.1 hc.2.2.2 q)
  have sub:∀c∈[z,TO,i1,i2],c∈[z,TI,TO,i1,i2]:=λc hc=>by simp at hc⊢;rcases hc with q|q|q|q<;>simp[q]
  have I1:Inv X pins σ (upd H s.heap.objs.size (.tup [x,y])) { s with heap:=h2',toks:=s.toks }:=by refine I.turnedNew (ch:=[z,TO,i1,i2]) kk (y0a _) ?_ (λc hc=>hf c (sub c hc));exact⟨by show 2<=sizeLine;decide,[ux,uy],0,.cons rux (.cons ruy .nil),(hs2.2 _ (y3i zlt)).trans q5⟩
  have up:∀{c:Addr}{o:Obj},c≠z->h'.get? c=some o->h2'.get? c=some o:=λ{c o} hc q=>(hs2.2 c hc).trans q;obtain⟨o3,e3,c3⟩:=q3;obtain⟨o4,e4,c4⟩:=q4;refine⟨.ref s.heap.objs.size,_,I1,rfl,⟨s.heap.objs.size,x,y,rfl,I.fresh,λzs hz'=>by rw[I.list_inj hz' hxs];exact hx,λzs hz'=>by rw[I.list_inj hz' hys];exact hy,rfl⟩,⟨hz2,?_,⟨_,_,up d2 q2⟩,⟨o3,up d3 e3,c3⟩,⟨o4,up d4 e4,c4⟩⟩,λc hc=>?_⟩
  .exact up d1 (hk TI _ d1 d5 d6 d7 hTI)
  .have c0:=(hf c hc).1;have lt:c<s.heap.objs.size:=by
    obtain⟨o1,e1,_⟩:=id h1;obtain⟨o2,e2,_⟩:=id h2;simp at hc;rcases hc with q|q|q|q|q
    .rw[q];exact zlt
    .rw[q];exact y07 hTI
    .rw[q];exact y07 hTO
    .rw[q];exact y07 e1
    .rw[q];exact y07 e2
   rw[z0f (y0p lt)];exact c0
 done:=by
  intro X hP hw hK hc i pins s σ H E I hf st hg;subst hP hw hK;obtain⟨hz,hTI,⟨u,v,hTO⟩,h1,h2⟩:=st;obtain⟨xs,ys,hxs,hys,hx⟩:=hg;obtain⟨its,rv,p,_⟩:=I.list hxs;obtain⟨itt,rw',p',_⟩:=I.list hys;obtain⟨d1,d2,d3,d4,d5,d6,d7,d8,d9,d10⟩:=D;have Da:∀{l:Addr}{its:Array Value},s.heap.IsList l its->l≠z/\l≠TO/\l≠i1/\l≠i2:=λ{l its} hl=>by obtain⟨o,e,c,_⟩:=hl;obtain⟨o1,e1,c1,_⟩:=id h1;obtain⟨o2,e2,c2,_⟩:=id h2;exact⟨z1t e hz c rfl (by decide),z1t e hTO c rfl (by decide),z1t e e1 c c1 (by decide),z1t e e2 c c2 (by decide)⟩
  obtain⟨a1,a2,a3,a4⟩:=Da p.isList;obtain⟨b1,b2,b3,b4⟩:=Da p'.isList;have l1:=rv.length;have l2:=rw'.length;refine wpAny_pyNext_zip_end (I.ok.hd hc) ⟨d1,d2,d3,d4,d5,d6,d7,d8,d9,d10,a1,a2,a3,a4,b1,b2,b3,b4⟩ hz hTI hTO h1 h2 p.isList p'.isList ?_ λh' hk=>⟨rfl,?_⟩
  .rcases hx with q|q
   .left;simp;lia
   .right;simp;lia
  .refine I.turnedL (ch:=[z,TO,i1,i2]) (t':=s.toks) (λc o hcc q=>?_) (λc hcc=>hf c ?_)
   .simp at hcc;exact hk c o hcc.1 hcc.2.1 hcc.2.2.1 hcc.2.2.2 q
   .simp at hcc⊢;rcases hcc with q|q|q|q<;>simp[q]
 self:=λA i s Q E st h=>y2X st.1 h
def zjC(K:yyF)(ta:TA):TI:=λσ H R=>ta σ H λvs H1=>∃a b:Addr,vs=[.ref a,.ref b]/\(∃xs,SqL K H1 a xs)/\(∃ys,SqL K H1 b ys)/\R (Itz K a b) H1
def zfF{a b:Expr}{ta:TA}{p pos:Pos}(hg:Gl X "zip")(hm:X.mg "zip"=none)(ha:PA X [a,b] ta)(hs:starEach [a,b] X.env=[(false,eval a X.env),(false,eval b X.env)]:=by rfl)(hs2:starEach [b] X.env=[(false,eval b X.env)]:=by rfl) : PI X (.Tuple elts tk tp) (.Call (.Name "zip" p) [a,b] [] pos) (zjC X.K ta):=by
 intro pins s σ H R I h;refine Call_ (z3W I hg hm boot_zip (y1c (thn (ha pos pins s σ H _ I h) λus s1 hz8=>?_) (by rw[hs,hs2]) (by rw[hs2];rfl)));obtain⟨vs,H1,I1,r1,q1⟩:=hz8;obtain⟨a,b,e,⟨xs,hq⟩,⟨ys,hq'⟩,q⟩:=q1;subst e;obtain⟨u,v,rfl,ru,rv'⟩:=z9q r1;cases ru;cases rv';obtain⟨its,rv,pl,hz⟩:=I1.list hq;obtain⟨its2,rv2,pl2,hz2⟩:=I1.list hq';refine call_zip_2 pl.isList pl2.isList λh' z1 z2 z3 z4 z5 z6 hk=>y2X z1 ?_;have I2:Inv X pins σ H1 { s1 with heap:=h' }:=I1.kept (t':=s1.toks) hk;refine⟨s1.heap.objs.size+4,[s1.heap.objs.size+4,s1.heap.objs.size+2,s1.heap.objs.size+3,s1.heap.objs.size,s1.heap.objs.size+1],_,_,H1,rfl,I2,
  zbF a b (s1.heap.objs.size+4) (s1.heap.objs.size+2) (s1.heap.objs.size+3) s1.heap.objs.size (s1.heap.objs.size+1) (by refine⟨?_,?_,?_,?_,?_,?_,?_,?_,?_,?_⟩<;>(show @Ne Nat _ _;lia)),⟨z1,z2,⟨_,_,z3⟩,z4,z5⟩,λc hb=>?_,q⟩
 have hb':s1.heap.objs.size<=c:=by simp only[y0l,y2Y,or_false]at hb;rcases hb with q|q|q|q|q<;>(have q:@Eq Nat c _:=q;lia)
 exact I1.fpOk hb' (I1.hok.fresh hb')
end
open PySem.AutoSeq1 (wpAny_loadPart')
open PySem.SeqAt
section
variable{X:Cx}{pins:yyP}{σ:St}{H:Hp}{s:Shared}
end
open PySem.AutoSeq1 (wpAny_loadPart')
section
variable{X:Cx}
end
section
variable{X:Cx}(K:yyF)
variable{o e:Expr}{es:List Expr}{to:TE}{t:TA}{name:Str}{apos cpos:Pos}{T id:String}{r:V->List V->Hp->VK->Prop}
inductive TyS(K:yyF)(H:Hp):V->Value->Prop where
 |of {x:V} {t:Value} (h:z8e K H x t):TyS K H x t
 |tup {a:Addr} {xs:List V} (h:SqT K H a xs):TyS K H (.ref a) (.type "tuple")
 |lst {a:Addr} {xs:List V} (h:SqL K H a xs):TyS K H (.ref a) (.type "list")
def zjz(c:String)(hK:X.K=K):z0Q X (.builtin "isinstance") (λxs H Q=>∃x t b,xs=[x,.ty c]/\TyS K H x t/\PySem.W.kitOne K t (.type c)=some b/\Q (.bl b) H):=by
 subst hK;intro pins s σ H xs us Q I r h;obtain⟨x,t,b,rfl,ty,k,q⟩:=h;obtain⟨u,w',rfl,ru,rw'⟩:=z9q r;cases rw';cases ty with
 |of ty=>exact z9C I ru ty k λtk=>⟨.bl b,H,I.tok tk,rfl,q⟩
 |tup ht =>
  cases ru;obtain⟨_,_,⟨o,h1,h2,_⟩,_⟩:=I.tuple ht;exact y0T PySem.W.kitx_tuple I.kIn ⟨o,h1,h2⟩ k (λz=>nomatch z) λtk=>⟨.bl b,H,I.tok tk,rfl,q⟩
 |lst ht =>
  cases ru;obtain⟨_,_,⟨o,n,h1,h2,_⟩,_⟩:=I.list ht;exact y0T PySem.W.kitx_list I.kIn ⟨o,h1,h2⟩ k (λz=>nomatch z) λtk=>⟨.bl b,H,I.tok tk,rfl,q⟩
def zjE(K:yyF)(c:String)(te:TE):TE:=tCB (λxs H Q=>∃x t b,xs=[x,.ty c]/\TyS K H x t/\PySem.W.kitOne K t (.type c)=some b/\Q (.bl b) H) (z9A te (z9A (tC (.ty c)) ziy))
def zjS{x:Str}{c:String}{p q cpos:Pos}{te:TE}(hK:X.K=K)(he:PE X e te)(mi:X.mg "isinstance"=none)(mc:X.mg x=none)(hb:bootBuiltins x=some (.type c))(hg:Gl X "isinstance":=by rfl)(hgc:Gl X x:=by rfl)(hn:x≠"__name__":=by decide)(hd:(x==("__debug__":Str))=false:=by decide)(hs:starEach [e,.Name x q] X.env=(false,eval e X.env)::starEach [.Name x q] X.env:=by rfl)(hpl:(backTo cpos (starEach [.Name x q] X.env)).any (·.1)=false:=by rfl) : PE X (.Call (.Name "isinstance" p) [e,.Name x q] [] cpos) (zjE K c te) :=
 z7M (zjz K c hK) hg mi boot_isinstance (z1L he (z1L (zdF (v:=.ty c) hgc mc hb rfl hn hd) z40) hs) (by decide) (by decide) hs hpl
end
end L2
namespace Gu
open PySem L2
def z33(n:Nat):List Int:=(List.range n).map λ(i:Nat)=>(i:Int)
def z2E(n:Nat):(z33 n).length=n:=by simp[z33]
def z86{n i:Nat}(h:i<n):(z33 n)[i]?=some (i:Int):=by simp[z33,h]
def zbm{n:Nat}{x:Int}:x∈z33 n↔0<=x/\x<n:=by
 constructor
 .intro h;obtain⟨i,hi,rfl⟩:=y0f.mp h;have:=y29.mp hi;lia
 .intro⟨h0,h1⟩;exact y0f.mpr ⟨x.toNat,y29.mpr (by lia),by lia⟩
def IsP(n:Nat)(p:List Int):Prop:=p.Perm (z33 n)
def IsP.len{n:Nat}{p:List Int}(h:IsP n p):p.length=n:=by rw[List.Perm.length_eq h,z2E]
end Gu
namespace L2
open PySem PySem.Spec PyProof.Rows PySem.SeqAt
section
variable{prog:Program}{w:World}
end
section
variable{P:Program}{w:World}{K:yyF}{H:Hp}{h:Heap}
end
section
variable{X:Cx}{pins:yyP}{σ:St}{H:Hp}{s:Shared}{a:Addr}{kvs:List (D × V)}{K:yyF}
variable{o i e f value:Expr}{pos pos' apos cpos:Pos}{td ty tv tx:TE}
end
open PySem.AutoSeq1 (wpAny_loadPart')
section
variable{X:Cx}(K:yyF)
end
open PySem.AutoSeq1 (wpAny_loadPart')
theorem z67:∀{ns:List Int}{its:List Value},z0B (ns.map V.int) its->∃xs:List (Int × Tok),its=xs.map (λp=>Value.int p.1 p.2)/\xs.map (·.1)=ns
 |[],_,r=>by rw[y25]at r;cases r;exact⟨[],rfl,rfl⟩
 |n::ns,_,r=>by
  rw[y0m]at r;cases r with
  |cons r rr =>
   obtain⟨t,rfl⟩:=r;obtain⟨xs,rfl,e⟩:=z67 rr;exact⟨(n,t)::xs,rfl,by rw[y0m,e]⟩
theorem z7i:∀{ns:List Int}{its:List Value},z0B (ns.map V.int) its->IntsAre its ns
 |[],_,r=>by rw[y25]at r;cases r;exact .nil
 |n::ns,_,r=>by
  rw[y0m]at r;cases r with
  |cons r rr =>
   obtain⟨t,rfl⟩:=r;exact .cons n t (z7i rr)
theorem z3B:∀{ns:List Int}{its:List Value},IntsAre its ns->z0B (ns.map V.int) its
 |_,_,.nil=>.nil
 |_,_,.cons n t r=>.cons ⟨t,rfl⟩ (z3B r)
section
variable{X:Cx}(K:yyF)
def zk0(hK:X.K=K)(hc:X.calm=true):z0Q X (.builtin "max") (λxs H Q=>∃(p:Addr) (ns:List Int) (M:Int),xs=[.ref p]/\SqL K H p (ns.map V.int)/\M∈ns/\(∀a∈ns,a<=M)/\Q (.int M) H):=by
 subst hK;intro pins s σ H xs us Q I r h;obtain⟨p,ns,M,rfl,hp,hM,hle,q⟩:=h;obtain⟨u,rfl,ru⟩:=z1Z r;cases ru;obtain⟨its,rv,pl,hz⟩:=I.list hp;obtain⟨ys,rfl,ey⟩:=z67 rv;have hne:0<ys.length:=by have:0<ns.length:=List.length_pos_of_mem hM;rw[<-ey,y00]at this;exact this
 have e1:(ys.map λp=>Value.int p.1 p.2).toArray=intItems ys.toArray:=by unfold intItems;simp
 have pl':=pl.isList;rw[e1]at pl';refine max_intList (xs:=ys.toArray) (I.ok.hd hc) pl' (by simpa using hne) λv h' tk hv hk=>?_;obtain⟨t,rfl⟩:=intItems_at hv;obtain⟨h1,h2⟩:=argBest_gt (numAt ys.toArray) (ys.toArray.size-1);have emem:∀j,j<ys.length->numAt ys.toArray j∈ns:=λj hj=>by
  rw[numAt_eq];have:(ys.toArray.toList.map (·.1))=ns:=by simpa using ey
  rw[this];have hjn:j<ns.length:=by rw[<-ey,y00];exact hj
  simp[hjn]
 have hb:argBest (λi j=>decide (numAt ys.toArray i>numAt ys.toArray j)) (ys.toArray.size-1)<ys.length:=by
  have:ys.toArray.size=ys.length:=by simp
  lia
 have eM:numAt ys.toArray (argBest (λi j=>decide (numAt ys.toArray i>numAt ys.toArray j)) (ys.toArray.size-1))=M:=by
  refine Int.le_antisymm (hle _ (emem _ hb)) ?_;obtain⟨j,hj,e⟩:=y2i hM;have hjy:j<ys.length:=by rw[<-ey,y00]at hj;exact hj
  have z:=h2 j (by simp;lia);have e2:numAt ys.toArray j=M:=by
   rw[numAt_eq];have:(ys.toArray.toList.map (·.1))=ns:=by simpa using ey
   rw[this];simp[hj,e]
  rw[e2]at z;exact z
 rw[eM];exact⟨.int M,H,I.kept (t':=tk) hk,⟨_,rfl⟩,q⟩
def zij(hK:X.K=K):z0Q X (.builtin "sorted") (λxs H Q=>∃(p:Addr) (ns:List Int),xs=[.ref p]/\SqT K H p (ns.map V.int)/\ns.length<64/\∀ns':List Int,ns'.Perm ns->ns'.Pairwise (·<=·)->∀l,H l=none->Q (.ref l) (upd H l (.lst (ns'.map V.int)))):=by
 subst hK;intro pins s σ H xs us Q I r h;obtain⟨p,ns,rfl,hp,h64,q⟩:=h;obtain⟨u,rfl,ru⟩:=z1Z r;cases ru;obtain⟨its,rv,⟨o,ho,hc,n,hd⟩,hz⟩:=I.tuple hp;have hI:=z7i rv;have hlen:its.length=ns.length:=by have:=rv.length;rw[y00]at this;exact this.symm
 refine Calls.call_function_entry kind_sorted plain_sorted entry_sorted (args_sorted1 _) ?_;unfold Builtin.«sorted»;refine y01 (m:=checkCount "sorted" 1 1 _) (y03 ?_);refine y01 (wpAny_collect_seq (T:="tuple") p (.inr rfl) ho hc hd (λh1 hk1=>?_) (by simp only[y06];rw[<-rv.length];exact hz));refine y01 (wpAny_newList ?_);have I1:Inv X pins σ H { s with heap:=h1 }:=I.kept (t':=s.toks) hk1;have e0:its.toArray.toList=its:=by simp
 rw[e0];have hoL:(h1.push (seqObj "list" its.toArray 0)).get? h1.objs.size=some (seqObj "list" its.toArray 0):=y05 _ rfl;show wpAny _ _ _ _ _ { s with heap:=h1.push (seqObj "list" its.toArray 0) };refine y01 (y1e (y0K slot_list_sort ⟨_,hoL,rfl⟩ entry_list_sort
  (list_sort_tree hoL hI (by lia) λout ns' a1 a2 a3=>⟨_,rfl,?_⟩) (args_list_sort _)))
 obtain⟨e,he⟩:=sortedHeap_at (out:=out) hoL;refine y03 ⟨_,rfl,.ref h1.objs.size,_,I1.laid (a:=h1.objs.size) (o:=.lst (ns'.map V.int)) (t':=s.toks) (λb u q=>?_) (y0a _) ⟨?_,out.toList,e,z3B a1,by simpa[seqObj]using he⟩,rfl,q ns' a2 a3 _ I1.fresh⟩
 .have hlt:b<h1.objs.size:=y07 q;rw[sortedHeap_old (y0p hlt) (by rw[y1k];exact Nat.lt_succ_of_lt hlt)];exact y02 _ q
 .rw[y00,List.Perm.length_eq a2];have:=z30;exact y0Z (za5 (by lia))
def z1Y:fillsNumberSlot (.type "tuple") "mul"=pure false :=
 PySem.fillsNumberSlot_seq (id:="tuple.__mul__") (r:=some (.builtin "tuple.__rmul__")) y2f.lookup (by decide +kernel) F.slot_tuple_rmul.lookup (by decide +kernel)
def z2P:seqRepeat? (.type "tuple")=pure (some (.builtin "tuple.__mul__")):=by unfold seqRepeat?;rw[PySem.seqSlot_of (T:="tuple") (name:="__mul__") (id:="tuple.__mul__") y2f.lookup (by decide +kernel),PySem.seqSlot_of (T:="tuple") (name:="__rmul__") (id:="tuple.__rmul__") F.slot_tuple_rmul.lookup (by decide +kernel)];rfl
def z22(a:Int)(t:Tok)(l:Addr)(its:Array Value)(n:Nat) : Meets (Builtin.«int.__rmul__» ⟨[.int a t,.ref l],[]⟩) (λ_ R s=>s.heap.get? l=some { cls:=.type "tuple",dict:=none,data:=.seq its n,slots:=#[] }/\R (.ok (.ret Value.notImplemented)) s) :=
 .of_wp λprog w A R s h=>by
  obtain⟨hp,g,d,tk,os⟩:=s;obtain⟨hl,h⟩:=h
  wp_walk
  exact⟨_,rfl,h⟩
end
section
variable{X:Cx}(P:Program)(w:World)(K:yyF){o i e f value:Expr}{pos pos' apos cpos:Pos}{td ty tv tx:TE}
end
class NoE (CX:CXT):Prop where
 no:∀{outer:List Env}{H:Hp}{s:Shared}{e:Value}{s':Shared},¬CX outer H s E0 e s'
end L2
namespace Gu
open PySem L2
section
variable{α:Type}[DecidableEq α]
def z5l(o:List α)(g:α):List α:=if g∈o then o else o++[g]
def z0z(o:List α)(gs:List α):List α:=gs.foldl z5l o
def z2K(ks:List α):List α:=z0z [] ks
def z5c(ks:List α):List Int:=ks.map λk=>(((z2K ks).idxOf k:Nat):Int)
def z1v{o:List α}{g:α}(h:g∈o):z5l o g=o:=if_pos h
def z1w{o:List α}{g:α}(h:g∉o):z5l o g=o++[g]:=if_neg h
def zc8(o:List α)(g:α):∃m,z5l o g=o++m:=by
 by_cases h:g∈o
 .exact⟨[],by rw[z1v h];simp⟩
 .exact⟨[g],z1w h⟩
theorem z2b:∀(gs o:List α),∃m,z0z o gs=o++m
 |[],o=>⟨[],by simp[z0z]⟩
 |g::gs,o=>by obtain⟨m1,e1⟩:=zc8 o g;obtain⟨m2,e2⟩:=z2b gs (z5l o g);refine⟨m1++m2,?_⟩;show z0z (z5l o g) gs=_;rw[e2,e1,y19]
def z2f(o gs:List α)(g:α):z0z o (gs++[g])=z5l (z0z o gs) g:=by unfold z0z;rw[List.foldl_append];rfl
def z8r{o:List α}{g:α}(h:o.Nodup):(z5l o g).Nodup:=by
 by_cases hg:g∈o
 .rw[z1v hg];exact h
 .rw[z1w hg];exact z9t h hg
theorem z2Z:∀(gs o:List α),o.Nodup->(z0z o gs).Nodup
 |[],o,h=>h
 |g::gs,o,h=>z2Z gs (z5l o g) (z8r h)
def z5T{o:List α}{g x:α}:x∈z5l o g↔x∈o\/x=g:=by
 by_cases hg:g∈o
 .rw[z1v hg];constructor
  .exact .inl
  .rintro(h|rfl)
   .exact h
   .exact hg
 .rw[z1w hg];simp
theorem z1m:∀{gs o:List α}{x:α},x∈z0z o gs↔x∈o\/x∈gs
 |[],o,x=>by simp[z0z]
 |g::gs,o,x=>by
  have ih:=z1m (gs:=gs) (o:=z5l o g) (x:=x);show x∈z0z (z5l o g) gs↔_;rw[ih,z5T,y0l];constructor
  .rintro((h|h)|h)
   .exact .inl h
   .exact .inr (.inl h)
   .exact .inr (.inr h)
  .rintro(h|h|h)
   .exact .inl (.inl h)
   .exact .inl (.inr h)
   .exact .inr h
theorem z2a:∀(gs o:List α),(z0z o gs).length<=o.length+gs.length
 |[],o=>by simp[z0z]
 |g::gs,o=>by
  have ih:=z2a gs (z5l o g);have h1:(z5l o g).length<=o.length+1:=by
   by_cases hg:g∈o
   .rw[z1v hg];lia
   .rw[z1w hg];simp
  show(z0z (z5l o g) gs).length<=_;rw[y0b];lia
def z5w{o m:List α}{g:α}(h:g∈o):(o++m).idxOf g=o.idxOf g:=by rw[List.idxOf_append,if_pos h]
def z9k{o:List α}{g:α}(h:g∉o):(o++[g]).idxOf g=o.length:=by rw[List.idxOf_append,if_neg h];simp
theorem z3H:∀(n:Nat)(o:List Nat),o.Nodup->(∀x∈o,x<n)->o.length<=n
 |0,o,_,h=>by
  cases o with
  |nil=>simp
  |cons a r=>exact absurd (h a (by simp)) (Nat.not_lt_zero _)
 |n+1,o,hn,h=>by
  by_cases hm:n∈o
  .have ih:=z3H n (o.erase n) (hn.erase n) λx hx=>by
    have h1:=(hn.mem_erase_iff).mp hx;have:=h x h1.2;have:=h1.1;lia
   rw[List.length_erase_of_mem hm]at ih;lia
  .have ih:=z3H n o hn λx hx=>by
    have:=h x hx;have:x≠n:=λe=>hm (e▸hx);lia
   lia
def z3T{n:Nat}{o:List Int}(h:o.Nodup)(hr:∀x∈o,0<=x/\x<(n:Int)):o.length<=n:=by
 have h1:(o.map Int.toNat).Nodup:=by rw[List.nodup_iff_pairwise_ne,List.pairwise_map];refine List.Pairwise.imp_of_mem (λ{a b} ha hb hab e=>?_) (List.nodup_iff_pairwise_ne.mp h);have:=hr a ha;have:=hr b hb;exact hab (by lia)
 have h3:=z3H n _ h1 λx hx=>by obtain⟨y,hy,rfl⟩:=y0f.mp hx;have:=hr y hy;lia
 simpa using h3
end
abbrev Row:=List Int × List Int
def row(rows:List Row)(r:Int):Row:=rows.getD r.toNat ([],[])
structure z1i(n:Nat)(rows:List Row):Prop where
 few:rows.length<=4000
 some:1<=rows.length
 perm:∀r∈rows,IsP n r.1
 len:∀r∈rows,r.2.length=n
 go:∀r∈rows,∀g∈r.2,0<=g/\g<(rows.length:Int)
structure zck(rows:List Row)(o:List Int):Prop where
 nd:o.Nodup
 rg:∀x∈o,0<=x/\x<(rows.length:Int)
 hd:∃t,o=0::t
def z1B{rows:List Row}{r:Int}(h0:0<=r)(h1:r<(rows.length:Int)):row rows r∈rows:=by
 unfold row;have:r.toNat<rows.length:=by lia
 have e:rows.getD r.toNat ([],[])=rows[r.toNat]:=by simp[this]
 rw[e];exact y13 this
def z9J{rows:List Row}{r:Int}(h0:0<=r)(h1:r<(rows.length:Int)):rows[r.toNat]?=some (row rows r):=by
 unfold row;have:r.toNat<rows.length:=by lia
 simp[this]
def zck.add{n:Nat}{rows:List Row}{o:List Int}(G:z1i n rows)(L:zck rows o){r:Int}(h:r∈o):zck rows (z0z o (row rows r).2):=by
 refine⟨z2Z _ _ L.nd,λx hx=>?_,?_⟩
 .rcases z1m.mp hx with hx|hx
  .exact L.rg x hx
  .exact G.go _ (z1B (L.rg r h).1 (L.rg r h).2) x hx
 .obtain⟨t,e⟩:=L.hd;obtain⟨m,e2⟩:=z2b (row rows r).2 o;exact⟨t++m,by rw[e2,e];rfl⟩
def zck.len{rows:List Row}{o:List Int}(L:zck rows o):o.length<=rows.length:=z3T L.nd L.rg
def zi9{n:Nat}{rows:List Row}(G:z1i n rows):zck rows [0]:=by
 refine⟨by simp,λx hx=>?_,⟨[],rfl⟩⟩;have:x=0:=by simpa using hx
 have:=G.some;lia
def csc(ns:List (Str × NameKind)):Scope:={ kind:=.function,names:=ns,isGenerator:=false,isCoroutine:=false,more:=[] }
def same_up{H H1:Hp}{p:Addr}{o:HO}(s:Same H H1)(h:H1 p=none):Same H (upd H1 p o):=λb u e=>by have q:=s b u e;rw[z0f (z0i q h)];exact q
theorem z5A{α β:Type}(f:α->β):∀(l:List α)(i:Nat),(l.map f).eraseIdx i=(l.eraseIdx i).map f
 |[],_=>rfl
 |_::_,0=>rfl
 |a::r,i+1=>by show f a::(r.map f).eraseIdx i=f a::(r.eraseIdx i).map f;rw[z5A f r i]
section
variable{α κ:Type}[DecidableEq α][DecidableEq κ]
end
def z6N{n:Nat}{p q:List Int}(h:IsP n p)(hp:q.Perm p)(hs:q.Pairwise (·<=·)):q=z33 n:=by
 have h1:q.Perm (z33 n):=hp.trans h;have h2:(z33 n).Pairwise (·<=·):=by unfold z33;rw[List.pairwise_map];exact List.Pairwise.imp (λh=>by lia) List.pairwise_lt_range
 exact h1.eq_of_pairwise (λa b _ _ h1 h2=>Int.le_antisymm h1 h2) hs h2
section
variable{α β:Type}[DecidableEq α][DecidableEq β]
end
section
variable{α β:Type}[DecidableEq α][DecidableEq β]
def zbb{xs:List α}{x:α}:x∈z2K xs↔x∈xs:=by unfold z2K;rw[z1m];simp
end
end Gu
namespace L2
open PySem PySem.Spec PyProof.Rows
section
variable{X:Cx}{pins:yyP}{σ:St}{H:Hp}{s:Shared}{a:Addr}{kvs:List (Key × V)}{k:Key}{u:Value}{A:Around}{E:yyE}
end
section
variable{X:Cx}{o e f:Expr}{apos cpos:Pos}{td ty tx:TE}
end
end L2
namespace HT
open PySem PySem.Spec PyProof.Rows
section
variable{prog:Program}{w:World}{A:Around}{E:yyE}{s:Shared}
end
end HT
namespace L2
open PySem PySem.Spec PyProof.Rows
section
variable{X:Cx}{e st:Expr}{te ts:TE}{pos p2:Pos}
end
section
variable{X:Cx}{elts:List Expr}{tk:Nat}{tp:Pos}
end
section
variable{X:Cx}
end
end L2
namespace Gu
open PySem L2
end Gu
namespace L2
open PySem PySem.Spec PyProof.Rows
def Fly(h0:Heap)(H:Hp)(h:Heap)(ea C:Addr):Prop:=h0.get? ea=none/\H ea=none/\∃a0 oe vs T oT ts,h.get? ea=some oe/\(oe.cls=.ref C/\vs[0]?=some a0)/\oe.data=.fields vs/\vs[1]?=some (.ref T)/\T≠ea/\h0.get? T=none/\H T=none/\h.get? T=some oT/\oT.data=.fields ts/\ts[3]?=some .none
def zf8(h0:Heap)(H:Hp)(h:Heap)(ea C:Addr):Prop:=h0.get? ea=none/\H ea=none/\∃a0 oe vs,h.get? ea=some oe/\(oe.cls=.ref C/\vs[0]?=some a0)/\oe.data=.fields vs/\vs[1]?=some .none
theorem z1U{h base:Heap}:∀{l:List Env},h.FunFrames base l->∀b∈frs l,∃o,h.get? b=some o/\∀vs,o.data≠.fields vs
 |[],_,b,hb=>by simp[frs]at hb
 |env::r,hl,b,hb=>by
  obtain⟨hk,⟨L,o,hf,hn,ho,hd⟩,hr⟩:=hl;unfold frs at hb;rw[y1U,hf]at hb;rcases y0l.mp hb with z|z
  .rw[z];exact⟨o,ho,hd⟩
  .exact z1U hr b z
theorem z0Y{h base base':Heap}:∀{l:List Env},h.FunFrames base l->(∀b∈frs l,base'.get? b=none)->h.FunFrames base' l
 |[],_,_=>trivial
 |env::r,hl,hb=>by
  obtain⟨hk,⟨L,o,hf,hn,ho,hd⟩,hr⟩:=hl;have e:frs (env::r)=L::frs r:=by unfold frs;rw[y1U,hf]
  exact⟨hk,⟨L,o,hf,hb L (by rw[e];simp),ho,hd⟩,z0Y hr λb hb'=>hb b (by rw[e];exact y0g _ hb')⟩
section
variable{P:Program}{w:World}
def z7x{H:Hp}{h:Heap}{a:Addr}{o:HO}(x:z0X P w H h a o):∃ob,h.get? a=some ob:=by
 cases o with
 |lst xs=>obtain⟨_,_,_,_,e⟩:=x;exact⟨_,e⟩
 |tup xs=>obtain⟨_,_,_,_,e⟩:=x;exact⟨_,e⟩
 |dK kvs=>obtain⟨_,_,_,_,o,_,_,e,_⟩:=x;exact⟨_,e⟩
 |dT kvs=>obtain⟨_,_,_,_,o,_,_,e,_⟩:=x;exact⟨_,e⟩
 |set S n=>obtain⟨o,_,_,_,e,_⟩:=x;exact⟨_,e⟩
 |ins C dx fs=>obtain⟨_,_,_,e,_⟩:=x;exact⟨_,e⟩
 |own y=>obtain⟨_,e⟩:=x;exact⟨_,e⟩
 |xd fs=>obtain⟨_,⟨_,_,_,e,_⟩,_⟩:=x;exact⟨_,e⟩
 |rng lo hi=>obtain⟨_,_,_,e⟩:=x;exact⟨_,e⟩
 |frz ob u=>obtain⟨e,_⟩:=x;exact⟨_,e⟩
 |tbl ps=>exact⟨_,show h.get? a=some _ from x⟩
 |met f y=>exact⟨_,show h.get? a=some _ from x⟩
 |ext φ=>obtain⟨_,⟨_,e⟩,_⟩:=x;exact⟨_,e⟩
def z5e{fr:List Addr}{H1 H':Hp}{h1 h h':Heap}{env:Env}{outer:List Env}{ea C:Addr}{a0:Value}{base:Heap}{hid:List Addr}(FF:h.FunFrames base (env::outer))(u:Un fr [] H1 H' h1 h)(hok:HOk P w H' h)(hfr:∀b∈frs (env::outer),H' b=none/\(b∈fr\/h1.get? b=none))(hfr2:∀b∈fr,b∈frs (env::outer))(he1:h1.get? ea=none)(heH:H' ea=none)(hid1:∀b∈hid,h1.get? b=none/\H' b=none)(lf:(PySem.W.hideAll h (ea::(hid++frs (env::outer)))).LeftW (env::outer) ea (.ref C) a0 h h') : Un fr [] H1 H' h1 h'/\HOk P w H' h'/\Fly h1 H' h' ea C:=by
 obtain⟨st,ff,tr,sl⟩:=lf;have keep:∀b o,h.get? b=some o->b≠ea->b∉hid->b∉frs (env::outer)->h'.get? b=some o:=λb o e n1 n2 n3 =>
  st b o (PySem.W.hideAll_get _ e λz=>by
   rcases y0l.mp z with z|z
   .exact n1 z
   .rcases y0S.mp z with z|z
    .exact n2 z
    .exact n3 z)
 have slot:∀b o,h.get? b=some o->b∈frs (env::outer)->∃s,h'.get? b=some { o with slots:=s }:=λb o e hb=>by obtain⟨o',e',hd⟩:=z1U FF b hb;rw[e]at e';cases e';exact sl b o e hd
 have nh:∀b o,h1.get? b=some o->b≠ea/\b∉hid:=λb o e=>⟨λz=>(by rw[z,he1]at e;cases e),λz=>(by rw[(hid1 b z).1]at e;cases e)⟩;refine⟨⟨λb o e n hb hx=>?_,λb o e n hb hx=>?_,u.free,λb o e hx=>?_,u.tups,u.frzs,u.tbls⟩,λa o e=>?_,he1,heH,?_⟩
 .have e2:=u.keep b o e n hb hx;refine keep b o e2 (nh b o e).1 (nh b o e).2 λz=>?_;rcases(hfr b z).2 with z|z
  .exact hb z
  .rw[z]at e;cases e
 .obtain⟨s1,e2⟩:=u.slot b o e n hb hx;obtain⟨s2,e3⟩:=slot b _ e2 (hfr2 b hb);exact⟨s2,e3⟩
 .obtain⟨o',e2⟩:=u.there b o e hx;by_cases hb:b∈frs (env::outer)
  .obtain⟨s2,e3⟩:=slot b _ e2 hb;exact⟨_,e3⟩
  .exact⟨o',keep b o' e2 (nh b o e).1 (nh b o e).2 hb⟩
 .refine(hok a o e).stay (λb v hb q=>?_) (λ_ q=>q) λ_ _ q=>q;have hbs:∃ob,H' b=some ob:=by
   rcases hb with z|z
   .rw[z];exact⟨_,e⟩
   .exact⟨_,z⟩
  obtain⟨ob,hob⟩:=hbs;refine keep b v q (λz=>?_) (λz=>?_) λz=>?_
  .rw[z,heH]at hob;cases hob
  .rw[(hid1 b z).2]at hob;cases hob
  .rw[(hfr b z).1]at hob;cases hob
 .obtain⟨oe,vs,T,oT,ts,g1,g2,g3,g4,g5,g6,g7,g8,g9⟩:=tr;have hT:h1.get? T=none/\H' T=none:=by
   cases eT:h.get? T with
   |none =>
    refine⟨?_,?_⟩
    .cases q:h1.get? T with
     |none=>rfl
     |some o =>
      obtain⟨o',e2⟩:=u.there T o q (by simp);rw[eT]at e2;cases e2
    .cases q:H' T with
     |none=>rfl
     |some o =>
      obtain⟨ob,hob⟩:=z7x (hok T o q);rw[eT]at hob;cases hob
   |some oT' =>
    have hm:T∈ea::(hid++frs (env::outer)):=Classical.byContradiction λnm=>by rw[PySem.W.hideAll_get _ eT nm]at g5;cases g5
    rcases y0l.mp hm with z|z
    .exact absurd z g6
    .rcases y0S.mp z with z|z
     .exact hid1 T z
     .obtain⟨o',e',hd⟩:=z1U ff T z;rw[g7]at e';cases e';exact absurd g8 (hd ts)
  exact⟨a0,oe,vs,T,oT,ts,g1,g2,g3,g4,g6,hT.1,hT.2,g7,g8,g9⟩
def zbP{M:Model}{A:Around}{E:yyE}{Q:Unit->Shared->Prop}{s:Shared}{fr:List Addr}{H1 H':Hp}{h1:Heap}{env:Env}{outer:List Env}{L ea C:Addr}{base:Heap}(hA:A.frames=some (env::outer))(hL:env.frame=some L)(FF:s.heap.FunFrames base (env::outer))(u:Un fr [] H1 H' h1 s.heap)(hok:HOk P w H' s.heap)(hfr:∀b∈frs (env::outer),H' b=none/\(b∈fr\/h1.get? b=none))(hfr2:∀b∈fr,b∈frs (env::outer))(hf:zf8 h1 H' s.heap ea C\/Fly h1 H' s.heap ea C)(k:∀h',Un fr [] H1 H' h1 h'->HOk P w H' h'->Fly h1 H' h' ea C->Q () { s with heap:=h' }):wpAny M A (leaving env (.ref ea)) Q E s:=by
 rcases hf with⟨he1,heH,a0,oe,vs,g1,⟨g2,g20⟩,g3,g4⟩|⟨he1,heH,a0,oe,vs,T,oT,ts,g1,g2,g3,g4,g5,g6,g7,g8,g9,g10⟩
 .have FF':s.heap.FunFrames (PySem.W.hideAll s.heap (ea::([]++frs (env::outer)))) (env::outer):=z0Y FF λb hb=>y0y _ (by simp[hb]);refine wpAny_leaving_firstW hA FF' hL g1 (λb o e=>y1Z _ e) (y0y _ (by simp)) g3 g4 g20 λh' lf=>?_;rw[g2]at lf;obtain⟨a,b,c⟩:=z5e (hid:=[]) FF u hok hfr hfr2 he1 heH (λb hb=>by simp at hb) lf;exact k h' a b c
 .have FF':s.heap.FunFrames (PySem.W.hideAll s.heap (ea::([T]++frs (env::outer)))) (env::outer):=z0Y FF λb hb=>y0y _ (by simp[hb]);refine wpAny_leaving_nextW hA FF' hL ⟨oe,vs,T,oT,ts,g1,g2,g3,g4,y0y _ (by simp),g5,g8,g9,g10⟩ (λb o e=>y1Z _ e) (y0y _ (by simp)) λh' lf=>?_;obtain⟨a,b,c⟩:=z5e (hid:=[T]) FF u hok hfr hfr2 he1 heH (λb hb=>by rw[y0w.mp hb];exact⟨g6,g7⟩) lf;exact k h' a b c
def CXx(P:Program)(w:World):CXT:=λouter H s E e s'=>∃(ea C:Addr)(H':Hp),e=.ref ea/\s'.os=s.os/\AllBare s'.gens/\Un (frs outer) [] H H' s.heap s'.heap/\HOk P w H' s'.heap/\Fly s.heap H' s'.heap ea C/\E (.ref ea) (some C) H'
instance:NoE (CXx P w):=⟨λ⟨_,_,_,_,_,_,_,_,_,h⟩=>h⟩
def zfo{K:yyF}{mg:yyS}{base:Heap}{N:List Str}{qual:Str}{scope:Scope}{f:Addr}{cd:Value}{A:Around}{outer:List Env}{s:Shared}{H:Hp}{E:XK}{pins:yyP}{σ:St}{H':Hp}{s':Shared}{ea C:Addr}(J:Inv (z2V (CXx P w) P w K mg base N qual scope f cd A outer s H E) pins σ H' s')(hf:zf8 s.heap H' s'.heap ea C\/Fly s.heap H' s'.heap ea C)(hE:E (.ref ea) (some C) H'):(z2V (CXx P w) P w K mg base N qual scope f cd A outer s H E).xe (.ref ea) s':=by
 have hsub:=J.stkSub;have hfree:=J.stkFree;have hst:=J.stack;have hfrm:=J.ok.frames;show wpAny (model P w) (A.deeper (envOfC qual scope s.heap.objs.size f cd)) (leaving (envOfC qual scope s.heap.objs.size f cd) (.ref ea)) (λ_ s''=>CXx P w outer H s E (.ref ea) s'') (λe' s''=>CXx P w outer H s E e' s'') s';refine zbP (P:=P) (w:=w) (fr:=frs outer) (H1:=H) (H':=H') (h1:=s.heap) (base:=base) hfrm rfl hst J.base J.hok (λb hb=>⟨hfree b hb,?_⟩) (λb hb=>y0g _ hb) hf λh' a b c=>?_
 .rcases y0l.mp (hsub b hb)with z|z
  .right;rw[z];exact y2Z (y0a _)
  .exact .inl z
 .exact⟨ea,C,H',rfl,J.os,J.bare,a,b,c,hE⟩
def zc2{K:yyF}{mg:yyS}{base:Heap}{N:List Str}{qual:Str}{scope:Scope}{f:Addr}{cd:Value}{A:Around}{outer:List Env}{s:Shared}{H:Hp}{E E':XK}(hE:∀e C H',E' e C H'->E e C H') : z2r (CXx P w) (z2V (CXx P w) P w K mg base N qual scope f cd A outer s H E) E':=by
 intro pins σ H1 s1 e s' I hx;obtain⟨ea,C,H',rfl,os,bare,un,hok,fly,q⟩:=hx;have J:=I.call' (ch:=[]) os un hok bare (λb z=>absurd z (by simp));refine zfo J (.inr ?_) (hE _ _ _ q);have up:∀b,s1.heap.get? b=none->s.heap.get? b=none:=λb z=>by
  cases q:s.heap.get? b with
  |none=>rfl
  |some o =>
   obtain⟨o',e⟩:=I.base.there b o q (by simp[z2V]);rw[z]at e;cases e
 obtain⟨a1,a2,a0,oe,vs,T,oT,ts,g1,g2,g3,g4,g5,g6,r⟩:=fly;exact⟨up _ a1,a2,a0,oe,vs,T,oT,ts,g1,g2,g3,g4,g5,up _ g6,r⟩
end
def z6I{K:yyF}{h:Heap}{C:Addr}{bmB:List Value}{newId:String}(X:K.In h)(e:PySem.W.excIn K C bmB newId=true):∃bm N nm q bs hdct sn sub ab col dd k0 k1 k2 k3 k5 mN, h.get? C=some (excClassObj nm q C N bs bm hdct sn sub ab col dd k0 k1 k2 k3 k5 newId)/\h.Ns N mN/\mN "__init__"=none/\OwnTail h bmB bm:=by
 unfold PySem.W.excIn at e;split at e
 .rename_i dict cd sl hl;split at e
  .rename_i C' bm a0 a1 a2 a3 n a5 hm hs;simp only[y0h,y2k,Bool.not_eq_true']at e;obtain⟨⟨⟨⟨⟨e1,e2⟩,e3⟩,e4⟩,e5⟩,e6⟩:=e;have hC:=X C _ hl;subst e1 e2;have hsl:sl=#[a0,a1,a2,a3,some (Value.builtin n),a5]:=by rw[<-Array.toArray_toList (xs:=sl),hs]
   obtain⟨nm,bs,mro,ns,q,hd,sn,sub,ab,col,hdel⟩:=cd;simp only at hm e3 e5 e6;subst hm e3 hsl;exact⟨bm,ns,nm,q,bs,hd,sn,sub,ab,col,dict,a0,a1,a2,a3,a5,h.nsMap ns,hC,Heap.Ns.of_isNs (PySem.W.isNs_of_in X e5),PySem.W.nsMap_none_of_in X e5 e6,PySem.W.tail_of_in X e4⟩
  .cases e
 .cases e
def z7j{h:Heap}{bmB bm:List Value}{v:Value}(t:OwnTail h bmB bm)(hb:bmB.contains v=true):bm.contains v=true:=by
 induction t with
 |base=>exact hb
 |own _ _ _ _ ih=>rw[List.contains_cons,ih];simp
section
variable{P:Program}{w:World}{K:yyF}{mg:yyS}{base:Heap}{N:List Str}{qual:Str}{scope:Scope}{f:Addr}{cd:Value}{A:Around}{outer:List Env}{s0:Shared}{H0:Hp}{E:XK}
def zbk{x:Str}{C:Addr}{B newId initId:String}{bmB:List Value}{arg:Expr}{ta:TE}{np cpos pos:Pos}(hx:mg x=some (.ref C))(hg:Gl (z2V (CXx P w) P w K mg base N qual scope f cd A outer s0 H0 E) x)(he:PySem.W.excIn K C bmB newId=true)(hB:ExcBaseFacts B newId initId bmB)(ha:PE (z2V (CXx P w) P w K mg base N qual scope f cd A outer s0 H0 E) arg ta)(htr:backTo cpos (starEach [arg] (z2V (CXx P w) P w K mg base N qual scope f cd A outer s0 H0 E).env)=[(false,eval arg (z2V (CXx P w) P w K mg base N qual scope f cd A outer s0 H0 E).env)]:=by rfl)(hdb:(x==("__debug__":Str))=false:=by decide) : PS (z2V (CXx P w) P w K mg base N qual scope f cd A outer s0 H0 E) (.Raise (some (.Call (.Name x np) [arg] [] cpos)) none pos) (λD σ H=>ta σ H λv H1=>∀ea,E (.ref ea) (some C) H1):=by
 intro pins s σ H D I h;obtain⟨bm,NN,nm,q,bs,hd,sn,sub,ab,col,dict,a0,a1,a2,a3,a5,mN,hC,hN,hi,ht⟩:=z6I I.ok.mod.kin he;refine wpAny_Raise_call_subT (nm:=nm) (q:=q) (N:=NN) (bs:=bs) (hdct:=hd) (sn:=sn) (sub:=sub) (ab:=ab) (col:=col) (dd:=dict) (k0:=a0) (k1:=a1) (k2:=a2) (k3:=a3) (k5:=a5) hB (z7j ht hB.hasBase) (I.ok.hd rfl) (by rw[htr];rfl) hi (z2R I hg hx ⟨rfl,?_⟩ hdb);rw[htr];refine y32 (Calls.spliced_cons (z2L (ha pins s σ H _ I h) λu s2 v H2 I2 r2 q2=>Calls.spliced_nil ?_));have bk:=I2.bk;refine⟨rfl,by show 1<=sizeLine;decide,bk _ _ hC,hN.keeps bk,ht.keeps bk,λh' e me=>?_⟩;obtain⟨kp,nw,t,g1,g2,g3⟩:=me;have J:=I2.kept (h':=h') (t':=s2.toks) kp;refine zfo J (.inl ⟨?_,?_,_,_,_,g1,⟨rfl,rfl⟩,rfl,rfl⟩) (q2 e)
 .cases z:s0.heap.get? e with
  |none=>rfl
  |some o =>
   obtain⟨o',e'⟩:=I2.base.there e o z (by simp[z2V]);rw[nw]at e';cases e'
 .cases z:H2 e with
  |none=>rfl
  |some o =>
   obtain⟨ob,hob⟩:=z7x (I2.hok e o z);rw[nw]at hob;cases hob
end
section
variable{P:Program}{w:World}
def zb3{M:Model}{A:Around}{E:yyE}{Q:Unit->Shared->Prop}{s:Shared}{fr:List Addr}{H1 H':Hp}{h1:Heap}{env:Env}{outer:List Env}{ea C:Addr}{base:Heap}(FF:s.heap.FunFrames base (env::outer))(u:Un fr [] H1 H' h1 s.heap)(hok:HOk P w H' s.heap)(hfr:∀b∈frs (env::outer),H' b=none/\(b∈fr\/h1.get? b=none))(hfr2:∀b∈fr,b∈frs (env::outer))(hf:Fly h1 H' s.heap ea C)(k:∀h',Un fr [] H1 H' h1 h'->HOk P w H' h'->Fly h1 H' h' ea C->Q () { s with heap:=h' }):wpAny M A (setFlight (.ref ea) none) Q E s:=by obtain⟨he1,heH,a0,oe,vs,T,oT,ts,g1,g2,g3,g4,g5,g6,g7,g8,g9,g10⟩:=hf;have FF':s.heap.FunFrames (PySem.W.hideAll s.heap (ea::([T]++frs (env::outer)))) (env::outer):=z0Y FF λb hb=>y0y _ (by simp[hb]);refine lands_againW (base:=PySem.W.hideAll s.heap (ea::([T]++frs (env::outer)))) (l:=env::outer) (cls:=.ref C) (a0:=a0) ⟨λb o e=>y1Z _ e,y0y _ (by simp),FF',oe,vs,T,oT,ts,g1,g2,g3,g4,y0y _ (by simp),g5,g8,g9,g10⟩ λh' fl up=>?_;obtain⟨f1,f2,f3,f4⟩:=fl;obtain⟨a,b,c⟩:=z5e (hid:=[T]) FF u hok hfr hfr2 he1 heH (λb hb=>by rw[y0w.mp hb];exact⟨g6,g7⟩) ⟨f1,f3,f4,up⟩;exact k h' a b c
def zes{M:Model}{A:Around}{E:yyE}{Q:Unit->Shared->Prop}{s:Shared}{fr:List Addr}{H1 H':Hp}{h1:Heap}{env:Env}{outer:List Env}{L ea C:Addr}{base:Heap}(hA:A.frames=some (env::outer))(hL:env.frame=some L)(FF:s.heap.FunFrames base (env::outer))(u:Un fr [] H1 H' h1 s.heap)(hok:HOk P w H' s.heap)(hfr:∀b∈frs (env::outer),H' b=none/\(b∈fr\/h1.get? b=none))(hfr2:∀b∈fr,b∈frs (env::outer))(hf:Fly h1 H' s.heap ea C)(k:∀h',Un fr [] H1 H' h1 h'->HOk P w H' h'->Fly h1 H' h' ea C->Q () { s with heap:=h' }):wpAny M A (noteFrame (.ref ea) env) (λ_ s2=>wpAny M A (setFlight (.ref ea) none) Q E s2) E s:=by
 obtain⟨he1,heH,a0,oe,vs,T,oT,ts,g1,g2,g3,g4,g5,g6,g7,g8,g9,g10⟩:=hf;have FF':s.heap.FunFrames (PySem.W.hideAll s.heap (ea::([T]++frs (env::outer)))) (env::outer):=z0Y FF λb hb=>y0y _ (by simp[hb]);refine wpAny_noteFrame_onW hA FF' hL ⟨oe,vs,T,oT,ts,g1,g2,g3,g4,y0y _ (by simp),g5,g8,g9,g10⟩ (λb o e=>y1Z _ e) (y0y _ (by simp)) λh2 nt=>?_;obtain⟨n1,n2,n3,n4⟩:=nt;refine wpAny_landsW (L:=L) ⟨n1,y0y _ (by simp),n2,n3⟩ λh' fl up=>?_;obtain⟨f1,f2,f3,f4⟩:=fl;have lw:(PySem.W.hideAll s.heap (ea::([T]++frs (env::outer)))).LeftW (env::outer) ea (.ref C) a0 s.heap h':=⟨f1,f3,f4,λb o e hd=>by obtain⟨s1,e1⟩:=n4 b o e hd;obtain⟨s2,e2⟩:=up b _ e1 hd;exact⟨s2,e2⟩⟩
 obtain⟨a,b,c⟩:=z5e (hid:=[T]) FF u hok hfr hfr2 he1 heH (λb hb=>by rw[y0w.mp hb];exact⟨g6,g7⟩) lw;exact k h' a b c
end
abbrev Cx.sup(X:Cx)(e:Addr):Cx:={ X with A:=X.A.mark (some (.ref e)),calm:=false,xe:=λ_ _=>False }
abbrev Cx.tried(X:Cx)(pn:yyP)(E:yyE):Cx:={ X with pn:=pn,xe:=E }
theorem Cx.Ok.sup{X:Cx}(ok:X.Ok)(e:Addr):(X.sup e).Ok :=
 ⟨ok.mod,ok.kind,ok.glob,ok.blt,ok.above,ok.inj,ok.has,ok.cab,λz=>(by cases z),ok.frames,ok.stk,ok.exf,ok.bs,ok.bsz,ok.noex,ok.exfs,ok.funs,ok.frf⟩
theorem Cx.Ok.tried{X:Cx}(ok:X.Ok)(pn:yyP)(E:yyE):(X.tried pn E).Ok :=
 ⟨ok.mod,ok.kind,ok.glob,ok.blt,ok.above,ok.inj,ok.has,ok.cab,ok.hd,ok.frames,ok.stk,ok.exf,ok.bs,ok.bsz,ok.noex,ok.exfs,ok.funs,ok.frf⟩
open PySem.SeqAt
section
variable{X:Cx}
end
end L2
namespace Gu
open PySem L2
end Gu
namespace L2
open PySem PySem.Spec PyProof.Rows
def Fun.okx{CX:CXT}{P:Program}{w:World}{K:yyF}{mg:yyS}{base:Heap}{x qual:Str}{st:Stmt}{f:Addr}{fd:FuncData}{N ps:List Str}{k:Nat}{sp:Sp}(F:Fun K x qual st f fd)(S:z1M N ps (z0a st))(len:∀vs H Q E,sp vs H Q E->vs.length=ps.length)(hbody:∀(cdv:Value)(A:Around)(outer:List Env)(s:Shared)(H:Hp)(vs:List V)(Q:VK)(E:XK),z1C k (A.deeper (envOfC qual (z0a st) s.heap.objs.size f cdv))->sp vs H Q E -> ∃t,PSs (z2V CX P w K mg base N qual (z0a st) f cdv A outer s H E) (z0v st) t/\t { nx:=λ_ H'=>Q .non H',rt:=Q } (start N vs) H):z2h P w K mg base CX (k+1) f fd ps sp:=by obtain⟨oc,od,kV,doc,pm,an,cdv,ct,osl,rfl,lk,hcd⟩:=F.ex;exact zfp lk hcd S len λA outer s H vs Q E hr hsp=>hbody cdv A outer s H vs Q E hr hsp
open PySem.SeqAt
section
variable{X:Cx}
def zdi:OpR X (binaryOp .Add) (λx y H Q=>∃(a b:Addr)(xs ys:List V),x=.ref a/\y=.ref b/\H a=some (.tup xs)/\H b=some (.tup ys)/\xs.length+ys.length<=sizeLine /\ ∀(p:Addr)(H':Hp),Same H H'->H' p=some (.tup (xs++ys))->Q (.ref p) H'):=by
 intro pins s σ H x y v u Q I rx ry h;obtain⟨a,b,xs,ys,rfl,rfl,ha,hb,hz,q⟩:=h;by_cases hx:xs=[]
 .subst hx;cases rx;cases ry;obtain⟨its,r1,p1,_⟩:=I.tuple (SqT.of ha);obtain⟨its2,r2,p2,_⟩:=I.tuple (SqT.of hb);cases r1;obtain⟨⟨cls,dd,data,sl⟩,ho,hc,n,hd⟩:=id p1;obtain⟨⟨cls2,dd2,data2,sl2⟩,ho2,hc2,n2,hd2⟩:=id p2;simp only at hc hd hc2 hd2;subst hc hd hc2 hd2;exact concat_meets ⟨_,ho,rfl⟩ ⟨_,ho2,rfl⟩ noFill_tuple_add seq_tuple_add y2B y2s (y2m _ _)
   (tuple_addW0 a b _ _ n n2 dd dd2 sl sl2 (by simp)) ⟨ho,ho2,⟨.ref b,H,I,rfl,q b H (Same.refl H) hb⟩⟩
 .exact zdw pins s σ H _ _ v u Q I rx ry ⟨a,b,xs,ys,rfl,rfl,SqT.of ha,SqT.of hb,hx,hz,λe=>by subst e;exact q a H (Same.refl H) (by rw[y0j];exact ha),λ_ p hp=>q p _ (Gu.same_up (Same.refl H) hp) z0e⟩
def zaK(xs:List V)(lo hi:Option Int)(h:HT.sIx xs.length 0 lo=0/\HT.sIx xs.length xs.length hi=xs.length):z9U xs lo hi=xs:=by unfold z9U;rw[h.1,h.2];simp
def z2g{prog:Program}{w:World}{A:Around}{E:yyE}{s:Shared}{t sl:Addr}{items:Array Value}{vl vu:Value}{lo hi:Option Int}{Q:yyE}(ht:IsTup s.heap t items)(hs:s.heap.IsSliceOf sl vl vu .none)(pl:IsPart vl lo)(pu:IsPart vu hi)(hw:HT.sIx items.size 0 lo=0/\HT.sIx items.size items.size hi=items.size)(h:Q (.ref t) s):wpAny (model prog w) A (getItem (.ref t) (.ref sl)) Q E s:=by
 obtain⟨os,hos,hcs,hds⟩:=id hs;have hTs:s.TypeIs (.ref sl) "slice":=⟨os,hos,hcs⟩;unfold getItem;try with_reducible refine y1e ?_
 first|refine y01 (y03 ?_)|skip
 refine y01 (wpAny_sequenceKey ht.typeIs (by decide) ?_);refine y01 (y0E (name:=Str.ofString "__getitem__") ht.typeIs y0P
  (y0K y0P ht.typeIs entry_tuple_getitem ?_ (args_tuple_getitem _ _)))
 show wpAny _ _ (Builtin.Tuple.tupleItemsOf (.ref t)>>=_) _ _ s;refine y01 (tupleItemsOf_ ht ?_);refine y01 (wpAny_typeOf hTs ?_);rw[if_pos (by decide)];refine y01 (HT.sliceApplied_gen hs pl pu ?_);have hyes:(((HT.sIx items.size 0 lo:Nat):Int)==0&&(1:Int)==1&&(HT.sIx items.size items.size hi-HT.sIx items.size 0 lo)==items.size)=true:=by rw[hw.1,hw.2];simp
 show wpAny _ _ (if(((HT.sIx items.size 0 lo:Nat):Int)==0&&(1:Int)==1&&(HT.sIx items.size items.size hi-HT.sIx items.size 0 lo)==items.size)=true then _ else _) _ _ s;rw[if_pos hyes];unfold Builtin.Tuple.tupleIsExact;refine y01 (y01 (wpAny_typeOf ht.typeIs (y03 ?_)));rw[if_pos (by decide)];first
  |exact y01 (y01 (y03 ⟨_,rfl,y03 h⟩))
  | (wp_walk;exact⟨_,rfl,h⟩)
  | (wp_walk;exact⟨_,rfl,y03 h⟩)
def zcN:SlR X (λx lo hi H Q=>∃(a:Addr)(xs:List V),x=.ref a/\H a=some (.tup xs)/\∀(p:Addr)(H':Hp),Same H H'->H' p=some (.tup (z9U xs lo hi))->Q (.ref p) H'):=by
 intro pins s σ H x v vl vu lo hi sl Q I rx hs pl pu h;obtain⟨a,xs,rfl,hx,q⟩:=h;by_cases hw:HT.sIx xs.length 0 lo=0/\HT.sIx xs.length xs.length hi=xs.length
 .cases rx;obtain⟨its,r,ht,hz⟩:=I.tuple (SqT.of hx);have hlen:its.toArray.size=xs.length:=by rw[y06];exact r.length.symm
  refine⟨"tuple",_,y0P.lookup,ht.typeIs,?_⟩;exact z2g ht hs pl pu (by rw[hlen];exact hw) ⟨.ref a,H,I,rfl,q a H (Same.refl H) (by rw[zaK xs lo hi hw];exact hx)⟩
 .exact zgi pins s σ H _ v vl vu lo hi sl Q I rx hs pl pu ⟨a,xs,rfl,SqT.of hx,hw,λp hp=>q p _ (Gu.same_up (Same.refl H) hp) z0e⟩
def zbd(l:Addr)(its:List Value)(n:Nat)(k:Int)(t:Tok)(h0:-1000<=k)(hk:k<=0)(hne:its≠[]) : Meets (Builtin.«tuple.__mul__» ⟨[.ref l,.int k t],[]⟩) (λ_ R s=>s.heap.get? l=some { cls:=.type "tuple",dict:=none,data:=.seq its.toArray n,slots:=#[] } /\ R (.ok (.ret (.ref s.heap.objs.size))) { s with heap:=s.heap.push { cls:=.type "tuple",data:=.seq #[] } }) :=
 .of_wp λprog w A R s h=>by
  obtain⟨hp,g,d,tk,os⟩:=s;obtain⟨hl,h⟩:=h;have hie:its.toArray.isEmpty=false:=by cases its with|nil=>exact absurd rfl hne|cons a r=>simp
  wp_walk using wpAny_loadPart' hl
  refine y1p (λhab=>absurd hab (by simp;lia)) (λ_=>?_)
  wp_walk using wpAny_loadPart' hl
  have hk1:(k==1)=false:=by simpa using(show k≠1 by lia)
  have hk0:decide (k<=0)=true:=by simpa using hk
  refine y1p (λhab=>absurd hab (by rw[hie,hk1];decide)) (λ_=>?_);refine y1p (λ_=>?_) (λhab=>absurd (by rw[hk0];rfl) hab);unfold Builtin.Tuple.tupleExact;refine y01 (y0A ?_ (by show(#[]:Array Value).size<=sizeLine;decide));exact y03 ⟨_,rfl,h⟩
end
end L2
namespace Gu
def lat(e:Row)(i:Nat):Int:=if i<e.1.length then e.1.getD i 0 else e.2.getD ((i-e.1.length)%e.2.length) 0
def z2H{e:Row}{i:Nat}(h:i<e.1.length):lat e i=e.1.getD i 0:=if_pos h
def z1F{e:Row}{i:Nat}(h:e.1.length<=i):lat e i=e.2.getD ((i-e.1.length)%e.2.length) 0:=if_neg (by lia)
def Pd(f:Nat->Int)(m p:Nat):Prop:=∀i,m<=i->f (i+p)=f i
def z7q{e:Row}(h:e.2≠[]):Pd (lat e) e.1.length e.2.length:=λi hi=>by
 have hl:0<e.2.length:=y0r.mpr h;rw[z1F hi,z1F (by lia)];have:i+e.2.length-e.1.length=(i-e.1.length)+e.2.length:=by lia
 rw[this,y2I]
def Pd.mul{f:Nat->Int}{m p:Nat}(h:Pd f m p)(k:Nat):Pd f m (p*k):=by
 induction k with
 |zero=>exact λi _=>rfl
 |succ k ih =>
  intro i hi;rw[Nat.mul_succ,<-y37,h (i+p*k) (by lia)];exact ih i hi
def Pd.mono{f:Nat->Int}{m m' p:Nat}(h:Pd f m p)(hm:m<=m'):Pd f m' p:=λi hi=>h i (by lia)
def Pd.down{f:Nat->Int}{m m' p q:Nat}(h:Pd f m p)(h':Pd f m' q)(hp:0<p):Pd f m q:=λi hi=>by
 have a:=h.mul m' (i+q) (by lia);have b:=h.mul m' i hi;have ge:m'<=p*m':=Nat.le_mul_of_pos_left m' hp;have c:=h' (i+p*m') (by lia);rw[<-a,<-b];have:i+q+p*m'=i+p*m'+q:=by lia
 rw[this];exact c
theorem Pd.gcd{f:Nat->Int}{m:Nat}:∀{p q:Nat},Pd f m p->Pd f m q->Pd f m (Nat.gcd p q):=by
 intro p q;induction p,q using Nat.gcd.induction with
 |H0 q=>intro _ h;rw[Nat.gcd_zero_left];exact h
 |H1 p q hp ih =>
  intro h1 h2;rw[Nat.gcd_rec];refine ih (λi hi=>?_) h1;have a:=h1.mul (q/p) (i+q%p) (by lia);have e:i+q%p+p*(q/p)=i+q:=by have:=y3a q p;lia
  rw[e]at a;rw[<-a];exact h2 i hi
structure z0Z(e:Row):Prop where
 ring:e.2≠[]
 least:∀d,0<d->d<e.2.length->¬Pd (lat e) e.1.length d
 cut:e.1=[]\/lat e (e.1.length-1)≠lat e (e.1.length-1+e.2.length)
def z0Z.len{e e':Row}(h:z0Z e)(h':z0Z e')(s:∀i,lat e i=lat e' i)(hm:e.1.length<=e'.1.length):e.2.length=e'.2.length/\e.1.length=e'.1.length:=by
 have ef:lat e=lat e':=funext s;have P:=z7q h.ring;have Q:=z7q h'.ring;have hp:0<e.2.length:=y0r.mpr h.ring;have hq:0<e'.2.length:=y0r.mpr h'.ring;rw[<-ef]at Q;have e1:e.2.length=e'.2.length:=by
  by_cases h1:e'.2.length<e.2.length
  .exact absurd (P.down Q hp) (h.least _ hq h1)
  .by_cases h2:e.2.length<e'.2.length
   .refine absurd ?_ (h'.least _ hp h2);rw[<-ef];exact P.mono hm
   .lia
 refine⟨e1,?_⟩;by_cases h3:e.1.length<e'.1.length
 .rcases h'.cut with c|c
  .rw[c]at h3;simp at h3
  .refine absurd ?_ c;rw[<-ef,<-e1];exact(P (e'.1.length-1) (by lia)).symm
 .lia
def z0U{l:List Int}{i:Nat}(h:i<l.length):l.getD i 0=l[i]:=by rw[y09,y0e h];rfl
def z7s{e e':Row}(hl:e.1.length=e'.1.length)(hr:e.2.length=e'.2.length)(s:∀i,lat e i=lat e' i):e=e':=by
 refine Prod.ext ?_ ?_
 .refine y1G hl λi h1 h2=>?_;have:=s i;rw[z2H h1,z2H h2,z0U h1,z0U h2]at this;exact this
 .refine y1G hr λi h1 h2=>?_;have:=s (e.1.length+i);rw[z1F (by lia),z1F (by lia),<-hl,<-hr,y1V,y1f h1,z0U h1,z0U h2]at this;exact this
def z0Z.one{e e':Row}(h:z0Z e)(h':z0Z e')(s:∀i,lat e i=lat e' i):e=e':=by
 rcases y2P e.1.length e'.1.length with hm|hm
 .obtain⟨a,b⟩:=h.len h' s hm;exact z7s b a s
 .obtain⟨a,b⟩:=h'.len h (λi=>(s i).symm) hm;exact z7s b.symm a.symm s
def zcG{f:Nat->Int}{e:Row}(h1:∀i,i<e.1.length->e.1.getD i 0=f i)(h2:∀j,j<e.2.length->e.2.getD j 0=f (e.1.length+j))(hp:Pd f e.1.length e.2.length)(h0:e.2≠[]):∀i,lat e i=f i:=λi=>by
 by_cases hi:i<e.1.length
 .rw[z2H hi];exact h1 i hi
 .have hl:0<e.2.length:=y0r.mpr h0;rw[z1F (by lia),h2 _ (y1H _ hl)];have a:=hp.mul ((i-e.1.length)/e.2.length) (e.1.length+(i-e.1.length)%e.2.length) (by lia);rw[<-a];congr 1;have:=y3a (i-e.1.length) e.2.length;lia
def Per(r:List Int)(s:Nat):Prop:=s ∣ r.length/\∀i,i+s<r.length->r.getD (i+s) 0=r.getD i 0
def z4u{r:List Int}{s:Nat}(h:Per r s)(hs:0<s):∀i,i<r.length->r.getD i 0=r.getD (i%s) 0:=by
 intro i;induction i using Nat.strongRecOn with
 |ind i ih =>
  intro hi;by_cases c:i<s
  .rw[y1f c]
  .have a:=h.2 (i-s) (by lia);have e:i-s+s=i:=by lia
   rw[e]at a;rw[a,ih (i-s) (by lia) (by lia),<-Nat.mod_eq_sub_mod (by lia)]
def z8c{r:List Int}{s:Nat}(hd:s ∣ r.length)(h:∀i,i<r.length->r.getD i 0=r.getD (i%s) 0):Per r s:=⟨hd,λi hi=>by rw[h (i+s) hi,h i (by lia),y2I]⟩
def zgB{e:Row}(h:e.2≠[]){d:Nat}(hd:d ∣ e.2.length):Per e.2 d↔Pd (lat e) e.1.length d:=by
 have hl:0<e.2.length:=y0r.mpr h;have hd0:0<d:=Nat.pos_of_dvd_of_pos hd hl;constructor
 .intro hp i hi;rw[z1F hi,z1F (by lia),z4u hp hd0 _ (y1H _ hl),z4u hp hd0 ((i-e.1.length)%e.2.length) (y1H _ hl),Nat.mod_mod_of_dvd _ hd,Nat.mod_mod_of_dvd _ hd];have:i+d-e.1.length=i-e.1.length+d:=by lia
  rw[this,y2I]
 .intro hp;refine⟨hd,λi hi=>?_⟩;have:=hp (e.1.length+i) (by lia);rw[z1F (by lia),z1F (by lia)]at this;have e1:e.1.length+i+d-e.1.length=i+d:=by lia
  rw[e1,y1V,y1f hi,y1f (by lia)]at this;exact this
structure z4y(r:List Int)(s:Nat):Prop where
 pos:0<s
 per:Per r s
 no:∀d,0<d->d<s->¬Per r d
def z4y.le{r:List Int}{s:Nat}(L:z4y r s)(h:r≠[]):s<=r.length:=Nat.le_of_dvd (y0r.mpr h) L.per.1
def z4y.none{e:Row}(h:e.2≠[]){s:Nat}(L:z4y e.2 s){m d:Nat}(hd:0<d)(hs:d<s):¬Pd (lat e) m d:=λhp=>by have hl:0<e.2.length:=y0r.mpr h;have P:=z7q h;have Q:=P.down hp hl;have G:=Q.gcd P;have g1:Nat.gcd d e.2.length ∣ e.2.length:=Nat.gcd_dvd_right _ _;have g2:Nat.gcd d e.2.length<=d:=Nat.le_of_dvd hd (Nat.gcd_dvd_left _ _);exact L.no _ (Nat.gcd_pos_of_pos_left _ hd) (by lia) ((zgB h g1).mpr G)
structure z3u(b r:List Int)(s c:Nat):Prop where
 le:c<=b.length
 eq:∀j,j<c->b.getD (b.length-1-j) 0=r.getD (s-1-j%s) 0
 no:c=b.length\/b.getD (b.length-1-c) 0≠r.getD (s-1-c%s) 0
def z7v{k s:Nat}(hs:0<s):(-1-(k:Int))%(s:Int)=((s-1-k%s:Nat):Int):=by
 have h1:k%s<s:=y1H _ hs;have h2:(-1-(k:Int))=((s-1-k%s:Nat):Int)+(s:Int)*(-((k/s:Nat):Int)-1):=by
  have:=y3a k s;have e:(k:Int)=((k%s:Nat):Int)+(s:Int)*((k/s:Nat):Int):=by rw[<-y3b,<-Int.natCast_add,this]
  have e2:((s-1-k%s:Nat):Int)=(s:Int)-1-((k%s:Nat):Int):=by lia
  rw[e2,Int.mul_sub,Int.mul_neg,Int.mul_one];lia
 rw[h2,Int.add_mul_emod_self_left,Int.emod_eq_of_lt (by lia) (by lia)]
def zac{e:Row}(h:e.2≠[]){s c:Nat}(L:z4y e.2 s)(R:z3u e.1 e.2 s c):∀i,e.1.length-c<=i->lat e i=e.2.getD (((i:Int)-(e.1.length:Int))%(s:Int)).toNat 0:=λi hi=>by
 have hl:0<e.2.length:=y0r.mpr h;have hle:=R.le;by_cases c1:i<e.1.length
 .have e1:=R.eq (e.1.length-1-i) (by lia);have e2:e.1.length-1-(e.1.length-1-i)=i:=by lia
  rw[e2]at e1;rw[z2H c1,e1];have e3:(i:Int)-(e.1.length:Int)=-1-((e.1.length-1-i:Nat):Int):=by lia
  rw[e3,z7v L.pos,y0J]
 .rw[z1F (by lia),z4u L.per L.pos _ (y1H _ hl),Nat.mod_mod_of_dvd _ L.per.1];have e3:(i:Int)-(e.1.length:Int)=((i-e.1.length:Nat):Int):=by lia
  rw[e3,<-y1I,y0J]
def z24(e:Row)(s c:Nat):Row:=(e.1.take (e.1.length-c),(z33 s).map λk=>e.2.getD ((k-(c:Int))%(s:Int)).toNat 0)
def z1K{e:Row}{s c:Nat}:(z24 e s c).1.length=e.1.length-c/\(z24 e s c).2.length=s:=by
 refine⟨?_,?_⟩
 .show(e.1.take _).length=_;rw[y0z];lia
 .show((z33 s).map _).length=_;rw[y00,z2E]
def z2l{e:Row}(h:e.2≠[]){s c:Nat}(L:z4y e.2 s)(R:z3u e.1 e.2 s c):∀i,lat (z24 e s c) i=lat e i:=by
 obtain⟨l1,l2⟩:=z1K (e:=e) (s:=s) (c:=c);have hc:=zac h L R;refine zcG (λi hi=>?_) (λj hj=>?_) (λi hi=>?_) (λz=>?_)
 .rw[l1]at hi;rw[z2H (by lia)];show(e.1.take _).getD i 0=_;rw[y09,y2w,if_pos hi,<-y09]
 .rw[l2]at hj;rw[l1,hc _ (by lia)];show((z33 s).map _).getD j 0=_;rw[y09,y0x,z86 hj];show e.2.getD (((j:Int)-(c:Int))%(s:Int)).toNat 0=_;have:=R.le;have e1:((e.1.length-c+j:Nat):Int)-(e.1.length:Int)=(j:Int)-(c:Int):=by lia
  rw[e1]
 .rw[l1]at hi;rw[l2,hc _ hi,hc _ (by lia)];have e1:((i+s:Nat):Int)-(e.1.length:Int)=((i:Int)-(e.1.length:Int))+(s:Int):=by lia
  rw[e1,Int.add_emod_right]
 .have:=L.pos;rw[z]at l2;simp at l2;lia
def z2z{e:Row}(h:e.2≠[]){s c:Nat}(L:z4y e.2 s)(R:z3u e.1 e.2 s c):z0Z (z24 e s c):=by
 obtain⟨l1,l2⟩:=z1K (e:=e) (s:=s) (c:=c);have S:=z2l h L R;have ef:lat (z24 e s c)=lat e:=funext S;have hs:=L.pos;refine⟨λz=>?_,λd hd hds=>?_,?_⟩
 .rw[z]at l2;simp at l2;lia
 .rw[ef];rw[l2]at hds;exact L.none h hd hds
 .rcases R.no with z|z
  .left;exact y0F.mp (by rw[l1];lia)
  .by_cases hb:c=e.1.length
   .left;exact y0F.mp (by rw[l1];lia)
   .right;have hle:=R.le;rw[ef,l1,l2];have hl:0<e.2.length:=y0r.mpr h;have hc:=zac h L R (e.1.length-c-1+s) (by lia);rw[hc,z2H (by lia)];have e1:((e.1.length-c-1+s:Nat):Int)-(e.1.length:Int)=(-1-(c:Int))+(s:Int):=by lia
    rw[e1,Int.add_emod_right,z7v hs,y0J];have e2:e.1.length-c-1=e.1.length-1-c:=by lia
    rw[e2];exact z
open PySem L2
def hdW(e:Row)(m:Nat):List Int:=(List.range m).map (lat e)
def z68(ns:List Int)(lo hi:Option Int):List Int:=(ns.drop (HT.sIx ns.length 0 lo)).take (HT.sIx ns.length ns.length hi-HT.sIx ns.length 0 lo)
def z7z{ns:List Int}{lo hi:Option Int}{x:Int}(h:x∈z68 ns lo hi):x∈ns:=List.mem_of_mem_drop (List.mem_of_mem_take h)
def z7D{ns:List Int}{lo hi:Nat}(h:hi<=ns.length):(z68 ns (some (lo:Int)) (some (hi:Int))).length=hi-lo:=by
 unfold z68;rw[HT.sIx_nat,HT.sIx_nat,y0z,y12,y11 h,y11 (Nat.sub_le_sub_right h _)];rcases y2P lo ns.length with z|z
 .rw[y11 z]
 .rw[y2g z,Nat.sub_eq_zero_of_le h,Nat.sub_eq_zero_of_le (y0k h z)]
def z3L(ns:List Int)(k:Nat):z68 ns none (some (k:Int))=ns.take k:=by
 unfold z68;rw[HT.sIx_none,HT.sIx_nat,List.drop_zero,Nat.sub_zero];rcases y2P k ns.length with h|h
 .rw[y11 h]
 .rw[y2g h,y0X (y0a _),y0X h]
def z3C(ns:List Int)(k:Nat):z68 ns (some (k:Int)) none=ns.drop k:=by
 unfold z68;rw[HT.sIx_none,HT.sIx_nat];rcases y2P k ns.length with h|h
 .rw[y11 h,y0X (by rw[y12];lia)]
 .rw[y2g h,y1g (y0a _),y1g h];simp
def InN(n:Nat)(ns:List Int):Prop:=∀x∈ns,0<=x/\x<(n:Int)
def zaW(k:Nat)(r:List Int):(List.replicate k r).flatten.length=k*r.length:=z4v r k
theorem z5K(l:List Int):∀(k j:Nat),j<k*l.length->(List.replicate k l).flatten.getD j 0=l.getD (j%l.length) 0
 |0,j,h=>by simp at h
 |k+1,j,h=>by
  rw[y0O,y14,y09,List.getElem?_append];by_cases c:j<l.length
  .rw[if_pos c,y1f c,y09]
  .rw[if_neg c,<-y09,z5K l k (j-l.length) (by rw[Nat.succ_mul]at h;lia),<-Nat.mod_eq_sub_mod (by lia)]
end Gu
namespace L2
open PySem PySem.Spec PyProof.Rows
abbrev frO(o:Obj):HO:=.frz o (.ext λ_=>True)
section
variable{P:Program}{w:World}{H H1:Hp}{h:Heap}{a:Addr}{o:Obj}
def z5z(e:h.get? a=some o):z0X P w H h a (frO o):=⟨e,trivial,⟨o,e⟩,λ_ _ _ _=>trivial⟩
def z32(x:HOk P w H h)(e:H a=some (frO o)):h.get? a=some o:=(x a _ e).1
end
def utk(H:Hp)(cs:List Addr):Hp:=λb=>if b∈cs then none else H b
def rtk(H H1:Hp)(cs:List Addr):Hp:=λb=>if b∈cs then H b else H1 b
def z4q{H:Hp}{cs:List Addr}{b:Addr}(h:b∈cs):utk H cs b=none:=if_pos h
def z0q{H:Hp}{cs:List Addr}{b:Addr}(h:b∉cs):utk H cs b=H b:=if_neg h
def z7y{H H1:Hp}{cs:List Addr}{b:Addr}(h:b∈cs):rtk H H1 cs b=H b:=if_pos h
def z1P{H H1:Hp}{cs:List Addr}{b:Addr}(h:b∉cs):rtk H H1 cs b=H1 b:=if_neg h
def Same.rtk'{H H1:Hp}{cs:List Addr}(hn:∀c∈cs,H1 c=none):Same H1 (L2.rtk H H1 cs):=λb o e=>by
 have hb:b∉cs:=λz=>by rw[hn b z]at e;cases e
 rw[z1P hb];exact e
def z6K{H:Hp}{cs:List Addr}(hc:∀c∈cs,∃ob,H c=some (frO ob)){b:Addr}{o:HO}(e:H b=some o)(ne:∀ob,o≠frO ob):utk H cs b=some o:=by
 have hb:b∉cs:=λz=>by obtain⟨ob,q⟩:=hc b z;rw[e]at q;exact ne ob (y0d q)
 rw[z0q hb];exact e
def z3a(H:Hp)(f:Addr)(params:Arguments)(body:Expr)(scope:Scope)(qual:Str)(N:List Str)(fv:St):Prop :=
 ∃(clos:List (Str × Addr)) (cs:List Addr) (pm:Value) (c':Addr) (ctv:Value) (oc:Obj) (vs:Array Value) (t:Tok),H f=some (frO (PySem.W.kla_obj "<lambda>" qual params body scope clos pm c' ctv))/\H c'=some (frO oc)/\oc.data=.fields vs/\vs[1]?=some (.str qual t) /\
  (∀x y c,clos.lookup x=some c->clos.lookup y=some c->x=y)/\(∀x c,clos.lookup x=some c->c∈cs)/\(∀c∈cs,(∃x,clos.lookup x=some c)/\∃o u,H c=some (frO o)/\o.data=.cell u)/\(∀x,scope.names.lookup x=some .free->∃c,clos.lookup x=some c) /\
  ∀(i:Nat) x v,N[i]?=some x->fv[i]?=some (some v)->∃c o u,clos.lookup x=some c/\H c=some (frO o)/\o.data=.cell (some u)/\z0A v u
def z3a.mono{H H':Hp}{f:Addr}{params:Arguments}{body:Expr}{scope:Scope}{qual:Str}{N:List Str}{fv:St}(h:z3a H f params body scope qual N fv)(s:Same H H'):z3a H' f params body scope qual N fv:=by
 obtain⟨clos,cs,pm,c',ctv,oc,vs,t,e1,e2,e3,e4,e5,e5',e6,e7,e8⟩:=h;refine⟨clos,cs,pm,c',ctv,oc,vs,t,s _ _ e1,s _ _ e2,e3,e4,e5,e5',λc hc=>?_,e7,λi x v h1 h2=>?_⟩
 .obtain⟨hx,o,u,q,d⟩:=e6 c hc;exact⟨hx,o,u,s _ _ q,d⟩
 .obtain⟨c,o,u,q1,q2,q3⟩:=e8 i x v h1 h2;exact⟨c,o,u,q1,s _ _ q2,q3⟩
structure zh1(N ps:List Str)(sc:Scope):Prop where
 kind:sc.kind=.function:=by rfl
 co:sc.isCoroutine=false:=by rfl
 gen:sc.isGenerator=false:=by rfl
 nd:N.Nodup:=by decide +kernel
 pre:N.take ps.length=ps:=by rfl
 par:∀x∈ps,sc.names.lookup x=some .local:=by decide +kernel
 nocell:∀y∈sc.names,y.2≠.cell:=by decide +kernel
 fr:∀x∈N.drop ps.length,sc.names.lookup x=some .free:=by decide +kernel
def z56(vs:List V)(fv:St):St:=vs.map some++fv.drop vs.length
def zao(P:Program)(w:World)(K:yyF)(mg:yyS)(base:Heap)(N:List Str)(qual:Str)(scope:Scope)(f:Addr)(cd:Value)(clos:List (Str × Addr))(A:Around)(outer:List Env)(s:Shared)(H:Hp):Cx where
 prog:=P
 w:=w
 K:=K
 mg:=mg
 base:=base
 A:=A.deeper (PySem.W.envX qual scope s.heap.objs.size f cd clos)
 N:=N
 s₀:=s
 H₀:=H
 env:=PySem.W.envX qual scope s.heap.objs.size f cd clos
 outer:=outer
 stack:=PySem.W.envX qual scope s.heap.objs.size f cd clos::outer
 ex:=[]
 calm:=true
 fn:=λ_=>false
 pn:=[]
 xe:=noE
def z5Q{ps:List Str}{us:List Value}{i:Nat}{x:Str}{u:Value}(nd:ps.Nodup)(hp:ps[i]?=some x)(hu:us[i]?=some u):(ps.zip us).reverse.lookup x=some u:=by
 have hm:(x,u)∈(ps.zip us).reverse:=List.mem_reverse.mpr (y1v (i:=i) (by rw[y2a];exact⟨hp,hu⟩));have key:∀l:List (Str × Value),(∀v,(x,v)∈l->v=u)->(x,u)∈l->l.lookup x=some u:=by
  intro l;induction l with
  |nil=>intro _ h;cases h
  |cons q r ih =>
   intro h1 h2;obtain⟨y,v⟩:=q;rw[y0H];by_cases e:x=y
   .subst e;rw[show(x==x)=true by simp];exact y2c some (h1 v y0t)
   .rw[show(x==y)=false by simpa using e];refine ih (λv hv=>h1 v (y0g _ hv)) ?_;rcases y0l.mp h2 with z|z
    .injection z with z1 _;exact absurd z1 e
    .exact z
 refine key _ (λv hv=>?_) hm;obtain⟨j,hj,ej⟩:=y2i (List.mem_reverse.mp hv);have e1:(ps.zip us)[j]?=some (x,v):=by rw[y0e hj,ej]
 rw[y2a]at e1;have:j=i:=z4F nd e1.1 hp;subst this;rw[hu]at e1;exact(y0d e1.2).symm
def ze1{CX:CXT}{P:Program}{w:World}{K:yyF}{mg:yyS}{base:Heap}{k:Nat}{H:Hp}{f:Addr}{params:Arguments}{body:Expr}{scope:Scope}{qual:Str}{N ps:List Str}{fv:St}(C:z3a H f params body scope qual N fv)(S:zh1 N ps scope)(hbind:∀(cl:List (Str × Addr)) (pm cdv ct:Value) (us:List Value),us.length=ps.length->bindArgs (PySem.W.kla_fn "<lambda>" qual params body scope cl pm cdv ct) ⟨us,[]⟩=pure (ps.zip us))(hfv:fv.length=N.length){A:Around}{outer:List Env}{s:Shared}{us:List Value}{vs:List V}{Q:VK}{E:XK}(hr:z1C (k+1) A)(e0:zaz P w K mg base A outer s H)(r:z0B vs us)(hl:vs.length=ps.length)(hbody:∀(cd:Value) (clos:List (Str × Addr)) (cs:List Addr),z1C k (A.deeper (PySem.W.envX qual scope s.heap.objs.size f cd clos))->(∀c∈cs,∃o u,H c=some (frO o)/\o.data=.cell u) -> ∃t,PE (zao P w K mg base N qual scope f cd clos A outer s (utk H cs)) body t/\t (z56 vs fv) (utk H cs) λv H1=>(∀c∈cs,H1 c=none)->Q v (rtk H H1 cs)) : codeAny (model P w) A (.call (.ref f) ⟨us,[]⟩) (CR CX outer P w H s Q E) s:=by
 obtain⟨clos,cs,pm,c',ctv,oc,vs',t,e1,e2,e3,e4,e5,hcl,e6',e7,e8⟩:=C;have e6:∀c∈cs,∃o u,H c=some (frO o)/\o.data=.cell u:=λc hc=>(e6' c hc).2;obtain⟨tb,hPE,hq⟩:=hbody (.ref c') clos cs (hr.deeper _) e6;have KX:K.In s.heap:=e0.mod.kin.keeps λb o e=>(e0.bs b o e).1;have lim:s.heap.NoLimit:=e0.mod.nolimit.keeps λb o e=>(e0.bs b o e).1;have hul:us.length=ps.length:=by rw[<-r.length];exact hl
 refine PySem.W.kla_callFunE hr.depth (z32 e0.hok e1) rfl S.co S.gen rfl ⟨c',oc,vs',t,rfl,z32 e0.hok e2,e3,e4⟩ ?_;rw[hbind clos pm (.ref c') ctv us hul];refine y03 (y33 S.nocell (λy hy=>S.par y.1 (y2r hy).1) (λh₁ hns hsb=>?_) S.kind);have hk₁:∀b o,s.heap.get? b=some o->h₁.get? b=some o:=λb o e=>hsb.extBut b o (y0p (y07 e)) (y02 _ e);refine⟨lim.keeps hk₁,?_⟩;show codeAny _ _ (.expr body (PySem.W.envX qual scope s.heap.objs.size f (.ref c') clos)) _ _;have hcu:∀c∈cs,utk H cs c=none:=λc hc=>z4q hc;have hclt:∀c∈cs,c<s.heap.objs.size:=λc hc=>by obtain⟨o,_,q,_⟩:=e6 c hc;exact y07 (z32 e0.hok q)
 have hokU:HOk P w (utk H cs) s.heap:=λb u e=>by
  have hb:b∉cs:=λz=>by rw[z4q z]at e;cases e
  rw[z0q hb]at e;refine(e0.hok b u e).stay (λ_ _ _ q=>q) (λc q=>?_) λc xs q=>?_
  .exact z6K (λc hc=>let⟨o,_,q,_⟩:=e6 c hc;⟨o,q⟩) q (λob z=>by cases z)
  .exact z6K (λc hc=>let⟨o,_,q,_⟩:=e6 c hc;⟨o,q⟩) q (λob z=>by cases z)
 have noA:∀b:Addr,b∉(zao P w K mg base N qual scope f (.ref c') clos A outer s (utk H cs)).ex:=λb z=>absurd (show b∈([]:List Addr)from z) (by simp);have nonU:∀{b:Addr},H b=none->utk H cs b=none:=λ{b} e=>by
  by_cases hb:b∈cs
  .exact z4q hb
  .rw[z0q hb];exact e
 have I:Inv (zao P w K mg base N qual scope f (.ref c') clos A outer s (utk H cs)) [] (z56 vs fv) (utk H cs) { s with heap:=h₁,toks:=s.toks+(ps.zip us).length }:=by
  refine⟨⟨e0.mod,S.kind,rfl,rfl,y0a _,e5,λy hy=>?_,λy c hf _=>?_,λ_=>hr.hd,Around.frames_deeper e0.frames,.inr ⟨rfl,rfl⟩,λb z=>absurd z (noA b),λb o e=>⟨(e0.bs b o e).1,nonU (e0.bs b o e).2⟩,e0.bsz,λb _ _=>noA b,λb z=>absurd z (noA b),e0.funs,λb hb=>nonU (e0.frf b hb)⟩,
   rfl,e0.bare,Un.kept hk₁,⟨_,hns,λi y v h1 h2 h3=>?_⟩,λy c h=>?_,?_,λy c h=>hcu c (hcl y c h),λp hp=>absurd (show p∈([]:yyP)from hp) (by simp),hokU.kept hk₁,?_⟩
  .rcases hy with hy|hy
   .exact absurd rfl (S.nocell _ (y0N hy))
   .exact e7 y hy
  .exact absurd (show false=true from hf) y0c
  .by_cases hi:i<vs.length
   .have ha:vs[i]?=some v:=by
     unfold z56 at h2;rw[y1l (by simpa using hi),y0x]at h2;cases e:vs[i]? with
     |none=>rw[e]at h2;cases h2
     |some a=>rw[e]at h2;cases h2;rfl
    obtain⟨u,hu,rv⟩:=r.get ha;have hp:ps[i]?=some y:=by rw[<-S.pre,List.getElem?_take_of_lt (by lia)];exact h1
    have ndP:ps.Nodup:=by rw[<-S.pre];exact S.nd.sublist (List.take_sublist _ _)
    exact⟨u,rv,.inl ⟨S.par y (y1v hp),z5Q ndP hp hu⟩⟩
   .have h2':fv[i]?=some (some v):=by
     unfold z56 at h2;rw[y15 (by simpa using hi),y00,y1L]at h2;rw[show vs.length+(i-vs.length)=i by lia]at h2;exact h2
    obtain⟨c,o,u,q1,q2,q3,q4⟩:=e8 i y v h1 h2';have hkk:scope.names.lookup y=some .local\/scope.names.lookup y=some .cell\/scope.names.lookup y=some .free:=h3;refine⟨u,q4,?_⟩;rcases hkk with z|z|z
    .have hm:y∈N.drop ps.length:=y1v (i:=i-ps.length) (by rw[y1L,show ps.length+(i-ps.length)=i by lia];exact h1);rw[S.fr y hm]at z;cases z
    .exact absurd rfl (S.nocell _ (y0N z))
    .exact .inr ⟨.inr z,c,q1,⟨o,hk₁ _ _ (z32 e0.hok q2),q3⟩⟩
  .obtain⟨o,u,q,d⟩:=e6 c (hcl y c h);exact⟨u,o,hk₁ _ _ (z32 e0.hok q),d⟩
  .exact nonU (e0.hok.fresh (y0a _))
  .unfold z56;show _=N.length;have hpl:ps.length<=N.length:=by have:=y2c List.length S.pre;rw[y0z]at this;lia
   rw[y04,y00,y12,hfv];lia
 refine PySem.W.kla_codeExpr (y0I (hPE [] _ (z56 vs fv) (utk H cs) _ I hq) (λv' s' hs=>?_) λe' s' hs=>False.elim hs);obtain⟨v,H1,J,rv,q1⟩:=hs;have hn1:∀c∈cs,H1 c=none:=λc hc=>by obtain⟨⟨x,hx⟩,_⟩:=e6' c hc;exact J.freeC x c hx
 have U:Un (frs outer) [] (utk H cs) H1 s.heap s'.heap:=J.base;have hcs':∀c∈cs,∃ob,H c=some (frO ob):=λc hc=>let⟨o,_,q,_⟩:=e6 c hc;⟨o,q⟩;have out:∀{b:Addr},H b=none->b∉cs:=λ{b} e z=>by obtain⟨o,q⟩:=hcs' b z;rw[e]at q;cases q
 have got:∀{b:Addr}{o:HO},(∀ob,o≠frO ob)->H b=some o->b∉cs:=λ{b o} ne e z=>by obtain⟨ob,q⟩:=hcs' b z;rw[e]at q;exact ne ob (y0d q)
 refine⟨v,rtk H H1 cs,J.os,J.bare,⟨λb o e n hb hx=>?_,λb o e n hb hx=>?_,λb o e n hx=>?_,λb o e hx=>U.there b o e hx,λb xs e=>?_,λb o u e=>?_,λb ps e=>?_⟩,λb u e=>?_,rv,q1 hn1⟩
 .exact U.keep b o e (nonU n) hb hx
 .exact U.slot b o e (nonU n) hb hx
 .rw[z1P (out n)];exact U.free b o e (nonU n) hx
 .have hb:=got (λob z=>by cases z) e;rw[z1P hb];exact U.tups b xs (by rw[z0q hb];exact e)
 .by_cases hb:b∈cs
  .rw[z7y hb];exact e
  .rw[z1P hb];exact U.frzs b o u (by rw[z0q hb];exact e)
 .have hb:=got (λob z=>by cases z) e;obtain⟨more,q⟩:=U.tbls b ps (by rw[z0q hb];exact e);exact⟨more,by rw[z1P hb];exact q⟩
 .by_cases hb:b∈cs
  .rw[z7y hb]at e;obtain⟨ob,q⟩:=hcs' b hb;rw[q]at e;have:=y0d e;subst this;refine z5z (U.keep b ob (z32 e0.hok q) (hcu b hb) (λz=>?_) (by simp));have:=e0.frf b z;rw[q]at this;cases this
  .rw[z1P hb]at e;refine(J.hok b u e).stay (λ_ _ _ q=>q) (λc q=>?_) λc xs q=>?_
   .exact Same.rtk' hn1 c _ q
   .exact Same.rtk' hn1 c _ q
def z5F(P:Program)(w:World)(K:yyF)(mg:yyS)(base:Heap)(CX:CXT)(k:Nat)(H:Hp)(f:Addr)(sp:List V->Hp->VK->Prop):Prop :=
 (∃(o:Obj)(fd:FuncData),H f=some (frO o)/\o.data=.func fd) /\
 ∀(H':Hp),Same H H'->∀(A:Around)(outer:List Env)(s:Shared)(us:List Value)(vs:List V)(Q:VK),z1C k A->zaz P w K mg base A outer s H'->z0B vs us->sp vs H' Q ->
  codeAny (model P w) A (.call (.ref f) ⟨us,[]⟩) (CR CX outer P w H' s Q E0) s
def zge(P:Program)(w:World)(K:yyF)(mg:yyS)(base:Heap)(CX:CXT)(k:Nat)(i:Nat)(t:TA):TE:=λσ H Q=>∃(f:Addr)(sp:List V->Hp->VK->Prop),σ[i]?=some (some (.ref f))/\(∃(o:Obj)(fd:FuncData),H f=some (frO o)/\o.data=.func fd) /\
 t σ H λvs H1=>z5F P w K mg base CX k H1 f sp/\sp vs H1 Q
section
variable{X:Cx}{CX:CXT}{k:Nat}{x:Str}{p pos:Pos}{e:Expr}{es:List Expr}{t:TA}
def zaN[N:NoE CX](i:Nat)(hr:z1C k X.A)(ha:PA X (e::es) t)(hN:X.N[i]?=some x:=by rfl)(hv:Vis X.env.scope x:=by first|exact Or.inl rfl|exact Or.inr (Or.inl rfl)|exact Or.inr (Or.inr rfl))(hd:(x==("__debug__":Str))=false:=by decide)(hcd:(x==("__classdict__":Str))=false:=by decide)(he:starEach (e::es) X.env=(false,eval e X.env)::starEach es X.env:=by rfl)(hpl:(backTo pos (starEach es X.env)).any (·.1)=false:=by rfl) : PE X (.Call (.Name x p) (e::es) [] pos) (zge X.prog X.w X.K X.mg X.base CX k i t):=by
 intro pins s σ H Q I h;obtain⟨f,sp,ef,⟨o,fd,eo,od⟩,h⟩:=h;refine y1q (z2L (z9r hN hv hd hcd pins s σ H (λv H1=>v=.ref f/\H1=H) I ⟨_,ef,rfl,rfl⟩) λu s1 v H1 I1 r1 hz9=>?_);obtain⟨hv1,hH1⟩:=hz9;subst hv1 hH1;cases r1;have h':=ha pos pins s1 σ H1 _ I1 h;rw[he]at h'⊢;refine PySem.W.callWith_of (P:=λhp=>hp.get? f=some o\/∃o' fd',hp.get? f=some o'/\o'.data=.func fd') (by show((false||(backTo pos (starEach es X.env)).any (·.1))||false)=false;rw[hpl];rfl)
  (λhp hX=>?_) (PySem.Calls.evalArgs_plain (thn h' λus s2 ⟨vs,H2,I2,r,cv,q⟩=>?_))
 .have hX':∃o' fd',hp.get? f=some o'/\o'.data=.func fd':=hX.elim (λz=>⟨o,fd,z,od⟩) id;obtain⟨o',fd',z,d'⟩:=hX';refine⟨.frame,.inl rfl,?_⟩;obtain⟨cls,dd,data,sl⟩:=o';simp only at d';subst d';exact(PySem.W.Looks.ld (part:=none) z).andThen .now
 .obtain⟨⟨o',fd',z,d'⟩,run⟩:=cv;refine⟨.inr ⟨o',fd',z32 I2.hok z,d'⟩,?_⟩;refine wpAny_call (y23 (run H2 (Same.refl _) X.A X.stack s2 us vs Q hr I2.env0 r q) λr s' hq=>?_);cases r with
  |error e=>exact absurd hq N.no
  |ok fl =>
   cases fl with
   |ret u=>exact I2.after hq
   |next=>exact False.elim hq
   |brk=>exact False.elim hq
   |cont=>exact False.elim hq
end
structure Tb where
 at_:Addr
 pos:Pos
 qual:Str
def zaQ(T:Tb)(H:Hp):Prop:=H T.at_=some (.tbl #[])\/∃(c':Addr)(oc:Obj)(vs:Array Value)(t:Tok),H T.at_=some (.tbl #[rawInt T.pos.line,rawInt T.pos.col,.ref c'])/\H c'=some (frO oc)/\oc.data=.fields vs/\vs[1]?=some (.str T.qual t)
def z6z(Ts:List Tb)(H:Hp):Prop:=∀T∈Ts,zaQ T H
structure zi8(Ts:List Tb)(H H':Hp):Prop where
 at_:∀b o,(∀ps,o≠.tbl ps)->H b=some o->H' b=some o
 tabs:z6z Ts H->z6z Ts H'
def zaQ.mono{T:Tb}{H H':Hp}(h:zaQ T H)(s:Same H H'):zaQ T H':=by
 rcases h with e|⟨c',oc,vs,t,e1,e2,e3⟩
 .exact .inl (s _ _ e)
 .exact .inr ⟨c',oc,vs,t,s _ _ e1,s _ _ e2,e3⟩
def Same.l{Ts:List Tb}{H H':Hp}(s:Same H H'):zi8 Ts H H':=⟨λb o _ e=>s b o e,λh T hT=>(h T hT).mono s⟩
def z6e(H:Hp)(cs:List Addr)(ob:Addr->Obj):Hp:=λb=>if b∈cs then some (frO (ob b))else H b
def z3x{H:Hp}{cs:List Addr}{ob:Addr->Obj}{b:Addr}(h:b∈cs):z6e H cs ob b=some (frO (ob b)):=if_pos h
def z0T{H:Hp}{cs:List Addr}{ob:Addr->Obj}{b:Addr}(h:b∉cs):z6e H cs ob b=H b:=if_neg h
section
variable{X:Cx}{pins:yyP}{σ:St}{H:Hp}{s s':Shared}{cs:List Addr}{ob:Addr->Obj}
def Inv.cellFree(I:Inv X pins σ H s){x:Str}{c:Addr}(hc:X.env.cells.lookup x=some c)(hge:X.s₀.heap.objs.size<=c):c∉frs X.stack/\X.base.get? c=none:=by
 refine⟨λz=>?_,y2Z (y0k I.ok.bsz hge)⟩;rcases y0l.mp (I.stkSub c z)with q|q
 .exact I.cne x c hc q
 .obtain⟨_,o,ho,_⟩:=I.ok.funs.mem q;exact absurd (y0q (y07 ho) hge) (y1w _)
def Inv.env0T(I:Inv X pins σ H s)(h1:∀c∈cs,s.heap.get? c=some (ob c))(h2:∀c∈cs,H c=none)(h3:∀c∈cs,c∉frs X.stack/\X.base.get? c=none):zaz X.prog X.w X.K X.mg X.base X.A X.stack s (z6e H cs ob):=by
 have E:=I.env0;have out:∀{b:Addr}{o:HO},H b=some o->b∉cs:=λ{b o} e z=>by rw[h2 b z]at e;cases e
 refine⟨E.frames,E.mod,λb o e=>⟨(E.bs b o e).1,?_⟩,E.bsz,E.funs,λb hb=>?_,λb u e=>?_,E.bare⟩
 .have hb:b∉cs:=λz=>by rw[(h3 b z).2]at e;cases e
  rw[z0T hb];exact(E.bs b o e).2
 .have hb':b∉cs:=λz=>(h3 b z).1 hb;rw[z0T hb'];exact E.frf b hb
 .by_cases hb:b∈cs
  .rw[z3x hb]at e;have:=y0d e;subst this;exact z5z (h1 b hb)
  .rw[z0T hb]at e;exact(I.hok b u e).stay (λ_ _ _ q=>q) (λc q=>by rw[z0T (out q)];exact q) λc xs q=>by rw[z0T (out q)];exact q
def unT{fr:List Addr}{H':Hp}{h h':Heap}{P:Program}{w:World}(h1:∀c∈cs,h.get? c=some (ob c))(h2:∀c∈cs,H c=none)(h3:∀c∈cs,c∉fr)(U:Un fr [] (z6e H cs ob) H' h h')(hok:HOk P w H' h') : Un fr [] H (utk H' cs) h h'/\HOk P w (utk H' cs) h':=by
 have out:∀{b:Addr}{o:HO},H b=some o->b∉cs:=λ{b o} e z=>by rw[h2 b z]at e;cases e
 have at':∀c∈cs,H' c=some (frO (ob c)):=λc hc=>U.frzs c _ _ (z3x hc);have got:∀{b:Addr}{o:HO},(∀x,o≠frO x)->H' b=some o->b∉cs:=λ{b o} ne e z=>by rw[at' b z]at e;exact ne _ (y0d e).symm
 refine⟨⟨λb o e n hb hx=>?_,λb o e n hb hx=>?_,λb o e n hx=>?_,λb o e hx=>U.there b o e hx,λb xs e=>?_,λb o u e=>?_,λb ps e=>?_⟩,λb u e=>?_⟩
 .by_cases hc:b∈cs
  .have q:=z32 hok (at' b hc);have q':=h1 b hc;rw[e]at q';rw[q,y0d q']
  .exact U.keep b o e (by rw[z0T hc];exact n) hb hx
 .have hc:b∉cs:=λz=>h3 b z hb;exact U.slot b o e (by rw[z0T hc];exact n) hb hx
 .by_cases hc:b∈cs
  .exact z4q hc
  .rw[z0q hc];exact U.free b o e (by rw[z0T hc];exact n) hx
 .rw[z0q (out e)];exact U.tups b xs (by rw[z0T (out e)];exact e)
 .rw[z0q (out e)];exact U.frzs b o u (by rw[z0T (out e)];exact e)
 .obtain⟨more,q⟩:=U.tbls b ps (by rw[z0T (out e)];exact e);exact⟨more,by rw[z0q (out e)];exact q⟩
 .have hc:b∉cs:=λz=>by rw[z4q z]at e;cases e
  rw[z0q hc]at e;refine(hok b u e).stay (λ_ _ _ q=>q) (λc q=>?_) λc xs q=>?_
  .rw[z0q (got (λx z=>by cases z) q)];exact q
  .rw[z0q (got (λx z=>by cases z) q)];exact q
def Inv.afterT{Q:VK}{u:Value}(I:Inv X pins σ H s)(h1:∀c∈cs,s.heap.get? c=some (ob c))(h2:∀c∈cs,H c=none)(h3:∀c∈cs,c∉frs X.stack/\X.base.get? c=none)(h:CE X.stack X.prog X.w (z6e H cs ob) s (λv H'=>Q v (utk H' cs)) u s'):EP X pins σ Q u s':=by obtain⟨v,H',os,bare,un,hok,r,q⟩:=h;obtain⟨un2,hok2⟩:=unT h1 h2 (λc hc=>(h3 c hc).1) un hok;exact I.after ⟨v,utk H' cs,os,bare,un2,hok2,r,q⟩
def zkl{P:Program}{w:World}{outer:List Env}{E:XK}{e:Value}(h1:∀c∈cs,s.heap.get? c=some (ob c))(h2:∀c∈cs,H c=none)(h3:∀c∈cs,c∉frs outer)(h:CXx P w outer (z6e H cs ob) s (λe C H'=>E e C (utk H' cs)) e s'):CXx P w outer H s E e s':=by
 obtain⟨ea,C,H',e1,os,bare,un,hok,fly,q⟩:=h;obtain⟨un2,hok2⟩:=unT h1 h2 h3 un hok;have no:∀{b:Addr},H' b=none->utk H' cs b=none:=λ{b} z=>by
  by_cases hc:b∈cs
  .exact z4q hc
  .rw[z0q hc];exact z
 obtain⟨f1,f2,a0,oe,vs,T,oT,ts,g1,g2,g3,g4,g5,g6,g7,g8⟩:=fly;exact⟨ea,C,utk H' cs,e1,os,bare,un2,hok2,⟨f1,no f2,a0,oe,vs,T,oT,ts,g1,g2,g3,g4,g5,g6,no g7,g8⟩,q⟩
end
def z45(base:Heap)(mg:yyS):Prop:=∃bm o,mg "__builtins__"=some (.ref bm)/\bm≠builtinsNs/\bm≠mainGlobals/\base.get? bm=some o/\o.cls=.type "module"/\o.dict=some builtinsNs/\o.data=.plain
def z9p(Ts:List Tb)(H H':Hp)(fa:Addr)(clos:List (Str × Addr))(params:Arguments)(body:Expr)(scope:Scope)(qual:Str):Prop :=
 H fa=none/\(∀b o,(∀ps,o≠.tbl ps)->H b=some o->H' b=some o)/\z6z Ts H'/\∃(pm:Value) (c':Addr) (ctv:Value) (oc:Obj) (vs:Array Value) (t:Tok),H' fa=some (frO (PySem.W.kla_obj "<lambda>" qual params body scope clos pm c' ctv))/\H' c'=some (frO oc)/\oc.data=.fields vs/\vs[1]?=some (.str qual t)
def ziR(Ts:List Tb)(clos:List (Str × Addr))(params:Arguments)(body:Expr)(scope:Scope)(qual:Str):TE:=λ_ H Q=>z6z Ts H/\∀(fa:Addr)(H':Hp),z9p Ts H H' fa clos params body scope qual->Q (.ref fa) H'
section
variable{X:Cx}{N:List Str}{ix:List (Option Nat)}{params:Arguments}{body:Expr}{lsc:Scope}{lpos:Pos}{c:Addr}{T:Tb}{Ts:List Tb}
def zgc(S:z0K X.N X.env.scope N ix lsc)(hcode:X.env.code=.ref c)(hC:PySem.W.CodeHd X.base c T.at_)(hB:z45 X.base X.mg)(hT:T∈Ts)(hTn:∀T'∈Ts,T'.at_=T.at_->T'=T)(hTp:T.pos=lpos)(hTq:T.qual=X.env.qual++"<lambda>")(hdef:defaultsOf params X.env=([],[])):PE X (.Lambda params body lsc lpos) (ziR Ts (z0s X.env.cells lsc.names []) params body lsc T.qual):=by
 intro pins s σ H Q I h;obtain⟨ht,h⟩:=h;subst hTp;refine PySem.W.kla_eval hdef ?_;rw[<-hTq];have hcl:=z1a (scope:=lsc) (env:=X.env) (z0y I S);have hns:s.heap.Ns mainGlobals X.mg:=I.mod.glob.keeps I.bk;have C:PySem.W.CodeHd s.heap c T.at_:=hC.keeps I.bk;obtain⟨bm,ob,b1,b2,b3,b4,b5,b6,b7⟩:=hB;have tP:∀{ps:Array Value},H T.at_=some (.tbl ps)->s.heap.get? T.at_=some (PySem.W.tabObj ps):=λe=>I.hok _ _ e;have neP:∀{ps:Array Value}{b:Addr},H T.at_=some (.tbl ps)->H b=none->b≠T.at_:=λe n z=>by rw[z,e]at n;cases n
 rcases ht T hT with e|⟨c',oc,vs,t,e,ec,d1,d2⟩
 .have hbP:bm≠T.at_:=neP e (I.bs _ _ b4).2;have hgP:mainGlobals≠T.at_:=λz=>by
   obtain⟨o,es,ep,q,qd,_⟩:=hns;rw[z,tP e]at q;cases q;cases qd
  refine PySem.W.kla_makeFunction (mg:=X.mg) hcl I.ok.glob hns hcode C (tP e) trivial rfl hgP ⟨bm,ob,b1,b2,b3,hbP,I.bk _ _ b4,b5,b6,b7⟩ λc' ctv h' tk hx hge hlt hrec htb=>?_;obtain⟨c2,oc,vs,t,ee,hoc,d1,d2⟩:=hrec;cases ee;have hPlt:T.at_<s.heap.objs.size:=y07 (tP e);have nPc:T.at_≠c':=y0p (y0q hPlt hge);have nPf:T.at_≠h'.objs.size:=y0p (y3k (y0q hPlt hge) hlt);have ncf:c'≠h'.objs.size:=y0p hlt;have Hc:H c'=none:=I.hok.fresh hge;have Hf:H h'.objs.size=none:=I.hok.fresh (y0k hge (y0Z hlt));generalize hfo:PySem.W.kla_obj "<lambda>" T.qual params body lsc (z0s X.env.cells lsc.names []) ((X.mg "__name__").getD .none) c' ctv=fo;have hfg:(h'.push fo).get? h'.objs.size=some fo:=y05 _ (by rw[<-hfo];rfl);let H':Hp:=upd (upd (upd H T.at_ (.tbl #[rawInt T.pos.line,rawInt T.pos.col,.ref c'])) c' (frO oc)) h'.objs.size (frO fo);have gP:H' T.at_=some (.tbl #[rawInt T.pos.line,rawInt T.pos.col,.ref c']):=by show upd _ _ _ _=_;rw[z0f nPf,z0f nPc,z0e]
  have gc:H' c'=some (frO oc):=by show upd _ _ _ _=_;rw[z0f ncf,z0e]
  have gf:H' h'.objs.size=some (frO fo):=z0e;have go:∀{b:Addr},b≠T.at_->b≠c'->b≠h'.objs.size->H' b=H b:=λ{b} n1 n2 n3=>by show upd _ _ _ _=_;rw[z0f n3,z0f n2,z0f n1]
  have gt:∀{b:Addr}{o:HO},b≠T.at_->H b=some o->H' b=some o:=λ{b o} n1 q=>by rw[go n1 (z0i q Hc) (z0i q Hf)];exact q
  have hk:∀b o,b≠T.at_->s.heap.get? b=some o->(h'.push fo).get? b=some o:=λb o n q=>y02 _ (hx b o n q);have I':Inv X pins σ H' { s with heap:=h'.push fo,toks:=tk }:=by
   refine I.un ⟨λb o q n _ _=>hk b o (neP e n) q,λb o q n _ _=>⟨o.slots,hk b o (neP e n) q⟩,λb o q n _=>?_,λb o q _=>?_,λb xs q=>?_,λb o u q=>?_,λb ps q=>?_⟩ (λb u q=>?_)
   .have hb:=y07 q;rw[go (neP e n) (y0p (y0q hb hge)) (y0p (y3k (y0q hb hge) hlt))];exact n
   .by_cases hb:b=T.at_
    .exact⟨_,by rw[hb];exact y02 _ htb⟩
    .exact⟨_,hk b o hb q⟩
   .exact gt (λz=>by rw[z,e]at q;cases q) q
   .exact gt (λz=>by rw[z,e]at q;cases q) q
   .by_cases hb:b=T.at_
    .subst hb;rw[e]at q;cases q;exact⟨#[rawInt T.pos.line,rawInt T.pos.col,.ref c'],by rw[gP];simp⟩
    .exact⟨#[],by rw[gt hb q];simp⟩
   .by_cases hf:b=h'.objs.size
    .subst hf;rw[gf]at q;cases q;exact z5z hfg
    .by_cases hc:b=c'
     .subst hc;rw[gc]at q;cases q;exact z5z (y02 _ hoc)
     .by_cases hb:b=T.at_
      .subst hb;rw[gP]at q;cases q;show(h'.push fo).get? T.at_=some (PySem.W.tabObj _);have:=y02 fo htb;simpa using this
      .rw[go hb hc hf]at q;refine(I.hok b u q).stay (λd o hd q'=>hk d o ?_ q') (λd q'=>gt (λz=>by rw[z,e]at q';cases q') q') λd xs q'=>gt (λz=>by rw[z,e]at q';cases q') q';rcases hd with z|z
       .rw[z];exact hb
       .exact λz'=>by rw[z',e]at z;cases z
  refine⟨.ref h'.objs.size,H',I',rfl,h _ _ ⟨Hf,λb o no q=>gt (λz=>by rw[z,e]at q;exact no _ (y0d q).symm) q,λT' hT'=>?_,_,c',ctv,oc,vs,t,by rw[hfo];exact gf,gc,d1,d2⟩⟩;by_cases hb:T'.at_=T.at_
  .have:=hTn T' hT' hb;subst this;exact .inr ⟨c',oc,vs,t,gP,gc,d1,d2⟩
  .rcases ht T' hT' with q|⟨c3,oc3,vs3,t3,q1,q2,q3⟩
   .exact .inl (gt hb q)
   .exact .inr ⟨c3,oc3,vs3,t3,gt hb q1,gt (λz=>by rw[z,e]at q2;cases q2) q2,q3⟩
 .have hbP:bm≠T.at_:=neP e (I.bs _ _ b4).2;refine PySem.W.kla_makeFunctionHit (mg:=X.mg) (cv:=.ref c') hcl I.ok.glob hns hcode C (tP e) (by simp[TriplesOk,rawInt]) (by simp[codeAmong,rawInt]) ⟨bm,ob,b1,b2,b3,hbP,I.bk _ _ b4,b5,b6,b7⟩ λctv h' tk hk hsz=>?_;have Hf:H h'.objs.size=none:=I.hok.fresh hsz;have gt:∀{b:Addr}{o:HO}{u:HO},H b=some o->upd H h'.objs.size u b=some o:=λq=>by rw[z0f (z0i q Hf)];exact q
  refine⟨.ref h'.objs.size,_,I.laid (a:=h'.objs.size) (o:=frO (PySem.W.kla_obj "<lambda>" T.qual params body lsc (z0s X.env.cells lsc.names []) ((X.mg "__name__").getD .none) c' ctv)) (t':=tk) (λb o q=>y02 _ (hk b o q)) hsz (z5z (y05 _ rfl)),rfl,h _ _ ⟨Hf,λb o _ q=>gt q,λT' hT'=>?_,_,c',ctv,oc,vs,t,z0e,gt ec,d1,d2⟩⟩;rcases ht T' hT' with q|⟨c3,oc3,vs3,t3,q1,q2,q3⟩
  .exact .inl (gt q)
  .exact .inr ⟨c3,oc3,vs3,t3,gt q1,gt q2,q3⟩
def zgl(Ts:List Tb)(params:Arguments)(body:Expr)(lsc:Scope)(qual:Str)(N:List Str)(ix:List (Option Nat))(sp:Sp)(E:XK)(t0:TE):TE:=λσ H Q=>t0 σ H λv0 H1=>z6z Ts H1/\∀(fa:Addr)(H2:Hp)(cs:List Addr)(ob:Addr->Obj),H1 fa=none->(∀b o,(∀ps,o≠.tbl ps)->H1 b=some o->H2 b=some o) ->
 z6z Ts H2->(∀c∈cs,H2 c=none)->(∀c∈cs,∃u,(ob c).data=.cell u)->z3a (z6e H2 cs ob) fa params body lsc qual N (z18 ix σ)->sp [v0,.ref fa] (z6e H2 cs ob) (λv H3=>Q v (utk H3 cs)) (λe C H3=>E e C (utk H3 cs))
variable{k:Nat}{g:Addr}{gd:FuncData}{ps:List Str}{sp:Sp}{E:XK}{x:Str}{p pos:Pos}{e0:Expr}{t0:TE}
def zaJ(G:z2h X.prog X.w X.K X.mg X.base (CXx X.prog X.w) k g gd ps sp)(hr:z1C k X.A)(hg:Gl X x)(hm:X.mg x=some (.ref g))(hk:PySem.W.keepIn X.K (.ref g)=true)(hb:z1q X.K gd ps [])(hx:z2r (CXx X.prog X.w) X E)(h0:PE X e0 t0)(m0:∀σ H (Q Q':VK),(∀v H1,Q v H1->Q' v H1)->t0 σ H Q->t0 σ H Q')(S:z0K X.N X.env.scope N ix lsc)(hcode:X.env.code=.ref c)(hC:PySem.W.CodeHd X.base c T.at_)(hB:z45 X.base X.mg)(hfn:∀y,X.fn y=true)(hT:T∈Ts)(hTn:∀T'∈Ts,T'.at_=T.at_->T'=T)(hTp:T.pos=lpos)(hTq:T.qual=X.env.qual++"<lambda>")(hdef:defaultsOf params X.env=([],[]):=by rfl)(hdb:(x==("__debug__":Str))=false:=by decide)(he:starEach [e0,.Lambda params body lsc lpos] X.env=(false,eval e0 X.env)::starEach [.Lambda params body lsc lpos] X.env:=by rfl)(he2:starEach [.Lambda params body lsc lpos] X.env=(false,eval (.Lambda params body lsc lpos) X.env)::starEach [] X.env:=by rfl)(hpl:(backTo pos (starEach [.Lambda params body lsc lpos] X.env)).any (·.1)=false:=by rfl) : PE X (.Call (.Name x p) [e0,.Lambda params body lsc lpos] [] pos) (zgl Ts params body lsc T.qual N ix sp E t0):=by
 intro pins s σ H Q I h;refine y1q (z2R I hg hm ?_ hdb);have hPA:PA X [e0,.Lambda params body lsc lpos] (z9A t0 (z9A (ziR Ts (z0s X.env.cells lsc.names []) params body lsc T.qual) ziy)):=z1L h0 (z1L (zgc S hcode hC hB hT hTn hTp hTq hdef) z40 he2) he;refine y20 (h₀:=X.base) I.ok.mod.kin hk (thn (hPA pos pins s σ H (λus H2=>∃(v0:V)(fa:Addr)(H1:Hp),us=[v0,.ref fa]/\(z6z Ts H1/\∀(fa:Addr)(H2:Hp)(cs:List Addr)(ob:Addr->Obj),H1 fa=none->(∀b o,(∀ps,o≠.tbl ps)->H1 b=some o->H2 b=some o) ->
 z6z Ts H2->(∀c∈cs,H2 c=none)->(∀c∈cs,∃u,(ob c).data=.cell u)->z3a (z6e H2 cs ob) fa params body lsc T.qual N (z18 ix σ)->sp [v0,.ref fa] (z6e H2 cs ob) (λv H3=>Q v (utk H3 cs)) (λe C H3=>E e C (utk H3 cs)))/\z9p Ts H1 H2 fa (z0s X.env.cells lsc.names []) params body lsc T.qual) I ?_) λus s2 ⟨vs,H2,I2,r,q⟩=>⟨I2.kIn,?_⟩) he hpl
 .exact m0 σ H _ _ (λv0 H1 ⟨ht,hq⟩=>⟨ht,λfa H' made=>⟨v0,fa,H1,rfl,⟨ht,hq⟩,made⟩⟩) h
 .obtain⟨v0,fa,H1,rfl,⟨ht,hq⟩,mnew,mfr,mtb,pm,c',ctv,oc,vsc,t,m1,m2,m3,m4⟩:=q;let clos:=z0s X.env.cells lsc.names [];let cs:List Addr:=(lsc.names.map (·.1)).filterMap (λy=>List.lookup y clos);let ob:Addr->Obj:=λc=>(s2.heap.get? c).getD { cls:=.none,data:=.plain };have lk:∀{y:Str}{c:Addr},clos.lookup y=some c->X.env.cells.lookup y=some c:=λe=>z1c I2 S e;have mem:∀{c:Addr},c∈cs->∃y,clos.lookup y=some c:=λ{c} hc=>by
   obtain⟨y,_,e⟩:=y2q.mp hc;exact⟨y,e⟩
  have inn:∀y c,clos.lookup y=some c->c∈cs:=λy c e=>by
   refine y2q.mpr ⟨y,?_,e⟩;by_cases hm':(y,NameKind.free)∈lsc.names
   .exact y0f.mpr ⟨_,hm',rfl⟩
   .have:=z2T (cells:=X.env.cells) lsc.names [] y hm';rw[show(z0s X.env.cells lsc.names []).lookup y=some c from e]at this;cases this
  have h1:∀c∈cs,s2.heap.get? c=some (ob c):=λc hc=>by obtain⟨y,e⟩:=mem hc;obtain⟨v,o,ho,_⟩:=I2.cell y c (lk e);show _=some ((s2.heap.get? c).getD _);rw[ho];rfl
  have h2:∀c∈cs,H2 c=none:=λc hc=>by obtain⟨y,e⟩:=mem hc;exact I2.freeC y c (lk e)
  have h3:∀c∈cs,c∉frs X.stack/\X.base.get? c=none:=λc hc=>by obtain⟨y,e⟩:=mem hc;exact I2.cellFree (lk e) (I2.ok.cab y c (hfn y) (lk e))
  have out:∀{b:Addr}{o:HO},H2 b=some o->b∉cs:=λ{b o} e z=>by rw[h2 b z]at e;cases e
  have tr:∀{b:Addr}{o:HO},H2 b=some o->z6e H2 cs ob b=some o:=λe=>by rw[z0T (out e)];exact e
  have hcl:∀c∈cs,∃u,(ob c).data=.cell u:=λc hc=>by obtain⟨y,e⟩:=mem hc;obtain⟨v,o,ho,hd⟩:=I2.cell y c (lk e);refine⟨v,?_⟩;show((s2.heap.get? c).getD _).data=_;rw[ho];exact hd
  have spq:=hq fa H2 cs ob mnew mfr mtb h2 hcl ?_
  .refine wpAny_call (y23 (G.run X.A X.stack s2 (z6e H2 cs ob) ⟨us,[]⟩ us [v0,.ref fa] _ _ hr (I2.env0T h1 h2 h3) (by have:=hb s2 us I2.kIn (by rw[y0j,<-r.length];exact G.len _ _ _ _ spq);rw[y0j]at this;exact this) r spq) λr s' hq=>?_);cases r with
   |error e=>exact hx pins σ H2 s2 e s' I2 (zkl h1 h2 (λc hc=>(h3 c hc).1) hq)
   |ok fl =>
    cases fl with
    |ret u=>exact I2.afterT h1 h2 h3 hq
    |next=>exact False.elim hq
    |brk=>exact False.elim hq
    |cont=>exact False.elim hq
  .refine⟨clos,cs,pm,c',ctv,oc,vsc,t,tr m1,tr m2,m3,m4,λy z c e1 e2=>I2.ok.inj y z c (lk e1) (lk e2),inn,λc hc=>⟨mem hc,?_⟩,λy hy=>?_,λi y v e1 e2=>?_⟩
   .obtain⟨y,e⟩:=mem hc;obtain⟨v,o,ho,hd⟩:=I2.cell y c (lk e);refine⟨ob c,v,z3x hc,?_⟩;have:=h1 c hc;rw[ho]at this;rw[<-y0d this];exact hd
   .have hm':(y,NameKind.free)∈lsc.names:=y0N hy;obtain⟨c,e⟩:=z0y I2 S y hm';exact⟨c,(z1p lsc.names [] y (z0y I2 S) (.inl hm')).trans e⟩
   .obtain⟨j,f1,f2,f3⟩:=S.at_ e1 e2;have hm':(y,NameKind.free)∈lsc.names:=y0N f2;obtain⟨m,hn,hl⟩:=I2.loc;have hvis:=S.frees _ hm' rfl;obtain⟨u,ru,look⟩:=hl j y v f1 f3 (.inr hvis);rcases look with⟨hk',_⟩|⟨_,c,ec,cell⟩
    .have hk'':X.env.scope.names.lookup y=some .local:=hk';rcases hvis with z|z
     .rw[z]at hk'';cases hk''
     .rw[z]at hk'';cases hk''
    .have hcl:clos.lookup y=some c:=(z1p lsc.names [] y (z0y I2 S) (.inl hm')).trans ec;have hc:=inn y c hcl;obtain⟨o,ho,hd⟩:=cell;refine⟨c,ob c,u,hcl,z3x hc,?_,ru⟩;have:=h1 c hc;rw[ho]at this;rw[<-y0d this];exact hd
end
def NFr(H H':Hp):Prop:=∀b o,(∀ob,o≠frO ob)->H b=some o->H' b=some o
theorem NFr.utk{H H3:Hp}{cs:List Addr}(hc:∀c∈cs,∃ob,H c=some (frO ob))(s:Same H H3):NFr H3 (L2.utk H3 cs):=λb o n e=>z6K (λc h=>let⟨ob,q⟩:=hc c h;⟨ob,s _ _ q⟩) e n
def Fun.okL{CX:CXT}{P:Program}{w:World}{K:yyF}{mg:yyS}{base:Heap}{x qual:Str}{st:Stmt}{f c:Addr}{fd:FuncData}{N ps:List Str}{k:Nat}{sp:Sp}(F:Fun K x qual st f fd)(hc:fd.code=.ref c)(S:z1M N ps (z0a st))(len:∀vs H Q E,sp vs H Q E->vs.length=ps.length)(hbody:∀(A:Around)(outer:List Env)(s:Shared)(H:Hp)(vs:List V)(Q:VK)(E:XK),z1C k (A.deeper (envOfC qual (z0a st) s.heap.objs.size f (.ref c)))->sp vs H Q E -> ∃t,PSs (z2V CX P w K mg base N qual (z0a st) f (.ref c) A outer s H E) (z0v st) t/\t { nx:=λ_ H'=>Q .non H',rt:=Q } (start N vs) H):z2h P w K mg base CX (k+1) f fd ps sp:=by obtain⟨oc,od,kV,doc,pm,an,cdv,ct,osl,rfl,lk,hcd⟩:=F.ex;have:cdv=.ref c:=hc;subst this;exact zfp lk hcd S len λA outer s H vs Q E hr hsp=>hbody A outer s H vs Q E hr hsp
def z8Q{P:Program}{w:World}{K:yyF}{mg mb:yyS}{CX:CXT}{k:Nat}{fa a:Addr}{fd:FuncData}{x:Str}{sp:Sp}{s₁:Shared}{vs:List Value}{ns:List Int}{Ts:List Tb}(KX:K.In s₁.heap)(hns:s₁.heap.Ns mainGlobals mg)(hb:s₁.heap.Ns builtinsNs mb)(hbb:∀x:Str,x≠"__name__"->mb x=bootBuiltins x)(hlim:s₁.heap.NoLimit)(hg:s₁.gens=#[])(ha:s₁.heap.get? a=some { cls:=.type "list",data:=.seq vs.toArray })(hi:IntsAre vs ns)(hl:ns.length<=sizeLine)(hr:z1C k callerA)(hT:∀T∈Ts,s₁.heap.get? T.at_=some (PySem.W.tabObj #[])/\K.lookup T.at_=none/\∃c,PySem.W.CodeHd s₁.heap c T.at_)(hbm:z45 s₁.heap mg)(F:∀base:Heap,K.In base->base.Ns mainGlobals mg->z45 base mg->z2h P w K mg base CX k fa fd [x] sp)(hbind:∀(s:Shared) (u:Value),BindsTo s fd ⟨[u],[]⟩ [(x,u)])(hsp:∀H:Hp,z6z Ts H->SqL K H a (ns.map V.int)->sp [.ref a] H (λv _=>v=.bl true) λ_ _ _=>False)(hCX:∀H e s',CX [] H s₁ (λ_ _ _=>False) e s'->False) : codeAny (model P w) callerA (.call (.ref fa) ⟨[.ref a],[]⟩) (λr s'=>r=.ok (.ret (.bool true))/\OldK s₁.heap s'.heap/\s'.os=s₁.os/\AllBare s'.gens) s₁:=by
 have rv:=z5V hi;have lenV:=hi.length;have isT:∀b,(∃T∈Ts,T.at_=b)->s₁.heap.get? b=some (PySem.W.tabObj #[])/\K.lookup b=none/\∃c,PySem.W.CodeHd s₁.heap c b:=λb ⟨T,hT1,e⟩=>e▸hT T hT1;have core:∀H:Hp,z6z Ts H->SqL K H a (ns.map V.int)->HOk P w H s₁.heap->(∀b,H b≠none->(b=a/\K.lookup a=none/\∃o xs,H b=some (.frz o (.lst xs)))\/((∃T∈Ts,T.at_=b)/\H b=some (.tbl #[]))) ->
   codeAny (model P w) callerA (.call (.ref fa) ⟨[.ref a],[]⟩) (λr s'=>r=.ok (.ret (.bool true))/\OldK s₁.heap s'.heap/\s'.os=s₁.os/\AllBare s'.gens) s₁:=by
  intro H hO hS hok hA;have base_of:∀{b:Addr}{o:Obj},s₁.heap.get? b=some o->H b=none->(zav s₁.heap H).get? b=some o:=λe n=>zcb e n;have noA:∀{b:Addr}{o:Obj},s₁.heap.get? b=some o->(∀xs,o.data≠.seq xs)->(∀xs,o.data≠.fields xs)->H b=none:=λ{b o} e d1 d2=>by
   cases q:H b with
   |none=>rfl
   |some u =>
    rcases hA b (by rw[q];simp)with⟨e',_⟩|⟨e',_⟩
    .subst e';rw[ha]at e;cases e;exact absurd rfl (d1 _)
    .rw[(isT b e').1]at e;cases e;exact absurd rfl (d2 _)
  have nsK:∀{b:Addr}{m:yyS},s₁.heap.Ns b m->(zav s₁.heap H).Ns b m:=λ{b m} ⟨o,es,ep,e,d,r⟩=>⟨o,es,ep,base_of e (noA e (λxs z=>by rw[z]at d;cases d) (λxs z=>by rw[z]at d;cases d)),d,r⟩;have hKb:K.In (zav s₁.heap H):=λb o e=>base_of (KX b o e) (by
   cases q:H b with
   |none=>rfl
   |some u =>
    rcases hA b (by rw[q];simp)with⟨e',hk,_⟩|⟨e',_⟩
    .subst e';rw[hk]at e;cases e
    .rw[(isT b e').2.1]at e;cases e)
  have hM:Mod K mg (zav s₁.heap H):=⟨hKb,nsK hns,⟨mb,nsK hb,hbb⟩,let⟨mc,h1,h2⟩:=hlim;⟨mc,nsK h1,h2⟩⟩;have hBM:z45 (zav s₁.heap H) mg:=by obtain⟨bm,o,b1,b2,b3,b4,b5,b6,b7⟩:=hbm;exact⟨bm,o,b1,b2,b3,base_of b4 (noA b4 (λxs z=>by rw[z]at b7;cases b7) (λxs z=>by rw[z]at b7;cases b7)),b5,b6,b7⟩
  have e0:zaz P w K mg (zav s₁.heap H) callerA [] s₁ H:=⟨rfl,hM,λb o e=>zdU e,y2l (z9S _ _),trivial,λb hb=>absurd (show b∈([]:List Addr)from hb) (by simp),hok,.of_eq hg⟩;refine y23 ((F _ hKb (nsK hns) hBM).run callerA [] s₁ H ⟨[.ref a],[]⟩ [.ref a] [.ref a] _ _ hr e0 (hbind s₁ (.ref a)) (.cons rfl .nil) (hsp H hO hS)) λr s' h=>?_;cases r with
  |error e=>exact(hCX H e s' h).elim
  |ok fl =>
   cases fl with
   |next=>exact False.elim h
   |brk=>exact False.elim h
   |cont=>exact False.elim h
   |ret u =>
    obtain⟨v,H',os,bare,un,hok',r',q⟩:=h;have q':v=.bl true:=q;subst q';obtain rfl:u=Value.bool true:=r';have key:∀b o,s₁.heap.get? b=some o->s'.heap.get? b=some o\/((∃T∈Ts,T.at_=b)/\∃more,s'.heap.get? b=some (PySem.W.tabObj (#[]++more))):=λb o e=>by
     cases q:H b with
     |none=>exact .inl (un.keep b o e q (by intro z;exact absurd (show b∈([]:List Addr)from z) (by simp)) (by simp))
     |some u =>
      rcases hA b (by rw[q];simp)with⟨_,_,ob,xs,z⟩|⟨e',z⟩
      .have z2:=un.frzs b ob _ z;obtain⟨e1,_⟩:=hok b _ z;obtain⟨e2,_⟩:=hok' b _ z2;rw[e]at e1;cases e1;exact .inl e2
      .obtain⟨more,z2⟩:=un.tbls b #[] z;exact .inr ⟨e',more,hok' b _ z2⟩
    refine⟨rfl,⟨λb o e=>?_,λb o e=>?_⟩,os,bare⟩
    .rcases key b o e with z|⟨e',more,z⟩
     .exact .inl z
     .obtain⟨h1,_,c,hc⟩:=isT b e';rw[e]at h1;cases h1;refine .inr (.inl ⟨?_,rfl,#[],more,rfl,z⟩);obtain⟨o,vs,_,_,_,_,_,_,_,g1,g2,g3,g4,_⟩:=hc;exact⟨c,o,vs,g1,g2,g3,g4⟩
    .rcases key b o e with z|⟨e',more,z⟩
     .exact⟨_,z⟩
     .exact⟨_,z⟩
 have naT:∀T∈Ts,T.at_≠a:=λT h z=>by have:=(hT T h).1;rw[z,ha]at this;cases this
 open Classical in
 cases hk:K.lookup a with
 |some o =>
  have e:=KX a o hk;rw[ha]at e;cases e;refine core (λb=>if(∃T∈Ts,T.at_=b)then some (.tbl #[])else none) (λT h=>.inl (if_pos ⟨T,h,rfl⟩)) (.inr ⟨_,vs.toArray,_,hk,rfl,rfl,rfl,by rw[y06,lenV];exact hl,by simpa using rv⟩) (λb u z=>?_) λb z=>?_
  .by_cases hb:∃T∈Ts,T.at_=b
   .have z':=(if_pos hb).symm.trans z;cases z';exact(isT b hb).1
   .have z':=(if_neg hb).symm.trans z;cases z'
  .by_cases hb:∃T∈Ts,T.at_=b
   .exact .inr ⟨hb,if_pos hb⟩
   .exact absurd (if_neg hb) z
 |none =>
  have cA:∀b,b=a->(if b=a then some (HO.frz { cls:=.type "list",data:=.seq vs.toArray } (.lst (ns.map V.int)))else if(∃T∈Ts,T.at_=b)then some (.tbl #[])else none)=some (HO.frz { cls:=.type "list",data:=.seq vs.toArray } (.lst (ns.map V.int))):=λb e=>if_pos e;have cT:∀b,b≠a->(∃T∈Ts,T.at_=b)->(if b=a then some (HO.frz { cls:=.type "list",data:=.seq vs.toArray } (.lst (ns.map V.int)))else if(∃T∈Ts,T.at_=b)then some (.tbl #[])else none)=some (.tbl #[]):=λb e h=>by rw[if_neg e,if_pos h]
  have cN:∀b,b≠a->¬(∃T∈Ts,T.at_=b)->(if b=a then some (HO.frz { cls:=.type "list",data:=.seq vs.toArray } (.lst (ns.map V.int)))else if(∃T∈Ts,T.at_=b)then some (.tbl #[])else none)=none:=λb e h=>by rw[if_neg e,if_neg h]
  refine core (λb=>if b=a then some (.frz { cls:=.type "list",data:=.seq vs.toArray } (.lst (ns.map V.int)))else if(∃T∈Ts,T.at_=b)then some (.tbl #[])else none) (λT h=>.inl (cT _ (naT T h) ⟨T,h,rfl⟩)) (.inl (.inr ⟨{ cls:=.type "list",data:=.seq vs.toArray },if_pos rfl⟩)) (λb u z=>?_) (λb z=>?_)
  .by_cases hb:b=a
   .have z':=(cA b hb).symm.trans z;cases z';subst hb;exact⟨ha,by rw[y00];exact hl,vs,_,rv,ha⟩
   .by_cases hb2:∃T∈Ts,T.at_=b
    .have z':=(cT b hb hb2).symm.trans z;cases z';exact(isT b hb2).1
    .have z':=(cN b hb hb2).symm.trans z;cases z'
  .by_cases hb:b=a
   .exact .inl ⟨hb,hk,_,_,cA b hb⟩
   .by_cases hb2:∃T∈Ts,T.at_=b
    .exact .inr ⟨hb2,cT b hb hb2⟩
    .exact absurd (cN b hb hb2) z
def walk_of2{l:PySem.W.OpenLaw}{n k:Nat}{q:Program}{loose:List Str}{XP:(yyS)->Heap->Prop}{YP:World->Heap->Prop}{d:DefRec}{K:Params->yyF}{CX:World->CXT}{sp:World->Sp}{x:Str}{Ts:List Tb}(hn:l.most=some n)(hn2:n<=sizeLine)(hdf:d.params.defaults=[])(hr:z1C k callerA)(hY:∀(w:World)(h:Heap),YP w h->(K w.params).In h/\∀P∈Ts.map (·.at_),h.get? P=some (PySem.W.tabObj #[]))(F:∀(w:World)(mg:yyS)(fa:Addr)(h:Heap),(K w.params).In h->h.Ns mainGlobals mg->mg d.name=some (.ref fa) -> ∃fd:FuncData,(∀(s:Shared)(u:Value),BindsTo s fd ⟨[u],[]⟩ [(x,u)])/\(∀T∈Ts,(K w.params).lookup T.at_=none/\∃c,PySem.W.codeHdIn (K w.params) c T.at_=true) /\ ∀base:Heap,(K w.params).In base->base.Ns mainGlobals mg->z45 base mg->z2h l.prog w (K w.params) mg base (CX w) k fa fd [x] (sp w))(hsp:∀(w:World)(H:Hp)(a:Addr)(ns:List Int),ns.length<=n->z6z Ts H->SqL (K w.params) H a (ns.map V.int)->sp w [.ref a] H (λv _=>v=.bl true) λ_ _ _=>False)(hCX:∀(w:World)(H:Hp)(s:Shared)(e:Value)(s':Shared),CX w [] H s (λ_ _ _=>False) e s'->False) : PySem.W.WalkO q loose XP YP l.row.toRowW d [] (λf vs=>PySem.call f vs):=by
 refine Att.attach_call hn hdf λw s₀ s₁ mg mb fa o pm cd doc a vs ns G Y ho hd hcd hmg hobj hints hlen hg=>?_;obtain⟨KX,hTb⟩:=hY w _ Y;obtain⟨fd,hb,hT,hF⟩:=F w mg fa _ KX G.T.g hmg;refine z8Q (Ts:=Ts) KX G.T.g G.T.b G.T.builtins G.T.nolimit hg hobj hints (y0k hlen hn2) hr (λT h=>⟨hTb _ (y0f.mpr ⟨T,h,rfl⟩),(hT T h).1,?_⟩) ?_ hF hb (λH hO hS=>hsp w H a ns hlen hO hS) λH e s'=>hCX w H s₁ e s'
 .obtain⟨c,e⟩:=(hT T h).2;exact⟨c,PySem.W.codeHd_of_K KX e⟩
 .obtain⟨bm,ob,b1,b2,b3,b4,b5,b6⟩:=G.T.bmain;refine⟨bm,ob,b1,b2,λz=>?_,b3,b4,b5,b6⟩;obtain⟨o,es,ep,e,d,_⟩:=G.T.g;rw[z]at b3;rw[b3]at e;cases e;rw[b6]at d;cases d
def zdk{Ts:List Tb}{T:Tb}(h:(Ts.map (·.at_)).Nodup)(hT:T∈Ts):∀T'∈Ts,T'.at_=T.at_->T'=T:=by
 induction Ts with
 |nil=>cases hT
 |cons a r ih =>
  rw[y0m,y0U]at h;intro T' hT' e;rcases y0l.mp hT with z|z
  .rcases y0l.mp hT' with y|y
   .rw[y,z]
   .exact absurd (y0f.mpr ⟨T',y,by rw[e,z]⟩) h.1
  .rcases y0l.mp hT' with y|y
   .exact absurd (y0f.mpr ⟨T,z,by rw[<-e,y]⟩) h.1
   .exact ih h.2 z T' y e
end L2
namespace Gu
open PySem L2
section
variable(P:Program)(w:World)(K:yyF)(mg:yyS)(base:Heap)(CX:CXT)(k:Nat)
end
def z7Y(Ts:List Tb)(K:yyF):Sp:=λvs H Q _=>∃(a:Addr)(ns:List Int),vs=[.ref a]/\SqL K H a (ns.map V.int)/\ns.length<=63/\z6z Ts H/\∀H',Q (.bl true) H'
def z9G:List Stmt->Pos
 |[.Return (some (.Call _ [_,.Lambda _ _ _ p] _ _)) _]=>p
 |_::r=>z9G r
 |[]=>⟨0,0,0,0⟩
end Gu
namespace L2
open PySem PySem.Spec PyProof.Rows
def z5F.lam2{CX:CXT}{P:Program}{w:World}{K:yyF}{mg:yyS}{base:Heap}{k:Nat}{H:Hp}{f:Addr}{params:Arguments}{body:Expr}{scope:Scope}{qual:Str}{N ps:List Str}{fv:St}{sp:List V->Hp->VK->Prop}(C:z3a H f params body scope qual N fv)(S:zh1 N ps scope)(hbind:∀(cl:List (Str × Addr)) (pm cdv ct:Value) (us:List Value),us.length=ps.length->bindArgs (PySem.W.kla_fn "<lambda>" qual params body scope cl pm cdv ct) ⟨us,[]⟩=pure (ps.zip us))(hfv:fv.length=N.length)(len:∀vs H Q,sp vs H Q->vs.length=ps.length)(hbody:∀(H':Hp),Same H H'->∀(A:Around) (outer:List Env) (s:Shared) (cd:Value) (clos:List (Str × Addr)) (cs:List Addr) (vs:List V) (Q:VK),z1C k (A.deeper (PySem.W.envX qual scope s.heap.objs.size f cd clos))->NFr H' (utk H' cs)->(∀c∈cs,∃o u,H' c=some (frO o)/\o.data=.cell u)->sp vs H' Q -> ∃t,PE (zao P w K mg base N qual scope f cd clos A outer s (utk H' cs)) body t/\t (z56 vs fv) (utk H' cs) λv H1=>(∀c∈cs,H1 c=none)->Q v (rtk H' H1 cs)):z5F P w K mg base CX (k+1) H f sp:=by obtain⟨clos,cs,pm,c',ctv,oc,vs',t,e1,_⟩:=id C;refine⟨⟨_,_,e1,rfl⟩,λH' s' A outer s us vs Q hr e0 r hsp=>?_⟩;exact ze1 (C.mono s') S hbind hfv hr e0 r (len _ _ _ hsp) λcd clos cs hr' hcs=>hbody H' s' A outer s cd clos cs vs Q hr' (NFr.utk (λc hc=>let⟨o,_,q,_⟩:=hcs c hc;⟨o,q⟩) (Same.refl _)) hcs hsp
end L2
namespace Gu
open PySem L2
section
variable{K:yyF}{H H':Hp}{f:Int->D}{r:Int}{nm:Int->Int}
end
def goW(M:List Row):Int->List Int->Int
 |x,[]=>x
 |x,l::w=>goW M ((row M x).2.getD l.toNat 0) w
theorem z6O(M:List Row):∀(w w':List Int)(x:Int),goW M x (w++w')=goW M (goW M x w) w'
 |[],_,_=>rfl
 |l::w,w',x=>z6O M w w' _
def LW(n:Nat)(w:List Int):Prop:=∀l∈w,0<=l/\l<(n:Int)
def LW.tail{n:Nat}{l:Int}{w:List Int}(h:LW n (l::w)):LW n w:=λx hx=>h x (y0g _ hx)
theorem z9E{n:Nat}{M:List Row}{C:Int->Prop}(hl:∀x,C x->(row M x).2.length=n)(hc:∀x,C x->∀g∈(row M x).2,C g):∀(w:List Int)(x:Int),LW n w->C x->C (goW M x w)
 |[],_,_,h=>h
 |l::w,x,hw,h=>by
  obtain⟨l0,l1⟩:=hw l y0t;have hi:l.toNat<(row M x).2.length:=by rw[hl x h];lia
  refine z9E hl hc w _ hw.tail ?_;rw[y09,y0e hi];exact hc x h _ (y13 hi)
def zcA{n:Nat}{M:List Row}(G:z1i n M){w:List Int}{x:Int}(hw:LW n w)(h0:0<=x)(h1:x<(M.length:Int)):0<=goW M x w/\goW M x w<(M.length:Int) :=
 z9E (n:=n) (C:=λx=>0<=x/\x<(M.length:Int)) (λx hx=>G.len _ (z1B hx.1 hx.2)) (λx hx=>G.go _ (z1B hx.1 hx.2)) w x hw ⟨h0,h1⟩
end Gu
namespace L2
open PySem PySem.Spec PyProof.Rows
def z2h.sub{P:Program}{w:World}{K:yyF}{mg:yyS}{base:Heap}{CX:CXT}{k:Nat}{f:Addr}{fd:FuncData}{ps:List Str}{sp sp':Sp}(h:z2h P w K mg base CX k f fd ps sp)(i:∀vs H Q E,sp' vs H Q E->sp vs H Q E):z2h P w K mg base CX k f fd ps sp' :=
 { h with len:=λvs H Q E q=>h.len vs H Q E (i vs H Q E q),run:=λA outer s H args us vs Q E hr e0 b r q=>h.run A outer s H args us vs Q E hr e0 b r (i vs H Q E q) }
end L2
namespace Gu
open PySem L2
end Gu
namespace L2
open PySem PySem.Spec PyProof.Rows
section
variable{X:Cx}{K:yyF}{k v:Expr}{tk tv:TE}{pos:Pos}
end
structure ZA(z TI TO i1 i2:Addr)(fp1 fp2:List Addr):Prop where
 TIz:TI≠z
 TOz:TO≠z
 i1z:i1≠z
 i2z:i2≠z
 TITO:TI≠TO
 TIi1:TI≠i1
 TIi2:TI≠i2
 TOi1:TO≠i1
 TOi2:TO≠i2
 i12:i1≠i2
 f1z:z∉fp1
 f1T:TO∉fp1
 f1i:i2∉fp1
 f2z:z∉fp2
 f2T:TO∉fp2
 f2i:i1∉fp2
section
variable{prog:Program}{w:World}{A:Around}{E:yyE}{s:Shared}{z TI TO i1 i2:Addr}{fp1 fp2:List Addr}{n1 n2:Nat}{P1 P2:Nat->Value->Prop}{S1 S2:Nat->Heap->Prop}
def ndr{it:Addr}{fp:List Addr}{n:Nat}{P:Nat->Value->Prop}{St:Nat->Heap->Prop}(D:Draws prog w A it fp n P St){i:Nat}{h h':Heap}{a:Addr}(st:St i h)(hs:Heap.SameBut a h h')(ha:a∉fp):St i h' :=
 D.frame i h h' st λb hb o e=>hs.extBut b o (λq=>ha (q▸hb)) e
def za9{k1 k2:Nat}{a b:Value}{Q:yyE}(D1:Draws prog w A i1 fp1 n1 P1 S1)(D2:Draws prog w A i2 fp2 n2 P2 S2)(Z:ZA z TI TO i1 i2 fp1 fp2)(hz:IsZip s.heap z TI TO .none)(hTI:IsPair s.heap TI (.ref i1) (.ref i2))(hTO:IsPair s.heap TO a b)(t1:S1 k1 s.heap)(t2:S2 k2 s.heap)(l1:k1<n1)(l2:k2<n2)(hQ:∀x y h' tk,P1 k1 x->P2 k2 y->IsZip h' z TI TO (rawInt s.heap.objs.size)->IsPair h' TO x y->S1 (k1+1) h'->S2 (k2+1) h'->IsPair h' s.heap.objs.size x y -> (∀c o,c≠z->c≠TO->c≠i1->c≠i2->s.heap.get? c=some o->h'.get? c=some o)->Q (.ref s.heap.objs.size) { s with heap:=h',toks:=tk }) : wpAny (model prog w) A (Builtin.«zip.__next__» ⟨[.ref z],[]⟩) (λfin s'=>∃v,fin=.done (.ret v)/\Q v s') E s:=by
 show wpAny _ _ (field (.ref z) 2>>=_) _ _ _;refine y01 (y1d hz rfl (x:=.bool false) rfl ?_);show wpAny _ _ (field (.ref z) 3>>=_) _ _ _;refine y01 (y1d hz rfl (x:=.ref TI) rfl (y01 (y1Q hTI rfl ?_)));show wpAny _ _ (Builtin.SmallTypes.ownedTupleIsFree (.ref z)>>=_) _ _ _;refine y01 ?_;unfold Builtin.SmallTypes.ownedTupleIsFree;refine y01 (y1d hz rfl (x:=.none) rfl (y03 ?_));simp only[if_true];refine y01 (wpAny_rule (y01 (y1d hz rfl (x:=.ref TO) rfl (y01 (y22 hz (by simp) λha za sa=>?_)))));replace za:IsZip ha z TI TO .ellipsis:=za;refine y01 ?_;simp only[List.zipIdx_cons,List.zipIdx_nil,y27,List.forIn_nil];refine y01 (y01 (wpAny_onRaise ?_));show wpAny _ _ (Builtin.SmallTypes.nextOf (.ref i1)>>=_) _ _ _;refine y01 (D1.item k1 _ _ _ l1 (ndr D1 t1 sa Z.f1z) λx hb tb px t1b sb=>y03 ?_);have Tb:IsPair hb TO a b:=sb.extBut _ _ Z.TOi1 (sa.extBut _ _ Z.TOz hTO);refine y01 (y1Q Tb rfl (y01 (wpAny_updateSeq_pair Tb λhc Tc sc=>?_)));replace Tc:IsPair hc TO x b:=Tc;refine y01 (wpAny_letGo (y03 ?_));refine y01 (y01 (wpAny_onRaise ?_));show wpAny _ _ (Builtin.SmallTypes.nextOf (.ref i2)>>=_) _ _ _;refine y01 (D2.item k2 _ _ _ l2 (ndr D2 (ndr D2 (ndr D2 t2 sa Z.f2z) sb Z.f2i) sc Z.f2T) λy hd td py t2d sd=>y03 ?_);have Td:IsPair hd TO x b:=sd.extBut _ _ Z.TOi2 Tc;refine y01 (y1Q Td rfl (y01 (wpAny_updateSeq_pair Td λhe Te se=>?_)));replace Te:IsPair he TO x y:=Te;refine y01 (wpAny_letGo (y03 (y03 ?_)));refine y01 (y1Q Te rfl (y01 (wpAny_newTuple ?_)));have hsz:he.objs.size=s.heap.objs.size:=by rw[se.1,sd.1,sc.1,sb.1,sa.1]
 have ze:IsZip he z TI TO .ellipsis:=se.extBut _ _ Z.TOz.symm (sd.extBut _ _ Z.i2z.symm (sc.extBut _ _ Z.TOz.symm (sb.extBut _ _ Z.i1z.symm za)));have ke:∀c o,c≠z->c≠TO->c≠i1->c≠i2->s.heap.get? c=some o->he.get? c=some o:=λc o c1 c2 c3 c4 e=>se.extBut _ _ c2 (sd.extBut _ _ c4 (sc.extBut _ _ c2 (sb.extBut _ _ c3 (sa.extBut _ _ c1 e))));have t1e:=ndr D1 (ndr D1 (ndr D1 t1b sc Z.f1T) sd Z.f1i) se Z.f1T;have t2e:=ndr D2 t2d se Z.f2T;have zlt:z<he.objs.size:=y07 ze;show wpAny _ _ (Builtin.SmallTypes.ownedTupleHandOut (.ref z) (.ref he.objs.size)>>=_) _ _ _;refine y01 ?_;unfold Builtin.SmallTypes.ownedTupleHandOut;have zf:IsZip (he.push { cls:=.type "tuple",data:=.seq #[x,y] }) z TI TO .ellipsis:=y02 _ ze;refine y01 (y22 zf (by simp) λhg zg sg=>?_);replace zg:IsZip hg z TI TO (rawInt he.objs.size):=zg;refine y22 zg (by simp) λhh zh sh=>?_;replace zh:IsZip hh z TI TO (rawInt he.objs.size):=zh;have up:∀c o,c≠z->he.get? c=some o->hh.get? c=some o:=λc o c1 e=>sh.extBut _ _ c1 (sg.extBut _ _ c1 (y02 _ e));have pr:IsPair hh he.objs.size x y:=sh.extBut _ _ (y3i zlt) (sg.extBut _ _ (y3i zlt) (y05 _ rfl));rw[hsz]at zh pr;refine y03 ⟨_,rfl,?_⟩;show Q (.ref he.objs.size) _;rw[hsz];exact hQ x y hh _ px py zh (up _ _ Z.TOz Te) (D1.frame _ _ _ t1e λb hb o e=>up b o (λq=>Z.f1z (q▸hb)) e) (D2.frame _ _ _ t2e λb hb o e=>up b o (λq=>Z.f2z (q▸hb)) e) pr λc o c1 c2 c3 c4 e=>up c o c1 (ke c o c1 c2 c3 c4 e)
def zbz{a b:Value}{Q:Fin->Shared->Prop}(D1:Draws prog w A i1 fp1 n1 P1 S1)(Z:ZA z TI TO i1 i2 fp1 fp2)(hz:IsZip s.heap z TI TO .none)(hTI:IsPair s.heap TI (.ref i1) (.ref i2))(hTO:IsPair s.heap TO a b)(t1:S1 n1 s.heap)(hE:∀h' e,(∀c o,c≠z->c≠TO->c≠i1->c≠i2->s.heap.get? c=some o->h'.get? c=some o)->(∃o,h'.get? e=some o/\o.cls=.type "StopIteration")->E (.ref e) { s with heap:=h' }) : wpAny (model prog w) A (Builtin.«zip.__next__» ⟨[.ref z],[]⟩) Q E s:=by
 show wpAny _ _ (field (.ref z) 2>>=_) _ _ _;refine y01 (y1d hz rfl (x:=.bool false) rfl ?_);show wpAny _ _ (field (.ref z) 3>>=_) _ _ _;refine y01 (y1d hz rfl (x:=.ref TI) rfl (y01 (y1Q hTI rfl ?_)));show wpAny _ _ (Builtin.SmallTypes.ownedTupleIsFree (.ref z)>>=_) _ _ _;refine y01 ?_;unfold Builtin.SmallTypes.ownedTupleIsFree;refine y01 (y1d hz rfl (x:=.none) rfl (y03 ?_));simp only[if_true];refine y01 (wpAny_rule (y01 (y1d hz rfl (x:=.ref TO) rfl (y01 (y22 hz (by simp) λha za sa=>?_)))));replace za:IsZip ha z TI TO .ellipsis:=za;refine y01 ?_;simp only[List.zipIdx_cons,List.zipIdx_nil,y27,List.forIn_nil];refine y01 (y01 (wpAny_onRaise ?_));show wpAny _ _ (Builtin.SmallTypes.nextOf (.ref i1)>>=_) _ _ _;refine y01 (D1.done _ _ _ (ndr D1 t1 sa Z.f1z) λhb e sb he=>?_);obtain⟨oe,hoe,hce⟩:=he;have zb:IsZip hb z TI TO .ellipsis:=sb _ _ Z.i1z.symm za;have hez:e≠z:=λx=>by subst x;rw[zb]at hoe;cases hoe;simp at hce
 exact y22 zb (by simp) λhc _ sc=>hE hc e (λc o c1 _ c3 _ x=>sc.extBut _ _ c1 (sb _ _ c3 (sa.extBut _ _ c1 x))) ⟨oe,sc.extBut _ _ hez hoe,hce⟩
end
abbrev zt1(h:Heap)(a:Addr):Heap:=h.push { cls:=.type "tuple_iterator",data:=.fields #[.ref a,.int 0 0] }
abbrev zt2(h:Heap)(a b:Addr):Heap:=(zt1 h a).push { cls:=.type "tuple_iterator",data:=.fields #[.ref b,.int 0 0] }
abbrev zt3(h:Heap)(a b:Addr):Heap:=(zt2 h a b).push { cls:=.type "tuple",data:=.seq #[.ref h.objs.size,.ref (zt1 h a).objs.size] }
abbrev zt4(h:Heap)(a b:Addr):Heap:=(zt3 h a b).push { cls:=.type "tuple",data:=.seq #[.none,.none] }
abbrev zt5(h:Heap)(a b:Addr):Heap:=(zt4 h a b).push { cls:=.type "zip",data:=.fields #[.none,.bool false,.bool false,.ref (zt2 h a b).objs.size,.ref (zt3 h a b).objs.size] }
def z4N(a b:Addr)(xs ys:Array Value) : Meets (Builtin.«zip.__new__» ⟨[.type "zip",.ref a,.ref b],[]⟩) (λ_ R s=>s.heap.IsTuple a xs/\s.heap.IsTuple b ys/\R (.ok (.ret (.ref (zt4 s.heap a b).objs.size))) { s with heap:=zt5 s.heap a b }) :=
 .of_wp λprog w A R s h=>by
  obtain⟨hp,g,d,tk,os⟩:=s;obtain⟨hl1,hl2,h⟩:=h;have hsub:=sub_zip;have hL1:Heap.IsTuple (Shared.heap ⟨hp,g,d,tk,os⟩) a xs:=hl1;have hL2:Heap.IsTuple (Shared.heap ⟨hp.push { cls:=.type "tuple_iterator",data:=.fields #[.ref a,.int 0 0] },g,d,tk,os⟩) b ys:=by obtain⟨o,e,r⟩:=hl2;exact⟨o,y02 _ e,r⟩
  wp_walk using wpAny_pyIter_tuple hL1,wpAny_pyIter_tuple hL2
  exact⟨_,rfl,h⟩
section
variable{prog:Program}{w:World}{A:Around}{E:yyE}{s:Shared}
def z6a{a b:Addr}{xs ys:Array Value}{Q:yyE}(hl1:s.heap.IsTuple a xs)(hl2:s.heap.IsTuple b ys)(h:∀h',IsZip h' (s.heap.objs.size+4) (s.heap.objs.size+2) (s.heap.objs.size+3) .none->IsPair h' (s.heap.objs.size+2) (.ref s.heap.objs.size) (.ref (s.heap.objs.size+1)) -> IsPair h' (s.heap.objs.size+3) .none .none->h'.IsTupleIter s.heap.objs.size a 0->h'.IsTupleIter (s.heap.objs.size+1) b 0->h'.objs.size=s.heap.objs.size+5 -> (∀c o,s.heap.get? c=some o->h'.get? c=some o)->Q (.ref (s.heap.objs.size+4)) { s with heap:=h' }) : wpAny (model prog w) A (call (.type "zip") [.ref a,.ref b]) Q E s:=by
 refine callType_new F.called_zip (by decide) (F.typeCall_zip_2 _ _) (F.newCall_zip_2 _ _) (λobj=>F.args_object_init_3 obj _ _) F.entry_zip_new (z4N a b xs ys) ⟨hl1,hl2,?_⟩;have e1:(zt1 s.heap a).objs.size=s.heap.objs.size+1:=y1k ..;have e2:(zt2 s.heap a b).objs.size=s.heap.objs.size+2:=by rw[y1k,e1]
 have e3:(zt3 s.heap a b).objs.size=s.heap.objs.size+3:=by rw[y1k,e2]
 have e4:(zt4 s.heap a b).objs.size=s.heap.objs.size+4:=by rw[y1k,e3]
 have e5:(zt5 s.heap a b).objs.size=s.heap.objs.size+5:=by rw[y1k,e4]
 have p:∀{h:Heap}{o u:Obj}{c:Addr},h.get? c=some u->(h.push o).get? c=some u:=λe=>y02 _ e;have g5:(zt5 s.heap a b).get? (zt4 s.heap a b).objs.size=some _:=y05 _ rfl;have g4:(zt5 s.heap a b).get? (zt3 s.heap a b).objs.size=some _:=p (y05 _ rfl);have g3:(zt5 s.heap a b).get? (zt2 s.heap a b).objs.size=some _:=p (p (y05 _ rfl));have g2:(zt5 s.heap a b).get? (zt1 s.heap a).objs.size=some _:=p (p (p (y05 _ rfl)));have g1:(zt5 s.heap a b).get? s.heap.objs.size=some _:=p (p (p (p (y05 _ rfl))));show _/\_;rw[e2,e3,e4]at g5;rw[e1,e2]at g3;rw[e3]at g4;rw[e1]at g2;rw[e4];exact⟨⟨_,g5,rfl⟩,h _ g5 g3 g4 ⟨_,g1,rfl,rfl⟩ ⟨_,g2,rfl,rfl⟩ e5 λc o x=>p (p (p (p (p x))))⟩
end
def zid(K:yyF)(a b:Addr):It :=
 ⟨λi H=>∃xs ys x y,SqT K H a xs/\SqT K H b ys/\xs[i]?=some x/\ys[i]?=some y,
  λi H v H'=>∃p x y,v=.ref p/\H p=none/\(∀xs,SqT K H a xs->xs[i]?=some x)/\(∀ys,SqT K H b ys->ys[i]?=some y)/\H'=upd H p (.tup [x,y]),
  λi H=>∃xs ys,SqT K H a xs/\SqT K H b ys/\xs.length=i/\ys.length=i⟩
section
variable{X:Cx}{elts:List Expr}{tk:Nat}{tp:Pos}
def z8S{P:Program}{w:World}{K:yyF}(a b z TI TO i1 i2:Addr)(D:TI≠z/\TO≠z/\i1≠z/\i2≠z/\TI≠TO/\TI≠i1/\TI≠i2/\TO≠i1/\TO≠i2/\i1≠i2)(aT:a≠TO)(bT:b≠TO) : z8M P w K (.Tuple elts tk tp) (zid K a b) [z,TI,TO,i1,i2] z (λi h=>IsZip h z TI TO .none/\IsPair h TI (.ref i1) (.ref i2)/\(∃u v,IsPair h TO u v)/\h.IsTupleIter i1 a i/\h.IsTupleIter i2 b i) where
 mem:=by simp
 obj:=λi h st c hc=>by
  obtain⟨hz,hTI,⟨u,v,hTO⟩,⟨o1,e1,c1,d1⟩,⟨o2,e2,c2,d2⟩⟩:=st;simp at hc;rcases hc with q|q|q|q|q
  .rw[q];exact⟨_,hz,λv z=>by cases z⟩
  .rw[q];exact⟨_,hTI,λv z=>by cases z⟩
  .rw[q];exact⟨_,hTO,λv z=>by cases z⟩
  .rw[q];exact⟨_,e1,λv z=>by rw[d1]at z;cases z⟩
  .rw[q];exact⟨_,e2,λv z=>by rw[d2]at z;cases z⟩
 keep:=λi h h' st k=>by obtain⟨hz,hTI,⟨u,v,hTO⟩,⟨o1,e1,c1⟩,⟨o2,e2,c2⟩⟩:=st;exact⟨k z (by simp) _ hz,k TI (by simp) _ hTI,⟨u,v,k TO (by simp) _ hTO⟩,⟨o1,k i1 (by simp) _ e1,c1⟩,⟨o2,k i2 (by simp) _ e2,c2⟩⟩
 item:=by
  intro X hP hw hK hc i pins s σ H E I hf st hg;subst hP hw hK;obtain⟨hz,hTI,⟨u,v,hTO⟩,h1,h2⟩:=st;obtain⟨xs,ys,x,y,hxs,hys,hx,hy⟩:=hg;obtain⟨its,rv,p,_⟩:=I.tuple hxs;obtain⟨itt,rw',p',_⟩:=I.tuple hys;obtain⟨ux,hux,rux⟩:=rv.get hx;obtain⟨uy,huy,ruy⟩:=rw'.get hy;obtain⟨d1,d2,d3,d4,d5,d6,d7,d8,d9,d10⟩:=D;have Da:∀{l:Addr}{its:Array Value},s.heap.IsTuple l its->l≠z/\l≠i1/\l≠i2:=λ{l its} hl=>by obtain⟨o,e,c,_⟩:=hl;obtain⟨o1,e1,c1,_⟩:=id h1;obtain⟨o2,e2,c2,_⟩:=id h2;exact⟨z1t e hz c rfl (by decide),z1t e e1 c c1 (by decide),z1t e e2 c c2 (by decide)⟩
  obtain⟨a1,a3,a4⟩:=Da p;obtain⟨b1,b3,b4⟩:=Da p';have D1:=z3w (prog:=X.prog) (w:=X.w) (A:=X.A.in1) (I.ok.hd hc) i1 a a3 its.toArray;have D2:=z3w (prog:=X.prog) (w:=X.w) (A:=X.A.in1) (I.ok.hd hc) i2 b b4 itt.toArray;have Z:ZA z TI TO i1 i2 [i1,a] [i2,b]:=⟨d1,d2,d3,d4,d5,d6,d7,d8,d9,d10,by simp[y10 d3,y10 a1],by simp[d8,y10 aT],by simp[y10 d10,y10 a4],by simp[y10 d4,y10 b1],by simp[d9,y10 bT],by simp[d10,y10 b3]⟩;have l1:i<its.toArray.size:=by have:=(y0G.mp hux).1;simpa using this
  have l2:i<itt.toArray.size:=by have:=(y0G.mp huy).1;simpa using this
  have hT:s.TypeIs (.ref z) "zip":=⟨_,hz,rfl⟩;unfold pyNext;refine y01 (wpAny_attempt (y0E (name:=Str.ofString "__next__") hT y3c (y0K y3c hT F.entry_zip_next
   (za9 D1 D2 Z hz hTI hTO ⟨h1,p⟩ ⟨h2,p'⟩ l1 l2 λx' y' h' tk px py q1 q2 q3 q4 q5 hk=>y03 ?_) (F.args_zip_next_1 _))))
  have ex:x'=ux:=by
   have e1:its.toArray[i]?=some ux:=by simpa using hux
   rw[e1]at px;exact(y0d px).symm
  have ey:y'=uy:=by
   have e1:itt.toArray[i]?=some uy:=by simpa using huy
   rw[e1]at py;exact(y0d py).symm
  subst ex ey;refine⟨_,rfl,wpAny_letOwnedTupleGo_zip q1 λh2' hz2 hs2=>?_⟩;have zlt:z<s.heap.objs.size:=y07 hz;have kk:∀c o,c∉[z,TO,i1,i2]->s.heap.get? c=some o->h2'.get? c=some o:=λc o hc q=>by simp at hc;exact(hs2.2 c hc.1).trans (hk c o hc.1 hc.2.1 hc.2.2.1 hc.2.2.2 q)
  have sub:∀c∈[z,TO,i1,i2],c∈[z,TI,TO,i1,i2]:=λc hc=>by simp at hc⊢;rcases hc with q|q|q|q<;>simp[q]
  have I1:Inv X pins σ (upd H s.heap.objs.size (.tup [x,y])) { s with heap:=h2',toks:=tk }:=by refine I.turnedNew (ch:=[z,TO,i1,i2]) kk (y0a _) ?_ (λc hc=>hf c (sub c hc));exact⟨by show 2<=sizeLine;decide,[x',y'],0,.cons rux (.cons ruy .nil),(hs2.2 _ (y3i zlt)).trans q5⟩
  have up:∀{c:Addr}{o:Obj},c≠z->h'.get? c=some o->h2'.get? c=some o:=λ{c o} hc q=>(hs2.2 c hc).trans q;obtain⟨⟨o3,e3,c3⟩,_⟩:=q3;obtain⟨⟨o4,e4,c4⟩,_⟩:=q4;refine⟨.ref s.heap.objs.size,_,I1,rfl,⟨s.heap.objs.size,x,y,rfl,I.fresh,λzs hz'=>by rw[I.tuple_inj hz' hxs];exact hx,λzs hz'=>by rw[I.tuple_inj hz' hys];exact hy,rfl⟩,⟨hz2,?_,⟨_,_,up d2 q2⟩,⟨o3,up d3 e3,c3⟩,⟨o4,up d4 e4,c4⟩⟩,λc hc=>?_⟩
  .exact up d1 (hk TI _ d1 d5 d6 d7 hTI)
  .have c0:=(hf c hc).1;have lt:c<s.heap.objs.size:=by
    obtain⟨o1,e1,_⟩:=id h1;obtain⟨o2,e2,_⟩:=id h2;simp at hc;rcases hc with q|q|q|q|q
    .rw[q];exact zlt
    .rw[q];exact y07 hTI
    .rw[q];exact y07 hTO
    .rw[q];exact y07 e1
    .rw[q];exact y07 e2
   rw[z0f (y0p lt)];exact c0
 done:=by
  intro X hP hw hK hc i pins s σ H E I hf st hg;subst hP hw hK;obtain⟨hz,hTI,⟨u,v,hTO⟩,h1,h2⟩:=st;obtain⟨xs,ys,hxs,hys,hx,hy⟩:=hg;obtain⟨its,rv,p,_⟩:=I.tuple hxs;obtain⟨itt,rw',p',_⟩:=I.tuple hys;obtain⟨d1,d2,d3,d4,d5,d6,d7,d8,d9,d10⟩:=D;have Da:∀{l:Addr}{its:Array Value},s.heap.IsTuple l its->l≠z/\l≠i1/\l≠i2:=λ{l its} hl=>by obtain⟨o,e,c,_⟩:=hl;obtain⟨o1,e1,c1,_⟩:=id h1;obtain⟨o2,e2,c2,_⟩:=id h2;exact⟨z1t e hz c rfl (by decide),z1t e e1 c c1 (by decide),z1t e e2 c c2 (by decide)⟩
  obtain⟨a1,a3,a4⟩:=Da p;obtain⟨b1,b3,b4⟩:=Da p';have l1:=rv.length;have D1:=z3w (prog:=X.prog) (w:=X.w) (A:=X.A.in1) (I.ok.hd hc) i1 a a3 its.toArray;have Z:ZA z TI TO i1 i2 [i1,a] [i2,b]:=⟨d1,d2,d3,d4,d5,d6,d7,d8,d9,d10,by simp[y10 d3,y10 a1],by simp[d8,y10 aT],by simp[y10 d10,y10 a4],by simp[y10 d4,y10 b1],by simp[d9,y10 bT],by simp[d10,y10 b3]⟩;have hT:s.TypeIs (.ref z) "zip":=⟨_,hz,rfl⟩;have ei:i=its.toArray.size:=by simp;lia
  unfold pyNext;refine y01 (wpAny_attempt (y0E (name:=Str.ofString "__next__") hT y3c (y0K y3c hT F.entry_zip_next
   (zbz D1 Z hz hTI hTO ⟨ei▸h1,p⟩ λh' e hk he=>?_) (F.args_zip_next_1 _))))
  obtain⟨o,ho,hcl⟩:=he;refine y01 (wpAny_isInstance (T:="StopIteration") (b:=true) ⟨o,ho,hcl⟩ isSubtype_stop (y03 ⟨rfl,?_⟩));refine I.turnedL (ch:=[z,TO,i1,i2]) (t':=s.toks) (λc o hcc q=>?_) (λc hcc=>hf c ?_)
  .simp at hcc;exact hk c o hcc.1 hcc.2.1 hcc.2.2.1 hcc.2.2.2 q
  .simp at hcc⊢;rcases hcc with q|q|q|q<;>simp[q]
 self:=λA i s Q E st h=>y2X st.1 h
def zhl(K:yyF)(ta:TA):TI:=λσ H R=>ta σ H λvs H1=>∃a b:Addr,vs=[.ref a,.ref b]/\(∃xs,SqT K H1 a xs)/\(∃ys,SqT K H1 b ys)/\R (zid K a b) H1
def zd6{a b:Expr}{ta:TA}{p pos:Pos}(hg:Gl X "zip")(hm:X.mg "zip"=none)(ha:PA X [a,b] ta)(hs:starEach [a,b] X.env=[(false,eval a X.env),(false,eval b X.env)]:=by rfl)(hs2:starEach [b] X.env=[(false,eval b X.env)]:=by rfl) : PI X (.Tuple elts tk tp) (.Call (.Name "zip" p) [a,b] [] pos) (zhl X.K ta):=by
 intro pins s σ H R I h;refine Call_ (z3W I hg hm boot_zip (y1c (thn (ha pos pins s σ H _ I h) λus s1 hz8=>?_) (by rw[hs,hs2]) (by rw[hs2];rfl)));obtain⟨vs,H1,I1,r1,q1⟩:=hz8;obtain⟨a,b,e,⟨xs,hq⟩,⟨ys,hq'⟩,q⟩:=q1;subst e;obtain⟨u,v,rfl,ru,rv'⟩:=z9q r1;cases ru;cases rv';obtain⟨its,rv,pl,hz⟩:=I1.tuple hq;obtain⟨its2,rv2,pl2,hz2⟩:=I1.tuple hq';have lt:∀{l:Addr}{its:Array Value},s1.heap.IsTuple l its->l<s1.heap.objs.size:=λ⟨o,e,_⟩=>y07 e;have la:=lt pl;have lb:=lt pl2;refine z6a pl pl2 λh' z1 z2 z3 z4 z5 z6 hk=>y2X z1 ?_;have I2:Inv X pins σ H1 { s1 with heap:=h' }:=I1.kept (t':=s1.toks) hk;refine⟨s1.heap.objs.size+4,[s1.heap.objs.size+4,s1.heap.objs.size+2,s1.heap.objs.size+3,s1.heap.objs.size,s1.heap.objs.size+1],_,_,H1,rfl,I2,
  z8S a b (s1.heap.objs.size+4) (s1.heap.objs.size+2) (s1.heap.objs.size+3) s1.heap.objs.size (s1.heap.objs.size+1) (by refine⟨?_,?_,?_,?_,?_,?_,?_,?_,?_,?_⟩<;>(show @Ne Nat _ _;lia)) (y0p (y3k la (by lia))) (y0p (y3k lb (by lia))),⟨z1,z2,⟨_,_,z3⟩,z4,z5⟩,λc hb=>?_,q⟩
 have hb':s1.heap.objs.size<=c:=by simp only[y0l,y2Y,or_false]at hb;rcases hb with q|q|q|q|q<;>(have q:@Eq Nat c _:=q;lia)
 exact I1.fpOk hb' (I1.hok.fresh hb')
end
end L2
namespace Gu
open PySem L2
section
variable(P:Program)(w:World)(K:yyF)(mg:yyS)(base:Heap)(CX:CXT)(k:Nat)
end
def z1E{r:List Int}{s i:Nat}(h:i<s):(r.take s).getD i 0=r.getD i 0:=by rw[y09,y2w,if_pos h,<-y09]
def za3{r:List Int}{s:Nat}(hs:0<s)(hle:s<=r.length)(hd:s ∣ r.length):(List.replicate (r.length/s) (r.take s)).flatten=r↔Per r s:=by
 have lt:(r.take s).length=s:=by rw[y0z];lia
 have e1:r.length/s*s=r.length:=Nat.div_mul_cancel hd;have lf:(List.replicate (r.length/s) (r.take s)).flatten.length=r.length:=by rw[zaW,lt,e1]
 have g:∀i,i<r.length->(List.replicate (r.length/s) (r.take s)).flatten.getD i 0=r.getD (i%s) 0:=λi hi=>by rw[z5K _ _ _ (by rw[lt,e1];exact hi),lt,z1E (y1H _ hs)]
 constructor
 .intro h;rw[h]at g;exact z8c hd g
 .intro h;refine y1G lf λi h1 h2=>?_;have a:=g i h2;rw[<-z4u h hs i h2,z0U h1,z0U h2]at a;exact a
def z5X{r:List Int}{s:Nat}(hle:s<=r.length)(hd:s ∣ r.length):r.drop s=r.take (r.length-s)↔Per r s:=by
 have l1:(r.drop s).length=r.length-s:=y12;have l2:(r.take (r.length-s)).length=r.length-s:=by rw[y0z];lia
 have g1:∀i,i<r.length-s->(r.drop s).getD i 0=r.getD (i+s) 0:=λi hi=>by rw[y09,y1L,<-y09,Nat.add_comm]
 constructor
 .intro h;refine⟨hd,λi hi=>?_⟩;rw[<-g1 i (by lia),h,z1E (by lia)]
 .intro h;refine y1G (by lia) λi h1 h2=>?_;rw[<-z0U h1,<-z0U h2,g1 i (by lia),z1E (by lia)];exact h.2 i (by lia)
def zah{r:List Int}:Per r r.length:=⟨Nat.dvd_refl _,λi hi=>by lia⟩
def z97{α:Type}{xs:List α}{c:Nat}(h:c<xs.length):atI xs (-1-(c:Int))=xs[xs.length-1-c]?:=by
 have e:ixN xs.length (-1-(c:Int))=some (xs.length-1-c):=by unfold ixN;rw[if_neg (by lia),if_pos (by lia)];congr 1;lia
 unfold atI;rw[e];rfl
def z3E{b r:List Int}{s c:Nat}(hs:0<s)(h:z3u b (r.take s) s c):z3u b r s c:=by have g:∀j,(r.take s).getD (s-1-j%s) 0=r.getD (s-1-j%s) 0:=λj=>z1E (by have:=y1H j hs;lia);exact⟨h.le,λj hj=>by rw[h.eq j hj,g],by have:=h.no;rw[g]at this;exact this⟩
def zbw{r:List Int}{s c:Nat}(hs:0<s)(hle:s<=r.length):(r.take s).drop (s-c%s)++(r.take s).take (s-c%s)=(z33 s).map λk=>r.getD ((k-(c:Int))%(s:Int)).toNat 0:=by
 have hm:c%s<s:=y1H _ hs;have lt:(r.take s).length=s:=by rw[y0z];lia
 have e2:∀i:Nat,(((i:Int)-(c:Int))%(s:Int))=(((s-c%s+i)%s:Nat):Int):=λi=>by
  rw[y1I];have e3:((s-c%s+i:Nat):Int)=((i:Int)-(c:Int))+(s:Int)*(((c/s:Nat):Int)+1):=by
   have:=y3a c s;have e4:(c:Int)=((c%s:Nat):Int)+(s:Int)*((c/s:Nat):Int):=by rw[<-y3b,<-Int.natCast_add,this]
   rw[Int.mul_add,Int.mul_one];lia
  rw[e3,Int.add_mul_emod_self_left]
 have gt:∀i,i<s->(r.take s)[i]?=some (r.getD i 0):=λi hi=>by rw[y2w,if_pos hi,y0e (by lia),z0U (by lia)]
 have e0:∀(k:Nat)(l:List Int),k<=s->l.length=s->(l.drop k++l.take k).length=s:=λk l hk hl=>by rw[y04,y12,y0z];lia
 generalize r.take s=l at *;obtain⟨k,hk⟩:∃k,k=s-c%s:=⟨_,rfl⟩;have hk0:0<k:=by lia
 have hks:k<=s:=by lia
 rw[<-hk];refine y1G (by rw[e0 _ _ hks lt,y00,z2E]) λi h1 h2=>?_;have hi:i<s:=by rw[e0 _ _ hks lt]at h1;exact h1
 have e1:((z33 s).map λk=>r.getD ((k-(c:Int))%(s:Int)).toNat 0)[i]?=some (r.getD ((k+i)%s) 0):=by rw[y0x,z86 hi];show some (r.getD (((i:Int)-(c:Int))%(s:Int)).toNat 0)=_;rw[e2 i,<-hk,y0J]
 have e5:(l.drop k++l.take k)[i]?=some (r.getD ((k+i)%s) 0):=by
  rw[List.getElem?_append,y12,lt];by_cases h:i<s-k
  .rw[if_pos h,y1L,gt _ (by lia),y1f (by lia)]
  .have e6:(k+i)%s=i-(s-k):=by
    rw[show k+i=(i-(s-k))+s by lia,y2I,y1f (by lia)]
   rw[if_neg h,y2w,if_pos (by lia),gt _ (by lia),e6]
 rw[y0e h1]at e5;rw[y0e h2]at e1;exact(y0d e5).trans (y0d e1).symm
def z1h(M:List Row):Int->List Int->List Int
 |_,[]=>[]
 |x,l::w=>(row M x).1.getD l.toNat 0::z1h M ((row M x).2.getD l.toNat 0) w
theorem z0M(M:List Row):∀(w:List Int)(x:Int),(z1h M x w).length=w.length
 |[],_=>rfl
 |_::w,x=>by show(z1h M _ w).length+1=w.length+1;rw[z0M M w]
theorem z3g(M:List Row):∀(w w':List Int)(x:Int),z1h M x (w++w')=z1h M x w++z1h M (goW M x w) w'
 |[],_,_=>rfl
 |l::w,w',x=>by show _::z1h M _ (w++w')=_::(z1h M _ w++z1h M (goW M _ w) w');rw[z3g M w w']
def z8X(M:List Row)(w:List Int)(x:Int)(k:Nat):(z1h M x w).take k=z1h M x (w.take k):=by
 have e:=z3g M (w.take k) (w.drop k) x;rw[y1K]at e;rw[e];by_cases h:k<=w.length
 .have hl:(z1h M x (w.take k)).length=k:=by rw[z0M,y0z];lia
  rw[List.take_append_of_le_length (by lia),y0X (by lia)]
 .have:w.drop k=[]:=y2E (by lia);rw[this];show(z1h M x (w.take k)++[]).take k=_;rw[y0j,y0X (by rw[z0M,y0z];lia)]
end Gu
namespace L2
open PySem PySem.Spec PyProof.Rows
section
variable{M:Model}{A:Around}{E:yyE}
variable{nm q:Str}{C N:Addr}{bs bm:List Value}{hdct:Bool}{sn:List Str}{sub:List Value}{ab:Bool}{col:Option Bool}{dd:Option Addr}{k0 k1 k2 k3 k5:Option Value}{newId:String}
variable{nm' q':Str}{C' N':Addr}{bs' bm':List Value}{hdct':Bool}{sn':List Str}{sub':List Value}{ab':Bool}{col':Option Bool}{dd':Option Addr}{k0' k1' k2' k3' k5':Option Value}{newId':String}
end
end L2
namespace Gu
open PySem L2
def zbY{n:Nat}{p:List Int}(h:IsP n p){k:Nat}(hk:k<n):0<=p.getD k 0/\p.getD k 0<(n:Int):=by have hl:=h.len;rw[y09,y0e (by lia)];exact zbm.mp (h.mem_iff.mp (y13 (show k<p.length by lia)))
end Gu
namespace L2
open PySem PySem.StrLaws PySem.Builtin PySem.Builtin.Str
abbrev sg(x:Str):List Nat:=x.cps.toList
def z7w(a:Str):(sg a).length=a.length:=by show a.cps.toList.length=a.cps.size;rw[y1B]
def zdW(y:Str)(parts:List Str):Txt.join y parts=Str.join y parts:=glued_eq_join y parts
open PySem.Spec PyProof.Rows PySem.SeqAt
def Its(x:Str):It:=⟨λi _=>i<x.length,λi H v H'=>H'=H/\∃c,(sg x)[i]?=some c/\v=.str ⟨#[c]⟩,λi _=>x.length<=i⟩
def zcz{x:Str}{i:Nat}:(sg x)[i]?=x.cps[i]?:=by simp
def z8k{P:Program}{w:World}{K:yyF}{tg:Expr}(it:Addr)(x:Str)(t:Tok):z8M P w K tg (Its x) [it] it (λi h=>h.IsStrIter it "str_ascii_iterator" x t i) where
 mem:=by simp
 obj:=λi h st b hb=>by
  have e:b=it:=by simpa using hb
  subst e;obtain⟨o,e,c,d⟩:=st;exact⟨o,e,λv z=>by rw[d]at z;cases z⟩
 keep:=λi h h' st k=>let⟨o,ho,r⟩:=st;⟨o,k it (by simp) o ho,r⟩
 item:=by intro X hP hw hK hc i pins s σ H E I hf st hg;subst hP hw hK;obtain⟨f0,f1,f2,f3,f4,f5⟩:=hf it (by simp);have hg':i<x.cps.size:=hg;refine wpAny_pyNext_ascii_item st (c:=x.cps[i]) (by simp[hg']) λh' st' sb=>?_;have I1:Inv X pins σ H { s with heap:=h',toks:=s.toks+1 }:=I.turned (t':=s.toks+1) (λb o hb e=>(sb.2 b hb).trans e) f0 f1 f3 f4 f5;obtain⟨o,e,c,d⟩:=id st';exact⟨_,rfl,z8t (s:={ s with heap:=h',toks:=s.toks+1 }) e c d (by decide) ⟨.str ⟨#[x.cps[i]]⟩,H,I1,⟨_,rfl⟩,⟨rfl,x.cps[i],by rw[zcz];simp[hg'],rfl⟩,st',λb hb=>(hf b hb).1⟩⟩
 done:=by intro X hP hw hK hc i pins s σ H E I hf st hg;subst hP hw hK;obtain⟨f0,f1,f2,f3,f4,f5⟩:=hf it (by simp);exact wpAny_pyNext_ascii_end (I.ok.hd hc) st (y1Y hg) λh' eb=>⟨rfl,I.turned (t':=s.toks) (λb o hb e=>eb b o hb e) f0 f1 f3 f4 f5⟩
 self:=λ_ _ _ _ _ st h=>wpAny_pyIter_striter_ascii st h
def z9s{P:Program}{w:World}{K:yyF}{tg:Expr}(it:Addr)(x:Str)(t:Tok):z8M P w K tg (Its x) [it] it (λi h=>h.IsStrIter it "str_iterator" x t i) where
 mem:=by simp
 obj:=λi h st b hb=>by
  have e:b=it:=by simpa using hb
  subst e;obtain⟨o,e,c,d⟩:=st;exact⟨o,e,λv z=>by rw[d]at z;cases z⟩
 keep:=λi h h' st k=>let⟨o,ho,r⟩:=st;⟨o,k it (by simp) o ho,r⟩
 item:=by intro X hP hw hK hc i pins s σ H E I hf st hg;subst hP hw hK;obtain⟨f0,f1,f2,f3,f4,f5⟩:=hf it (by simp);have hg':i<x.cps.size:=hg;refine wpAny_pyNext_wide_item st (c:=x.cps[i]) (by simp[hg']) λh' st' sb=>?_;have I1:Inv X pins σ H { s with heap:=h',toks:=s.toks+1 }:=I.turned (t':=s.toks+1) (λb o hb e=>(sb.2 b hb).trans e) f0 f1 f3 f4 f5;obtain⟨o,e,c,d⟩:=id st';exact⟨_,rfl,z8t (s:={ s with heap:=h',toks:=s.toks+1 }) e c d (by decide) ⟨.str ⟨#[x.cps[i]]⟩,H,I1,⟨_,rfl⟩,⟨rfl,x.cps[i],by rw[zcz];simp[hg'],rfl⟩,st',λb hb=>(hf b hb).1⟩⟩
 done:=by intro X hP hw hK hc i pins s σ H E I hf st hg;subst hP hw hK;obtain⟨f0,f1,f2,f3,f4,f5⟩:=hf it (by simp);exact wpAny_pyNext_wide_end (I.ok.hd hc) st (y1Y hg) λh' eb=>⟨rfl,I.turned (t':=s.toks) (λb o hb e=>eb b o hb e) f0 f1 f3 f4 f5⟩
 self:=λ_ _ _ _ _ st h=>wpAny_pyIter_striter_wide st h
section
variable{X:Cx}{tg:Expr}
end
theorem z5P:∀{xs:List Str}{us:List Value},z0B (xs.map V.str) us->∃l:List (Str × Tok),strValues l=us/\l.map (·.1)=xs
 |[],_,.nil=>⟨[],rfl,rfl⟩
 |x::xs,_,.cons r t=>by obtain⟨tk,rfl⟩:=r;obtain⟨l,rfl,rfl⟩:=z5P t;exact⟨(x,tk)::l,rfl,rfl⟩
section
variable{X:Cx}(K:yyF)
def zdR(hK:X.K=K):MtR X "str.join" (λx vs H Q=>∃(y:Str) (p:Addr) (xs:List Str),x=.str y/\vs=[.ref p]/\SqL K H p (xs.map V.str)/\(xs.map (·.length)).sum+xs.length*y.length<=16777216/\Q (.str (Str.join y xs)) H):=by subst hK;intro pins s σ H x vs v us Q I rx r h;obtain⟨y,p,xs,rfl,rfl,hq,hz,q⟩:=h;obtain⟨t,rfl⟩:=rx;obtain⟨u,rfl,ru⟩:=z1Z r;cases ru;obtain⟨its,rv,pl,_⟩:=I.list hq;obtain⟨l,rfl,rfl⟩:=z5P rv;refine SC.join pl.isList rfl (joinOk_of hz) λt' k=>⟨.str _,H,I.tok _,⟨_,rfl⟩,?_⟩;rw[zdW];exact q
def z5u:z0Q X (.type "str") (λxs H Q=>∃(x:Str),xs=[.str x]/\Q (.str x) H):=by intro pins s σ H xs us Q I r h;obtain⟨x,rfl,q⟩:=h;obtain⟨u,rfl,t,rfl⟩:=z1Z r;exact PySem.P.str_of_str ⟨.str x,H,I,⟨_,rfl⟩,q⟩
end
open PySem.W
def zk5(K:yyF)(n:Nat)(t:TGs):TG:=λv σ H Q=>∃a xs,v=.ref a/\SqL K H a xs/\xs.length=n/\t xs σ H Q
section
variable{X:Cx}{pos:Pos}
def zfK{es:List Expr}{k:Nat}{t:TGs}{n:Nat}(hc:X.calm=true)(h:PGs X es t)(hn:(assignEach es X.env).length=n:=by rfl)(hst:(assignEach es X.env).findIdx? (·.1)=none:=by rfl):PG X (.Tuple es k pos) (zk5 X.K n t):=by intro pins s σ H v u Q I r hw;obtain⟨a,xs,e1,hq,hl,hw⟩:=hw;subst e1;cases r;obtain⟨its,rv,pl,hz⟩:=I.list hq;rw[assign_Tuple];refine y01 (y1W ?_);unfold unpack;rw[show(assignEach es X.env).length=its.toArray.size by simp[hn,<-hl,rv.length],hst];refine y01 (y1e (kun_itemsOf (I.ok.hd hc) pl.isList λh' hx=>?_));have I1:Inv X pins σ H { s with heap:=h' }:=I.kept (t':=s.toks) λb o e=>hx b o (y0p (y07 e)) e;exact h pins _ σ H xs _ Q I1 (by simpa using rv) hw
end
open PySem.W (Frag nsIn)
def z2O(K:Frag)(a:Addr):Bool:=!(a==sysModules)&&match K.lookup a with
 |some o=>(o.cls == .type "dict")&&o.dict.isNone&&(o.slots == #[])&&(match o.data with|.dict es _=>es.all (λe=>isExactStrKey e.key)|_=>false)
 |none=>false
def z7b{K:Frag}{a:Addr}(h:z2O K a=true):(a==sysModules)=false/\∃o es ep,K.lookup a=some o/\o.ExactDict/\o.data=.dict es ep/\(es.all λe=>isExactStrKey e.key)=true:=by
 unfold z2O at h;rw[y0h]at h;obtain⟨h1,h2⟩:=h;refine⟨by simpa using h1,?_⟩;cases hl:K.lookup a with
 |none=>rw[hl]at h2;cases h2
 |some o =>
  rw[hl]at h2;simp only[y0h]at h2;obtain⟨⟨⟨c1,c2⟩,c3⟩,c4⟩:=h2;cases hd:o.data with
  |dict es ep=>rw[hd]at c4;exact⟨o,es,ep,rfl,⟨by simpa using c1,by simpa using c2,by simpa using c3⟩,hd,c4⟩
  |_=>rw[hd]at c4;cases c4
section
variable{prog:Program}{w:World}{A:Around}{E:yyE}{s:Shared}{K:Frag}{a:Addr}{x:Str}{tk:Tok}
def ziG{r:Option Value}{Q:Option Value->Shared->Prop}(hd:z2O K a=true)(hK:K.In s.heap)(hn:nsIn K a x=some r)(h:Q r { s with toks:=s.toks+1 }):wpAny (model prog w) A (dictGet a (.str x tk)) Q E s:=by
 obtain⟨_,o,es,ep,hl,hex,hdt,hall⟩:=z7b hd;have ho:=hK _ _ hl;unfold dictGet;try with_reducible refine y1e ?_
 refine y01 (wpAny_pyHash_str (y01 (KTD.kt_dictFind_strs (s:={ s with toks:=s.toks+1 }) ho hdt hall ?_)));have hf:findBy (λk v=>v.isStr k) es x=r:=by
  have e1:findBy (λk v=>v.isStr k) es x=(es.toList.find? λe=>e.key.isStr x).map (·.val):=by obtain⟨l⟩:=es;simp[findBy]
  rw[e1];unfold nsIn at hn;obtain⟨cl,dc,dt,sl⟩:=o;have hdt':dt=.dict es ep:=hdt;subst hdt';rw[hl]at hn;dsimp only at hn;cases hq:es.toList.find? λe=>e.key.isStr x with
  |none =>
   rw[hq]at hn;dsimp only at hn;split at hn
   .cases hn
   .exact y0d hn
  |some e=>rw[hq]at hn;exact y0d hn
 rw[findBy_of_findIdx?]at hf;cases hi:es.findIdx? λe=>e.key.isStr x with
 |none=>rw[hi]at hf;exact y03 (by rw[<-hf]at h;exact h)
 |some i=>rw[hi]at hf;exact y01 (y1S (s:={ s with toks:=s.toks+1 }) ho hdt (y03 (by rw[<-hf]at h;exact h)))
def zeM(hd:z2O K a=true)(hK:K.In s.heap):s.TypeIs (.ref a) "dict":=by obtain⟨_,o,es,ep,hl,hex,hdt,hall⟩:=z7b hd;exact⟨o,hK _ _ hl,hex.1⟩
def z9z{v:Value}{Q:yyE}(hd:z2O K a=true)(hK:K.In s.heap)(hn:nsIn K a x=some (some v))(h:Q v { s with toks:=s.toks+1 }):wpAny (model prog w) A (getItem (.ref a) (.str x tk)) Q E s:=by
 have T:=zeM hd hK;unfold getItem;try with_reducible refine y1e ?_
 refine y01 (wpAny_sequenceKey T (by decide) ?_);refine y01 (y0E (name:=Str.ofString "__getitem__") T slot_dict_getitem
  (y0K slot_dict_getitem T entry_dict_getitem ?_ (args_dict_getitem _ _)))
 show wpAny _ _ (dictGet a (.str x tk)>>=_) _ _ s;exact y01 (ziG hd hK hn (y03 ⟨v,rfl,y03 h⟩))
end
def zeW(K:Frag)(td ty:TE):TE:=λσ H Q=>td σ H λx H1=>ty σ H1 λy H2=>∃a z v u,x=.ref a/\z2O K a=true/\y=.str z/\nsIn K a z=some (some u)/\z0A v u/\Q v H2
section
variable{X:Cx}{o i:Expr}{td ty:TE}{pos:Pos}
def Inv.inK{pins:yyP}{σ:St}{H:Hp}{s:Shared}(I:Inv X pins σ H s):X.K.In s.heap:=λa o e=>I.kIn a o e
def zb4(ho:PE X o td)(hi:PE X i ty)(hs:zia i):PE X (.Subscript o i pos) (zeW X.K td ty):=by intro pins s σ H Q I h;refine zdM PySem.F.slot_dict_getitem.lookup hs (thn (ho pins s σ H _ I h) λu s1 ⟨x,H1,I1,rx,q1⟩=>thn (hi pins s1 σ H1 _ I1 q1) λiv s2 hz8=>?_);obtain⟨y,H2,I2,ry,a,z,v,w,ex,hd,ey,hn,rv,q2⟩:=hz8;subst ex ey;obtain rfl:u=Value.ref a:=rx;obtain⟨t,rfl⟩:=ry;exact⟨zeM hd I2.inK,z9z hd I2.inK hn ⟨v,H2,I2.tok _,rv,q2⟩⟩
end
def zeg(K:Frag)(a:Addr)(xs:List Str):Bool:=match K.lookup a with
 |some ⟨.type "tuple",_,.seq its _,_⟩=>decide (its.toList.length=xs.length)&&(its.toList.zip xs).all λp=>p.1.isStr p.2
 |_=>false
def zbX{v:Value}{x:Str}(h:v.isStr x=true):z0A (.str x) v:=KTD.kt_isStr h
theorem z89:∀{us:List Value}{xs:List Str},us.length=xs.length->((us.zip xs).all λp=>p.1.isStr p.2)=true->z0B (xs.map V.str) us
 |[],[],_,_=>.nil
 |u::us,x::xs,h,ha=>by rw[List.zip_cons_cons,y36,y0h]at ha;exact .cons (zbX ha.1) (z89 (by simpa using h) ha.2)
def zai{K:Frag}{a:Addr}{xs:List Str}(h:zeg K a xs=true)(hz:xs.length<=1000)(H:Hp):SqT K H a (xs.map V.str):=by
 unfold zeg at h;split at h
 .rename_i dc its n sl hl;rw[y0h]at h;have h1:=y0i h.1;refine .inr ⟨_,its,n,hl,rfl,rfl,?_,z89 h1 h.2⟩;rw[y1B]at h1;rw[h1];exact y0k hz (by decide)
 .cases h
def zfS(X:Cx)(CX:CXT)(k i:Nat)(t:TA):TE:=λσ H Q=>∃(f:Addr)(fd:FuncData)(ps:List Str)(sp:Sp)(E:XK),σ[i]?=some (some (.ref f))/\z2h X.prog X.w X.K X.mg X.base CX k f fd ps sp/\z1q X.K fd ps []/\PySem.W.keepIn X.K (.ref f)=true/\z2r CX X E/\t σ H λvs H1=>sp vs H1 Q E
section
variable{X:Cx}{CX:CXT}{k:Nat}{x:Str}{p pos:Pos}{e:Expr}{es:List Expr}{t:TA}
def zaV(i:Nat)(hr:z1C k X.A)(ha:PA X (e::es) t)(hN:X.N[i]?=some x:=by rfl)(hv:Vis X.env.scope x:=by first|exact Or.inl rfl|exact Or.inr (Or.inl rfl)|exact Or.inr (Or.inr rfl))(hd:(x==("__debug__":Str))=false:=by decide)(hcd:(x==("__classdict__":Str))=false:=by decide)(he:starEach (e::es) X.env=(false,eval e X.env)::starEach es X.env:=by rfl)(hpl:(backTo pos (starEach es X.env)).any (·.1)=false:=by rfl) : PE X (.Call (.Name x p) (e::es) [] pos) (zfS X CX k i t):=by intro pins s σ H Q I h;obtain⟨f,fd,ps,sp,E,ef,F,hb,hk,hx,h⟩:=h;refine y1q (z2L (z9r hN hv hd hcd pins s σ H (λv H1=>v=.ref f/\H1=H) I ⟨_,ef,rfl,rfl⟩) λu s1 v H1 I1 r1 hz9=>?_);obtain⟨hv1,hH1⟩:=hz9;subst hv1 hH1;cases r1;refine y20 (h₀:=X.base) I1.ok.mod.kin hk (thn (ha pos pins s1 σ H1 _ I1 h) λus s2 ⟨vs,H2,I2,r,q⟩=>⟨I2.kIn,?_⟩) he hpl;exact zgn F hr hb .nil hx I2 r (by rw[y0j];exact q)
end
open PySem.W.KIN (signs_num val_back)
def zeA(n:Nat):Str:=Str.ofString (toString ((n:Nat):Int))
def zcF(n:Nat):sg (zeA n)=(Nat.toDigits 10 n).map Char.toNat:=signs_num n
def z7B(n:Nat):∀c∈sg (zeA n),48<=c/\c<=57:=λc hc=>by rw[zcF]at hc;obtain⟨ch,hch,e⟩:=y0f.mp hc;have r:=PyProof.Rows.digit_range (Nat.isDigit_of_mem_toDigits (by decide) (by decide) hch);rw[<-e];exact r
section
variable{prog:Program}{w:World}{A:Around}{E:yyE}{s:Shared}{α:Type}{kf:Keyed->α}{lt:α->α->Bool}{kd:SortKind}{S:List Keyed}
end
section
variable{α:Type}(kf:Keyed->α)(lt:α->α->Bool)
end
section
variable{α:Type}{kf:Keyed->α}{lt:α->α->Bool}
end
section
variable{prog:Program}{w:World}{A:Around}{E:yyE}{s:Shared}{α:Type}{kf:Keyed->α}{lt:α->α->Bool}{kd:SortKind}{S:List Keyed}
end
section
variable{α:Type}{kf:Keyed->α}{lt:α->α->Bool}
end
section
variable{prog:Program}{w:World}{A:Around}{E:yyE}{s:Shared}{α:Type}{kf:Keyed->α}{lt:α->α->Bool}{kd:SortKind}{S:List Keyed}
end
section
variable{α:Type}{kf:Keyed->α}{lt:α->α->Bool}{kd:SortKind}{p0:Array (Nat × Nat × Nat)}{a₀:Array Keyed}{lo hi:Nat}{st:SortSt}
end
section
variable{prog:Program}{w:World}{A:Around}{E:yyE}{s:Shared}{α:Type}{kf:Keyed->α}{lt:α->α->Bool}{kd:SortKind}{S:List Keyed}{p0:Array (Nat × Nat × Nat)}{a₀:Array Keyed}{lo hi:Nat}
end
section
variable{prog:Program}{w:World}{A:Around}{E:yyE}{s:Shared}{α:Type}{kf:Keyed->α}{lt:α->α->Bool}{kd:SortKind}{S:List Keyed}{p0:Array (Nat × Nat × Nat)}{a₀:Array Keyed}{lo hi:Nat}
end
section
variable{prog:Program}{w:World}{A:Around}{E:yyE}{s:Shared}{α:Type}{kf:Keyed->α}{lt:α->α->Bool}{kd:SortKind}{S:List Keyed}
end
section
variable{α:Type}{kf:Keyed->α}{lt:α->α->Bool}{kd:SortKind}
end
section
variable{prog:Program}{w:World}{A:Around}{E:yyE}{s:Shared}{α:Type}{kf:Keyed->α}{lt:α->α->Bool}{kd:SortKind}{S:List Keyed}
end
section
variable{X:Cx}{e st:Expr}{te ts:TE}{pos p2:Pos}
end
end L2
namespace Gu
open PySem L2
def zhR{α:Type}{us:List α}(h:us.length=1):∃a,us=[a]:=by
 cases us with
 |nil=>cases h
 |cons a r =>
  cases r with
  |nil=>exact⟨a,rfl⟩
  |cons _ _=>simp at h
def zj1{α:Type}{us:List α}(h:us.length=2):∃a b,us=[a,b]:=by
 cases us with
 |nil=>cases h
 |cons a r =>
  obtain⟨b,rfl⟩:=zhR (show r.length=1 by simpa using h);exact⟨a,b,rfl⟩
def zjk{α:Type}{us:List α}(h:us.length=3):∃a b c,us=[a,b,c]:=by
 cases us with
 |nil=>cases h
 |cons a r =>
  obtain⟨b,c,rfl⟩:=zj1 (show r.length=2 by simpa using h);exact⟨a,b,c,rfl⟩
section
variable(P:Program)(w:World)(K:yyF)(mg:yyS)(base:Heap)(CX:CXT)(k:Nat)
end
section
variable{P:Program}{w:World}{K:yyF}{mg:yyS}{base:Heap}{CX:CXT}{k:Nat}{Ct:Addr}
end
end Gu
namespace L2
open PySem PySem.Spec PyProof.Rows
section
variable{prog:Program}{w:World}{A:Around}{R:Result->Shared->Prop}{s:Shared}
end
section
variable{X:Cx}{pins:yyP}{σ:St}{H:Hp}{s:Shared}{N:List Str}{ix:List (Option Nat)}{scope:Scope}{elt iter tg cx:Expr}{pos:Pos}{g:TG}{tt:TT}{te:TE}{E:yyE}
end
section
variable{X:Cx}{pins:yyP}{σ:St}{H:Hp}{s:Shared}{N:List Str}{ix:List (Option Nat)}{scope:Scope}{elt iter tg cx:Expr}{pos:Pos}{te:TE}{E:yyE}
end
def z9o(CX:CXT)(X:Cx)(σ0:St)(E:XK):Prop:=∀(pins:yyP)(H:Hp)(s:Shared)(e:Value)(s':Shared),Inv X pins σ0 H s->CX X.stack H s E e s'->X.xe e s'
section
variable{X:Cx}{CX:CXT}{k:Nat}{f C:Addr}{fd:FuncData}{ps:List Str}{sp:Sp}{dvs:List V}{ds:List Value}{E:XK}{x m:Str}{p pos apos:Pos}{e o:Expr}{es:List Expr}{ta:TE}{t:TA}{σ0:St}
def zec{pins:yyP}{H:Hp}{s:Shared}{Q:VK}{us:List Value}{vs:List V}(F:z2h X.prog X.w X.K X.mg X.base CX k f fd ps sp)(hr:z1C k X.A)(hb:z1q X.K fd ps ds)(hd:z0B dvs ds)(hx:z9o CX X σ0 E)(I:Inv X pins σ0 H s)(r:z0B vs us)(h:sp (vs++dvs) H Q E):wpAny (model X.prog X.w) X.A (call (.ref f) us) (EP X pins σ0 Q) X.xe s:=by
 have r2:z0B (vs++dvs) (us++ds):=r.append hd;have hl:(us++ds).length=ps.length:=by rw[<-r2.length];exact F.len _ _ _ _ h
 refine wpAny_call (y23 (F.run X.A X.stack s H ⟨us,[]⟩ (us++ds) (vs++dvs) Q E hr I.env0 (hb s us I.kIn hl) r2 h) λr s' hq=>?_);cases r with
 |error e=>exact hx pins H s e s' I hq
 |ok fl =>
  cases fl with
  |ret u=>exact I.after hq
  |next=>exact False.elim hq
  |brk=>exact False.elim hq
  |cont=>exact False.elim hq
end
open PySem.SeqAt
open PySem.AutoSeq1 (wpAny_loadPart')
section
variable{X:Cx}(K:yyF)
end
section
variable{M:Model}{A:Around}{E:yyE}
end
section
variable{prog:Program}{w:World}{A:Around}{E:yyE}{s:Shared}
end
section
variable{prog:Program}{w:World}{A:Around}{R:Result->Shared->Prop}{I:Addr}{fp wr:List Addr}{G:Array GenState->Array GenState->Prop}{n:Nat}{P:Nat->Value->Prop}{St:Nat->Shared->Prop}
end
section
variable{prog:Program}{w:World}{A:Around}{E:yyE}{s:Shared}
end
namespace SF
end SF
section
variable{prog:Program}{w:World}{A:Around}{E:yyE}{s:Shared}{it a:Addr}{es:Array (Int × Value)}{ep:Nat}{t:SetTable}{i:Nat}
end
end L2
namespace L2
open PySem PySem.Spec PyProof.Rows
section
variable{prog:Program}{w:World}{A:Around}{E:yyE}{s:Shared}{it a:Addr}{es:Array (Int × Value)}{ep:Nat}{t:SetTable}{i:Nat}
end
section
variable{prog:Program}{w:World}{A:Around}{es:Array (Int × Value)}{ep:Nat}{t:SetTable}
end
section
variable{prog:Program}{w:World}{A:Around}{E:yyE}{s:Shared}{it a:Addr}{es:Array (Int × Value)}{ep:Nat}{t:SetTable}{i:Nat}
end
section
variable{prog:Program}{w:World}{A:Around}{E:yyE}{s:Shared}{a:Nat}{es:Array (Int × Value)}{ep:Nat}{t:SetTable}
end
open PySem.SeqAt
open PySem.AutoSeq1 (wpAny_loadPart')
section
variable{X:Cx}(K:yyF)
end
open PySem.AutoSeq1 (wpAny_loadPart')
section
variable{prog:Program}{w:World}{A:Around}{E:yyE}{s:Shared}{α:Type}{kf:Keyed->α}{lt:α->α->Bool}{kd:SortKind}
end
end L2
namespace Gu
open PySem L2
def zed{n N:Nat}{gs:List Int}(hl:gs.length=n)(hg:∀g∈gs,0<=g/\g<(N:Int)){k:Nat}(hk:k<n):gs[k]?=some (gs.getD k 0)/\0<=gs.getD k 0/\gs.getD k 0<(N:Int):=by have e:gs[k]?=some gs[k]:=y0e (by lia);rw[y09,e];exact⟨rfl,hg _ (y13 (by lia))⟩
end Gu
namespace L2
open PySem PySem.Spec PyProof.Rows
section
variable{prog:Program}{w:World}{A:Around}{E:yyE}{s:Shared}{z TI TO i1 i2:Addr}{fp1 fp2:List Addr}{n1 n2:Nat}{P1 P2:Nat->Value->Prop}{S1 S2:Nat->Heap->Prop}
end
section
variable{X:Cx}{elts:List Expr}{tk:Nat}{tp:Pos}
end
end L2
namespace Gu
open PySem L2
end Gu
namespace L2
open PySem PySem.Spec PyProof.Rows
variable{X:Cx}
end L2
namespace Gu
open PySem L2
end Gu
namespace L2
open PySem PySem.Spec PyProof.Rows
section
variable{prog:Program}{w:World}{A:Around}{R:Result->Shared->Prop}{s:Shared}
end
section
variable{X:Cx}{pins:yyP}{σ:St}{H:Hp}{s:Shared}{N:List Str}{ix:List (Option Nat)}{scope:Scope}{elt iter tg iter2 tg2:Expr}{pos:Pos}{g g2:TG}{wi2:TI}{te:TE}{E:yyE}
end
end L2
namespace Gu
open PySem L2
def z1r(e:Row)(m:Nat):(hdW e m).length=m:=by unfold hdW;rw[y00,List.length_range]
def z7W(e:Row)(m:Nat):hdW e (m+1)=hdW e m++[lat e m]:=by unfold hdW;rw[List.range_succ,y0n];rfl
def zaS(e:Row){k m:Nat}(h:k<=m):(hdW e m).take k=hdW e k:=by unfold hdW;rw[<-y2x,y3d,y11 h]
def stS(M:List Row)(e:Row)(i:Nat):Int:=goW M 0 (hdW e i)
def oS(M:List Row)(e:Row)(i:Nat):Int:=(row M (stS M e i)).1.getD (lat e i).toNat 0
def z5d(M:List Row)(e:Row)(i:Nat):stS M e (i+1)=(row M (stS M e i)).2.getD (lat e i).toNat 0:=by unfold stS;rw[z7W,z6O];rfl
def zbv(M:List Row)(e:Row)(i:Nat):z1h M 0 (hdW e (i+1))=z1h M 0 (hdW e i)++[oS M e i]:=by rw[z7W,z3g];rfl
def z7o(M:List Row)(e:Row){i m:Nat}(h:i<m):(z1h M 0 (hdW e m)).getD i 0=oS M e i:=by
 have h1:(z1h M 0 (hdW e m)).take (i+1)=z1h M 0 (hdW e (i+1)):=by rw[z8X,zaS e h]
 have h2:(z1h M 0 (hdW e m)).getD i 0=(z1h M 0 (hdW e (i+1))).getD i 0:=by rw[<-h1,z1E (y2d i)]
 rw[h2,zbv,y09,y15 (by rw[z0M,z1r];exact y0a _),z0M,z1r,Nat.sub_self];rfl
def z20(M:List Row)(e:Row):Nat->Int
 |0=>goW M 0 e.1
 |t+1=>goW M (z20 M e t) e.2
def z1b(M:List Row)(e:Row)(t:Nat):List (List Int):=(List.range t).map λj=>z1h M (z20 M e j) e.2
def z2q(M:List Row)(e:Row)(t:Nat):z1b M e (t+1)=z1b M e t++[z1h M (z20 M e t) e.2]:=by unfold z1b;rw[List.range_succ,y0n];rfl
def z7k(M:List Row)(e:Row)(t:Nat):(z1b M e t).length=t:=by unfold z1b;rw[y00,List.length_range]
theorem z1H(M:List Row)(e:Row):∀t,(z1b M e t).flatten.length=t*e.2.length
 |0=>by unfold z1b;simp
 |t+1=>by rw[z2q,y1i,y04,z1H M e t];simp only[y14,List.flatten_nil,y0j];rw[z0M,y3e,Nat.one_mul]
def z6o(e:Row)(m i:Nat)(h:i<(hdW e m).length):(hdW e m)[i]=lat e i:=by
 have h':i<m:=by rw[z1r]at h;exact h
 have:(hdW e m)[i]?=some (lat e i):=by unfold hdW;rw[y0x,y2j h'];rfl
 rw[y0e h]at this;exact y0d this
def zaD(e:Row):hdW e e.1.length=e.1:=by refine y1G (z1r _ _) λi i1 i2=>?_;rw[z6o,z2H i2,z0U i2]
def zf4{e:Row}(h:e.2≠[])(t:Nat):hdW e (e.1.length+(t+1)*e.2.length)=hdW e (e.1.length+t*e.2.length)++e.2:=by
 have hl:0<e.2.length:=y0r.mpr h;refine y1G (by rw[y04,z1r,z1r,y3e,Nat.one_mul];lia) λi i1 i2=>?_;have e1:(hdW e (e.1.length+(t+1)*e.2.length))[i]=lat e i:=z6o _ _ _ _;rw[e1];rw[z1r]at i1;by_cases hi:i<e.1.length+t*e.2.length
 .rw[List.getElem_append_left (by rw[z1r];exact hi)];rw[z6o]
 .rw[List.getElem_append_right (by rw[z1r];lia)];rw[z1F (by have:=y1M (t*e.2.length);lia)];have em:(i-e.1.length)%e.2.length=i-(e.1.length+t*e.2.length):=by
   have:i-e.1.length=(i-(e.1.length+t*e.2.length))+t*e.2.length:=by lia
   rw[this,Nat.add_mul_mod_self_right,y1f];rw[y3e,Nat.one_mul]at i1;lia
  rw[em];have hj:i-(e.1.length+t*e.2.length)<e.2.length:=by rw[y3e,Nat.one_mul]at i1;lia
  rw[z0U hj];congr 1;rw[z1r]
theorem z4s(M:List Row){e:Row}(h:e.2≠[]):∀t,z1h M 0 (hdW e (e.1.length+t*e.2.length))=z1h M 0 e.1++(z1b M e t).flatten/\stS M e (e.1.length+t*e.2.length)=z20 M e t
 |0=>by
  unfold stS;rw[Nat.zero_mul,y2Q,zaD];exact⟨by unfold z1b;simp,rfl⟩
 |t+1=>by obtain⟨i1,i2⟩:=z4s M h t;unfold stS at i2⊢;rw[zf4 h t,z3g,z6O,i1,i2,z2q,y1i];exact⟨by rw[y19];simp,rfl⟩
def z7C(M:List Row){e:Row}(h:e.2≠[]){k first:Nat}(hf:first<k)(hk:z20 M e k=z20 M e first) : ∀i,lat (z1h M 0 e.1++((z1b M e k).take first).flatten,((z1b M e k).drop first).flatten) i=oS M e i:=by
 have hl:0<e.2.length:=y0r.mpr h;have htk:(z1b M e k).take first=z1b M e first:=by unfold z1b;rw[<-y2x,y3d,y11 (y0Z hf)]
 have hall:(z1h M 0 e.1++((z1b M e k).take first).flatten)++((z1b M e k).drop first).flatten=z1h M 0 (hdW e (e.1.length+k*e.2.length)):=by rw[(z4s M h k).1,y19,<-y1i,y1K]
 have l1:(z1h M 0 e.1++((z1b M e k).take first).flatten).length=e.1.length+first*e.2.length:=by rw[htk,y04,z0M,z1H]
 have l2:(z1h M 0 e.1++((z1b M e k).take first).flatten).length+((z1b M e k).drop first).flatten.length=e.1.length+k*e.2.length:=by rw[<-y04,hall,z0M,z1r]
 have hmul:first*e.2.length+(k-first)*e.2.length=k*e.2.length:=by rw[<-y3e];congr 1;lia
 have l3:((z1b M e k).drop first).flatten.length=(k-first)*e.2.length:=by lia
 have hpos:0<(k-first)*e.2.length:=Nat.mul_pos (by lia) hl;generalize z1h M 0 e.1++((z1b M e k).take first).flatten=A at *;generalize((z1b M e k).drop first).flatten=B at *;refine zcG (λi hi=>?_) (λj hj=>?_) ?_ (λz=>?_)
 .have hi:i<A.length:=hi;rw[<-z7o M e (i:=i) (m:=e.1.length+k*e.2.length) (by lia),<-hall,y09,y09,y1l hi]
 .have hj:j<B.length:=hj;show B.getD j 0=oS M e (A.length+j);rw[<-z7o M e (i:=A.length+j) (m:=e.1.length+k*e.2.length) (by lia),<-hall,y09,y09,y15 (by lia),y1V]
 .show Pd (oS M e) A.length B.length;have pl:Pd (lat e) A.length B.length:=by
   have:=(z7q h).mul (k-first);rw[y3j]at this;rw[l3];exact this.mono (by lia)
  have ps:∀d,stS M e (A.length+d+B.length)=stS M e (A.length+d):=by
   intro d;induction d with
   |zero =>
    rw[y2Q,l2,l1,(z4s M h k).2,(z4s M h first).2,hk]
   |succ d ih =>
    rw[show A.length+(d+1)+B.length=(A.length+d+B.length)+1 by lia,show A.length+(d+1)=A.length+d+1 by lia,z5d,z5d,ih,pl (A.length+d) (by lia)]
  intro i hi;unfold oS;have:=ps (i-A.length);rw[show A.length+(i-A.length)=i by lia]at this;rw[this,pl i hi]
 .have:B=[]:=z;rw[this]at l3;simp at l3;lia
theorem zcx{n:Nat}{M:List Row}(G:z1i n M){e:Row}(hl:∀i,0<=lat e i/\lat e i<(n:Int)):∀i,0<=stS M e i/\stS M e i<(M.length:Int)
 |0=>by
  have:=G.some;show 0<=(0:Int)/\(0:Int)<_;lia
 |i+1=>by obtain⟨a,b⟩:=zcx G hl i;rw[z5d];have hm:=z1B a b;obtain⟨l0,l1⟩:=hl i;exact(zed (k:=(lat e i).toNat) (G.len _ hm) (G.go _ hm) (by lia)).2
def zcu{n:Nat}{e:Row}(h:e.2≠[])(h1:InN n e.1)(h2:InN n e.2)(i:Nat):0<=lat e i/\lat e i<(n:Int):=by
 by_cases hi:i<e.1.length
 .rw[z2H hi,z0U hi];exact h1 _ (y13 hi)
 .have hl:0<e.2.length:=y0r.mpr h;rw[z1F (by lia),z0U (y1H _ hl)];exact h2 _ (y13 (y1H _ hl))
end Gu
namespace L2
open PySem PySem.Spec PyProof.Rows PySem.SeqAt
section
variable{X:Cx}
end
open PySem.AutoSeq1 (wpAny_loadPart')
section
variable{X:Cx}
def zbB(l:Addr)(its:List Value)(n:Nat)(k:Int)(t:Tok)(h2:2<=k)(hk:k<=1000000)(hne:its≠[])(hz:its.length*k.toNat<=sizeLine) : Meets (Builtin.«tuple.__mul__» ⟨[.ref l,.int k t],[]⟩) (λ_ R s=>s.heap.get? l=some { cls:=.type "tuple",dict:=none,data:=.seq its.toArray n,slots:=#[] } /\ R (.ok (.ret (.ref s.heap.objs.size))) { s with heap:=s.heap.push { cls:=.type "tuple",data:=.seq (List.replicate k.toNat its).flatten.toArray } }) :=
 .of_wp λprog w A R s h=>by
  obtain⟨hp,g,d,tk,os⟩:=s;obtain⟨hl,h⟩:=h;have hie:its.toArray.isEmpty=false:=by cases its with|nil=>exact absurd rfl hne|cons a r=>simp
  have hcap:¬((its.toArray.size:Int)*k>(2^63-1)/8):=by
   have h1:((its.length*k.toNat:Nat):Int)<=sizeLine:=by lia
   have h3:((its.length*k.toNat:Nat):Int)=(its.length:Int)*k:=by rw[y3b];congr 1;lia
   have h4:(sizeLine:Int)<=(2^63-1)/8:=by rw[y2h];decide
   simp only[y06];lia
  wp_walk using wpAny_loadPart' hl
  refine y1p (λhab=>absurd hab (by simp;lia)) (λ_=>?_)
  wp_walk using wpAny_loadPart' hl
  have hk1:(k==1)=false:=by simpa using(show k≠1 by lia)
  have hk0:decide (k<=0)=false:=by simpa using(show ¬k<=0 by lia)
  refine y1p (λhab=>absurd hab (by rw[hie,hk1];decide)) (λ_=>?_);refine y1p (λhab=>absurd hab (by rw[hie,hk0];decide)) (λ_=>?_);refine y1p (λhab=>absurd hab hcap) (λ_=>?_);have htm:Builtin.Tuple.tupleTooMany ((its.toArray.size:Int)*k)=false:=by
   have h1:((its.length*k.toNat:Nat):Int)<=sizeLine:=by lia
   have h3:((its.length*k.toNat:Nat):Int)=(its.length:Int)*k:=by rw[y3b];congr 1;lia
   unfold Builtin.Tuple.tupleTooMany;simp only[y06];exact y0u (by lia)
  refine y1p (λhab=>absurd hab (by rw[htm];decide)) (λ_=>?_);have hnew:List.foldl (λx1 x2=>x1++x2) #[] (List.replicate k.toNat its.toArray)=(List.replicate k.toNat its).flatten.toArray:=by have q:=z3V its k.toNat [];rw[y24]at q;exact q
  rw[hnew];unfold Builtin.Tuple.tupleExact;refine y01 (y0A ?_ (by show(List.replicate k.toNat its).flatten.toArray.size<=sizeLine;rw[y06,z4v,y3j];exact hz));exact y03 ⟨_,rfl,h⟩
def zbG:OpR X (binaryOp .Mult) (λx y H Q=>∃(l:Addr)(k:Int)(xs:List V),x=.ref l/\y=.int k/\H l=some (.tup xs)/\xs≠[]/\2<=k/\k<=1000000/\xs.length*k.toNat<=sizeLine /\ ∀p,H p=none->Q (.ref p) (upd H p (.tup (List.replicate k.toNat xs).flatten))):=by
 intro pins s σ H x y v u Q I rx ry h;obtain⟨l,k,xs,rfl,rfl,hH,hne,h2,hk,hz,q⟩:=h;cases rx;obtain⟨t,rfl⟩:=ry;obtain⟨z,its,n,r,e⟩:=I.hok l _ hH;have hl:=r.length;have hne':its≠[]:=λw=>by subst w;exact hne (y0F.mp (by simpa using hl))
 refine y1N (T:="tuple") (U:="int") (by decide) ⟨_,e,rfl⟩ (λs'=>y2n s' k t) z1Y y39 y1C z2P y2U.lookup
  (y1z y1C (y2n s k t) y2V (y2G _ _) (z22 k t l its.toArray n)
   ⟨e,rfl,⟨_,e,rfl⟩,y1z y2f ⟨_,e,rfl⟩ F.entry_tuple_mul (F.args_tuple_mul_2 _ _) (zbB l its n k t h2 hk hne' (by rw[<-hl];exact hz)) ⟨e,?_⟩⟩)
 exact⟨.ref _,_,I.laid (o:=.tup (List.replicate k.toNat xs).flatten) (t':=s.toks) (λb u q=>y02 _ q) (y0a _) ⟨by rw[z4v,y3j];exact hz,_,0,r.rep k.toNat,y05 _ rfl⟩,rfl,q _ I.fresh⟩
def z9m(l:Addr)(its:List Value)(n:Nat)(k:Int)(t:Tok)(h0:-1000<=k)(hk:k<=1000000)(hne:its=[]\/k=1) : Meets (Builtin.«tuple.__mul__» ⟨[.ref l,.int k t],[]⟩) (λ_ R s=>s.heap.get? l=some { cls:=.type "tuple",dict:=none,data:=.seq its.toArray n,slots:=#[] }/\R (.ok (.ret (.ref l))) s) :=
 .of_wp λprog w A R s h=>by
  obtain⟨hp,g,d,tk,os⟩:=s;obtain⟨hl,h⟩:=h;have hyes:(its.toArray.isEmpty||k==1)=true:=by
   rcases hne with e|e
   .subst e;simp
   .subst e;simp
  wp_walk using wpAny_loadPart' hl
  refine y1p (λhab=>absurd hab (by simp;lia)) (λ_=>?_)
  wp_walk using wpAny_loadPart' hl
  exact⟨_,rfl,h⟩
def zaZ:OpR X (binaryOp .Mult) (λx y H Q=>∃(l:Addr)(k:Int)(xs:List V),x=.ref l/\y=.int k/\H l=some (.tup xs)/\-1000<=k/\k<=1000000/\xs.length*k.toNat<=sizeLine /\ ∀(p:Addr)(H':Hp),Same H H'->H' p=some (.tup (List.replicate k.toNat xs).flatten)->Q (.ref p) H'):=by
 intro pins s σ H x y v u Q I rx ry h;obtain⟨l,k,xs,rfl,rfl,hH,h0,hk,hz,q⟩:=h;by_cases hs:xs≠[]/\2<=k
 .exact zbG pins s σ H _ _ v u Q I rx ry ⟨l,k,xs,rfl,rfl,hH,hs.1,hs.2,hk,hz,λp hp=>q p _ (Gu.same_up (Same.refl H) hp) z0e⟩
 .cases rx;obtain⟨t,rfl⟩:=ry;obtain⟨z,its,n,r,e⟩:=I.hok l _ hH;have hl:=r.length;by_cases h1:its=[]\/k=1
  .refine y1N (T:="tuple") (U:="int") (by decide) ⟨_,e,rfl⟩ (λs'=>y2n s' k t) z1Y y39 y1C z2P y2U.lookup
    (y1z y1C (y2n s k t) y2V (y2G _ _) (z22 k t l its.toArray n)
     ⟨e,rfl,⟨_,e,rfl⟩,y1z y2f ⟨_,e,rfl⟩ F.entry_tuple_mul (F.args_tuple_mul_2 _ _) (z9m l its n k t h0 hk h1) ⟨e,?_⟩⟩)
   refine⟨.ref l,H,I,rfl,q l H (Same.refl H) ?_⟩;have:(List.replicate k.toNat xs).flatten=xs:=by
    rcases h1 with w|w
    .subst w;have:xs=[]:=y0F.mp (by simpa using hl);subst this;simp
    .subst w;simp
   rw[this];exact hH
  .have hne:its≠[]:=λw=>h1 (.inl w);have hxs:xs≠[]:=λw=>hne (y0F.mp (by rw[<-hl,w];rfl));have hk0:k<=0:=by
    have a1:k≠1:=λw=>h1 (.inr w);have a2:¬2<=k:=λw=>hs ⟨hxs,w⟩;lia
   refine y1N (T:="tuple") (U:="int") (by decide) ⟨_,e,rfl⟩ (λs'=>y2n s' k t) z1Y y39 y1C z2P y2U.lookup
    (y1z y1C (y2n s k t) y2V (y2G _ _) (z22 k t l its.toArray n)
     ⟨e,rfl,⟨_,e,rfl⟩,y1z y2f ⟨_,e,rfl⟩ F.entry_tuple_mul (F.args_tuple_mul_2 _ _) (zbd l its n k t h0 hk0 hne) ⟨e,?_⟩⟩)
   have e0:k.toNat=0:=by lia
   rw[e0]at q;exact⟨.ref _,_,I.laid (o:=.tup []) (t':=s.toks) (λb u q=>y02 _ q) (y0a _) ⟨y1M _,[],0,.nil,y05 _ rfl⟩,rfl,q _ _ (Gu.same_up (Same.refl H) I.fresh) z0e⟩
def zbE:V->List V->Hp->VK->Prop:=λx vs H Q=>∃l b xs zs,x=.ref l/\vs=[.ref b]/\H l=some (.lst xs)/\H b=some (.tup zs)/\xs.length+zs.length<=sizeLine/\Q .non (upd H l (.lst (xs++zs)))
def z8y:MtM X "list.extend" zbE:=by
 intro pins s σ H x vs v us Q I rx rv h;obtain⟨l,b,xs,zs,rfl,rfl,hH,hB,hz,q⟩:=h;cases rx;obtain⟨u,rfl,ru⟩:=rv.one;cases ru;obtain⟨z,its,n,r,hl,e⟩:=I.lstM hH;obtain⟨z2,its2,n2,r2,e2⟩:=I.hok b _ hB;have hl2:=r2.length;have hsz:its.toArray.size+its2.toArray.size<=sizeLine:=by rw[y06,y06];lia
 have hlong:¬(!its.toArray.isEmpty&&Builtin.List.listTooLong (its.toArray.size+its2.toArray.size))=true:=by rw[z4R hsz,Bool.and_false];exact y0c
 refine y1z F.slot_list_extend ⟨_,e,rfl⟩ F.entry_list_extend (F.args_list_extend_2 _ _)
  (AutoSeq1.list_extend_list_tuple_0 l its.toArray n b its2.toArray n2 hlong (by rw[y06];lia) (by lia)) ⟨e,e2,?_⟩
 refine⟨.non,_,I.lset (its':=its++its2) hH e (by simp) (r.append r2) ?_,rfl,q⟩;rw[y04];lia
end
end L2
namespace Gu
open PySem L2
def z5i{n:Nat}(h:n<=1000000):n<=sizeLine:=y0k h (by decide)
def z3S(n:Nat)(e:Row):Prop:=e.2≠[]/\LW n e.1/\LW n e.2
theorem z3v{n:Nat}{M:List Row}(G:z1i n M){e:Row}(l1:LW n e.1)(l2:LW n e.2):∀t,0<=z20 M e t/\z20 M e t<(M.length:Int)
 |0=>by have:=G.some;exact zcA G l1 (by lia) (by lia)
 |t+1=>by obtain⟨a,b⟩:=z3v G l1 l2 t;exact zcA G l2 a b
def seen(M:List Row)(e:Row)(t:Nat):List Int:=(List.range t).map (z20 M e)
def z2I(M:List Row)(e:Row)(t:Nat):seen M e (t+1)=seen M e t++[z20 M e t]:=by unfold seen;rw[List.range_succ,y0n];rfl
def z1z(M:List Row)(e:Row)(t:Nat):(seen M e t).length=t:=by unfold seen;rw[y00,List.length_range]
end Gu
namespace L2
open PySem PySem.Spec PyProof.Rows PySem.SeqAt
section
variable{X:Cx}(K:yyF)
end
end L2
namespace Gu
open PySem L2
def ziI{n:Nat}{M:List Row}(G:z1i n M){e:Row}(hl:∀i,0<=lat e i/\lat e i<(n:Int))(i:Nat):0<=oS M e i/\oS M e i<(n:Int):=by obtain⟨a,b⟩:=zcx G hl i;obtain⟨l0,l1⟩:=hl i;exact zbY (G.perm _ (z1B a b)) (by lia)
def zcg{n:Nat}{e:Row}(hl:∀i,0<=lat e i/\lat e i<(n:Int))(hne:e.2≠[]):LW n e.1/\LW n e.2:=by
 have hp:0<e.2.length:=y0r.mpr hne;refine⟨λl h=>?_,λl h=>?_⟩
 .obtain⟨i,hi,rfl⟩:=List.mem_iff_getElem.mp h;have:=hl i;rw[z2H hi,z0U hi]at this;exact this
 .obtain⟨i,hi,rfl⟩:=List.mem_iff_getElem.mp h;have:=hl (e.1.length+i);rw[z1F (by lia),y1V,y1f hi,z0U hi]at this;exact this
end Gu
namespace L2
open PySem PySem.Spec PyProof.Rows
section
variable{X:Cx}
end
section
variable{prog:Program}{w:World}{A:Around}{R:Result->Shared->Prop}{s:Shared}
def z6L{kx vx tg iter:Expr}{scope:Scope}{pos:Pos}{it:Value}{d:Addr}{env:Env}(I:Nat->Shared->Prop)
  (turn:∀n s,I n s->wpAny (model prog w) A (pyNext it) (λr s1=>match r with
   |none=>R (.ok .next) s1
   |some v=>wpAny (model prog w) A (letOwnedTupleGo tg it v) (λ_ s2=>wpAny (model prog w) A (assign tg env v) (λ_ s3=>wpAny (model prog w) A (eval kx env) (λx s4=>wpAny (model prog w) A (eval vx env) (λy s5 =>
     wpAny (model prog w) A (dictSet d x y) (λ_ s6=>∃m,m<n/\I m s6) noE s5) noE s4) noE s3) noE s2) noE s1) noE s)
  (n:Nat) (h:I n s):codeAny (model prog w) A (.compLoop (.DictComp kx vx [⟨tg,iter,[],0⟩] scope pos) 0 it (.ref d) env) R s:=by
 have no:∀(P:yyE)(a:Value)(b:Shared),noE a b->P a b:=λ_ _ _ z=>False.elim z;refine codeAny_loop rfl I (λn s hI=>?_) n h;show wpAny _ _ ((compTurn (.DictComp kx vx [⟨tg,iter,[],0⟩] scope pos) 0 it (.ref d) env).onRaise
  (λx=>do noteFrame x env;theTreesLotGoes x)) _ _ s
 refine wpAny_noted ?_;rw[compTurn_dict];refine y01 (y1W (y01 (y0I (turn n s hI) (λr s1 h1=>?_) (no _))));cases r with
 |none=>exact y03 h1
 |some v =>
  refine y01 (y0I h1 (λ_ s2 h2=>?_) (no _));refine y01 (y0I h2 (λ_ s3 h3=>?_) (no _));refine y01 (y03 ?_);exact y01 (y01 (y0I h3 (λx s4 h4=>y01 (y1e (y0I h4 (λy s5 h5=>y01 (y1W (y1e (y0I h5 (λ_ s6 h6=>y03 ⟨rfl,h6⟩) (no _))))) (no _)))) (no _)))
end
def zcq(ix:List (Option Nat))(J:It)(g:TG)(tk tv:TE)(σ:St)(l:Addr)(H0:Hp)(Qe:Hp->Prop):Prop :=
 ∃W:Nat->Nat->List (Key × V)->Hp->Prop,(∃m,W 0 m [] H0)/\∀i m ys H,W i m ys H->H l=some (.dK ys) ->
  (J.stop i H/\Qe H)\/(J.go i H/\ys.length<sizeLine/\∃N:List (Key × V)->Hp->Prop,(∀zs H',N zs H'->∃m',m'<m/\W (i+1) m' zs H')/\∀x H',J.yld i H x H'->g x (z18 ix σ) H' λσ2 H2=>tk σ2 H2 λy H3=>tv σ2 H3 λv H4 =>
   ∃k,y=kV k/\H4 l=some (.dK ys)/\N (z46 ys k v) (upd H4 l (.dK (z46 ys k v))))
def zgU(ix:List (Option Nat))(wi:TI)(g:TG)(tk tv:TE):TE:=λσ H Q=>wi σ H λJ H1=>∀l,H1 l=none->zcq ix J g tk tv σ l (upd H1 l (.dK [])) λH'=>Q (.ref l) H'
section
variable{X:Cx}{pins:yyP}{σ:St}{H:Hp}{s:Shared}{N:List Str}{ix:List (Option Nat)}{scope:Scope}{kx vx iter tg:Expr}{pos:Pos}{g:TG}{tk tv:TE}{E:yyE}
def z9d{a:Addr}{kvs:List (Key × V)}{k:Key}{u r:Value}{v:V}{A:Around}{Q:Unit->Shared->Prop}(I:Inv X pins σ H s)(e:H a=some (.dK kvs))(hl:kvs.length<sizeLine)(ry:z0A (kV k) u)(rv:z0A v r)(h:∀s',Inv X pins σ (upd H a (.dK (z46 kvs k v))) s'->Q () s') : wpAny (model X.prog X.w) A (dictSet a u r) Q E s:=by
 obtain⟨z,hd,vs,rel,dd⟩:=zak I.hok e;have hz:vs.length<=sizeLine:=by rw[<-rel.length];exact z
 have hl:(z46 kvs k v).length<=sizeLine:=by have:=z1O kvs k v;lia
 refine wpAny_dictSet_pairs (hsz:=hz) (z4D ry) dd λh' dd' hs=>h _ ?_;have he:∃q,h'.get? a=some q:=let⟨q,_,_,hq,_⟩:=dd';⟨q,hq⟩;exact z1d I (by rw[e];exact y0Y) hs he (z7H hl hd (rel.put k rv) dd')
def z6l{it:Addr}{fp:List Addr}{tn:Nat->Heap->Prop}{J:It}{Qe:Addr->Hp->Prop}{RR:Value->Addr->Result->Shared->Prop}(hc:X.calm=true)(S:z0K X.N X.env.scope N ix scope)(hg:∀cl C ex s H,PG (z0W X N scope cl C ex s H) tg g)(hk:∀cl C ex s H,PE (z0W X N scope cl C ex s H) kx tk)(hv:∀cl C ex s H,PE (z0W X N scope cl C ex s H) vx tv)(I:Inv X pins σ H s)(T:z8M X.prog X.w X.K tg J fp it tn)(st:tn 0 s.heap)(hf:∀b∈fp,z4n X pins H b)(hw:∀l,H l=none->zcq ix J g tk tv σ l (upd H l (.dK [])) (Qe l))(hRR:∀l C s' H' m,s'.heap.Ns C m->Inv X pins σ H' s'->z4n X pins H' C->Qe l H'->RR (.ref l) C (.ok .next) s') : wpAny (model X.prog X.w) X.A newDict (λacc s3=>wpAny (model X.prog X.w) X.A (newFunctionEnv scope X.env.globals (z0s X.env.cells scope.names []) [] X.env.qual none .none (some X.env)) (λcenv s4 => codeAny (model X.prog X.w) X.A (.compStart (.DictComp kx vx [⟨tg,iter,[],0⟩] scope pos) 0 (.ref it) acc { cenv with scope:=relabel scope X.env }) (RR acc cenv.locals) s4) E s3) E s:=by
 have hlt:∀b∈fp,b<s.heap.objs.size:=λb hb=>by obtain⟨o,e,_⟩:=T.obj 0 s.heap st b hb;exact y07 e
 have hl0:H s.heap.objs.size=none:=I.fresh;obtain⟨W,⟨m0,w0⟩,turn⟩:=hw s.heap.objs.size hl0;refine y0A ?_;generalize hs3:({ s with heap:=s.heap.push { cls:=.type "dict",data:=.dict #[] } }:Shared)=s3;have I3:Inv X pins σ (upd H s.heap.objs.size (.dK [])) s3:=by rw[<-hs3];exact I.laid (a:=s.heap.objs.size) (o:=.dK []) (t':=s.toks) (λ_ _ q=>y02 _ q) (y0a _) (z5j s.heap I.big)
 have k3:∀b o,s.heap.get? b=some o->s3.heap.get? b=some o:=λb o e=>by rw[<-hs3];exact y02 _ e
 have sz3:s3.heap.objs.size=s.heap.objs.size+1:=by rw[<-hs3];exact y1k ..
 have lnfp:s.heap.objs.size∉fp:=λhb=>y1w _ (hlt _ hb);have st3:tn 0 s3.heap:=T.keep 0 _ _ st λb _ o e=>k3 b o e;have hf3:∀b∈fp,z4n X pins (upd H s.heap.objs.size (.dK [])) b:=λb hb=>by obtain⟨f0,f⟩:=hf b hb;have nb:b≠s.heap.objs.size:=λe=>lnfp (by rw[<-e];exact hb);exact⟨by rw[z0f nb];exact f0,f⟩
 have hlt3:∀b∈fp,b<s3.heap.objs.size:=λb hb=>by rw[sz3];exact Nat.lt_succ_of_lt (hlt b hb)
 clear hs3;refine y33 S.nocell (by intro y hy;simp at hy) (λh1 hn1 hb1=>?_) S.kind;have hk1:∀b o,s3.heap.get? b=some o->h1.get? b=some o:=λb o e =>
  (hb1.2 b (y0p (y07 e))).trans (y02 _ e)
 have J0:Inv (z0W X N scope (z0s X.env.cells scope.names []) s3.heap.objs.size fp s3 (upd H s.heap.objs.size (.dK []))) [] (z18 ix σ) (upd H s.heap.objs.size (.dK [])) { s3 with heap:=h1,toks:=s3.toks+([]:List (Str × Value)).length } :=
  z78 I3 S rfl hf3 hlt3 hn1 hk1
 have st1:tn 0 h1:=T.keep 0 _ _ st3 λb _ o e=>hk1 b o e;have fpY:∀{Hc:Hp},(∀b∈fp,Hc b=none)->∀b∈fp,z4n (z0W X N scope (z0s X.env.cells scope.names []) s3.heap.objs.size fp s3 (upd H s.heap.objs.size (.dK []))) [] Hc b:=λ{Hc} hn b hb=>by obtain⟨_,f1,f2,_,f4,_⟩:=hf3 b hb;refine⟨hn b hb,y0p (hlt3 b hb),λhb2=>(y0l.mp (I3.stkSub b hb2)).elim f1 f2,.inl hb,λx c e=>f4 x c (z1c I3 S e),λp hp=>absurd (show p∈([]:yyP)from hp) (by simp)⟩
 have loop:∀s4:Shared,s4=({ s3 with heap:=h1,toks:=s3.toks+([]:List (Str × Value)).length }:Shared)->codeAny (model X.prog X.w) X.A (.compLoop (.DictComp kx vx [⟨tg,iter,[],0⟩] scope pos) 0 (.ref it) (.ref s.heap.objs.size)
   (compEnvC scope (z0s X.env.cells scope.names []) s3.heap.objs.size X.env)) (RR (.ref s.heap.objs.size) s3.heap.objs.size) s4:=by
  intro s4 hs4;subst hs4;refine z6L (λn s'=>∃i ys Hc,Inv (z0W X N scope (z0s X.env.cells scope.names []) s3.heap.objs.size fp s3 (upd H s.heap.objs.size (.dK []))) [] (z18 ix σ) Hc s'/\tn i s'.heap/\(∀b∈fp,Hc b=none)/\Hc s.heap.objs.size=some (.dK ys)/\W i n ys Hc) ?_ m0 ⟨0,[],_,J0,st1,λb hb=>(hf3 b hb).1,z0e,w0⟩;rintro n s5 ⟨i,ys,Hc,J5,st5,fr5,hl5,w5⟩;rcases turn i n ys Hc w5 hl5 with⟨stop,qe⟩|⟨go,hz,NN,hNN,step⟩
  .refine thn (T.done (z0W X N scope (z0s X.env.cells scope.names []) s3.heap.objs.size fp s3 (upd H s.heap.objs.size (.dK []))) rfl rfl rfl hc i [] s5 _ Hc noE J5 (fpY fr5) st5 stop) λr s6 hz8=>?_;obtain⟨hr,J6⟩:=hz8;subst hr;have I6:Inv X pins σ Hc s6:=I3.call' (ch:=fp) J6.os J6.base J6.hok J6.bare λb hb=>by
    obtain⟨_,f1,f2,f3,f4,f5⟩:=hf3 b hb;exact⟨f3,f1,f4,f5⟩
   obtain⟨m6,hn6,_⟩:=J6.loc;exact hRR _ _ s6 Hc m6 hn6 I6 (I3.fpOk (y0a _) J6.free) qe
  .refine thn (T.item (z0W X N scope (z0s X.env.cells scope.names []) s3.heap.objs.size fp s3 (upd H s.heap.objs.size (.dK []))) rfl rfl rfl hc i [] s5 _ Hc noE J5 (fpY fr5) st5 go) λr s6 hz8=>?_;obtain⟨u,hr,h6⟩:=hz8;subst hr;refine thn h6 λ_ s7 hz8=>?_;obtain⟨x,H7,J7,r7,y7,st7,fr7⟩:=hz8;have J7':=J7.pinned (fpY fr7) (T.obj _ _ st7);refine thn (hg _ _ _ _ _ _ s7 _ H7 x u _ J7' r7 (step x H7 y7)) λ_ s8 hz8=>?_;obtain⟨σ8,H8,J8,q8⟩:=hz8;refine thn (hk _ _ _ _ _ _ s8 σ8 H8 _ J8 q8) λyk s9 hz8=>?_;obtain⟨vk,H9,J9,r9,q9⟩:=hz8;refine thn (hv _ _ _ _ _ _ s9 σ8 H9 _ J9 q9) λyv s95 hz8=>?_;obtain⟨v,H95,J95,r95,kk,ek,hl9,n9⟩:=hz8;obtain⟨m',hm',w9⟩:=hNN _ _ n9;subst ek;refine z9d (X:=z0W X N scope (z0s X.env.cells scope.names []) s3.heap.objs.size fp s3 (upd H s.heap.objs.size (.dK []))) J95 hl9 hz r9 r95 λs10 J10=>?_;have len8:(z18 ix σ).length=σ8.length:=by
    rw[J10.len];unfold z18;rw[y00];exact S.len
   refine⟨m',hm',i+1,z46 ys kk v,_,?_,T.keep _ _ _ st7 λb hb o e=>(J10.pin (b,o) (y0v _ (y0v _ (z1l hb e)))).1,λb hb=>?_,z0e,w9⟩
   .exact z8g I3 S J10
   .obtain⟨o,e,d⟩:=T.obj _ _ st7 b hb;exact(J10.pin (b,o) (y0v _ (y0v _ (z1l hb e)))).2.1
 exact codeAny_compStart_dict (loop _ rfl) (T.self _ 0 _ _ _ st1 (loop _ rfl))
def zc6{wi:TI}{i:Nat}{x:Str}{spos pos':Pos}(hc:X.calm=true)(S:z0K X.N X.env.scope N ix scope)(hi:PI X tg iter wi)(hg:∀cl C ex s H,PG (z0W X N scope cl C ex s H) tg g)(hk:∀cl C ex s H,PE (z0W X N scope cl C ex s H) kx tk)(hv:∀cl C ex s H,PE (z0W X N scope cl C ex s H) vx tv)(hN:X.N.Nodup)(hx:X.N[i]?=some x)(hl:X.env.scope.names.lookup x=some .local)(hsw:swapsWith (.DictComp kx vx [⟨tg,iter,[],0⟩] scope pos) (some (.Name x pos')) spos.line X.env=pure true:=by rfl)(hs:∀x,foldedSetIterable iter X.env x=pure x:=by intro _;rfl):PS X (.Assign [.Name x pos'] (.DictComp kx vx [⟨tg,iter,[],0⟩] scope pos) spos) (ziz (zgU ix wi g tk tv) (zet i)):=by
 intro pins s σ H D I h;rw[exec_Assign_Name_used _ _ _ _ hsw];refine y01 (y1W (y01 ?_));show wpAny _ _ (comprehension (.DictComp kx vx [⟨tg,iter,[],0⟩] scope pos) scope X.env _ newDict false (eval iter X.env) (some (assign (.Name x pos') X.env))>>=λ_=>pure ()) _ _ s;refine y01 (y0I (y2o (use:=some (assign (.Name x pos') X.env)) (Q:=λ_ s'=>SP X pins D .next s') rfl hs (z1a (z0y I S)) S.kind S.names
  (thn (hi pins s σ H _ I h) λv s1 h1=>thn h1 λitv s2 h2=>?_)) (λ_ s' q=>y03 (y03 q)) λ_ _ e=>e)
 obtain⟨it,fp,tn,J,H2,e,I2,T,st2,f2,hw⟩:=h2;subst e;refine z6l (RR:=λacc C=>compPost (model X.prog X.w) X.A X.xe (some (assign (.Name x pos') X.env)) (λ_ s'=>SP X pins D .next s') acc C) hc S hg hk hv I2 T st2 f2 hw λl C s' H' m hn I' fC q=>?_;obtain⟨c0,c1,c2,c3,c4,c5⟩:=fC;show wpAny _ _ (assign (.Name x pos') X.env (.ref l)) _ _ _;refine wpAny_assign_Name (z3M I' hN hx (.inl hl) (v:=.ref l) rfl (λs'' I'' hz8=>?_) (.inr hl));obtain⟨a,sb,ha⟩:=hz8;have haC:C≠a:=by
  rcases ha with ha|ha
  .rw[ha];exact c1
  .exact λz=>c4 x a ha z.symm
 refine⟨m,hn.sameBut sb haC,λh' hs'=>?_⟩;exact⟨_,H',I''.turned (t':=s''.toks) (λb o hb e=>(hs'.2 b hb).trans e) c0 c1 c3 c4 c5,q⟩
end
section
variable{X:Cx}{pins:yyP}{σ:St}{H:Hp}{s:Shared}{N:List Str}{ix:List (Option Nat)}{scope:Scope}{elt iter tg cx:Expr}{pos:Pos}{g:TG}{tt:TT}{te:TE}{E:yyE}
end
open PySem.SeqAt
section
variable{X:Cx}(K:yyF)
end
end L2
namespace Gu
open PySem L2
end Gu
namespace L2
open PySem PySem.Spec PyProof.Rows
end L2
namespace Gu
open PySem L2
end Gu
namespace L2
open PySem PySem.Spec PyProof.Rows PySem.SeqAt
open PySem.AutoSeq1 (wpAny_loadPart')
section
variable{X:Cx}(K:yyF)
end
section
variable{X:Cx}{e st:Expr}{te ts:TE}{pos p2:Pos}
end
end L2
namespace Gu
open PySem L2
end Gu
namespace L2
open PySem PySem.Spec PyProof.Rows
section
variable{prog:Program}{w:World}{A:Around}{E:yyE}{s:Shared}
end
section
variable{prog:Program}{w:World}{A:Around}{E:yyE}{s:Shared}{a x:Addr}{es:Array (Int × Value)}{ep:Nat}{t:SetTable}{seen:List D}{d:D}
end
section
variable{prog:Program}{w:World}{A:Around}{E:yyE}{s:Shared}{a x:Addr}{seen:List D}{d:D}
end
section
variable{prog:Program}{w:World}{A:Around}{R:Result->Shared->Prop}{I:Addr}{fp wr:List Addr}{G:Array GenState->Array GenState->Prop}{n:Nat}{P:Nat->Value->Prop}{St:Nat->Shared->Prop}
end
section
variable{prog:Program}{w:World}{A:Around}{E:yyE}{s:Shared}
end
open PySem.SeqAt
section
variable{X:Cx}(K:yyF)
end
end L2
namespace Gu
open PySem L2
end Gu
namespace L2
open PySem
end L2
namespace Gu
open PySem L2
end Gu
namespace L2
open PySem PySem.Spec PyProof.Rows PySem.SeqAt
open PySem.AutoSeq1 (wpAny_loadPart')
section
variable{X:Cx}{pins:yyP}{s:Shared}{σ:St}{H:Hp}
end
open PySem.W
open PySem.AutoSeq1 (wpAny_loadPart')
section
variable{prog:Program}{w:World}{A:Around}{E:yyE}{s:Shared}{α:Type}{kf:Keyed->α}{lt:α->α->Bool}{kd:SortKind}
end
open PySem.AutoSeq1 (wpAny_loadPart')
section
variable{X:Cx}(K:yyF)
end
section
variable{P:Program}{w:World}
section
variable{M:Model}{A:Around}{E:yyE}{Q:Unit->Shared->Prop}{s:Shared}{fr:List Addr}{H1 H':Hp}{h1:Heap}{env:Env}{outer:List Env}{L ea C:Addr}{base:Heap}{fl:Value}
end
end
section
variable{X:Cx}{N:List Str}{scope:Scope}{cl:List (Str × Addr)}{C:Addr}{ex:List Addr}{s:Shared}{H:Hp}{E:XK}{pins:yyP}{σ:St}{H':Hp}{s':Shared}
end
section
variable{prog:Program}{w:World}{A:Around}{R:Result->Shared->Prop}{s:Shared}
end
section
variable{X:Cx}{pins:yyP}{σ:St}{H:Hp}{s:Shared}{N:List Str}{ix:List (Option Nat)}{scope:Scope}{elt iter tg:Expr}{pos:Pos}{g:TG}{te:TE}{E:yyE}
end
end L2
namespace Gu
open PySem L2
section
variable{L:Nat}{W:List (List Int)}(hW:∀w∈W,IsP L w)
include hW
end
end Gu
namespace L2
open PySem PySem.Spec PyProof.Rows PySem.SeqAt
section
variable{prog:Program}{w:World}{A:Around}{E:yyE}{s:Shared}{T:String}{r d:Addr}{n:Nat}{P:Nat->Value->Prop}{OK:Heap->Prop}
end
section
variable{X:Cx}(K:yyF)
end
section
variable{prog:Program}{w:World}{A:Around}{E:yyE}{s:Shared}{d it:Addr}{ks:List Value}{ep i:Nat}
end
open PySem.W
section
variable{X:Cx}{pins:yyP}{s:Shared}{σ:St}{H:Hp}{prog:Program}{w:World}{A:Around}{E:yyE}
end
section
variable{X:Cx}{CX:CXT}{k:Nat}{pins:yyP}{s:Shared}{σ:St}{H:Hp}{p fa:Addr}{sz:D->Int}{E:yyE}
end
section
variable{X:Cx}{CX:CXT}{k:Nat}{N:List Str}{ix:List (Option Nat)}{params:Arguments}{body:Expr}{lsc:Scope}{lpos:Pos}{c:Addr}{T:Tb}{Ts:List Tb}{p pos kp:Pos}{e0:Expr}{t0:TE}{sz:D->Int}
end
section
variable{X:Cx}(K:yyF)
end
section
variable{X:Cx}{pins:yyP}{s:Shared}{σ:St}{H:Hp}{sz:D->Int}{E:yyE}
end
section
variable{X:Cx}(K:yyF)
end
end L2
namespace Gu
open PySem L2
end Gu
namespace L2
open PySem PySem.Spec PyProof.Rows
section
variable{prog:Program}{w:World}{A:Around}{E:yyE}{s:Shared}{a x:Addr}{es:Array (Int × Value)}{ep:Nat}{t:SetTable}{seen:List D}{d:D}
end
section
variable{prog:Program}{w:World}{A:Around}{E:yyE}{s:Shared}{a x:Addr}{seen:List D}{d:D}
end
section
variable{prog:Program}{w:World}{A:Around}{R:Result->Shared->Prop}{I:Addr}{fp wr:List Addr}{G:Array GenState->Array GenState->Prop}{n:Nat}{P:Nat->Value->Prop}{St:Nat->Shared->Prop}{Ps:Value->Prop}
end
section
variable{prog:Program}{w:World}{A:Around}{E:yyE}{s:Shared}
end
open PySem.SeqAt PySem.W
section
variable{X:Cx}(K:yyF)
end
end L2
namespace Gu
open PySem L2
end Gu
namespace L2
end L2
namespace Gu
open PySem L2
abbrev str(s:String):Str:=Str.ofString s
def z1S(x:Str):Bool:=decide (1<=x.length/\x.length<=12)&&(sg x).all λc=>decide (97<=c/\c<=122)
def zbu:sg (str "abcdefghijklmnopqrstuvwxyz")=List.range' 97 26:=by decide +kernel
def zby(c:Nat):(!(Builtin.Str.occurrences (str "abcdefghijklmnopqrstuvwxyz") ⟨#[c]⟩ 0 (str "abcdefghijklmnopqrstuvwxyz").length 1).isEmpty)=decide (97<=c/\c<=122):=by rw[StrLaws.found_one];show decide (c∈sg (str "abcdefghijklmnopqrstuvwxyz"))=_;rw[zbu,decide_eq_decide,List.mem_range'_1];lia
def zaA(i:Int):Str:=str (toString i)
def z1s(w:List Int):Str:=if w=[]then str "-" else Str.join (str "") (w.map zaA)
def z2s{i:Int}(h:i.natAbs<10^61):i.natAbs.log2<1920:=by
 rcases Nat.eq_zero_or_pos i.natAbs with z|z
 .rw[z];decide
 .exact(Nat.log2_lt (by lia)).mpr (y0q h (by decide +kernel))
def z8T{n:Nat}(h:n<10^60):1<=(zeA n).length/\(zeA n).length<=60:=by rw[<-z7w,zcF,y00];exact⟨toDigits_len_ge 10 n,toDigits_len_pow (by decide) (by decide) h⟩
def z29{y:Str}{xs:List Str}{B:Nat}(h:∀x∈xs,x.length<=B):(Str.join y xs).length<=xs.length*(B+y.length)/\(xs.map (·.length)).sum+xs.length*y.length<=xs.length*(B+y.length):=by have h1:=StrLaws.join_length_le y xs;have h2:=StrLaws.sumLen_le xs h;rw[Nat.mul_add];exact⟨by lia,by lia⟩
open PySem.NumText
def zci(m:Nat):sg (zaA (-((m+1:Nat):Int)))=45::sg (zeA (m+1)):=by have e:toString (-((m+1:Nat):Int))="-"++toString (m+1):=rfl;unfold zaA;rw[e];show(Str.ofString ("-"++toString (m+1))).cps.toList=45::(Str.ofString (toString (((m+1:Nat):Int)))).cps.toList;rw[Str.ofString_eq_toList,Str.ofString_eq_toList];have e2:(toString (((m+1:Nat):Int)))=toString (m+1):=rfl;rw[e2,String.toList_append,y0n];rfl
end Gu
namespace L2
open PySem PySem.Spec PyProof.Rows
section
variable{prog:Program}{w:World}{A:Around}{E:yyE}{s:Shared}
end
section
variable{X:Cx}{elts:List Expr}{tk:Nat}{tp:Pos}
end
end L2
namespace Gu
open PySem L2
def z2c{n:Int}(h:n.natAbs<10^60):(∀c∈sg (zaA n),45<=c)/\(zaA n).length<=61:=by
 rcases Int.lt_or_le n 0 with q|q
 .obtain⟨k,rfl⟩:∃k:Nat,n=-((k+1:Nat):Int):=⟨(-n).toNat-1,by lia⟩;have hk:k+1<10^60:=by lia
  refine⟨λc hc=>?_,?_⟩
  .rw[zci]at hc;rcases y0l.mp hc with rfl|hc
   .lia
   .have:=z7B _ c hc;lia
  .rw[<-z7w,zci,y0b,z7w];have:=z8T hk;lia
 .obtain⟨k,rfl⟩:=Int.eq_ofNat_of_zero_le q;have hk:k<10^60:=by lia
  refine⟨λc hc=>?_,?_⟩
  .have:=z7B k c hc;lia
  .have:=z8T hk;show(zeA k).length<=61;lia
def z2d:List (Str × List Str):=[(str "sew",[str "name",str "rows"]),(str "join",[str "name",str "name",str "name"]),(str "turn",[str "name",str "name"]),(str "look",[str "name",str "name",str "word"]),(str "power",[str "name",str "name",str "number"]),(str "drop",[str "name"]),(str "hang",[str "name",str "word",str "ring"]),(str "wear",[str "name",str "name"]),(str "doff",[str "name"]),(str "unhang",[str "name"])]
def za2(K:yyF)(a:Addr):Bool:=z2d.all λp=>match PySem.W.nsIn K a p.1 with
 |some (some (.ref t))=>zeg K t p.2
 |_=>false
def z8A{K:yyF}{a:Addr}(h:za2 K a=true):∀p∈z2d,∃t,PySem.W.nsIn K a p.1=some (some (.ref t))/\zeg K t p.2=true:=λp hp=>by
 have:=y0D.mp h p hp;split at this
 .rename_i t e;exact⟨t,e,this⟩
 .cases this
end Gu
namespace L2
open PySem
section
variable{X:Cx}{pins:yyP}{σ:St}{H:Hp}{s:Shared}{N:List Str}{ix:List (Option Nat)}{scope:Scope}{elt iter tg:Expr}{pos:Pos}{g:TG}{te:TE}{E:yyE}
end
end L2
namespace Gu
open PySem L2
open PySem.StrLaws PySem.Builtin PySem.Builtin.Str
end Gu
namespace L2
open PySem PySem.Builtin PySem.Builtin.Str PyProof.Rows
section
variable{X:Cx}
def zeZ:SlR X (λx lo hi H Q=>∃z:Str,x=.str z/\z.length<=sizeLine/\Q (.str (Txt.slice z lo hi)) H):=by
 intro pins s σ H x v vl vu lo hi sl Q I rx hs pl pu h;obtain⟨z,rfl,hz,q⟩:=h;obtain⟨t,rfl⟩:=rx;refine⟨"str",_,F.slot_str_getitem.lookup,typeIs_str _ _ _,?_⟩;have fin:∀t' k,EP X pins σ Q (.str (Txt.slice z lo hi) t') { s with toks:=k }:=λt' k=>⟨.str _,H,I.tok _,⟨_,rfl⟩,q⟩;obtain⟨o,h1,h2,h3⟩:=hs;cases pl with
 |none=>cases pu with
  |none=>exact y1X (l:=none) (u:=none) (st:=none) ⟨o,h1,h2,h3⟩ rfl (y3f ⟨y0k (Txt.slice_le z _ _) hz,λt' k=>fin t' k⟩)
  |int j tj=>exact y1X (l:=none) (u:=some (j,tj)) (st:=none) ⟨o,h1,h2,h3⟩ rfl (y3f ⟨y0k (Txt.slice_le z _ _) hz,λt' k=>fin t' k⟩)
 |int i ti=>cases pu with
  |none=>exact y1X (l:=some (i,ti)) (u:=none) (st:=none) ⟨o,h1,h2,h3⟩ rfl (y3f ⟨y0k (Txt.slice_le z _ _) hz,λt' k=>fin t' k⟩)
  |int j tj=>exact y1X (l:=some (i,ti)) (u:=some (j,tj)) (st:=none) ⟨o,h1,h2,h3⟩ rfl (y3f ⟨y0k (Txt.slice_le z _ _) hz,λt' k=>fin t' k⟩)
end
open PySem.SeqAt
section
variable{X:Cx}
end
section
variable{X:Cx}{o e:Expr}{apos cpos:Pos}{td te:TE}
end
end L2
namespace Gu
open PySem L2 PySem.StrLaws PySem.Builtin PySem.Builtin.Str
end Gu
namespace L2
open PySem PySem.Spec PyProof.Rows PySem.SeqAt
section
variable{X:Cx}{CX:CXT}{E:XK}{σ0:St}{k:Nat}{f:Addr}{fd:FuncData}{ps:List Str}{sp:Sp}{x:Str}{ds:List Value}{dvs:List V}{e:Expr}{es:List Expr}{t:TA}{p pos:Pos}
end
end L2
namespace Gu
open PySem L2 PySem.StrLaws PySem.Builtin PySem.Builtin.Str
end Gu
namespace L2
open PySem PySem.Spec PyProof.Rows PySem.SeqAt
section
variable{X:Cx}{a b c:Expr}{ta tb tc:TE}{pos:Pos}
def zjU(te:TE):TE:=λσ H Q=>te σ H λv H1=>(∃y:Str,v=.str y/\y.length<=sizeLine/\Q (.str y) H1)\/∃i:Int,v=.int i/\i.natAbs.log2<1920/\Q (.str (Str.ofString (toString i))) H1
def zfv(h:PE X a ta):PE X (.FormattedValue a (-1) none pos) (zjU ta):=by
 intro pins s σ H Q I hq;refine FormattedValue_plain (thn (h pins s σ H _ I hq) λu s1 hz8=>?_);obtain⟨x,H1,I1,rx,q1⟩:=hz8;rcases q1 with⟨y,rfl,hy,q⟩|⟨i,rfl,hi,q⟩
 .obtain⟨t,rfl⟩:=rx;exact formatField_str (λt' tk=>⟨.str y,H1,I1.tok _,⟨_,rfl⟩,q⟩) hy
 .obtain⟨t,rfl⟩:=rx;exact formatField_int_small hi ⟨.str _,H1,I1.tok _,⟨_,rfl⟩,q⟩
def zfP(ta tb tc:TE):TE:=λσ H Q=>ta σ H λv1 H1=>∃x1:Str,v1=.str x1/\x1.length<=sizeLine/\tb σ H1 λv2 H2=>∃x2:Str,v2=.str x2/\x1.length+x2.length<=sizeLine/\tc σ H2 λv3 H3=>∃x3:Str,v3=.str x3/\x1.length+x2.length+x3.length<=sizeLine/\Q (.str (x1++x2++x3)) H3
def zbt(ha:PE X a ta)(hb:PE X b tb)(hc:PE X c tc)(he:evalEach [a,b,c] X.env=[eval a X.env,eval b X.env,eval c X.env]:=by rfl):PE X (.JoinedStr [a,b,c] pos) (zfP ta tb tc):=by
 intro pins s σ H Q I hq;refine wpAny_JoinedStr ?_;rw[he];refine thn (ha pins s σ H _ I hq) λu s1 hz8=>?_;obtain⟨x,H1,I1,rx,x1,ex,l1,q1⟩:=hz8;subst ex;obtain⟨t1,rfl⟩:=rx;refine⟨x1,t1,rfl,by rw[PySem.Str.empty_append];exact l1,?_⟩;rw[PySem.Str.empty_append];refine thn (hb pins s1 σ H1 _ I1 q1) λu s2 hz8=>?_;obtain⟨x,H2,I2,rx,x2,ex,l2,q2⟩:=hz8;subst ex;obtain⟨t2,rfl⟩:=rx;have l2':(x1++x2).length<=sizeLine:=by rw[y2y];exact l2
 refine⟨x2,t2,rfl,l2',?_⟩;refine thn (hc pins s2 σ H2 _ I2 q2) λu s3 hz8=>?_;obtain⟨x,H3,I3,rx,x3,ex,l3,q3⟩:=hz8;subst ex;obtain⟨t3,rfl⟩:=rx;have l3':(x1++x2++x3).length<=sizeLine:=by rw[y2y,y2y];exact l3
 exact⟨x3,t3,rfl,l3',l3',⟨.str _,H3,I3.tok _,⟨_,rfl⟩,q3⟩⟩
end
section
variable{X:Cx}{k v:Expr}{tk tv:TE}{pos:Pos}
end
section
variable{prog:Program}{w:World}{A:Around}{R:Result->Shared->Prop}{s:Shared}
end
section
variable{X:Cx}{pins:yyP}{σ:St}{H:Hp}{s:Shared}{N:List Str}{ix:List (Option Nat)}{scope:Scope}{elt iter tg iter2 tg2 cx:Expr}{pos:Pos}{g g2:TG}{wi2:TI}{tt:TT}{te:TE}{E:yyE}
end
end L2
namespace Gu
open PySem L2
section
variable(P:Program)(w:World)(K:yyF)(mg:yyS)(base:Heap)(CX:CXT)(k:Nat)
end
def z8D(n:Nat)(rows:List Row)(m:Nat):Prop:=z1i n rows/\rows.length<=m
section
variable(P:Program)(w:World)(K:yyF)(mg:yyS)(base:Heap)(CX:CXT)(k:Nat)
end
end Gu
namespace L2
open PySem PySem.Spec PyProof.Rows PySem.SeqAt
section
variable{X:Cx}(K:yyF)
end
end L2
namespace Gu
open PySem L2
end Gu
namespace L2
open PySem PySem.Spec PyProof.Rows
section
variable{prog:Program}{w:World}{κ:Type}[DecidableEq κ]{knd:HeapKind prog w κ}{A:Around}{E:yyE}{s:Shared}{d a:Addr}{k:κ}
theorem z60{α β:Type}(f:α->β):∀(l:List α)(i:Nat),(l.map f).eraseIdx i=(l.eraseIdx i).map f
 |[],_=>rfl
 |_::_,0=>rfl
 |x::l,i+1=>y2c (f x::·) (z60 f l i)
def z5J{xs:List (κ × Addr × Value)}:∀{j:Nat}{p:Addr × Value},(xs.map (·.1)).Nodup->xs[j]?=some (k,p)->xs.eraseIdx j=xs.filter λx=>decide (x.1≠k):=by
 induction xs with
 |nil=>intro j p _ h;cases h
 |cons x xs ih =>
  intro j p hn h;rw[y0m,y0U]at hn;cases j with
  |zero =>
   obtain rfl:=y0d h;rw[List.eraseIdx_cons_zero,y1x (by simp)];refine(List.filter_eq_self.mpr λy hy=>?_).symm;exact y18 λz=>hn.1 (y0f.mpr ⟨y,hy,z⟩)
  |succ j =>
   rw[List.getElem?_cons_succ]at h;rw[List.eraseIdx_cons_succ,y1y,ih hn.2 h];refine y18 λz=>hn.1 ?_;exact y0f.mpr ⟨(k,p),y1v h,z.symm⟩
def z5a{xs:List (κ × Addr × Value)}{j:Nat}{p:Addr × Value}{Q:Option DictEntry->Shared->Prop}(hu:knd.room A)(hkey:knd.is s.heap k a)(hm:s.heap.DictOfH knd d xs)(hj:xs[j]?=some (k,p))(hz:xs.length<=sizeLine)(hQ:∀e h',h'.DictOfH knd d (xs.filter λx=>decide (x.1≠k))->Heap.SameBut d s.heap h'->Q (some e) { s with heap:=h',toks:=s.toks+knd.draws k }) : wpAny (model prog w) A (Builtin.Dict.takeOut d (.ref a)) Q E s:=by
 obtain⟨o,es,ep,ho,hc,hd,he,his,hn⟩:=hm;have hes:es.size<=sizeLine:=by rw[size_of_entries he];exact hz
 unfold Builtin.Dict.takeOut;refine y1e (y01 (knd.pyHash hu hkey (y01 (wpAny_dictFind_heap (s:={ s with toks:=s.toks+knd.draws k }) hu hkey ho hd he his hn (λz=>absurd hj (z j p)) λi q hi=>?_))));obtain rfl:i=j:=idxH_unique hn hi hj;refine y01 (y1S (s:={ s with toks:=s.toks+knd.draws k }) ho hd ?_);rw[entry_at he i,hi];refine y01 (wpAny_updateDictKeys (hz:=hes) (s:={ s with toks:=s.toks+knd.draws k }) ho hd (y03 (hQ _ _ ⟨_,_,ep+1,y2O _ ho (Obj.isFreed_of_dict (Obj.data_mapDictKeys hd _)),hc.mapDictKeys _,Obj.data_mapDictKeys hd _,?_,λx hx=>?_,?_⟩ (y1E ..))))
 .rw[<-z5J hn hi];have e2:(es.eraseIdxIfInBounds i).toList=es.toList.eraseIdx i:=by obtain⟨l⟩:=es;simp
  rw[e2,he];exact z60 _ xs i
 .exact knd.keeps (his x (y38.mp hx).1) ho hd (y1E ..)
 .exact hn.sublist (List.filter_sublist.map _)
end
section
variable{X:Cx}{pins:yyP}{σ:St}{H:Hp}{s:Shared}{a b:Addr}{kvs:List (List Key × V)}{k:List Key}{A:Around}{E:yyE}
end
section
variable{X:Cx}{o i:Expr}{pos tpos:Pos}{td ty:TE}
end
section
variable{X:Cx}{pins:yyP}{σ:St}{H:Hp}{s:Shared}{d:Addr}{kvs:List (List Key × V)}{od:Obj}
end
section
variable{prog:Program}{w:World}{A:Around}{E:yyE}{s:Shared}{it d:Addr}{i ep:Nat}{od:Obj}{es:Array DictEntry}
def zc4{Q:Option Value->Shared->Prop}{e:DictEntry}(hit:s.heap.IsKeyIter it d i es.size ep)(hod:s.heap.get? d=some od)(hdd:od.data=.dict es ep)(hx:es[i]?=some e)(hQ:∀h',h'.IsKeyIter it d (i+1) es.size ep->Heap.SameBut it s.heap h'->Q (some e.key) { s with heap:=h' }):wpAny (model prog w) A (pyNext (.ref it)) Q E s:=by
 obtain⟨o,ho,hc,hd⟩:=id hit;have hlt:i<es.size:=(Array.getElem?_eq_some_iff.mp hx).1;unfold pyNext;refine y01 (wpAny_attempt (y0E (name:=Str.ofString "__next__") hit.typeIs y1b (y0K y1b hit.typeIs F.entry_dict_keyiterator_next ?_ (F.args_dict_keyiterator_next_1 _))));refine y01 (y03 (y01 (y01 ?_)));first|refine y01 (y1u hit.typeIs (y03 (y01 (wpAny_fieldsOf ho hd ?_))))|refine y01 (y1T hit.typeIs (y03 (y01 (wpAny_fieldsOf ho hd ?_))))
 have own:Builtin.Dict_items.ownsTuple "dict_keyiterator"=false:=by decide
 simp only[own,y0B,y35];show wpAny _ _ (if(Value.ref d==Value.none)=true then _ else _) _ _ s;rw[if_neg (show ¬(Value.ref d==Value.none)=true from y0c)];refine y01 (y03 (y01 (y1S hod hdd ?_)));rw[if_neg (by simp)];refine y01 (y03 (y01 (wpAny_dictEpoch hod hdd ?_)));rw[if_neg (by simp)];refine y03 ?_;simp only[show ¬((i:Int)<0)from by lia,y35,y0J,hx];refine y01 ?_;first|refine y01 (y1u hit.typeIs (y03 (y01 (y2R hit.typeIs ?_))))|refine y01 (y1T hit.typeIs (y03 (y01 (y2R hit.typeIs ?_))))
 refine y01 (y2L ho hd (by simp[own]) ?_);have hit':(s.heap.update it (Obj.mapFields (·.setIfInBounds 1 (rawInt ((i:Int)+1))))).IsKeyIter it d (i+1) es.size ep:=⟨_,y2O _ ho (Obj.isFreed_of_fields (y2v hd _)),(Obj.cls_mapFields ..).trans hc,by rw[y2v hd];simp[rawInt]⟩;refine y01 (y1e (y01 (y2R (s:={ s with heap:=s.heap.update it (Obj.mapFields (·.setIfInBounds 1 (rawInt ((i:Int)+1)))) }) hit'.typeIs ?_)));exact y03 (y03 ⟨_,rfl,y03 (hQ _ hit' (y1E ..))⟩)
def zdx{Q:Option Value->Shared->Prop}(hh:A.handled=none)(hit:s.heap.IsKeyIter it d i es.size ep)(hod:s.heap.get? d=some od)(hdd:od.data=.dict es ep)(hx:es.size<=i)(hQ:∀h',Heap.ExtBut it s.heap h'->Q none { s with heap:=h' }):wpAny (model prog w) A (pyNext (.ref it)) Q E s:=by
 obtain⟨o,ho,hc,hd⟩:=id hit;unfold pyNext;refine y01 (wpAny_attempt (y0E (name:=Str.ofString "__next__") hit.typeIs y1b (y0K y1b hit.typeIs F.entry_dict_keyiterator_next ?_ (F.args_dict_keyiterator_next_1 _))));refine y01 (y03 (y01 (y01 ?_)));first|refine y01 (y1u hit.typeIs (y03 (y01 (wpAny_fieldsOf ho hd ?_))))|refine y01 (y1T hit.typeIs (y03 (y01 (wpAny_fieldsOf ho hd ?_))))
 have own:Builtin.Dict_items.ownsTuple "dict_keyiterator"=false:=by decide
 simp only[own,y0B,y35];show wpAny _ _ (if(Value.ref d==Value.none)=true then _ else _) _ _ s;rw[if_neg (show ¬(Value.ref d==Value.none)=true from y0c)];refine y01 (y03 (y01 (y1S hod hdd ?_)));rw[if_neg (by simp)];refine y01 (y03 (y01 (wpAny_dictEpoch hod hdd ?_)));rw[if_neg (by simp)];refine y03 ?_;simp only[show ¬((i:Int)<0)from by lia,y35,y0J,y1Y hx];refine y01 ?_;first|refine y01 (y1u hit.typeIs (y03 (y01 (y2L ho hd (by simp[own]) (y01 ?_)))))|refine y01 (y1T hit.typeIs (y03 (y01 (y2L ho hd (by simp[own]) (y01 ?_)))))
 simp only[newExc,newTuple];refine y01 (y0A (y01 (m:=firstArgMember _ _) (wpAny_of_eq (a:=Value.none) (by first|rfl|(simp only[firstArgMember];rfl)) (y0A ?_ (by size_fits)))) (by size_fits));simp only[raiseNew];refine y01 (wpAny_handled ?_);rw[show A.in1.handled=none from hh];refine y01 (y03 (wpAny_throw ?_));refine y01 (wpAny_isInstance (T:="StopIteration") (b:=true) ?_ isSubtype_stop ?_)
 .exact⟨_,y05 _ rfl,rfl⟩
 exact y03 (hQ _ (((y1E ..).extBut.push _).push _))
end
section
variable{X:Cx}{tg:Expr}
end
open PySem.SeqAt
theorem z7l:∀{ss:List Str}{its:List Value},z0B (ss.map V.str) its->StrsAre its ss
 |[],_,r=>by rw[y25]at r;cases r;exact .nil
 |x::ss,_,r=>by
  rw[y0m]at r;cases r with
  |cons r rr =>
   obtain⟨t,rfl⟩:=r;exact .cons _ _ (z7l rr)
theorem z2U:∀{ss:List Str}{its:List Value},StrsAre its ss->z0B (ss.map V.str) its
 |_,_,.nil=>.nil
 |_,_,.cons x t r=>.cons ⟨t,rfl⟩ (z2U r)
section
variable{X:Cx}(K:yyF)
def zfI(hK:X.K=K):z0Q X (.builtin "sorted") (λxs H Q=>∃(p:Addr) (ss:List Str),xs=[.ref p]/\SqL K H p (ss.map V.str)/\ss.length<64/\∀ss':List Str,ss'.Perm ss->sortedS ss'=true->∀l,H l=none->Q (.ref l) (upd H l (.lst (ss'.map V.str)))):=by
 subst hK;intro pins s σ H xs us Q I r h;obtain⟨p,ss,rfl,hp,h64,q⟩:=h;obtain⟨u,rfl,ru⟩:=z1Z r;cases ru;obtain⟨its,rv,pl,hz⟩:=I.list hp;have hlen:its.length=ss.length:=by have:=rv.length;rw[y00]at this;exact this.symm
 refine sorted_strs pl.isList (z7l rv) (by lia) λout ss' a1 a2 a3=>?_;obtain⟨e,he⟩:=sortedAll_at s.heap its out;refine⟨.ref (s.heap.objs.size+1),_,I.laid (a:=s.heap.objs.size+1) (o:=.lst (ss'.map V.str)) (t':=s.toks) (λb u q=>sortedAll_old q) (Nat.le_succ _) ⟨?_,out.toList,e,z2U a1,by simpa[seqObj]using he⟩,rfl,q ss' a2 a3 _ (I.hok.fresh (Nat.le_succ _))⟩;rw[y00,List.Perm.length_eq a2,<-hlen];exact y0k (show its.length<=64 by lia) (by decide)
end
end L2
namespace Gu
open PySem L2
section
variable{Ts:List Tb}{K:yyF}{C:Addr}{H H':Hp}{p:Addr}{n:Nat}{d x y lw ln sa:Addr}{sx:List V}{th th':Tab}{dn dn':List D}{ws ws':List Row}{ls ls':List Str}
end
def z8E{n:Nat}{g:List Row}{e e2:Row}(G:z1i n g)(hE:z3S n e)(hp:z0Z e2)(hl:∀i,lat e2 i=oS g e i):z3S n e2:=by
 have h1:∀i,0<=lat e i/\lat e i<(n:Int):=zcu hE.1 hE.2.1 hE.2.2;have h2:∀i,0<=lat e2 i/\lat e2 i<(n:Int):=λi=>by rw[hl];exact ziI G h1 i
 obtain⟨a,b⟩:=zcg h2 hp.1;exact⟨hp.1,a,b⟩
def z6P{n:Nat}{e e2:Row}(hE:z3S n e)(hp:z0Z e2)(hl:∀i,lat e2 i=lat e i):z3S n e2:=by have h1:∀i,0<=lat e i/\lat e i<(n:Int):=zcu hE.1 hE.2.1 hE.2.2;obtain⟨a,b⟩:=zcg (λi=>by rw[hl];exact h1 i) hp.1;exact⟨hp.1,a,b⟩
end Gu
namespace W
open PySem L2
inductive U where
 |non|bl (b:Bool)|int (i:Int)|str (x:Str)|tup (us:List U)|ref (a:Addr)
inductive Ob where
 |lst (us:List U)|scr (us:List U)|ins (C:Addr) (fs:List (Str × U))|dic (t:Bool) (kvs:List (U × U))|clo (i:Nat) (ρ:List (Option U))|pin (o:Obj) (xs:List (U × Addr × Value)) (kvs:List (U × U))
abbrev Sto:=Addr->Option Ob
structure ziZ where
 params:Arguments
 body:Expr
 scope:Scope
 qual:Str
 N:List Str
 ps:List Str
class WW where
 w:World
 Ts:List Tb
 lam:Nat->ziZ
 rd:Nat->List (Option U)->Sto->(U->Sto->Prop)->Prop
mutual
def Ur(H:Hp):U->V->Prop
 |.non,v=>v=.non
 |.bl b,v=>v=.bl b
 |.int i,v=>v=.int i
 |.str x,v=>v=.str x
 |.ref a,v=>v=.ref a
 |.tup us,v=>∃a vs,v=.ref a/\H a=some (.tup vs)/\UrL H us vs
def UrL(H:Hp):List U->List V->Prop
 |[],vs=>vs=[]
 |u::us,vs=>∃v r,vs=v::r/\Ur H u v/\UrL H us r
end
structure Kp(H H':Hp):Prop where
 tup:∀a xs,H a=some (.tup xs)->H' a=some (.tup xs)
 frz:∀a o u,H a=some (.frz o u)->H' a=some (.frz o u)
def Kp.refl(H:Hp):Kp H H:=⟨λ_ _ h=>h,λ_ _ _ h=>h⟩
def Kp.trans{H H1 H2:Hp}(a:Kp H H1)(b:Kp H1 H2):Kp H H2:=⟨λx y h=>b.tup x y (a.tup x y h),λx y z h=>b.frz x y z (a.frz x y z h)⟩
def Kp.new{H:Hp}{a:Addr}{o:HO}(h:H a=none):Kp H (upd H a o):=⟨λx _ e=>by rw[z0f (z0i e h)];exact e,λx _ _ e=>by rw[z0f (z0i e h)];exact e⟩
def Kp.put{H:Hp}{a:Addr}{o o':HO}(h:H a=some o)(h1:∀xs,o≠.tup xs)(h2:∀b u,o≠.frz b u):Kp H (upd H a o'):=by
 refine⟨λx y e=>?_,λx y z e=>?_⟩
 .rw[z0f];exact e;rintro rfl;rw[h]at e;cases e;exact h1 _ rfl
 .rw[z0f];exact e;rintro rfl;rw[h]at e;cases e;exact h2 _ _ rfl
abbrev Tp(H H':Hp):Prop:=∀a xs,H a=some (.tup xs)->H' a=some (.tup xs)
mutual
theorem Ur.tp{H H':Hp}(k:Tp H H'):∀{u:U}{v:V},Ur H u v->Ur H' u v
 |.non,_,h|.bl _,_,h|.int _,_,h|.str _,_,h|.ref _,_,h=>by simp only[Ur]at h⊢;exact h
 |.tup us,_,h=>by simp only[Ur]at h⊢;obtain⟨a,vs,e,z,r⟩:=h;exact⟨a,vs,e,k _ _ z,UrL.tp k r⟩
theorem UrL.tp{H H':Hp}(k:Tp H H'):∀{us:List U}{vs:List V},UrL H us vs->UrL H' us vs
 |[],_,h=>by simp only[UrL]at h⊢;exact h
 |u::us,_,h=>by simp only[UrL]at h⊢;obtain⟨v,r,e,q1,q2⟩:=h;exact⟨v,r,e,Ur.tp k q1,UrL.tp k q2⟩
end
def Ur.mono{H H':Hp}(k:Kp H H'){u:U}{v:V}(h:Ur H u v):Ur H' u v:=h.tp k.tup
def UrL.mono{H H':Hp}(k:Kp H H'){us:List U}{vs:List V}(h:UrL H us vs):UrL H' us vs:=h.tp k.tup
def UrL.cons{H:Hp}{u:U}{v:V}{us:List U}{vs:List V}(a:Ur H u v)(b:UrL H us vs):UrL H (u::us) (v::vs):=by simp only[UrL];exact⟨v,vs,rfl,a,b⟩
def UrL.nil{H:Hp}:UrL H [] []:=by simp only[UrL]
theorem UrL.len{H:Hp}:∀{us:List U}{vs:List V},UrL H us vs->us.length=vs.length
 |[],_,h=>by simp only[UrL]at h;subst h;rfl
 |u::us,_,h=>by simp only[UrL]at h;obtain⟨v,r,rfl,_,q⟩:=h;rw[y0b,y0b,q.len]
theorem UrL.app{H:Hp}:∀{us us':List U}{vs vs':List V},UrL H us vs->UrL H us' vs'->UrL H (us++us') (vs++vs')
 |[],_,_,_,h,h'=>by simp only[UrL]at h;subst h;exact h'
 |u::us,_,_,_,h,h'=>by simp only[UrL]at h;obtain⟨v,r,rfl,p,q⟩:=h;exact .cons p (q.app h')
theorem UrL.get{H:Hp}:∀{us:List U}{vs:List V}{i:Nat}{u:U},UrL H us vs->us[i]?=some u->∃v,vs[i]?=some v/\Ur H u v
 |[],_,_,_,_,e=>by simp at e
 |u::us,_,0,_,h,e=>by
  simp only[UrL]at h;obtain⟨v,r,rfl,p,_⟩:=h;simp at e;subst e;exact⟨v,rfl,p⟩
 |u::us,_,i+1,_,h,e=>by simp only[UrL]at h;obtain⟨v,r,rfl,_,q⟩:=h;obtain⟨v',h1,h2⟩:=q.get (i:=i) (by simpa using e);exact⟨v',by simpa using h1,h2⟩
theorem UrL.take{H:Hp}:∀{us:List U}{vs:List V}(n:Nat),UrL H us vs->UrL H (us.take n) (vs.take n)
 |us,_,0,h=>by rw[List.take_zero,List.take_zero];exact .nil
 |[],_,n+1,h=>by simp only[UrL]at h;subst h;exact .nil
 |u::us,_,n+1,h=>by simp only[UrL]at h;obtain⟨v,r,rfl,p,q⟩:=h;exact .cons p (q.take n)
theorem UrL.drop{H:Hp}:∀{us:List U}{vs:List V}(n:Nat),UrL H us vs->UrL H (us.drop n) (vs.drop n)
 |us,_,0,h=>h
 |[],_,n+1,h=>by simp only[UrL]at h;subst h;exact .nil
 |u::us,_,n+1,h=>by simp only[UrL]at h;obtain⟨v,r,rfl,p,q⟩:=h;exact q.drop n
abbrev En:=List (Option U)
def lk:En->Nat->Option U
 |[],_=>none
 |x::_,0=>x
 |_::r,n+1=>lk r n
def st:En->Nat->U->En
 |[],_,_=>[]
 |_::r,0,u=>some u::r
 |x::r,n+1,u=>x::st r n u
def EnR(H:Hp)(ρ:En)(σ:St):Prop:=ρ.length=σ.length/\∀i u,lk ρ i=some u->∃v,σ[i]?=some (some v)/\Ur H u v
theorem EnR.tp{H H':Hp}{ρ:En}{σ:St}(h:EnR H ρ σ)(k:Tp H H'):EnR H' ρ σ:=⟨h.1,λi u e=>let⟨v,a,b⟩:=h.2 i u e;⟨v,a,b.tp k⟩⟩
def EnR.mono{H H':Hp}{ρ:En}{σ:St}(h:EnR H ρ σ)(k:Kp H H'):EnR H' ρ σ:=h.tp k.tup
theorem zco:∀(ρ:En)(i:Nat)(u:U),(st ρ i u).length=ρ.length
 |[],_,_=>rfl
 |_::r,0,_=>rfl
 |_::r,n+1,u=>by rw[st,y0b,y0b,zco r n u]
theorem z7p:∀{ρ:En}{i j:Nat}{u:U},i≠j->lk (st ρ j u) i=lk ρ i
 |[],_,_,_,_=>rfl
 |_::r,0,0,_,h=>absurd rfl h
 |_::r,0,_+1,_,_=>rfl
 |_::r,_+1,0,_,_=>rfl
 |_::r,i+1,j+1,u,h=>z7p (ρ:=r) λe=>h (by rw[e])
theorem z7V:∀{ρ:En}{i:Nat}{u x:U},lk (st ρ i u) i=some x->x=u/\i<ρ.length
 |[],_,_,_,h=>by cases h
 |_::r,0,_,_,h=>by cases h;exact⟨rfl,Nat.succ_pos _⟩
 |_::r,i+1,u,x,h=>by obtain⟨a,b⟩:=z7V (ρ:=r) h;exact⟨a,Nat.succ_lt_succ b⟩
theorem EnR.set{H:Hp}{ρ:En}{σ:St}{u:U}{v:V}(h:EnR H ρ σ)(i:Nat)(r:Ur H u v):EnR H (st ρ i u) (σ.set i (some v)):=by
 refine⟨by rw[zco,List.length_set];exact h.1,λj x e=>?_⟩;by_cases z:j=i
 .subst z;obtain⟨rfl,hl⟩:=z7V e;exact⟨v,by rw[y2A (by rw[<-h.1];exact hl)],r⟩
 .rw[z7p z]at e;obtain⟨v',h1,h2⟩:=h.2 j x e;exact⟨v',by rw[y31 (y10 z)];exact h1,h2⟩
def FsR(H:Hp):List (Str × U)->List (Str × V)->Prop:=Paired λp q=>p.1=q.1/\Ur H p.2 q.2
variable[WW]
def kU:Key->U
 |.inl i=>.int i
 |.inr x=>.str x
def KsR(H:Hp):List (U × U)->List (Key × V)->Prop:=Paired λp q=>p.1=kU q.1/\Ur H p.2 q.2
mutual
def ky:U->Bool
 |.int _=>true
 |.str _=>true
 |.tup us=>kyL us
 |_=>false
def kyL:List U->Bool
 |[]=>true
 |u::us=>ky u&&kyL us
end
mutual
def uh:U->Int
 |.int i=>hashInt i
 |.str x=>hashStr WW.w x
 |.tup us=>reduceHash (Builtin.Tuple.tupleHashOf (uhL us))
 |_=>0
def uhL:List U->List Int
 |[]=>[]
 |u::us=>uh u::uhL us
end
mutual
def dep:U->Nat
 |.tup us=>z6t us+1
 |_=>0
def z6t:List U->Nat
 |[]=>0
 |u::us=>max (dep u) (z6t us)
end
def isT:U->Bool
 |.tup _=>true
 |_=>false
def tk(u:U):Bool:=isT u&&ky u&&decide (dep u<=8)
def zbx(a:Addr)(xs:List (U × Addr × Value)):HO :=
 .ext λh=>(a==sysModules)=false/\∃o es ep,h.get? a=some o/\o.ExactDict/\o.data=.dict es ep/\es.toList=xs.map (λx=>⟨uh x.1,.ref x.2.1,x.2.2⟩)/\(xs.map (·.1)).Nodup
def UK(H:Hp):List (U × U)->List (U × Addr × Value)->Prop:=Paired λp q=>p.1=q.1/\(tk p.1=true/\Ur H p.1 (.ref q.2.1))/\∃v,Ur H p.2 v/\z0A v q.2.2
def zfT(o:Obj)(a:Addr)(xs:List (U × Addr × Value)):HO :=
 .ext λh=>h.get? a=some o/\(a==sysModules)=false/\∃es ep,o.ExactDict/\o.data=.dict es ep/\es.toList=xs.map (λx=>⟨uh x.1,.ref x.2.1,x.2.2⟩)/\(xs.map (·.1)).Nodup
def z8u(H:Hp)(a:Addr)(kvs:List (U × U)):Bool->Prop
 |false=>∃vs,H a=some (.dK vs)/\KsR H kvs vs
 |true=>∃xs,H a=some (zbx a xs)/\UK H kvs xs/\kvs.length<=sizeLine
def ObR(H:Hp)(a:Addr):Ob->Prop
 |.lst us=>∃vs,H a=some (.lst vs)/\UrL H us vs
 |.scr us=>∃o vs,H a=some (.frz o (.lst vs))/\UrL H us vs
 |.ins C fs=>∃dx vs,H a=some (.ins C dx vs)/\FsR H fs vs
 |.dic t kvs=>z8u H a kvs t
 |.pin o xs kvs=>H a=some (zfT o a xs)/\UK H kvs xs/\kvs.length<=sizeLine
 |.clo i ρ=>∃fv,z3a H a (WW.lam i).params (WW.lam i).body (WW.lam i).scope (WW.lam i).qual (WW.lam i).N fv/\fv.length=(WW.lam i).N.length/\EnR H ρ fv
abbrev Hd:=List (Addr × HO)
def hid:HO->Bool
 |.frz _ _=>false
 |.tbl _=>false
 |_=>true
def Rep(hd:Hd)(S:Sto)(H:Hp):Prop:=(∀a o,S a=some o->ObR H a o)/\(∀p∈hd,S p.1=none/\H p.1=some p.2/\hid p.2=true)/\z6z WW.Ts H
theorem ObR.some{H:Hp}{a:Addr}{o:Ob}(h:ObR H a o):∃x,H a=some x:=by
 cases o with
 |lst us=>obtain⟨_,e,_⟩:=h;exact⟨_,e⟩
 |scr us=>obtain⟨_,_,e,_⟩:=h;exact⟨_,e⟩
 |ins C fs=>obtain⟨_,_,e,_⟩:=h;exact⟨_,e⟩
 |dic t kvs=>cases t<;>(obtain⟨_,e,_⟩:=h;exact⟨_,e⟩)
 |clo i ρ=>obtain⟨_,⟨_,_,_,_,_,_,_,_,e,_⟩,_⟩:=h;exact⟨_,e⟩
 |pin o xs kvs=>exact⟨_,h.1⟩
def z3a.kp{H H':Hp}{f:Addr}{params:Arguments}{body:Expr}{scope:Scope}{qual:Str}{N:List Str}{fv:St}(h:z3a H f params body scope qual N fv)(s:Kp H H'):z3a H' f params body scope qual N fv:=by
 obtain⟨clos,cs,pm,c',ctv,oc,vs,t,e1,e2,e3,e4,e5,e5',e6,e7,e8⟩:=h;refine⟨clos,cs,pm,c',ctv,oc,vs,t,s.frz _ _ _ e1,s.frz _ _ _ e2,e3,e4,e5,e5',λc hc=>?_,e7,λi x v h1 h2=>?_⟩
 .obtain⟨hx,o,u,q,d⟩:=e6 c hc;exact⟨hx,o,u,s.frz _ _ _ q,d⟩
 .obtain⟨c,o,u,q1,q2,q3⟩:=e8 i x v h1 h2;exact⟨c,o,u,q1,s.frz _ _ _ q2,q3⟩
def isC:Ob->Bool
 |.clo _ _=>true
 |_=>false
theorem ObR.tp{H H':Hp}{a:Addr}{o:Ob}(h:ObR H a o)(n:isC o=false)(k:Tp H H')(e:H' a=H a):ObR H' a o:=by
 cases o with
 |lst us=>obtain⟨vs,h1,h2⟩:=h;exact⟨vs,e.trans h1,h2.tp k⟩
 |scr us=>obtain⟨o,vs,h1,h2⟩:=h;exact⟨o,vs,e.trans h1,h2.tp k⟩
 |ins C fs=>obtain⟨dx,vs,h1,h2⟩:=h;exact⟨dx,vs,e.trans h1,Paired.mapP h2 λ_ _ z=>⟨z.1,z.2.tp k⟩⟩
 |dic t kvs =>
  cases t
  .obtain⟨vs,h1,h2⟩:=h;exact⟨vs,e.trans h1,Paired.mapP h2 λ_ _ z=>⟨z.1,z.2.tp k⟩⟩
  .obtain⟨vs,h1,h2,h3⟩:=h;exact⟨vs,e.trans h1,Paired.mapP h2 λ_ _ ⟨z1,z2,v,z3,z4⟩=>⟨z1,⟨z2.1,z2.2.tp k⟩,v,z3.tp k,z4⟩,h3⟩
 |pin o xs kvs =>
  obtain⟨h1,h2,h3⟩:=h;exact⟨e.trans h1,Paired.mapP h2 λ_ _ ⟨z1,z2,v,z3,z4⟩=>⟨z1,⟨z2.1,z2.2.tp k⟩,v,z3.tp k,z4⟩,h3⟩
 |clo i ρ=>cases n
theorem ObR.mono{H H':Hp}{a:Addr}{o:Ob}(h:ObR H a o)(k:Kp H H')(e:H' a=H a):ObR H' a o:=by
 cases n:isC o with
 |false=>exact h.tp n k.tup e
 |true =>
  cases o<;>simp only[isC,y0B]at n;obtain⟨fv,h1,h2,h3⟩:=h;exact⟨fv,z3a.kp h1 k,h2,h3.mono k⟩
theorem Rep.none{hd:Hd}{S:Sto}{H:Hp}(r:Rep hd S H){a:Addr}(h:H a=none):S a=none:=by
 cases e:S a with
 |none=>rfl
 |some o=>obtain⟨x,q⟩:=(r.1 a o e).some;rw[h]at q;cases q
def ObR.notab{H:Hp}{a:Addr}{o:Ob}(h:ObR H a o):(∀ps,H a≠Option.some (.tbl ps))/\∀oc vs,oc.data=.fields vs->H a≠Option.some (frO oc):=by
 cases o with
 |lst us=>obtain⟨_,e,_⟩:=h;rw[e];exact⟨(λ_ z=>by cases z),λ_ _ _ z=>by cases z⟩
 |scr us=>obtain⟨_,_,e,_⟩:=h;rw[e];exact⟨(λ_ z=>by cases z),λ_ _ _ z=>by cases z⟩
 |ins C fs=>obtain⟨_,_,e,_⟩:=h;rw[e];exact⟨(λ_ z=>by cases z),λ_ _ _ z=>by cases z⟩
 |dic t kvs=>cases t<;>(obtain⟨_,e,_⟩:=h;rw[e];exact⟨(λ_ z=>by cases z),λ_ _ _ z=>by cases z⟩)
 |pin o xs kvs=>rw[h.1];exact⟨(λ_ z=>by cases z),λ_ _ _ z=>by cases z⟩
 |clo i ρ =>
  obtain⟨_,⟨_,_,_,_,_,_,_,_,e,_⟩,_⟩:=h;rw[e];refine⟨(λ_ z=>by cases z),λoc vs d z=>?_⟩;injection z with z;injection z with z;rw[<-z]at d;cases d
def z1I{Ts:List Tb}{H H':Hp}(h:z6z Ts H)(k1:∀b ps,H b=some (.tbl ps)->H' b=some (.tbl ps))(k2:∀b oc vs,oc.data=.fields vs->H b=some (frO oc)->H' b=some (frO oc)):z6z Ts H':=λT hT=>by
 rcases h T hT with q|⟨c',oc,vs,t,q1,q2,q3,q4⟩
 .exact .inl (k1 _ _ q)
 .exact .inr ⟨c',oc,vs,t,k1 _ _ q1,k2 _ _ _ q3 q2,q3,q4⟩
def up(S:Sto)(a:Addr)(o:Ob):Sto:=λb=>if b=a then some o else S b
def z04{S:Sto}{a:Addr}{o:Ob}:up S a o a=some o:=by unfold up;rw[if_pos rfl]
def z0c{S:Sto}{a b:Addr}{o:Ob}(h:b≠a):up S a o b=S b:=by unfold up;rw[if_neg h]
theorem Rep.up{hd:Hd}{S:Sto}{H:Hp}{a:Addr}{o:Ob}{x:HO}(r:Rep hd S H)(k:Kp H (upd H a x))(n:H a=Option.none\/S a≠Option.none)(h:ObR (upd H a x) a o):Rep hd (up S a o) (upd H a x):=by
 refine⟨λb p e=>?_,λp hp=>?_,?_⟩
 .by_cases z:b=a
  .subst z;rw[z04]at e;cases e;exact h
  .rw[z0c z]at e;exact(r.1 b p e).mono k (z0f z)
 .obtain⟨h1,h2,h3⟩:=r.2.1 p hp;have z:p.1≠a:=by
   rintro rfl;rcases n with n|n
   .rw[n]at h2;cases h2
   .exact n h1
  exact⟨by rw[z0c z];exact h1,by rw[z0f z];exact h2,h3⟩
 .have nt:(∀ps,H a≠some (.tbl ps))/\∀oc vs,oc.data=.fields vs->H a≠some (frO oc):=by
   rcases n with n|n
   .rw[n];exact⟨(λ_ z=>by cases z),λ_ _ _ z=>by cases z⟩
   .cases e:S a with
    |none=>exact absurd e n
    |some o=>exact ObR.notab (r.1 a o e)
  exact z1I r.2.2 (λb ps e=>by rw[z0f (λz=>nt.1 ps (by rw[<-z];exact e))];exact e) λb oc vs d e=>by rw[z0f (λz=>nt.2 oc vs d (by rw[<-z];exact e))];exact e
abbrev Xq:=Nat->Sto->Prop
abbrev Kq(α:Type):=α->Sto->Prop
abbrev WG(α:Type):=En->Sto->Kq α->Xq->Prop
abbrev WE:=WG U
abbrev WA:=WG (List U)
abbrev WT:=WG Bool
section
variable(xa:Nat->Addr)(xk:XK)
def Co(hd:Hd){α β:Type}(R:Hp->α->β->Prop)(H:Hp)(Q:Kq α)(Q':β->Hp->Prop):Prop:=∀u S v H',Kp H H'->Rep hd S H'->R H' u v->Q u S->Q' v H'
def Cx'(hd:Hd)(H:Hp)(E:Xq):Prop:=∀ea c S H',Kp H H'->Rep hd S H'->E c S->xk (.ref ea) (some (xa c)) H'
structure Ct(hd:Hd){α β:Type}(R:Hp->α->β->Prop)(H:Hp)(Q:Kq α)(E:Xq)(Q':β->Hp->Prop):Prop where
 ok:Co hd R H Q Q'
 ex:Cx' xa xk hd H E
def Lt(xk:St->XK){α β:Type}(R:Hp->α->β->Prop)(t:WG α):St->Hp->(β->Hp->Prop)->Prop:=λσ H Q' =>
 ∃hd ρ S Q E,EnR H ρ σ/\Rep hd S H/\t ρ S Q E/\Ct xa (xk σ) hd R H Q E Q'
end
section
variable{xa:Nat->Addr}{xk:XK}{xq:St->XK}{hd:Hd}{α β:Type}{R:Hp->α->β->Prop}
def Co.mono{H H1:Hp}{Q:Kq α}{Q':β->Hp->Prop}(c:Co hd R H Q Q')(k:Kp H H1):Co hd R H1 Q Q':=λu S v H' k'=>c u S v H' (k.trans k')
def Cx'.mono{H H1:Hp}{E:Xq}(c:Cx' xa xk hd H E)(k:Kp H H1):Cx' xa xk hd H1 E:=λea x S H' k'=>c ea x S H' (k.trans k')
theorem Ct.mono{H H1:Hp}{Q:Kq α}{E:Xq}{Q':β->Hp->Prop}(c:Ct xa xk hd R H Q E Q')(k:Kp H H1):Ct xa xk hd R H1 Q E Q':=⟨c.ok.mono k,c.ex.mono k⟩
def Lt.bind{γ δ:Type}{R1:Hp->γ->δ->Prop}{t:WG γ}{f:γ->WG α}{σ:St}{H:Hp}{Q':β->Hp->Prop}{T:δ->Hp->Prop}(h:Lt xa xq R (λρ S Q E=>t ρ S (λu S1=>f u ρ S1 Q E) E) σ H Q')(hT:∀hd ρ S Q E u v H1,EnR H1 ρ σ->Rep hd S H1->R1 H1 u v->f u ρ S Q E->Ct xa (xq σ) hd R H1 Q E Q'->T v H1):Lt xa xq R1 t σ H T:=by obtain⟨hd,ρ,S,Q,E,e,r,h,c⟩:=h;exact⟨hd,ρ,S,_,E,e,r,h,λu S1 v H1 k1 r1 u1 q1=>hT hd ρ S1 Q E u v H1 (e.mono k1) r1 u1 q1 (c.mono k1),c.ex⟩
end
section
variable(xa:Nat->Addr)(X:Cx)(xk:St->XK)
def SE(e:Expr)(t:WE):Prop:=PE X e (Lt xa xk Ur t)
def SA(es:List Expr)(t:WA):Prop:=PA X es (Lt xa xk UrL t)
def ST(e:Expr)(t:WT):Prop:=PT X e (Lt xa xk (λ_ a b=>a=b) t)
end
def PE.weak{X:Cx}{e:Expr}{t t':TE}(h:PE X e t)(w:∀σ H Q,t' σ H Q->t σ H Q):PE X e t':=λpins s σ H Q I q=>h pins s σ H Q I (w σ H Q q)
def PA.weak{X:Cx}{e:List Expr}{t t':TA}(h:PA X e t)(w:∀σ H Q,t' σ H Q->t σ H Q):PA X e t':=λpos pins s σ H Q I q=>h pos pins s σ H Q I (w σ H Q q)
def PT.weak{X:Cx}{e:Expr}{t t':TT}(h:PT X e t)(w:∀σ H Q,t' σ H Q->t σ H Q):PT X e t':=λpins s σ H Q I q=>h pins s σ H Q I (w σ H Q q)
def z6C(i:Nat):WE:=λρ S Q _=>match lk ρ i with
 |some u=>Q u S
 |none=>False
def wC(u:U):WE:=λ_ S Q _=>Q u S
def zay:WA:=λ_ S Q _=>Q [] S
def z3b(t:WE)(ts:WA):WA:=λρ S Q E=>t ρ S (λu S1=>ts ρ S1 (λus S2=>Q (u::us) S2) E) E
section
variable{xa:Nat->Addr}{X:Cx}{xk:St->XK}
def z00(i:Nat){x:Str}{pos:Pos}(hN:X.N[i]?=some x:=by rfl)(hv:Vis X.env.scope x:=by first|exact Or.inl rfl|exact Or.inr (Or.inl rfl)|exact Or.inr (Or.inr rfl))(hd:(x==("__debug__":Str))=false:=by decide)(hcd:(x==("__classdict__":Str))=false:=by decide):SE xa X xk (.Name x pos) (z6C i):=PE.weak (z9r hN hv hd hcd) λσ H Q' ⟨hd,ρ,S,Q,E,e,r,h,c⟩=>by
 unfold z6C at h;split at h
 .rename_i u hu;obtain⟨v,h1,h2⟩:=e.2 i u hu;exact⟨v,h1,c.ok u S v H (.refl H) r h2 h⟩
 .exact h.elim
def zh0{u:U}{v:V}{σ:St}{H:Hp}{Q':VK}(h:Lt xa xk Ur (wC u) σ H Q')(r:Ur H u v):Q' v H:=by obtain⟨hd,ρ,S,Q,E,e,rp,h,c⟩:=h;exact c.ok u S v H (.refl H) rp r h
def z06{i j pos}:SE xa X xk (.Constant (.int i) j pos) (wC (.int i)):=PE.weak zf0 λσ H Q h=>zh0 h (by simp only[Ur])
def zau{i j pos}:SE xa X xk (.Constant (.bool i) j pos) (wC (.bl i)):=PE.weak ziq λσ H Q h=>zh0 h (by simp only[Ur])
def z7P{j pos}:SE xa X xk (.Constant .none j pos) (wC .non):=PE.weak zgF λσ H Q h=>zh0 h (by simp only[Ur])
def z0p{x j pos}:SE xa X xk (.Constant (.str x) j pos) (wC (.str x)):=PE.weak zfi λσ H Q h=>zh0 h (by simp only[Ur])
def z03:SA xa X xk [] zay:=PA.weak z40 λσ H Q' ⟨hd,ρ,S,Q,E,e,r,h,c⟩=>c.ok [] S [] H (.refl H) r .nil h
def z01{e:Expr}{es:List Expr}{t:WE}{ts:WA}(h:SE xa X xk e t)(hs:SA xa X xk es ts)(hst:starEach (e::es) X.env=(false,eval e X.env)::starEach es X.env:=by rfl):SA xa X xk (e::es) (z3b t ts) :=
 PA.weak (z1L h hs hst) λσ H Q' h=>Lt.bind (f:=λu ρ S1 Q E=>ts ρ S1 (λus S2=>Q (u::us) S2) E) h λhd ρ S Q E u v H1 e1 r1 u1 q1 c1 =>
  ⟨hd,ρ,S,_,E,e1,r1,q1,λus S2 vs H2 k2 r2 u2 q2=>c1.ok _ S2 _ H2 k2 r2 (.cons (u1.mono k2) u2) q2,c1.ex⟩
abbrev WF:=U->U->Sto->Kq U->Prop
def w2(f:WF)(ta tb:WE):WE:=λρ S Q E=>ta ρ S (λx S1=>tb ρ S1 (λy S2=>f x y S2 Q) E) E
def rW(f:WF):R2:=λv1 v2 H Q'=>∃hd x y S Q,Rep hd S H/\Ur H x v1/\Ur H y v2/\Co hd Ur H Q Q'/\f x y S Q
def lt2{f:WF}{ta tb:WE}{σ:St}{H:Hp}{Q':VK}(h:Lt xa xk Ur (w2 f ta tb) σ H Q'):tOp (rW f) (Lt xa xk Ur ta) (Lt xa xk Ur tb) σ H Q' :=
 Lt.bind (f:=λx ρ S1 Q E=>tb ρ S1 (λy S2=>f x y S2 Q) E) h λhd ρ S Q E x v1 H1 e1 r1 u1 q1 c1=>⟨hd,ρ,S,_,E,e1,r1,q1,λy S2 v2 H2 k2 r2 u2 q2=>⟨hd,x,y,S2,Q,r2,u1.mono k2,u2,c1.ok.mono k2,q2⟩,c1.ex⟩
def z08{op:Operator}{f:WF}{a b:Expr}{ta tb:WE}{pos:Pos}(ho:OpR X (binaryOp op) (rW f))(ha:SE xa X xk a ta)(hb:SE xa X xk b tb):SE xa X xk (.BinOp a op b pos) (w2 f ta tb) :=
 PE.weak (zhk ho ha hb) λσ H Q h=>lt2 h
end
open PySem L2 PySem.SeqAt
variable[WW]
mutual
def Hu(h:Heap):U->Value->Prop
 |.non,v=>v=.none
 |.bl b,v=>v=.bool b
 |.int i,v=>∃t,v=.int i t
 |.str x,v=>∃t,v=.str x t
 |.tup us,v=>∃(a:Addr)(its:Array Value),v=.ref a/\h.IsTuple a its/\HuL h us its.toList
 |.ref _,_=>False
def HuL(h:Heap):List U->List Value->Prop
 |[],vs=>vs=[]
 |u::us,vs=>∃v r,vs=v::r/\Hu h u v/\HuL h us r
end
mutual
def fl:U->Bool
 |.ref _=>false
 |.tup us=>flL us
 |_=>true
def flL:List U->Bool
 |[]=>true
 |u::us=>fl u&&flL us
end
mutual
def eqU:U->U->Bool
 |.non,.non=>true
 |.bl a,.bl b=>a==b
 |.int i,.int j=>i==j
 |.str x,.str y=>x==y
 |.tup a,.tup b=>eqL a b
 |.ref a,.ref b=>a==b
 |_,_=>false
def eqL:List U->List U->Bool
 |[],[]=>true
 |u::us,w::ws=>eqU u w&&eqL us ws
 |_,_=>false
end
mutual
def okU:U->U->Bool
 |.bl _,.int _=>false
 |.int _,.bl _=>false
 |.tup a,.tup b=>okL a b
 |_,_=>true
def okL:List U->List U->Bool
 |u::us,w::ws=>okU u w&&okL us ws
 |_,_=>true
end
section
variable{P:Program}{w:World}{H:Hp}{h:Heap}
mutual
theorem Ur.hu(ok:HOk P w H h):∀{u:U}{v:V}{x:Value},fl u=true->Ur H u v->z0A v x->Hu h u x
 |.non,_,_,_,q,r|.bl _,_,_,_,q,r|.int _,_,_,_,q,r|.str _,_,_,_,q,r=>by
  simp only[Ur]at q;subst q;simp only[Hu];exact r
 |.tup us,_,_,k,q,r=>by
  simp only[Ur]at q;simp only[fl]at k;obtain⟨a,vs,rfl,e,q⟩:=q;cases r;obtain⟨_,its,n,rv,h1⟩:=ok a _ e;simp only[Hu];exact⟨a,its.toArray,rfl,⟨_,h1,rfl,n,rfl⟩,UrL.hu ok k q rv⟩
 |.ref _,_,_,k,_,_=>by simp[fl]at k
theorem UrL.hu(ok:HOk P w H h):∀{us:List U}{vs:List V}{xs:List Value},flL us=true->UrL H us vs->z0B vs xs->HuL h us xs
 |[],_,_,_,q,r=>by
  simp only[UrL]at q;subst q;cases r;simp only[HuL]
 |u::us,_,_,k,q,r=>by
  simp only[UrL]at q;simp only[flL,y0h]at k;obtain⟨v,z,rfl,q1,q2⟩:=q;cases r with
  |cons r1 r2 =>
   simp only[HuL];exact⟨_,_,rfl,Ur.hu ok k.1 q1 r1,UrL.hu ok k.2 q2 r2⟩
end
end
mutual
theorem z2D:∀{u w:U},eqU u w=true->u=w
 |.non,w,h=>by cases w<;>simp[eqU]at h⊢
 |.bl _,w,h|.int _,w,h|.str _,w,h|.ref _,w,h=>by cases w<;>simp[eqU]at h⊢;exact h
 |.tup us,w,h=>by cases w<;>simp only[eqU,y0B]at h;rw[zcj h]
theorem zcj:∀{us ws:List U},eqL us ws=true->us=ws
 |[],[],_=>rfl
 |[],_::_,h=>by simp[eqL]at h
 |_::_,[],h=>by simp[eqL]at h
 |u::us,w::ws,h=>by simp only[eqL,y0h]at h;rw[z2D h.1,zcj h.2]
end
mutual
theorem Hu.eq{h:Heap}:∀{u w:U}{x:Value},Hu h u x->Hu h w x->eqU u w=true
 |.non,w,_,p,q=>by simp only[Hu]at p;subst p;cases w<;>simp[Hu]at q;rfl
 |.bl _,w,_,p,q=>by simp only[Hu]at p;subst p;cases w<;>simp[Hu]at q;subst q;simp[eqU]
 |.int _,w,_,p,q|.str _,w,_,p,q=>by simp only[Hu]at p;obtain⟨t,rfl⟩:=p;cases w<;>simp[Hu]at q;subst q;simp[eqU]
 |.tup us,w,_,p,q=>by
  simp only[Hu]at p;obtain⟨a,its,rfl,ta,hi⟩:=p;cases w<;>simp only[Hu,reduceCtorEq,false_and,exists_const]at q;obtain⟨b,itt,e,tb,hi'⟩:=q;cases e;obtain⟨o1,e1,_,n1,d1⟩:=ta;obtain⟨o2,e2,_,n2,d2⟩:=tb;rw[e1]at e2;cases e2;rw[d1]at d2;injection d2 with d2;subst d2;simp only[eqU];exact HuL.eq hi hi'
 |.ref _,_,_,p,_=>by simp only[Hu]at p
theorem HuL.eq{h:Heap}:∀{us ws:List U}{xs:List Value},HuL h us xs->HuL h ws xs->eqL us ws=true
 |[],[],_,_,_=>by simp only[eqL]
 |[],_::_,_,p,q=>by simp only[HuL]at p q;subst p;obtain⟨_,_,e,_⟩:=q;cases e
 |_::_,[],_,p,q=>by simp only[HuL]at p q;subst q;obtain⟨_,_,e,_⟩:=p;cases e
 |u::us,w::ws,_,p,q=>by simp only[HuL]at p q;obtain⟨v,r,rfl,p1,p2⟩:=p;obtain⟨v',r',e,q1,q2⟩:=q;cases e;simp only[eqL,Hu.eq p1 q1,HuL.eq p2 q2,Bool.and_self]
end
theorem z4M{A:Around}{s:Shared}{n:Nat}(one:∀{u w:U}{x y:Value},dep u<=n->Hu s.heap u x->Hu s.heap w y->okU u w=true->EqAt A s x y (eqU u w)) :
  ∀{us ws:List U}{xs ys:List Value},z6t us<=n->HuL s.heap us xs->HuL s.heap ws ys->okL us ws=true ->
  ∃e:Nat->Bool,(∀j (h1:j<xs.length) (h2:j<ys.length),EqAt A s xs[j] ys[j] (e j))/\((List.range (min xs.length ys.length)).all e&&xs.length==ys.length)=eqL us ws
 |[],ws,xs,ys,_,h1,h2,_=>by
  simp only[HuL]at h1;subst h1;refine⟨λ_=>true,λj z=>absurd z (by simp),?_⟩;cases ws with
  |nil=>simp only[HuL]at h2;subst h2;simp[eqL]
  |cons w ws=>simp only[HuL]at h2;obtain⟨v,r,rfl,_⟩:=h2;simp[eqL]
 |u::us,[],xs,ys,_,h1,h2,_=>by
  simp only[HuL]at h1 h2;obtain⟨v,r,rfl,_⟩:=h1;subst h2;exact⟨λ_=>true,λj _ z=>absurd z (by simp),by simp[eqL]⟩
 |u::us,w::ws,xs,ys,hd,h1,h2,ok=>by
  simp only[HuL]at h1 h2;simp only[z6t]at hd;simp only[okL,y0h]at ok;obtain⟨v,r,rfl,a1,a2⟩:=h1;obtain⟨v',r',rfl,b1,b2⟩:=h2;obtain⟨e,g1,g2⟩:=z4M one (by lia) a2 b2 ok.2;refine⟨λj=>match j with|0=>eqU u w|j+1=>e j,λj z1 z2=>?_,?_⟩
  .cases j with
   |zero=>exact one (by lia) a1 b1 ok.1
   |succ j=>exact g1 j (by simpa using z1) (by simpa using z2)
  .simp only[eqL];rw[<-g2];have e1:min (v::r).length (v'::r').length=min r.length r'.length+1:=by simp only[y0b];lia
   rw[e1,List.range_succ_eq_map,y36,List.all_map,Bool.and_assoc];have e4:((v::r).length==(v'::r').length)=(r.length==r'.length):=by simp
   rw[e4];rfl
def zdh{s:Shared}:∀(n:Nat)(A:Around){u w:U}{x y:Value},dep u<=n->A.units+n<cLine->Hu s.heap u x->Hu s.heap w y->okU u w=true -> EqAt A s x y (eqU u w)/\RcAt A s x y (eqU u w)/\RcNeAt A s x y (!eqU u w):=by
 intro n;induction n with
 |zero =>
  intro A u w x y hd hu hx hy o;cases u<;>simp only[Hu]at hx<;>simp only[dep,Nat.le_zero,Nat.add_eq_zero_iff,Nat.one_ne_zero,and_false]at hd<;>cases w<;>simp only[okU,y0B]at o<;>simp only[Hu]at hy<;>simp only[eqU]
  .subst hx hy;exact⟨EqAt.same _,RcAt.none_none,RcNeAt.none_none⟩
  .subst hx hy;exact⟨EqAt.none_bool _,RcAt.none_bool _,RcNeAt.none_bool _⟩
  .subst hx;obtain⟨t,rfl⟩:=hy;exact⟨EqAt.none_int _ _,RcAt.none_int _ _,RcNeAt.none_int _ _⟩
  .subst hx;obtain⟨t,rfl⟩:=hy;exact⟨EqAt.none_str _ _,RcAt.none_str _ _,RcNeAt.none_str _ _⟩
  .subst hx;obtain⟨a,its,rfl,t,_⟩:=hy;exact⟨EqAt.none_tuple t (by lia),RcAt.none_tuple t (by lia),RcNeAt.none_tuple t (by lia)⟩
  .subst hx hy;exact⟨EqAt.bool_none _,RcAt.bool_none _,RcNeAt.bool_none _⟩
  .subst hx hy;exact⟨EqAt.bool_bool _ _,RcAt.bool_bool _ _,RcNeAt.bool_bool _ _⟩
  .subst hx;obtain⟨t,rfl⟩:=hy;exact⟨EqAt.bool_str _ _ _,RcAt.bool_str _ _ _,RcNeAt.bool_str _ _ _⟩
  .subst hx;obtain⟨a,its,rfl,t,_⟩:=hy;exact⟨EqAt.bool_tuple _ t (by lia),RcAt.bool_tuple _ t (by lia),RcNeAt.bool_tuple _ t (by lia)⟩
  .obtain⟨t,rfl⟩:=hx;subst hy;exact⟨EqAt.int_none _ _,RcAt.int_none _ _,RcNeAt.int_none _ _⟩
  .obtain⟨t,rfl⟩:=hx;obtain⟨t',rfl⟩:=hy;exact⟨EqAt.int_int _ _ _ _,RcAt.int_int _ _ _ _,RcNeAt.int_int _ _ _ _⟩
  .obtain⟨t,rfl⟩:=hx;obtain⟨t',rfl⟩:=hy;exact⟨EqAt.int_str _ _ _ _,RcAt.int_str _ _ _ _,RcNeAt.int_str _ _ _ _⟩
  .obtain⟨t,rfl⟩:=hx;obtain⟨a,its,rfl,t',_⟩:=hy;exact⟨EqAt.int_tuple _ _ t' (by lia),RcAt.int_tuple _ _ t' (by lia),RcNeAt.int_tuple _ _ t' (by lia)⟩
  .obtain⟨t,rfl⟩:=hx;subst hy;exact⟨EqAt.str_none _ _,RcAt.str_none _ _,RcNeAt.str_none _ _⟩
  .obtain⟨t,rfl⟩:=hx;subst hy;exact⟨EqAt.str_bool _ _ _,RcAt.str_bool _ _ _,RcNeAt.str_bool _ _ _⟩
  .obtain⟨t,rfl⟩:=hx;obtain⟨t',rfl⟩:=hy;exact⟨EqAt.str_int _ _ _ _,RcAt.str_int _ _ _ _,RcNeAt.str_int _ _ _ _⟩
  .obtain⟨t,rfl⟩:=hx;obtain⟨t',rfl⟩:=hy;exact⟨EqAt.str_str _ _ _ _,RcAt.str_str _ _ _ _,RcNeAt.str_str _ _ _ _⟩
  .obtain⟨t,rfl⟩:=hx;obtain⟨a,its,rfl,t',_⟩:=hy;exact⟨EqAt.str_tuple _ _ t' (by lia),RcAt.str_tuple _ _ t' (by lia),RcNeAt.str_tuple _ _ t' (by lia)⟩
 |succ n ih =>
  intro A u w x y hd hu hx hy o;by_cases hz:dep u=0
  .exact ih A (by lia) (by lia) hx hy o
  .cases u<;>simp only[dep,ne_eq,not_true_eq_false]at hz;rename_i us;simp only[Hu]at hx;obtain⟨a,its,rfl,ta,hi⟩:=hx;cases w<;>simp only[okU,y0B]at o<;>simp only[Hu]at hy<;>simp only[eqU]
   .subst hy;exact⟨EqAt.tuple_none ta (by lia),RcAt.tuple_none ta (by lia),RcNeAt.tuple_none ta (by lia)⟩
   .subst hy;exact⟨EqAt.tuple_bool _ ta (by lia),RcAt.tuple_bool _ ta (by lia),RcNeAt.tuple_bool _ ta (by lia)⟩
   .obtain⟨t,rfl⟩:=hy;exact⟨EqAt.tuple_int _ _ ta (by lia),RcAt.tuple_int _ _ ta (by lia),RcNeAt.tuple_int _ _ ta (by lia)⟩
   .obtain⟨t,rfl⟩:=hy;exact⟨EqAt.tuple_str _ _ ta (by lia),RcAt.tuple_str _ _ ta (by lia),RcNeAt.tuple_str _ _ ta (by lia)⟩
   .obtain⟨b,itt,rfl,tb,hi'⟩:=hy;rename_i ws;simp only[dep]at hd;have hin:A.in1.units+n<cLine:=by show A.units+1+n<cLine;lia
    obtain⟨e,g1,g2⟩:=z4M (A:=A.in1) (n:=n) (λh1 h2 h3 h4=>(ih A.in1 h1 hin h2 h3 h4).1) (by lia) hi hi' o;have R:=RcAt.tuples (A:=A) (e:=e) ta tb (by lia) λj h1 h2=>g1 j h1 h2;have N:=RcNeAt.tuples (A:=A) (e:=e) ta tb (by lia) λj h1 h2=>g1 j h1 h2;simp only[y1B]at g2;rw[g2]at R N;refine⟨?_,R,N⟩;by_cases z:a=b
    .subst z;have q:=Hu.eq (h:=s.heap) (u:=.tup us) (w:=.tup ws) (x:=.ref a) (by simp only[Hu];exact⟨a,its,rfl,ta,hi⟩) (by simp only[Hu];exact⟨a,itt,rfl,tb,hi'⟩);simp only[eqU]at q;rw[q];exact EqAt.same _
    .exact EqAt.of_refs z R
open PySem L2 PySem.SeqAt
variable[WW]
def Kp.same{H H':Hp}(s:Same H H'):Kp H H':=⟨λa _ e=>s a _ e,λa _ _ e=>s a _ e⟩
theorem Rep.same{hd:Hd}{S:Sto}{H H':Hp}(r:Rep hd S H)(s:Same H H'):Rep hd S H':=⟨λa o e=>by obtain⟨x,q⟩:=(r.1 a o e).some;exact(r.1 a o e).mono (.same s) (by rw[s a x q,q]),λp hp=>⟨(r.2.1 p hp).1,s _ _ (r.2.1 p hp).2.1,(r.2.1 p hp).2.2⟩,(L2.Same.l s).tabs r.2.2⟩
def nw(o:Ob)(S:Sto)(Q:Kq U):Prop:=∀p,S p=none->Q (.ref p) (up S p o)
section
variable{hd:Hd}{H H':Hp}{Q:Kq U}{Q':VK}{S:Sto}
def Co.put(c:Co hd Ur H Q Q')(r:Rep hd S H){u:U}{v:V}(k:Ur H u v)(q:Q u S):Q' v H:=c u S v H (.refl H) r k q
def Co.tupS(c:Co hd Ur H Q Q')(r:Rep hd S H){us:List U}{vs:List V}{p:Addr}(u:UrL H us vs)(q:Q (.tup us) S)(s:Same H H')(e:H' p=some (.tup vs)):Q' (.ref p) H' :=
 c _ S _ H' (.same s) (r.same s) (by simp only[Ur];exact⟨p,vs,rfl,e,u.mono (.same s)⟩) q
theorem Co.tup(c:Co hd Ur H Q Q')(r:Rep hd S H){us:List U}{vs:List V}{p:Addr}(u:UrL H us vs)(q:Q (.tup us) S)(hp:H p=none):Q' (.ref p) (upd H p (.tup vs)) :=
 c.tupS r u q (Gu.same_up (Same.refl H) hp) z0e
theorem Co.lst(c:Co hd Ur H Q Q')(r:Rep hd S H){us:List U}{vs:List V}{p:Addr}(u:UrL H us vs)(q:nw (.lst us) S Q)(hp:H p=none):Q' (.ref p) (upd H p (.lst vs)) :=
 c _ _ _ _ (.new hp) (r.up (o:=.lst us) (.new hp) (.inl hp) ⟨vs,z0e,u.mono (.new hp)⟩) (by simp only[Ur]) (q p (r.none hp))
end
def zim:WF
 |.int i,.int j,S,Q=>Q (.int (i+j)) S
 |.str x,.str y,S,Q=>x.length+y.length<=sizeLine/\Q (.str (x++y)) S
 |.tup a,.tup b,S,Q=>a.length+b.length<=sizeLine/\Q (.tup (a++b)) S
 |.ref a,.ref b,S,Q=>∃us ws,S a=some (.lst us)/\S b=some (.lst ws)/\us.length+ws.length<=sizeLine/\nw (.lst (us++ws)) S Q
 |_,_,_,_=>False
def ziW:WF
 |.int i,.int j,S,Q=>Q (.int (i-j)) S
 |_,_,_,_=>False
def rep{α:Type}(k:Int)(us:List α):List α:=(List.replicate k.toNat us).flatten
def zji:WF
 |.int i,.int j,S,Q=>zhc i j/\Q (.int (i*j)) S
 |.tup us,.int k,S,Q=>-1000<=k/\k<=1000000/\us.length*k.toNat<=sizeLine/\Q (.tup (rep k us)) S
 |.ref a,.int k,S,Q=>∃us,S a=some (.lst us)/\-(2^63)<=k/\k<2^63/\us.length*k.toNat<=sizeLine/\nw (.lst (rep k us)) S Q
 |_,_,_,_=>False
def zi2:WF
 |.int i,.int j,S,Q=>0<j/\Q (.int (i%j)) S
 |_,_,_,_=>False
def zjs:WF
 |.int i,.int j,S,Q=>zj5 i j/\Q (.int (i/j)) S
 |_,_,_,_=>False
def zj3:WF
 |.int i,.int j,S,Q=>zjj i j/\Q (.int (i^j.toNat)) S
 |_,_,_,_=>False
def zjx(p:Int->Int->Bool):WF
 |.int i,.int j,S,Q=>Q (.bl (p i j)) S
 |_,_,_,_=>False
def isL(S:Sto)(a:Addr)(us:List U):Prop:=S a=some (.lst us)\/S a=some (.scr us)
def fEq(n:Bool):WF
 |.ref a,.ref b,S,Q=>∃us ws,isL S a us/\isL S b ws/\(flL us&&flL ws&&okL us ws&&decide (z6t us<=40))=true/\Q (.bl (n != eqL us ws)) S
 |x,y,S,Q=>(fl x&&fl y&&okU x y&&decide (dep x<=40))=true/\Q (.bl (n != eqU x y)) S
def isN:U->Bool
 |.non=>true
 |_=>false
def fIs(n:Bool):WF
 |x,.non,S,Q=>Q (.bl (n != isN x)) S
 |_,_,_,_=>False
theorem z6i{H:Hp}{us:List U}{vs:List V}(h:UrL H us vs):∀(n:Nat),UrL H (List.replicate n us).flatten (List.replicate n vs).flatten
 |0=>.nil
 |n+1=>by rw[y0O,y0O,y14,y14];exact h.app (z6i h n)
def urI{H:Hp}{i:Int}{v:V}(h:Ur H (.int i) v):v=.int i:=by simpa only[Ur]using h
def urB{H:Hp}{i:Bool}{v:V}(h:Ur H (.bl i) v):v=.bl i:=by simpa only[Ur]using h
def urS{H:Hp}{i:Str}{v:V}(h:Ur H (.str i) v):v=.str i:=by simpa only[Ur]using h
def urR{H:Hp}{i:Addr}{v:V}(h:Ur H (.ref i) v):v=.ref i:=by simpa only[Ur]using h
def urT{H:Hp}{us:List U}{v:V}(h:Ur H (.tup us) v):∃a vs,v=.ref a/\H a=some (.tup vs)/\UrL H us vs:=by simpa only[Ur]using h
def uI{H:Hp}{i:Int}:Ur H (.int i) (.int i):=by simp only[Ur]
def uB{H:Hp}{i:Bool}:Ur H (.bl i) (.bl i):=by simp only[Ur]
def uS{H:Hp}{i:Str}:Ur H (.str i) (.str i):=by simp only[Ur]
theorem isL.of{hd:Hd}{S:Sto}{H:Hp}{K:yyF}{a:Addr}{us:List U}(h:isL S a us)(r:Rep hd S H):∃vs,SqL K H a vs/\UrL H us vs:=by
 rcases h with h|h
 .obtain⟨vs,e,u⟩:=r.1 a _ h;exact⟨vs,.of e,u⟩
 .obtain⟨o,vs,e,u⟩:=r.1 a _ h;exact⟨vs,.inl (.inr ⟨o,e⟩),u⟩
section
variable{X:Cx}
def z15:OpR X (binaryOp .Add) (rW zim):=by
 rintro pins s σ H v1 v2 x1 x2 Q' I r1 r2 ⟨hd,x,y,S,Q,r,u1,u2,c,h⟩;cases x<;>cases y<;>simp only[zim]at h
 .obtain rfl:=urI u1;obtain rfl:=urI u2;exact zgY pins s σ H _ _ _ _ _ I r1 r2 ⟨_,_,rfl,rfl,c.put r uI h⟩
 .obtain rfl:=urS u1;obtain rfl:=urS u2;exact z8C pins s σ H _ _ _ _ _ I r1 r2 ⟨_,_,rfl,rfl,h.1,c.put r uS h.2⟩
 .obtain⟨a,vs,rfl,e1,l1⟩:=urT u1;obtain⟨b,ws,rfl,e2,l2⟩:=urT u2;exact zdi pins s σ H _ _ _ _ _ I r1 r2 ⟨a,b,vs,ws,rfl,rfl,e1,e2,by rw[<-l1.len,<-l2.len];exact h.1,λp H' sm e=>c.tupS r (l1.app l2) h.2 sm e⟩
 .obtain rfl:=urR u1;obtain rfl:=urR u2;obtain⟨us,ws,h1,h2,hl,q⟩:=h;obtain⟨vs,e1,l1⟩:=r.1 _ _ h1;obtain⟨vs',e2,l2⟩:=r.1 _ _ h2;exact zff pins s σ H _ _ _ _ _ I r1 r2 ⟨_,_,vs,vs',rfl,rfl,e1,e2,by rw[<-l1.len,<-l2.len];exact hl,λp hp=>c.lst r (l1.app l2) q hp⟩
def zef{op:Operator}{f:WF}{C:Int->Int->Prop}{g:Int->Int->Int}(o:OpR X (binaryOp op) (rI C λi j=>.int (g i j)))(hf:∀x y S Q,f x y S Q->∃i j,x=.int i/\y=.int j/\C i j/\Q (.int (g i j)) S):OpR X (binaryOp op) (rW f):=by rintro pins s σ H v1 v2 x1 x2 Q' I r1 r2 ⟨hd,x,y,S,Q,r,u1,u2,c,h⟩;obtain⟨i,j,rfl,rfl,hc,q⟩:=hf x y S Q h;obtain rfl:=urI u1;obtain rfl:=urI u2;exact o pins s σ H _ _ _ _ _ I r1 r2 ⟨i,j,rfl,rfl,hc,c.put r uI q⟩
def z2k:OpR X (binaryOp .Sub) (rW ziW):=by rintro pins s σ H v1 v2 x1 x2 Q' I r1 r2 ⟨hd,x,y,S,Q,r,u1,u2,c,h⟩;cases x<;>cases y<;>simp only[ziW]at h;obtain rfl:=urI u1;obtain rfl:=urI u2;exact zfe pins s σ H _ _ _ _ _ I r1 r2 ⟨_,_,rfl,rfl,c.put r uI h⟩
def z10:OpR X (binaryOp .Mod) (rW zi2):=zef zgw λx y S Q h=>by cases x<;>cases y<;>simp only[zi2]at h;exact⟨_,_,rfl,rfl,h⟩
def z52:OpR X (binaryOp .FloorDiv) (rW zjs):=zef zcP λx y S Q h=>by cases x<;>cases y<;>simp only[zjs]at h;exact⟨_,_,rfl,rfl,h⟩
def zhH:OpR X (binaryOp .Pow) (rW zj3):=zef zfN λx y S Q h=>by cases x<;>cases y<;>simp only[zj3]at h;exact⟨_,_,rfl,rfl,h⟩
def z4a:OpR X (binaryOp .Mult) (rW zji):=by
 rintro pins s σ H v1 v2 x1 x2 Q' I r1 r2 ⟨hd,x,y,S,Q,r,u1,u2,c,h⟩;cases x<;>cases y<;>simp only[zji]at h
 .obtain rfl:=urI u1;obtain rfl:=urI u2;exact zf1 pins s σ H _ _ _ _ _ I r1 r2 ⟨_,_,rfl,rfl,h.1,c.put r uI h.2⟩
 .obtain⟨a,vs,rfl,e1,l1⟩:=urT u1;obtain rfl:=urI u2;exact zaZ pins s σ H _ _ _ _ _ I r1 r2 ⟨a,_,vs,rfl,rfl,e1,h.1,h.2.1,by rw[<-l1.len];exact h.2.2.1,λp H' sm e=>c.tupS r (z6i l1 _) h.2.2.2 sm e⟩
 .obtain rfl:=urR u1;obtain rfl:=urI u2;obtain⟨us,h1,k1,k2,hl,q⟩:=h;obtain⟨vs,e1,l1⟩:=r.1 _ _ h1;exact zgT pins s σ H _ _ _ _ _ I r1 r2 ⟨_,_,vs,rfl,rfl,e1,k1,k2,by rw[<-l1.len];exact hl,λp hp=>c.lst r (z6i l1 _) q hp⟩
def z16{op:CmpOp}{p:Int->Int->Bool}(o:OpR X (compareOp op) (rI0 λi j=>.bl (p i j))):OpR X (compareOp op) (rW (zjx p)):=by rintro pins s σ H v1 v2 x1 x2 Q' I r1 r2 ⟨hd,x,y,S,Q,r,u1,u2,c,h⟩;cases x<;>cases y<;>simp only[zjx]at h;obtain rfl:=urI u1;obtain rfl:=urI u2;exact o pins s σ H _ _ _ _ _ I r1 r2 ⟨_,_,rfl,rfl,c.put r uB h⟩
def zgj{us:List U}(h:z6t us<=40)(hu:X.A.units+64<cLine):X.A.in1.units+40<cLine:=by show X.A.units+1+40<cLine;lia
def z7I{a b:Addr}{us ws:List U}{pins:yyP}{σ:St}{H:Hp}{s:Shared}{hd:Hd}{S:Sto}(hu:X.A.units+64<cLine)(I:Inv X pins σ H s)(r:Rep hd S H)(h1:isL S a us)(h2:isL S b ws)(h3:flL us=true)(h4:flL ws=true)(h5:okL us ws=true)(h6:z6t us<=40) : RcAt X.A s (.ref a) (.ref b) (eqL us ws)/\RcNeAt X.A s (.ref a) (.ref b) (!eqL us ws):=by
 obtain⟨vs,e1,l1⟩:=h1.of (K:=X.K) r;obtain⟨vs',e2,l2⟩:=h2.of (K:=X.K) r;obtain⟨its,rv,pl,_⟩:=I.list e1;obtain⟨itt,rv',pl',_⟩:=I.list e2;obtain⟨e,g1,g2⟩:=z4M (A:=X.A.in1) (n:=40) (λq1 q2 q3 q4=>(zdh 40 X.A.in1 q1 (zgj h6 hu) q2 q3 q4).1) h6 (UrL.hu I.hok h3 l1 rv) (UrL.hu I.hok h4 l2 rv') h5;by_cases hl:its.length=itt.length
 .have R:=RcAt.lists (A:=X.A) (e:=e) pl.isList pl'.isList (by simpa using hl) (by lia) λj h1 h2=>by simpa using g1 j (by simpa using h1) (by simpa using h2)
  have N:=RcNeAt.lists (A:=X.A) (e:=e) pl.isList pl'.isList (by simpa using hl) (by lia) λj h1 h2=>by simpa using g1 j (by simpa using h1) (by simpa using h2)
  have z:(List.range its.toArray.size).all e=eqL us ws:=by
   rw[<-g2];have:min its.length itt.length=its.length:=by lia
   rw[this];simp[hl]
  rw[z]at R N;exact⟨R,N⟩
 .have z:eqL us ws=false:=by
   rw[<-g2];have:(its.length==itt.length)=false:=by simpa using hl
   rw[this,Bool.and_false]
  rw[z];exact⟨RcAt.lists_lengths (A:=X.A) pl.isList pl'.isList (by simpa using hl) (by lia),RcNeAt.lists_lengths (A:=X.A) pl.isList pl'.isList (by simpa using hl) (by lia)⟩
def z2o(hu:X.A.units+64<cLine):OpR X (compareOp .Eq) (rW (fEq false))/\OpR X (compareOp .NotEq) (rW (fEq true)):=by
 have data:∀{pins:yyP}{s:Shared}{σ:St}{H:Hp}{x y:U}{v1 v2:V}{x1 x2:Value},Inv X pins σ H s->z0A v1 x1->z0A v2 x2->Ur H x v1->Ur H y v2->(fl x&&fl y&&okU x y&&decide (dep x<=40))=true->RcAt X.A s x1 x2 (eqU x y)/\RcNeAt X.A s x1 x2 (!eqU x y):=by intro pins s σ H x y v1 v2 x1 x2 I r1 r2 u1 u2 h;simp only[y0h,y2J]at h;obtain⟨⟨⟨h1,h2⟩,h3⟩,h4⟩:=h;exact(zdh 40 X.A h4 (by lia) (Ur.hu I.hok h1 u1 r1) (Ur.hu I.hok h2 u2 r2) h3).2
 constructor
 .rintro pins s σ H v1 v2 x1 x2 Q' I r1 r2 ⟨hd,x,y,S,Q,r,u1,u2,c,h⟩;unfold fEq at h;split at h
  .obtain⟨us,ws,h1,h2,h3,q⟩:=h;simp only[y0h,y2J]at h3;obtain rfl:=urR u1;obtain rfl:=urR u2;cases r1;cases r2;exact(z7I hu I r h1 h2 h3.1.1.1 h3.1.1.2 h3.1.2 h3.2).1 _ _ _ _ ⟨.bl _,H,I,rfl,c.put r uB (by simpa using q)⟩
  .exact(data I r1 r2 u1 u2 h.1).1 _ _ _ _ ⟨.bl _,H,I,rfl,c.put r uB (by simpa using h.2)⟩
 .rintro pins s σ H v1 v2 x1 x2 Q' I r1 r2 ⟨hd,x,y,S,Q,r,u1,u2,c,h⟩;unfold fEq at h;split at h
  .obtain⟨us,ws,h1,h2,h3,q⟩:=h;simp only[y0h,y2J]at h3;obtain rfl:=urR u1;obtain rfl:=urR u2;cases r1;cases r2;exact(z7I hu I r h1 h2 h3.1.1.1 h3.1.1.2 h3.1.2 h3.2).2 _ _ _ _ ⟨.bl _,H,I,rfl,c.put r uB (by simpa using q)⟩
  .exact(data I r1 r2 u1 u2 h.1).2 _ _ _ _ ⟨.bl _,H,I,rfl,c.put r uB (by simpa using h.2)⟩
def zf5{H:Hp}{u:U}{v:V}(h:Ur H u v):decide (v=.non)=isN u:=by
 cases u<;>simp only[Ur]at h
 .subst h;rfl
 .subst h;rfl
 .subst h;rfl
 .subst h;rfl
 .obtain⟨a,vs,rfl,_⟩:=h;rfl
 .subst h;rfl
def zhA:OpR X (compareOp .Is) (rW (fIs false)):=by rintro pins s σ H v1 v2 x1 x2 Q' I r1 r2 ⟨hd,x,y,S,Q,r,u1,u2,c,h⟩;cases y<;>simp only[fIs]at h;simp only[Ur]at u2;subst u2;exact zgS pins s σ H _ _ _ _ _ I r1 r2 ⟨rfl,c.put r uB (by rw[zf5 u1];simpa using h)⟩
end
open PySem L2 PySem.SeqAt
variable[WW]
def opt{α:Type}(o:Option α)(k:α->Prop):Prop:=match o with
 |some u=>k u
 |none=>False
def opt.of{α:Type}{o:Option α}{u:α}{k:α->Prop}(h:o=some u)(q:k u):opt o k:=by subst h;exact q
def opt.ex{α:Type}{o:Option α}{k:α->Prop}(h:opt o k):∃u,o=some u/\k u:=by
 cases o with
 |none=>exact h.elim
 |some u=>exact⟨u,rfl,h⟩
def z0x{b:Bool}{A B:Prop}(h1:b=true->A)(h2:b=false->B):cond b A B:=by cases b;exact h2 rfl;exact h1 rfl
abbrev Rb:Hp->Bool->Bool->Prop:=λ_ a b=>a=b
def tru(u:U)(S:Sto)(k:Bool->Prop):Prop:=match u with
 |.non=>k false
 |.bl b=>k b
 |.int i=>k (i != 0)
 |.str x=>x.length<=sizeLine/\k ((x.length:Int) != 0)
 |.tup us=>k (!us.isEmpty)
 |.ref a=>∃us,isL S a us/\k (!us.isEmpty)
def zcQ(t:WE):WT:=λρ S Q E=>t ρ S (λu S1=>tru u S1 λb=>Q b S1) E
def zjt(a b:WT):WT:=λρ S Q E=>a ρ S (λc S1=>cond c (b ρ S1 Q E) (Q false S1)) E
def wOr(a b:WT):WT:=λρ S Q E=>a ρ S (λc S1=>cond c (Q true S1) (b ρ S1 Q E)) E
def zkk(a:WT):WT:=λρ S Q E=>a ρ S (λc S1=>Q (!c) S1) E
def isB(u:U)(k:Bool->Prop):Prop:=match u with
 |.bl b=>k b
 |_=>False
def zhO(a b:WE):WE:=λρ S Q E=>a ρ S (λx S1=>isB x λc=>cond c (b ρ S1 Q E) (Q (.bl false) S1)) E
def zhF(a:WE):WE:=λρ S Q E=>a ρ S (λx S1=>isB x λc=>Q (.bl (!c)) S1) E
def wIf(c:WT)(a b:WE):WE:=λρ S Q E=>c ρ S (λk S1=>cond k (a ρ S1 Q E) (b ρ S1 Q E)) E
def z9N(f g:WF)(ta tb tc:WE):WE:=λρ S Q E=>ta ρ S (λx S1=>tb ρ S1 (λy S2=>f x y S2 (λz S3=>isB z λk=>cond k (tc ρ S3 (λw S4=>g y w S4 Q) E) (Q (.bl false) S3))) E) E
def isB.ex{u:U}{k:Bool->Prop}(h:isB u k):∃b,u=.bl b/\k b:=by cases u<;>simp only[isB]at h;exact⟨_,rfl,h⟩
def zan{H:Hp}{us:List U}{vs:List V}(h:UrL H us vs):(!us.isEmpty)=!vs.isEmpty:=by have:=h.len;cases us<;>cases vs<;>simp at this⊢
section
variable{xa:Nat->Addr}{X:Cx}{xk:St->XK}{a b c:Expr}{ta tb tc:WE}{pos:Pos}
def z3X{op:CmpOp}{f:WF}(ho:OpR X (compareOp op) (rW f))(ha:SE xa X xk a ta)(hb:SE xa X xk b tb)(hm:behindInMarks op b=false:=by first|exact zcp _|rfl):SE xa X xk (.Compare a [op] [b] pos) (w2 f ta tb) :=
 PE.weak (zdj ho ha hb hm) λσ H Q h=>lt2 h
def zdV{t:WE}{tt:WT}{σ:St}{H:Hp}{Q':Bool->Hp->Prop}(h:Lt xa xk Rb (zcQ t) σ H Q'){T:VK}(hT:∀v H1 k,zhX X.K v H1 k->Q' k H1->T v H1):Lt xa xk Ur t σ H T:=by
 refine Lt.bind (f:=λu ρ S1 Q E=>tru u S1 λb=>Q b S1) h λhd ρ S Q E u v H1 e1 r1 u1 q1 c1=>?_;cases u<;>simp only[tru]at q1
 .simp only[Ur]at u1;subst u1;exact hT _ _ _ rfl (c1.ok _ S _ H1 (.refl _) r1 rfl q1)
 .obtain rfl:=urB u1;exact hT _ _ _ rfl (c1.ok _ S _ H1 (.refl _) r1 rfl q1)
 .obtain rfl:=urI u1;exact hT _ _ _ rfl (c1.ok _ S _ H1 (.refl _) r1 rfl q1)
 .obtain rfl:=urS u1;exact hT _ _ _ ⟨q1.1,rfl⟩ (c1.ok _ S _ H1 (.refl _) r1 rfl q1.2)
 .obtain⟨p,vs,rfl,e,l⟩:=urT u1;exact hT _ _ _ (.inr (.inl ⟨vs,.of e,zan l⟩)) (c1.ok _ S _ H1 (.refl _) r1 rfl q1)
 .obtain rfl:=urR u1;obtain⟨us,hl,q⟩:=q1;obtain⟨vs,e,l⟩:=hl.of (K:=X.K) r1;exact hT _ _ _ (.inl ⟨vs,e,zan l⟩) (c1.ok _ S _ H1 (.refl _) r1 rfl q)
def z1o(ha:SE xa X xk a ta)(he:∀whole,isTrue a X.env whole=(do let v <-whole;standAt a.pos;holding [v] (truthy v)):=by intro _;rfl):ST xa X xk a (zcQ ta) :=
 PT.weak (zbD ha he) λσ H Q h=>zdV (X:=X) (tt:=zcQ ta) h λv H1 k t q=>⟨k,t,q⟩
def zfQ{t:WE}{σ:St}{H:Hp}{Q':Bool->Hp->Prop}(h:Lt xa xk Rb (λρ S Q E=>t ρ S (λu S1=>isB u λk=>Q k S1) E) σ H Q'):Lt xa xk Ur t σ H λx H'=>∃k,x=.bl k/\Q' k H' :=
 Lt.bind (f:=λu ρ S1 Q E=>isB u λk=>Q k S1) h λhd ρ S Q E u v H1 e1 r1 u1 q1 c1=>by obtain⟨k,rfl,q⟩:=q1.ex;exact⟨k,urB u1,c1.ok _ S _ H1 (.refl _) r1 rfl q⟩
def wTB(t:WE):WT:=λρ S Q E=>t ρ S (λu S1=>isB u λk=>Q k S1) E
def z0k{op:CmpOp}{f:WF}(ho:OpR X (compareOp op) (rW f))(ha:SE xa X xk a ta)(hb:SE xa X xk b tb)(hm:behindInMarks op b=false:=by first|exact zcp _|rfl):ST xa X xk (.Compare a [op] [b] pos) (wTB (w2 f ta tb)) :=
 PT.weak (zeu ho ha hb hm) λσ H Q h=>lt2 (zfQ h)
def z7J{f g:WF}{σ:St}{H:Hp}{Q':VK}(h:Lt xa xk Ur (z9N f g ta tb tc) σ H Q'):zaa (rW f) (rW g) (Lt xa xk Ur ta) (Lt xa xk Ur tb) (Lt xa xk Ur tc) σ H Q':=by
 refine Lt.bind (f:=λx ρ S1 Q E=>tb ρ S1 (λy S2=>f x y S2 (λz S3=>isB z λk=>cond k (tc ρ S3 (λw S4=>g y w S4 Q) E) (Q (.bl false) S3))) E) h λhd ρ S Q E x v1 H1 e1 r1 u1 q1 c1=>?_;refine⟨hd,ρ,S,_,E,e1,r1,q1,λy S2 v2 H2 k2 r2 u2 q2=>?_,c1.ex⟩;refine⟨hd,x,y,S2,_,r2,u1.mono k2,u2,λz S3 v3 H3 k3 r3 u3 q3=>?_,q2⟩;obtain⟨k,rfl,q⟩:=q3.ex;refine⟨k,urB u3,?_⟩;have c3:=(c1.mono k2).mono k3;cases k with
 |false=>rw[if_neg y0c];exact c3.ok _ S3 _ H3 (.refl _) r3 uB q
 |true =>
  rw[if_pos rfl];exact⟨hd,ρ,S3,_,E,(e1.mono k2).mono k3,r3,q,λw S4 v4 H4 k4 r4 u4 q4=>⟨hd,y,w,S4,Q,r4,(u2.mono k3).mono k4,u4,c3.ok.mono k4,q4⟩,c3.ex⟩
def z4A{op op':CmpOp}{f g:WF}(ho:OpR X (compareOp op) (rW f))(ho':OpR X (compareOp op') (rW g))(ha:SE xa X xk a ta)(hb:SE xa X xk b tb)(hc:SE xa X xk c tc)(hm:lastMarks [op,op'] [b,c]=false:=by with_unfolding_all rfl):SE xa X xk (.Compare a [op,op'] [b,c] pos) (z9N f g ta tb tc):=PE.weak (zbZ ho ho' ha hb hc hm) λσ H Q h=>z7J h
def z3c{op op':CmpOp}{f g:WF}(ho:OpR X (compareOp op) (rW f))(ho':OpR X (compareOp op') (rW g))(ha:SE xa X xk a ta)(hb:SE xa X xk b tb)(hc:SE xa X xk c tc)(hm:lastMarks [op,op'] [b,c]=false:=by with_unfolding_all rfl):ST xa X xk (.Compare a [op,op'] [b,c] pos) (wTB (z9N f g ta tb tc)):=PT.weak (zbL ho ho' ha hb hc hm) λσ H Q h=>z7J (zfQ h)
def z31{ta:WT}(ha:ST xa X xk a ta):ST xa X xk (.UnaryOp .Not a pos) (zkk ta):=PT.weak (zf6 ha) λσ H Q' h=>Lt.bind (f:=λc ρ S1 Q E=>Q (!c) S1) h λhd ρ S Q E u v H1 e1 r1 u1 q1 c1=>by subst u1;exact c1.ok _ S _ H1 (.refl _) r1 rfl q1
def SW(xa:Nat->Addr)(X:Cx)(xk:St->XK)(e:Expr)(t:WT):Prop:=PW X e (Lt xa xk Rb t)
def PW.weak{X:Cx}{e:Expr}{t t':TT}(h:PW X e t)(w:∀σ H Q,t' σ H Q->t σ H Q):PW X e t':=λwh pins s σ H Q I q=>h wh pins s σ H Q I (w σ H Q q)
def SW.st{e:Expr}{t:WT}(h:SW xa X xk e t):ST xa X xk e t:=PW.pt h
def z26{ta:WT}(ha:ST xa X xk a ta):SW xa X xk (.BoolOp .And [a] pos) ta:=zdH ha
def z4k{ta:WT}(ha:ST xa X xk a ta):SW xa X xk (.BoolOp .Or [a] pos) ta:=zgN ha
def zfj{ta tb:WT}{σ:St}{H:Hp}{Q':Bool->Hp->Prop}(h:Lt xa xk Rb (zjt ta tb) σ H Q'):zjg (Lt xa xk Rb ta) (Lt xa xk Rb tb) σ H Q' :=
 Lt.bind (f:=λc ρ S1 Q E=>cond c (tb ρ S1 Q E) (Q false S1)) h λhd ρ S Q E u v H1 e1 r1 u1 q1 c1=>by
  subst u1;cases u with
  |true=>rw[if_pos rfl];exact⟨hd,ρ,S,Q,E,e1,r1,q1,c1⟩
  |false=>rw[if_neg y0c];exact c1.ok _ S _ H1 (.refl _) r1 rfl q1
def zhG{ta tb:WT}{σ:St}{H:Hp}{Q':Bool->Hp->Prop}(h:Lt xa xk Rb (wOr ta tb) σ H Q'):tOr (Lt xa xk Rb ta) (Lt xa xk Rb tb) σ H Q' :=
 Lt.bind (f:=λc ρ S1 Q E=>cond c (Q true S1) (tb ρ S1 Q E)) h λhd ρ S Q E u v H1 e1 r1 u1 q1 c1=>by
  subst u1;cases u with
  |false=>rw[if_neg y0c];exact⟨hd,ρ,S,Q,E,e1,r1,q1,c1⟩
  |true=>rw[if_pos rfl];exact c1.ok _ S _ H1 (.refl _) r1 rfl q1
def z35{rest:List Expr}{ta tb:WT}(ha:ST xa X xk a ta)(hb:SW xa X xk (.BoolOp .And (b::rest) pos) tb):SW xa X xk (.BoolOp .And (a::b::rest) pos) (zjt ta tb):=PW.weak (zg3 ha hb) λσ H Q h=>zfj h
def z8f{rest:List Expr}{ta tb:WT}(ha:ST xa X xk a ta)(hb:SW xa X xk (.BoolOp .Or (b::rest) pos) tb):SW xa X xk (.BoolOp .Or (a::b::rest) pos) (wOr ta tb):=PW.weak (zi0 ha hb) λσ H Q h=>zhG h
def z3A{op}(ha:SE xa X xk a ta):SE xa X xk (.BoolOp op [a] pos) ta:=zeI ha
def z41{rest:List Expr}(ha:SE xa X xk a ta)(hb:SE xa X xk (.BoolOp .And (b::rest) pos) tb):SE xa X xk (.BoolOp .And (a::b::rest) pos) (zhO ta tb) :=
 PE.weak (zfh ha hb) λσ H Q' h=>Lt.bind (f:=λx ρ S1 Q E=>isB x λc=>cond c (tb ρ S1 Q E) (Q (.bl false) S1)) h λhd ρ S Q E u v H1 e1 r1 u1 q1 c1=>by
  obtain⟨k,rfl,q⟩:=q1.ex;refine⟨k,urB u1,?_⟩;cases k with
  |true=>rw[if_pos rfl];exact⟨hd,ρ,S,Q,E,e1,r1,q,c1⟩
  |false=>rw[if_neg y0c];exact c1.ok.put r1 uB q
def z9L(ha:SE xa X xk a ta):SE xa X xk (.UnaryOp .Not a pos) (zhF ta):=PE.weak (zgC ha) λσ H Q' h=>Lt.bind (f:=λx ρ S1 Q E=>isB x λc=>Q (U.bl (!c)) S1) h λhd ρ S Q E u v H1 e1 r1 u1 q1 c1=>by obtain⟨k,rfl,q⟩:=q1.ex;exact⟨k,urB u1,c1.ok.put r1 uB q⟩
def zik(x:U)(S:Sto)(Q:Kq U):Prop:=match x with
 |.int i=>Q (.int (-i)) S
 |_=>False
def z1Q(ha:SE xa X xk a ta):SE xa X xk (.UnaryOp .USub a pos) (λρ S Q E=>ta ρ S (λx S1=>zik x S1 Q) E):=PE.weak (zhu zeO ha) λσ H Q' h=>Lt.bind (f:=λx ρ S1 Q E=>zik x S1 Q) h λhd ρ S Q E u v H1 e1 r1 u1 q1 c1=>by cases u<;>simp only[zik]at q1;exact⟨_,urI u1,c1.ok.put r1 uI q1⟩
def z8V{tt:WT}(hc:ST xa X xk c tt)(ha:SE xa X xk a ta)(hb:SE xa X xk b tb):SE xa X xk (.IfExp c a b pos) (wIf tt ta tb) :=
 PE.weak (zbK hc ha hb) λσ H Q' h=>Lt.bind (f:=λk ρ S1 Q E=>cond k (ta ρ S1 Q E) (tb ρ S1 Q E)) h λhd ρ S Q E u v H1 e1 r1 u1 q1 c1=>by
  subst u1;cases u with
  |true=>rw[if_pos rfl];exact⟨hd,ρ,S,Q,E,e1,r1,q1,c1⟩
  |false=>rw[if_neg y0c];exact⟨hd,ρ,S,Q,E,e1,r1,q1,c1⟩
def zjM(t:WA):WE:=λρ S Q E=>t ρ S (λus S1=>us.length<=sizeLine/\Q (.tup us) S1) E
def zjP(t:WA):WE:=λρ S Q E=>t ρ S (λus S1=>us.length<=sizeLine/\nw (.lst us) S1 Q) E
def z0t{es:List Expr}{t:WA}{x1}(h:SA xa X xk es t):SE xa X xk (.Tuple es x1 pos) (zjM t):=PE.weak (zg1 h) λσ H Q' h=>Lt.bind (f:=λus ρ S1 Q E=>us.length<=sizeLine/\Q (.tup us) S1) h λhd ρ S Q E u v H1 e1 r1 u1 q1 c1 =>
 ⟨by rw[<-u1.len];exact q1.1,λp hp=>c1.ok.tup r1 u1 q1.2 hp⟩
def z1g{es:List Expr}{t:WA}(h:SA xa X xk es t):SE xa X xk (.List es pos) (zjP t):=PE.weak (zfL h) λσ H Q' h=>Lt.bind (f:=λus ρ S1 Q E=>us.length<=sizeLine/\nw (.lst us) S1 Q) h λhd ρ S Q E u v H1 e1 r1 u1 q1 c1 =>
 ⟨by rw[<-u1.len];exact q1.1,λp hp=>c1.ok.lst r1 u1 q1.2 hp⟩
def fIx:WF
 |.tup us,.int i,S,Q=>opt (atI us i) λu=>Q u S
 |.ref a,.int i,S,Q=>∃us,isL S a us/\opt (atI us i) λu=>Q u S
 |.str x,.int i,S,Q=>x.length<=sizeLine/\opt (atI x.cps.toList i) λc=>Q (.str ⟨#[c]⟩) S
 |_,_,_,_=>False
def zcD{H:Hp}{us:List U}{vs:List V}{i:Int}{u:U}(h:UrL H us vs)(e:atI us i=some u):∃v,atI vs i=some v/\Ur H u v:=by
 unfold atI at e⊢;rw[h.len]at e;cases q:ixN vs.length i with
 |none=>rw[q]at e;cases e
 |some j =>
  rw[q]at e;exact h.get e
def z19:IxR X (rW fIx):=by
 rintro value slice pins s σ H v1 v2 x1 x2 Q' I r1 r2 ⟨hd,x,y,S,Q,r,u1,u2,c,h⟩ hs;cases x<;>cases y<;>simp only[fIx]at h
 .obtain rfl:=urS u1;obtain rfl:=urI u2;obtain⟨z,h⟩:=h;obtain⟨ch,e,q⟩:=h.ex;exact zf7 value slice pins s σ H _ _ _ _ _ I r1 r2 ⟨_,_,ch,rfl,rfl,z,e,c.put r uS q⟩ hs
 .obtain⟨p,vs,rfl,e1,l1⟩:=urT u1;obtain rfl:=urI u2;obtain⟨u,e,q⟩:=h.ex;obtain⟨v,e',k⟩:=zcD l1 e;exact zgK value slice pins s σ H _ _ _ _ _ I r1 r2 ⟨p,vs,_,v,rfl,rfl,.of e1,e',c.put r k q⟩ hs
 .obtain rfl:=urR u1;obtain rfl:=urI u2;obtain⟨us,hl,h⟩:=h;obtain⟨vs,e1,l1⟩:=hl.of (K:=X.K) r;obtain⟨u,e,q⟩:=h.ex;obtain⟨v,e',k⟩:=zcD l1 e;exact zel value slice pins s σ H _ _ _ _ _ I r1 r2 ⟨_,vs,_,v,rfl,rfl,e1,e',c.put r k q⟩ hs
def z0m{f:WF}(hr:IxR X (rW f))(ha:SE xa X xk a ta)(hb:SE xa X xk b tb)(hs:z8O b:=by exact λ_ _=>rfl):SE xa X xk (.Subscript a b pos) (w2 f ta tb):=PE.weak (zio hr ha hb hs) λσ H Q h=>lt2 h
abbrev WO:=WG (Option Int)
abbrev Ro:Hp->Option Int->Option Int->Prop:=λ_ a b=>a=b
def wNo:WO:=λ_ S Q _=>Q none S
def isI(u:U)(k:Int->Prop):Prop:=match u with
 |.int i=>k i
 |_=>False
def isI.ex{u:U}{k:Int->Prop}(h:isI u k):∃b,u=.int b/\k b:=by cases u<;>simp only[isI]at h;exact⟨_,rfl,h⟩
def wPt(t:WE):WO:=λρ S Q E=>t ρ S (λu S1=>isI u λi=>Q (some i) S1) E
def SO(xa:Nat->Addr)(X:Cx)(xk:St->XK)(e:Option Expr)(t:WO):Prop:=PO X e (Lt xa xk Ro t)
def z1X:SO xa X xk none wNo:=λpins s σ H Q' I ⟨hd,ρ,S,Q,E,e,r,h,c⟩=>zdJ pins s σ H Q' I (c.ok none S none H (.refl _) r rfl h)
def z1n(h:SE xa X xk a ta):SO xa X xk (some a) (wPt ta):=λpins s σ H Q' I q=>zeb h pins s σ H Q' I (Lt.bind (f:=λu ρ S1 Q E=>isI u λi=>Q (some i) S1) q λhd ρ S Q E u v H1 e1 r1 u1 q1 c1=>by obtain⟨i,rfl,q⟩:=q1.ex;exact⟨i,urI u1,c1.ok _ S _ H1 (.refl _) r1 rfl q⟩)
def cut{α:Type}(xs:List α)(lo hi:Option Int):List α:=(xs.drop (HT.sIx xs.length 0 lo)).take (HT.sIx xs.length xs.length hi-HT.sIx xs.length 0 lo)
def fSl(x:U)(lo hi:Option Int)(S:Sto)(Q:Kq U):Prop:=match x with
 |.tup us=>Q (.tup (cut us lo hi)) S
 |.ref a=>∃us,isL S a us/\nw (.lst (cut us lo hi)) S Q
 |.str z=>z.length<=sizeLine/\Q (.str (Txt.slice z lo hi)) S
 |_=>False
def wSl(t:WE)(tl th:WO):WE:=λρ S Q E=>t ρ S (λx S1=>tl ρ S1 (λlo S2=>th ρ S2 (λhi S3=>fSl x lo hi S3 Q) E) E) E
def zcm{H:Hp}{us:List U}{vs:List V}(h:UrL H us vs)(lo hi:Option Int):UrL H (cut us lo hi) (z9U vs lo hi):=by unfold cut z9U;rw[h.len];exact(h.drop _).take _
def z0u{lo hi:Option Expr}{tl th:WO}{p2:Pos}(ha:SE xa X xk a ta)(hl:SO xa X xk lo tl)(hh:SO xa X xk hi th):SE xa X xk (.Subscript a (.Slice lo hi none p2) pos) (wSl ta tl th):=by
 have o:SlR X (λv l u H Q'=>∃hd x S Q,Rep hd S H/\Ur H x v/\Co hd Ur H Q Q'/\fSl x l u S Q):=by
  rintro pins s σ H v x1 vl vu lo hi sl Q' I r1 g1 g2 g3 ⟨hd,x,S,Q,r,u1,c,h⟩;cases x<;>simp only[fSl]at h
  .obtain rfl:=urS u1;exact zeZ pins s σ H _ _ vl vu lo hi sl _ I r1 g1 g2 g3 ⟨_,rfl,h.1,c.put r uS h.2⟩
  .obtain⟨p,vs,rfl,e1,l1⟩:=urT u1;exact zcN pins s σ H _ _ vl vu lo hi sl _ I r1 g1 g2 g3 ⟨p,vs,rfl,e1,λq H' sm e=>c.tupS r (zcm l1 _ _) h sm e⟩
  .obtain rfl:=urR u1;obtain⟨us,hl,h⟩:=h;obtain⟨vs,e1,l1⟩:=hl.of (K:=X.K) r;exact zcO pins s σ H _ _ vl vu lo hi sl _ I r1 g1 g2 g3 ⟨_,vs,rfl,e1,λq hq=>c.lst r (zcm l1 _ _) h hq⟩
 refine PE.weak (zbO o ha hl hh) λσ H Q' h=>Lt.bind (f:=λx ρ S1 Q E=>tl ρ S1 (λlo S2=>th ρ S2 (λhi S3=>fSl x lo hi S3 Q) E) E) h λhd ρ S Q E x v1 H1 e1 r1 u1 q1 c1=>?_;refine⟨hd,ρ,S,_,E,e1,r1,q1,λl S2 l' H2 k2 r2 u2 q2=>?_,c1.ex⟩;subst u2;refine⟨hd,ρ,S2,_,E,e1.mono k2,r2,q2,λu S3 u' H3 k3 r3 u3 q3=>?_,(c1.mono k2).ex⟩;subst u3;exact⟨hd,x,S3,Q,r3,(u1.mono k2).mono k3,(c1.ok.mono k2).mono k3,q3⟩
end
open PySem L2 PySem.SeqAt
variable[WW]
structure Wd where
 nx:En->Sto->Prop
 rt:U->Sto->Prop
 bk:En->Sto->Prop:=λ_ _=>False
 ct:En->Sto->Prop:=λ_ _=>False
abbrev Xs:=En->Xq
abbrev WS:=En->Sto->Wd->Xs->Prop
section
variable(xa:Nat->Addr)(xk:St->XK)
def Ce(hd:Hd)(H:Hp)(Q:En->Sto->Prop)(Q':St->Hp->Prop):Prop:=∀ρ S σ H',Kp H H'->EnR H' ρ σ->Rep hd S H'->Q ρ S->Q' σ H'
structure Cs(hd:Hd)(H:Hp)(W:Wd)(E:Xs)(D:zce):Prop where
 nx:Ce hd H W.nx D.nx
 bk:Ce hd H W.bk D.bk
 ct:Ce hd H W.ct D.ct
 rt:∀u S v H',Kp H H'->Rep hd S H'->Ur H' u v->W.rt u S->D.rt v H'
 ex:∀ea c ρ σ S H',Kp H H'->EnR H' ρ σ->Rep hd S H'->E ρ c S->xk σ (.ref ea) (some (xa c)) H'
def LtS(t:WS):TS:=λD σ H=>∃hd ρ S W E,EnR H ρ σ/\Rep hd S H/\t ρ S W E/\Cs xa xk hd H W E D
def SS(X:Cx)(s:Stmt)(t:WS):Prop:=PS X s (LtS xa xk t)
def SSs(X:Cx)(s:List Stmt)(t:WS):Prop:=PSs X s (LtS xa xk t)
end
abbrev WX(α:Type):=α->En->Sto->(En->Sto->Prop)->Prop
def LtG{α β:Type}(R:Hp->α->β->Prop)(g:WX α):β->St->Hp->(St->Hp->Prop)->Prop:=λv σ H Q'=>∃hd u ρ S Q,EnR H ρ σ/\Rep hd S H/\R H u v/\g u ρ S Q/\Ce hd H Q Q'
def SG(X:Cx)(e:Expr)(g:WX U):Prop:=PG X e (LtG Ur g)
def SGs(X:Cx)(e:List Expr)(g:WX (List U)):Prop:=PGs X e (LtG UrL g)
def Ce.mono{hd:Hd}{H H1:Hp}{Q:En->Sto->Prop}{Q':St->Hp->Prop}(c:Ce hd H Q Q')(k:Kp H H1):Ce hd H1 Q Q':=λρ S σ H' k'=>c ρ S σ H' (k.trans k')
theorem Cs.mono{xa:Nat->Addr}{xk:St->XK}{hd:Hd}{H H1:Hp}{W:Wd}{E:Xs}{D:zce}(c:Cs xa xk hd H W E D)(k:Kp H H1):Cs xa xk hd H1 W E D :=
 ⟨c.nx.mono k,c.bk.mono k,c.ct.mono k,λu S v H' k'=>c.rt u S v H' (k.trans k'),λea x ρ σ S H' k'=>c.ex ea x ρ σ S H' (k.trans k')⟩
def Cs.at{xa:Nat->Addr}{xk:St->XK}{hd:Hd}{H:Hp}{W:Wd}{E:Xs}{D:zce}{ρ:En}{σ:St}(c:Cs xa xk hd H W E D)(e:EnR H ρ σ):Cx' xa (xk σ) hd H (E ρ):=λea x S H' k r h=>c.ex ea x ρ σ S H' k (e.mono k) r h
def PS.weak{X:Cx}{e:Stmt}{t t':TS}(h:PS X e t)(w:∀D σ H,t' D σ H->t D σ H):PS X e t':=λpins s σ H D I q=>h pins s σ H D I (w D σ H q)
def PSs.weak{X:Cx}{e:List Stmt}{t t':TS}(h:PSs X e t)(w:∀D σ H,t' D σ H->t D σ H):PSs X e t':=λpins s σ H D I q=>h pins s σ H D I (w D σ H q)
def PG.weak{X:Cx}{e:Expr}{t t':TG}(h:PG X e t)(w:∀v σ H Q,t' v σ H Q->t v σ H Q):PG X e t':=λpins s σ H v u Q I r q=>h pins s σ H v u Q I r (w v σ H Q q)
def PGs.weak{X:Cx}{e:List Expr}{t t':TGs}(h:PGs X e t)(w:∀v σ H Q,t' v σ H Q->t v σ H Q):PGs X e t':=λpins s σ H v u Q I r q=>h pins s σ H v u Q I r (w v σ H Q q)
def zhv:WS:=λρ S W _=>W.nx ρ S
def zjJ(t u:WS):WS:=λρ S W E=>t ρ S { W with nx:=λρ' S'=>u ρ' S' W E } E
def ziP(t:WE):WS:=λρ S W E=>t ρ S (λ_ S1=>W.nx ρ S1) (E ρ)
def zky(t:WE):WS:=λρ S W E=>t ρ S W.rt (E ρ)
def zjI(c:WT)(t u:WS):WS:=λρ S W E=>c ρ S (λk S1=>cond k (t ρ S1 W E) (u ρ S1 W E)) (E ρ)
def zi7(t:WE)(g:WX U):WS:=λρ S W E=>t ρ S (λu S1=>g u ρ S1 W.nx) (E ρ)
def gN(i:Nat):WX U:=λu ρ S Q=>Q (st ρ i u) S
def zha:WX (List U):=λus ρ S Q=>match us with
 |[]=>Q ρ S
 |_=>False
def zbM(g:WX U)(gs:WX (List U)):WX (List U):=λus ρ S Q=>match us with
 |u::r=>g u ρ S λρ' S'=>gs r ρ' S' Q
 |[]=>False
def zhe(n:Nat)(gs:WX (List U)):WX U:=λu ρ S Q=>match u with
 |.tup us=>us.length=n/\gs us ρ S Q
 |.ref a=>∃us,isL S a us/\us.length=n/\gs us ρ S Q
 |_=>False
def zk9(i:Nat)(f:WF)(t:WE):WS:=λρ S W E=>opt (lk ρ i) λx=>t ρ S (λy S1=>f x y S1 λz S2=>W.nx (st ρ i z) S2) (E ρ)
section
variable{xa:Nat->Addr}{X:Cx}{xk:St->XK}{a b e:Expr}{t:WE}{pos:Pos}{s:Stmt}{ss:List Stmt}{ts us:WS}
def z0l:SSs xa xk X [] zhv:=PSs.weak zdc λD σ H ⟨hd,ρ,S,W,E,e,r,h,c⟩=>c.nx ρ S σ H (.refl _) e r h
def z02(h1:SS xa xk X s ts)(h2:SSs xa xk X ss us):SSs xa xk X (s::ss) (zjJ ts us):=PSs.weak (zaE h1 h2) λD σ H ⟨hd,ρ,S,W,E,e,r,h,c⟩ =>
 ⟨hd,ρ,S,_,E,e,r,h,λρ1 S1 σ1 H1 k1 e1 r1 q1=>⟨hd,ρ1,S1,W,E,e1,r1,q1,c.mono k1⟩,c.bk,c.ct,c.rt,c.ex⟩
def z05(h1:SS xa xk X s ts):SSs xa xk X [s] ts:=zek h1
def LtS.of{α β:Type}{R:Hp->α->β->Prop}{t:WG α}{f:α->WS}{D:zce}{σ:St}{H:Hp}{T:β->Hp->Prop}(h:LtS xa xk (λρ S W E=>t ρ S (λu S1=>f u ρ S1 W E) (E ρ)) D σ H)(hT:∀hd ρ S W E u v H1,EnR H1 ρ σ->Rep hd S H1->R H1 u v->f u ρ S W E->Cs xa xk hd H1 W E D->T v H1):Lt xa xk R t σ H T:=by obtain⟨hd,ρ,S,W,E,e,r,h,c⟩:=h;exact⟨hd,ρ,S,_,E ρ,e,r,h,λu S1 v H1 k1 r1 u1 q1=>hT hd ρ S1 W E u v H1 (e.mono k1) r1 u1 q1 (c.mono k1),c.at e⟩
def z0g(h:SE xa X xk e t)(hs:swapsWith e none pos.line X.env=pure false:=by rfl):SS xa xk X (.Expr e pos) (ziP t):=PS.weak (zcZ h hs) λD σ H q =>
 LtS.of (f:=λ_ ρ S1 W E=>W.nx ρ S1) q λhd ρ S W E u v H1 e1 r1 u1 q1 c1=>c1.nx ρ S σ H1 (.refl _) e1 r1 q1
def z0j(h:SE xa X xk e t):SS xa xk X (.Return (some e) pos) (zky t):=PS.weak (zfW h) λD σ H q =>
 LtS.of (f:=λu ρ S1 W E=>W.rt u S1) q λhd ρ S W E u v H1 e1 r1 u1 q1 c1=>c1.rt u S v H1 (.refl _) r1 u1 q1
def z0L{tc:WT}{bs:List Stmt}(hc:ST xa X xk e tc)(h1:SSs xa xk X ss ts)(h2:SSs xa xk X bs us):SS xa xk X (.If e ss bs pos) (zjI tc ts us):=PS.weak (zil hc h1 h2) λD σ H q =>
 LtS.of (R:=Rb) (f:=λk ρ S1 W E=>cond k (ts ρ S1 W E) (us ρ S1 W E)) q λhd ρ S W E u v H1 e1 r1 u1 q1 c1=>by
  subst u1;cases u with
  |true=>rw[if_pos rfl];exact⟨hd,ρ,S,W,E,e1,r1,q1,c1⟩
  |false=>rw[if_neg y0c];exact⟨hd,ρ,S,W,E,e1,r1,q1,c1⟩
def z07(i:Nat){x:Str}(hN:X.N.Nodup)(hi:X.N[i]?=some x:=by rfl)(hx:Loc X.env.scope x:=by first|exact Or.inl rfl|exact Or.inr rfl)(hf:X.fn x=true\/X.env.scope.names.lookup x=some .local:=by first|exact .inl rfl|exact .inr rfl|assumption):SG X (.Name x pos) (gN i) :=
 PG.weak (zex hN hi hx hf) λv σ H Q' ⟨hd,u,ρ,S,Q,e,r,k,h,c⟩=>c _ S _ H (.refl _) (e.set i k) r h
def z0r:SGs X [] zha:=PGs.weak zcJ λv σ H Q' ⟨hd,u,ρ,S,Q,e,r,k,h,c⟩=>by
 unfold zha at h;split at h
 .simp only[UrL]at k;exact⟨k,c _ S _ H (.refl _) e r h⟩
 .exact h.elim
def z09{es:List Expr}{g:WX U}{gs:WX (List U)}(h1:SG X e g)(h2:SGs X es gs)(hs:(assignEach (e::es) X.env).map (·.2)=assign e X.env::(assignEach es X.env).map (·.2):=by rfl):SGs X (e::es) (zbM g gs) :=
 PGs.weak (zbs h1 h2 hs) λv σ H Q' ⟨hd,u,ρ,S,Q,e,r,k,h,c⟩=>by
  unfold zbM at h;split at h
  .rename_i u ur;simp only[UrL]at k;obtain⟨v,vr,rfl,k1,k2⟩:=k;exact⟨v,vr,rfl,hd,u,ρ,S,_,e,r,k1,h,λρ1 S1 σ1 H1 kp e1 r1 q1=>⟨hd,ur,ρ1,S1,Q,e1,r1,k2.mono kp,q1,c.mono kp⟩⟩
  .exact h.elim
def z0F{es:List Expr}{k:Nat}{gs:WX (List U)}(hc:X.calm=true)(h:SGs X es gs)(hn:(assignEach es X.env).length=es.length:=by rfl)(hst:(assignEach es X.env).findIdx? (·.1)=none:=by rfl):SG X (.Tuple es k pos) (zhe es.length gs):=by
 rintro pins s σ H v y Q' I r1 ⟨hd,u,ρ,S,Q,e,r,k,q,c⟩;cases u<;>simp only[zhe]at q
 .obtain⟨a,vs,rfl,e1,l1⟩:=urT k;exact zfa hc h hn hst pins s σ H _ _ _ I r1 ⟨a,vs,rfl,.of e1,by rw[<-l1.len];exact q.1,hd,_,ρ,S,Q,e,r,l1,q.2,c⟩
 .obtain rfl:=urR k;obtain⟨us,hl,q1,q2⟩:=q;obtain⟨vs,e1,l1⟩:=hl.of (K:=X.K) r;exact zfK hc h hn hst pins s σ H _ _ _ I r1 ⟨_,vs,rfl,e1,by rw[<-l1.len];exact q1,hd,_,ρ,S,Q,e,r,l1,q2,c⟩
def z17{tg:Expr}{g:WX U}(he:SE xa X xk e t)(hg:SG X tg g)(hs:swapsWithSole [tg] e pos.line X.env=pure false:=by rfl)(hw:swappedStores [tg] e X.env=pure none:=by rfl)(h1:(assignEach [tg] X.env).map (·.2)=[assign tg X.env]:=by rfl):SS xa xk X (.Assign [tg] e pos) (zi7 t g):=PS.weak (zgJ he hg hs hw h1) λD σ H q =>
 LtS.of (f:=λu ρ S1 W E=>g u ρ S1 W.nx) q λhd ρ S W E u v H1 e1 r1 u1 q1 c1=>⟨hd,u,ρ,S,_,e1,r1,u1,q1,c1.nx⟩
def z0d(i:Nat){x:Str}{pos':Pos}(hN:X.N.Nodup)(he:SE xa X xk e t)(hi:X.N[i]?=some x:=by rfl)(hx:Loc X.env.scope x:=by first|exact Or.inl rfl|exact Or.inr rfl)(hs:swapsWith e (some (.Name x pos')) pos.line X.env=pure false:=by rfl)(hf:X.fn x=true\/X.env.scope.names.lookup x=some .local:=by first|exact .inl rfl|exact .inr rfl|assumption) : SS xa xk X (.Assign [.Name x pos'] e pos) (zi7 t (gN i)):=PS.weak (zft hN hi hx he hs hf) λD σ H q =>
 LtS.of (f:=λu ρ S1 W E=>gN i u ρ S1 W.nx) q λhd ρ S W E u v H1 e1 r1 u1 q1 c1=>c1.nx _ S _ H1 (.refl _) (e1.set i u1) r1 q1
def whN(c:WT)(b:WS):Nat->WS
 |0=>λ_ _ _ _=>False
 |n+1=>λρ S W E=>c ρ S (λk S1=>cond k (b ρ S1 { nx:=λρ' S'=>whN c b n ρ' S' W E,rt:=W.rt,bk:=W.nx,ct:=λρ' S'=>whN c b n ρ' S' W E } E) (W.nx ρ S1)) (E ρ)
def wWh(c:WT)(b:WS):WS:=λρ S W E=>∃n,whN c b n ρ S W E
def z14{tc:WT}(hp:PassesOwn (model X.prog X.w) X.A X.env X.xe)(hc:ST xa X xk e tc)(hb:SSs xa xk X ss ts):SS xa xk X (.While e ss [] pos) (wWh tc ts):=PS.weak (zbT hp hc hb) λD σ H ⟨hd,ρ,S,W,E,e,r,⟨n,h⟩,c⟩=>by
 refine⟨λm σ H=>∃ρ S,EnR H ρ σ/\Rep hd S H/\whN tc ts m ρ S W E/\Cs xa xk hd H W E D,⟨n,ρ,S,e,r,h,c⟩,?_⟩;rintro m σ1 H1 ⟨ρ1,S1,e1,r1,h1,c1⟩;cases m with
 |zero=>exact h1.elim
 |succ m =>
  refine⟨hd,ρ1,S1,_,E ρ1,e1,r1,h1,λk S2 k' H2 kp r2 u2 q2=>?_,c1.at e1⟩;subst u2;have c2:=c1.mono kp;cases k with
  |false=>rw[if_neg y0c];exact c2.nx ρ1 S2 σ1 H2 (.refl _) (e1.mono kp) r2 q2
  |true =>
   rw[if_pos rfl];exact⟨_,λσ' H' h=>⟨m,y2d _,h⟩,hd,ρ1,S2,_,E,e1.mono kp,r2,q2,λρ3 S3 σ3 H3 k3 e3 r3 q3=>⟨ρ3,S3,e3,r3,q3,c2.mono k3⟩,c2.nx,λρ3 S3 σ3 H3 k3 e3 r3 q3=>⟨ρ3,S3,e3,r3,q3,c2.mono k3⟩,c2.rt,c2.ex⟩
abbrev WI:=En->Sto->(List U->(Sto->Prop)->Sto->Prop)->Xq->Prop
structure ItR(H0:Hp)(J:It)(L:List U)(ck:Sto->Prop):Prop where
 go:∀{hd:Hd} i H S x,Kp H0 H->Rep hd S H->ck S->L[i]?=some x->J.go i H/\∀v H',J.yld i H v H'->Kp H H'/\Rep hd S H'/\Ur H' x v
 stop:∀{hd:Hd} i H S,Kp H0 H->Rep hd S H->ck S->L.length=i->J.stop i H
def LtI(xa:Nat->Addr)(xk:St->XK)(t:WI):TI:=λσ H R'=>∃hd ρ S R E,EnR H ρ σ/\Rep hd S H/\t ρ S R E/\(∀L ck S' J H',Kp H H'->Rep hd S' H'->ItR H' J L ck->R L ck S'->R' J H')/\Cx' xa (xk σ) hd H E
def SI(xa:Nat->Addr)(xk:St->XK)(X:Cx)(tg e:Expr)(t:WI):Prop:=PI X tg e (LtI xa xk t)
def frL(ck:Sto->Prop)(g:WX U)(b:WS):List U->WS
 |[]=>λρ S W _=>ck S/\W.nx ρ S
 |x::L=>λρ S W E=>ck S/\g x ρ S λρ' S'=>b ρ' S' { nx:=λρ2 S2=>frL ck g b L ρ2 S2 W E,rt:=W.rt,bk:=W.nx,ct:=λρ2 S2=>frL ck g b L ρ2 S2 W E } E
def zko(ti:WI)(g:WX U)(b:WS):WS:=λρ S W E=>ti ρ S (λL ck S1=>frL ck g b L ρ S1 W E) (E ρ)
def z28{tg:Expr}{ti:WI}{g:WX U}(hp:PassesOwn (model X.prog X.w) X.A X.env X.xe)(hc:X.calm=true)(hi:SI xa xk X tg e ti)(hg:SG X tg g)(hb:SSs xa xk X ss ts)(hs:∀x,foldedSetIterable e X.env x=pure x:=by intro _;rfl) : SS xa xk X (.For tg e ss [] pos) (zko ti g ts):=PS.weak (zfZ hp hc hi hg hb hs) λD σ H ⟨hd,ρ,S,W,E,e,r,h,c⟩=>by
 refine⟨hd,ρ,S,_,E ρ,e,r,h,λL ck S1 J H1 k1 r1 it q1=>?_,c.at e⟩;have c1:=c.mono k1;refine⟨λi m σ H=>i+m=L.length/\Kp H1 H/\∃ρ S,EnR H ρ σ/\Rep hd S H/\frL ck g ts (L.drop i) ρ S W E/\Cs xa xk hd H W E D,⟨L.length,by simp,.refl _,ρ,S1,e.mono k1,r1,q1,c1⟩,?_⟩;rintro i m σ2 H2 ⟨hm,kk,ρ2,S2,e2,r2,q2,c2⟩;by_cases hi:i<L.length
 .rw[y1P hi]at q2;obtain⟨ck2,q2⟩:=q2;obtain⟨g1,g2⟩:=it.go i H2 S2 L[i] kk r2 ck2 (by simp[hi]);refine .inr ⟨g1,λσ' H'=>Kp H1 H'/\∃ρ S,EnR H' ρ σ'/\Rep hd S H'/\frL ck g ts (L.drop (i+1)) ρ S W E/\Cs xa xk hd H' W E D,λσ' H' q=>⟨m-1,by lia,by lia,q⟩,λx H3 y3=>?_⟩;obtain⟨k3,r3,u3⟩:=g2 x H3 y3;have c3:=c2.mono k3;refine⟨hd,L[i],ρ2,S2,_,e2.mono k3,r3,u3,q2,λρ4 S4 σ4 H4 k4 e4 r4 q4=>?_⟩;have c4:=c3.mono k4;exact⟨hd,ρ4,S4,_,E,e4,r4,q4,λρ5 S5 σ5 H5 k5 e5 r5 q5=>⟨kk.trans (k3.trans (k4.trans k5)),ρ5,S5,e5,r5,q5,c4.mono k5⟩,c4.nx,λρ5 S5 σ5 H5 k5 e5 r5 q5=>⟨kk.trans (k3.trans (k4.trans k5)),ρ5,S5,e5,r5,q5,c4.mono k5⟩,c4.rt,c4.ex⟩
 .have ei:L.length=i:=by lia
  rw[y2E (by lia)]at q2;exact .inl ⟨it.stop i H2 S2 kk r2 q2.1 ei,c2.nx _ _ _ _ (.refl _) e2 r2 q2.2⟩
end
def IV(X:Cx)(tg:Expr)(r:V->Hp->(It->Hp->Prop)->Prop):Prop:=∀(pins:yyP)(s:Shared)(σ:St)(H:Hp)(x:V)(v:Value)(R:It->Hp->Prop),Inv X pins σ H s->z0A x v->r x H R->wpAny (model X.prog X.w) X.A (pyIter v) (PIE X pins σ tg R) X.xe s
section
variable{xa:Nat->Addr}{X:Cx}{xk:St->XK}{tg e:Expr}{t:WE}
def zdE:IV X tg λx H R=>∃a,x=.ref a/\(∃xs,SqL X.K H a xs)/\R (Itl X.K a) H:=by
 rintro pins s1 σ H1 x v R I1 r1 ⟨a,rfl,⟨xs,hq⟩,q⟩;cases r1;obtain⟨its,rv,p,hz⟩:=I1.list hq;refine wpAny_pyIter_list p.isList ?_;refine⟨s1.heap.objs.size,[s1.heap.objs.size],_,_,H1,rfl,I1.kept (t':=s1.toks) λb o e=>y02 _ e,z96 a _,⟨_,y05 _ rfl,rfl,rfl⟩,λb hb=>?_,q⟩;have e:b=s1.heap.objs.size:=by simpa using hb
 subst e;exact I1.fpOk (y0a _) (I1.hok.fresh (y0a _))
def zgk:IV X tg λx H R=>∃a,x=.ref a/\(∃xs,SqT X.K H a xs)/\R (Itt X.K a) H:=by
 rintro pins s1 σ H1 x v R I1 r1 ⟨a,rfl,⟨xs,hq⟩,q⟩;cases r1;obtain⟨its,rv,p,hz⟩:=I1.tuple hq;refine wpAny_pyIter_tuple (show s1.heap.IsTuple a its.toArray from p) ?_;refine⟨s1.heap.objs.size,[s1.heap.objs.size],_,_,H1,rfl,I1.kept (t':=s1.toks) λb o e=>y02 _ e,z8B a _,⟨_,y05 _ rfl,rfl,rfl⟩,λb hb=>?_,q⟩;have e:b=s1.heap.objs.size:=by simpa using hb
 subst e;exact I1.fpOk (y0a _) (I1.hok.fresh (y0a _))
def zb9{a:Addr}{us:List U}{H0:Hp}:ItR H0 (Itl X.K a) us (λS=>isL S a us):=by
 constructor
 .intro hd i H S x _ r ck hx;obtain⟨vs,e,l⟩:=ck.of (K:=X.K) r;obtain⟨v,h1,h2⟩:=l.get hx;refine⟨⟨vs,v,e,h1⟩,λv' H' y=>?_⟩;obtain⟨rfl,y⟩:=y;have:=y vs e;rw[h1]at this;cases this;exact⟨.refl _,r,h2⟩
 .intro hd i H S _ r ck hl;obtain⟨vs,e,l⟩:=ck.of (K:=X.K) r;exact⟨vs,e,by rw[<-l.len,hl];exact y0a _⟩
def zeh{a:Addr}{us:List U}{vs:List V}{H0:Hp}(e:H0 a=some (.tup vs))(l:UrL H0 us vs):ItR H0 (Itt X.K a) us (λ_=>True):=by
 constructor
 .intro hd i H S x k r _ hx;obtain⟨v,h1,h2⟩:=l.get hx;refine⟨⟨vs,v,.of (k.tup _ _ e),h1⟩,λv' H' y=>?_⟩;obtain⟨rfl,y⟩:=y;have:=y vs (.of (k.tup _ _ e));rw[h1]at this;cases this;exact⟨.refl _,r,h2.mono k⟩
 .intro hd i H S k r _ hl;exact⟨vs,.of (k.tup _ _ e),by rw[<-l.len,hl];exact y0a _⟩
def rg(lo:Int)(n:Nat):List U:=(List.range n).map λ(i:Nat)=>U.int (lo+i)
def z9i{lo:Int}{n:Nat}{H0:Hp}:ItR H0 (Itr lo n) (rg lo n) (λ_=>True):=by
 unfold rg;constructor
 .intro hd i H S x k r _ hx;rw[y0x]at hx;by_cases hi:i<n
  .rw[y2j hi]at hx;cases hx;exact⟨hi,λv H' ⟨e1,e2⟩=>by subst e1 e2;exact⟨.refl _,r,uI⟩⟩
  .rw[List.getElem?_eq_none (by simpa using hi)]at hx;cases hx
 .intro hd i H S k r _ hl;simp at hl;exact y2l hl
def itS(u:U)(S:Sto)(R:List U->(Sto->Prop)->Sto->Prop):Prop:=match u with
 |.tup us=>R us (λ_=>True) S
 |.ref a=>∃us,isL S a us/\R us (λS=>isL S a us) S
 |.str x=>R (x.cps.toList.map λc=>U.str ⟨#[c]⟩) (λ_=>True) S
 |_=>False
def wIt(t:WE):WI:=λρ S R E=>t ρ S (λu S1=>itS u S1 R) E
def z0G(h:SE xa X xk e t)(hv:IV X tg (λv H R'=>∃hd x S R,Rep hd S H/\Ur H x v/\itS x S R/\∀L ck S' J H',Kp H H'->Rep hd S' H'->ItR H' J L ck->R L ck S'->R' J H')):SI xa xk X tg e (wIt t):=by intro pins s σ H R' I ⟨hd,ρ,S,R,E,e,r,h',c,x⟩;refine thn (h pins s σ H _ I ⟨hd,ρ,S,λu S1=>itS u S1 R,E,e,r,h',λu S1 v H1 k1 r1 u1 q1=>?_,x⟩) λv s1 ⟨y,H1,I1,r1,q1⟩=>hv pins s1 σ H1 y v R' I1 r1 q1;exact⟨hd,u,S1,R,r1,u1,q1,λL ck S' J H' k=>c L ck S' J H' (k1.trans k)⟩
def z0I:IV X tg (λv H R'=>∃hd x S R,Rep hd S H/\Ur H x v/\itS x S R/\∀L ck S' J H',Kp H H'->Rep hd S' H'->ItR H' J L ck->R L ck S'->R' J H'):=by
 rintro pins s σ H v y R' I r1 ⟨hd,x,S,R,r,u,h,c⟩;cases x<;>simp only[itS]at h
 .obtain rfl:=urS u;rename_i z;obtain⟨t,rfl⟩:=r1;have q:R' (Its z) H:=c _ _ S _ H (.refl _) r ⟨λ{hd} i H1 S1 x k1 r1 _ hx=>by
   rw[y0x]at hx;obtain⟨ch,e1,rfl⟩:=Option.map_eq_some_iff.mp hx;refine⟨by show i<z.cps.size;simpa using(y0G.mp e1).1,λv H' ⟨e2,ch',e3,e4⟩=>?_⟩;subst e2 e4;have e3:z.cps.toList[i]?=some ch':=e3;rw[e1]at e3;cases e3;exact⟨.refl _,r1,uS⟩,λ{hd} i H1 S1 k1 r1 _ hl=>by
    have hl:z.length=i:=by simpa[Str.length]using hl
    exact y2l hl⟩ h
  have fp:∀b∈[s.heap.objs.size],z4n X pins H b:=λb hb=>by
   have e:b=s.heap.objs.size:=by simpa using hb
   subst e;exact I.fpOk (y0a _) (I.hok.fresh (y0a _))
  cases ha:z.cps.all (· < 128)with
  |true=>exact wpAny_pyIter_ascii ha ⟨s.heap.objs.size,[s.heap.objs.size],_,_,H,rfl,I.kept (t':=s.toks) λb o e=>y02 _ e,z8k _ z t,⟨_,y05 _ rfl,rfl,rfl⟩,fp,q⟩
  |false=>exact wpAny_pyIter_wide ha ⟨s.heap.objs.size,[s.heap.objs.size],_,_,H,rfl,I.kept (t':=s.toks) λb o e=>y02 _ e,z9s _ z t,⟨_,y05 _ rfl,rfl,rfl⟩,fp,q⟩
 .obtain⟨a,vs,rfl,e,l⟩:=urT u;exact zgk pins s σ H _ _ _ I r1 ⟨a,rfl,⟨vs,.of e⟩,c _ _ S _ H (.refl _) r (zeh e l) h⟩
 .obtain rfl:=urR u;obtain⟨us,hl,h⟩:=h;obtain⟨vs,e,l⟩:=hl.of (K:=X.K) r;exact zdE pins s σ H _ _ _ I r1 ⟨_,rfl,⟨vs,e⟩,c _ _ S _ H (.refl _) r zb9 h⟩
def rg1(us:List U)(S:Sto)(R:List U->(Sto->Prop)->Sto->Prop):Prop:=match us with
 |[.int j]=>-(2^62)<=j/\j<2^62/\R (rg 0 j.toNat) (λ_=>True) S
 |_=>False
def rg2(us:List U)(S:Sto)(R:List U->(Sto->Prop)->Sto->Prop):Prop:=match us with
 |[.int i,.int j]=>(-(2^62)<=i/\i<2^62/\-(2^62)<=j/\j<2^62)/\R (rg i (j-i).toNat) (λ_=>True) S
 |_=>False
def wRg(f:List U->Sto->(List U->(Sto->Prop)->Sto->Prop)->Prop)(t:WA):WI:=λρ S R E=>t ρ S (λus S1=>f us S1 R) E
def z4e{H:Hp}{x:U}{vs:List V}(h:UrL H [x] vs):∃v,vs=[v]/\Ur H x v:=by simp only[UrL]at h;obtain⟨v,r,rfl,a,rfl⟩:=h;exact⟨v,rfl,a⟩
def zfG{H:Hp}{x y:U}{vs:List V}(h:UrL H [x,y] vs):∃v w,vs=[v,w]/\Ur H x v/\Ur H y w:=by simp only[UrL]at h;obtain⟨v,r,rfl,a,w,r',rfl,b,rfl⟩:=h;exact⟨v,w,rfl,a,b⟩
def LtI.of{t:WA}{f:List U->Sto->(List U->(Sto->Prop)->Sto->Prop)->Prop}{σ:St}{H:Hp}{R':It->Hp->Prop}{T:List V->Hp->Prop}(h:LtI xa xk (λρ S R E=>t ρ S (λu S1=>f u S1 R) E) σ H R')(hT:∀hd S R u v H1,Rep hd S H1->UrL H1 u v->f u S R->(∀L ck S' J H',Kp H1 H'->Rep hd S' H'->ItR H' J L ck->R L ck S'->R' J H')->T v H1):Lt xa xk UrL t σ H T:=by obtain⟨hd,ρ,S,R,E,e,r,h,c,x⟩:=h;exact⟨hd,ρ,S,_,E,e,r,h,λu S1 v H1 k1 r1 u1 q1=>hT hd S1 R u v H1 r1 u1 q1 λL ck S' J H' k=>c L ck S' J H' (k1.trans k),x⟩
def z4p{a:Expr}{ta:WA}{p pos:Pos}(hg:Gl X "range")(hm:X.mg "range"=none)(ha:SA xa X xk [a] ta)(hs:starEach [a] X.env=[(false,eval a X.env)]:=by rfl):SI xa xk X tg (.Call (.Name "range" p) [a] [] pos) (wRg rg1 ta) :=
 λpins s σ H R' I q=>z9B hg hm ha hs pins s σ H R' I (LtI.of (f:=rg1) q λhd S R u v H1 r1 u1 q1 c1=>by
  unfold rg1 at q1;split at q1
  .obtain⟨v,rfl,g1⟩:=z4e u1;exact⟨_,by rw[urI g1],q1.1,q1.2.1,c1 _ _ S _ H1 (.refl _) r1 z9i q1.2.2⟩
  .exact q1.elim)
def zfU{a b:Expr}{ta:WA}{p pos:Pos}(hg:Gl X "range")(hm:X.mg "range"=none)(ha:SA xa X xk [a,b] ta)(hs:starEach [a,b] X.env=[(false,eval a X.env),(false,eval b X.env)]:=by rfl)(hs2:starEach [b] X.env=[(false,eval b X.env)]:=by rfl):SI xa xk X tg (.Call (.Name "range" p) [a,b] [] pos) (wRg rg2 ta) :=
 λpins s σ H R' I q=>zad hg hm ha hs hs2 pins s σ H R' I (LtI.of (f:=rg2) q λhd S R u v H1 r1 u1 q1 c1=>by
  unfold rg2 at q1;split at q1
  .obtain⟨v,w,rfl,g1,g2⟩:=zfG u1;exact⟨_,_,by rw[urI g1,urI g2],q1.1,c1 _ _ S _ H1 (.refl _) r1 z9i q1.2⟩
  .exact q1.elim)
end
open PySem L2 PySem.SeqAt
open PyProof.Rows (envOfC)
variable[WW]
abbrev Wsp:=List U->Sto->Kq U->Xq->Prop
def lsp(xa:Nat->Addr)(sp:Wsp):Sp:=λvs H Q' xk=>∃hd us S Q E,Rep hd S H/\UrL H us vs/\sp us S Q E/\Ct xa xk hd Ur H Q E Q'
def stt(n:Nat)(us:List U):En:=us.map some++List.replicate (n-us.length) none
theorem zar:∀(n i:Nat),lk (List.replicate n none) i=none
 |0,_=>rfl
 |_+1,0=>rfl
 |n+1,i+1=>zar n i
def zbS{H:Hp}(m:Nat):EnR H (List.replicate m none) (List.replicate m none):=⟨by simp,λi u e=>by rw[zar]at e;cases e⟩
def zcc{H:Hp}{u:U}{v:V}{ρ:En}{σ:St}(a:Ur H u v)(h:EnR H ρ σ):EnR H (some u::ρ) (some v::σ):=⟨by rw[y0b,y0b,h.1],λi x e=>by
 cases i with
 |zero=>cases e;exact⟨v,rfl,a⟩
 |succ i=>obtain⟨y,h1,h2⟩:=h.2 i x e;exact⟨y,by simpa using h1,h2⟩⟩
theorem zat{H:Hp}{m:Nat}:∀{us:List U}{vs:List V},UrL H us vs->EnR H (us.map some++List.replicate m none) (vs.map some++List.replicate m none)
 |[],_,h=>by simp only[UrL]at h;subst h;exact zbS m
 |u::us,_,h=>by simp only[UrL]at h;obtain⟨v,r,rfl,a,b⟩:=h;exact zcc a (zat b)
def z5N{H:Hp}{N:List Str}{us:List U}{vs:List V}(h:UrL H us vs):EnR H (stt N.length us) (L2.start N vs):=by unfold stt L2.start;rw[h.len];exact zat h
section
variable{P:Program}{w:World}{K:yyF}{mg:yyS}{base:Heap}{xa:Nat->Addr}
def wfn{x qual:Str}{st:Stmt}{f:Addr}{fd:FuncData}{N ps:List Str}{k:Nat}{sp:Wsp}(F:Fun K x qual st f fd)(Sc:z1M N ps (z0a st))(len:∀us S Q E,sp us S Q E->us.length=ps.length)(ht:∃t,(∀(cdv:Value)(A:Around)(outer:List Env)(s:Shared)(H:Hp)(E:XK),z1C k (A.deeper (envOfC qual (z0a st) s.heap.objs.size f cdv))->SSs xa (λ_=>E) (z2V (CXx P w) P w K mg base N qual (z0a st) f cdv A outer s H E) (z0v st) t) /\ ∀us S Q E,sp us S Q E->t (stt N.length us) S { nx:=λ_ S'=>Q .non S',rt:=Q } λ_=>E):z2h P w K mg base (CXx P w) (k+1) f fd ps (lsp xa sp):=by obtain⟨t,ht,hp⟩:=ht;refine F.okx Sc (λvs H Q' xk ⟨hd,us,S,Q,E,r,u,h,c⟩=>by rw[<-u.len];exact len us S Q E h) λcdv A outer s H vs Q' xk hr ⟨hd,us,S,Q,E,r,u,h,c⟩=>⟨_,ht cdv A outer s H xk hr,?_⟩;exact⟨hd,_,S,_,_,z5N u,r,hp us S Q E h,λρ S1 σ H1 k1 e1 r1 q1=>c.ok _ S1 _ H1 k1 r1 (by simp only[Ur]) q1,λ_ _ _ _ _ _ _ q=>q.elim,λ_ _ _ _ _ _ _ q=>q.elim,λu S1 v H1 k1 r1 u1 q1=>c.ok u S1 v H1 k1 r1 u1 q1,λea c1 ρ σ S1 H1 k1 e1 r1 q1=>c.ex ea c1 S1 H1 k1 r1 q1⟩
structure Fc(P:Program)(w:World)(K:yyF)(mg:yyS)(base:Heap)(xa:Nat->Addr)(x:Str)(k:Nat)(sp:Wsp):Prop where
 ok:∃f fd ps,z2h P w K mg base (CXx P w) k f fd ps (lsp xa sp)/\z1q K fd ps []/\PySem.W.keepIn K (.ref f)=true/\mg x=some (.ref f)
structure Fm(P:Program)(w:World)(K:yyF)(mg:yyS)(base:Heap)(xa:Nat->Addr)(C:Addr)(m:Str)(k:Nat)(sp:Wsp):Prop where
 ok:∃f fd ps,z2h P w K mg base (CXx P w) k f fd ps (lsp xa sp)/\z1q K fd ps []/\zhg K C m f/\Cls K C
end
def z8I(sp:Wsp)(t:WA):WE:=λρ S Q E=>t ρ S (λus S1=>sp us S1 Q E) E
def z48(S:Sto)(u:U)(C:Addr)(k:List (Str × U)->Prop):Prop:=match u with
 |.ref a=>∃fs,S a=some (.ins C fs)/\k fs
 |_=>False
def zgr(C:Addr)(m:Str)(sp:Wsp)(t:WE)(ts:WA):WE:=λρ S Q E=>t ρ S (λx S1=>z48 S1 x C λfs=>fs.lookup m=none/\ts ρ S1 (λus S2=>sp (x::us) S2 Q E) E) E
def z48.ex{S:Sto}{u:U}{C:Addr}{k:List (Str × U)->Prop}(h:z48 S u C k):∃a fs,u=.ref a/\S a=some (.ins C fs)/\k fs:=by cases u<;>simp only[z48]at h;obtain⟨fs,h1,h2⟩:=h;exact⟨_,fs,rfl,h1,h2⟩
theorem FsR.lookup{H:Hp}{fs:List (Str × U)}{vs:List (Str × V)}(h:FsR H fs vs)(f:Str):(fs.lookup f=none->vs.lookup f=none)/\∀u,fs.lookup f=some u->∃v,vs.lookup f=some v/\Ur H u v:=by
 induction h with
 |nil=>exact⟨λ_=>rfl,λu e=>by cases e⟩
 |@cons p q ps qs h t ih =>
  obtain⟨n,u⟩:=p;obtain⟨n',v⟩:=q;obtain⟨rfl,h2⟩:=h;simp only[y0H];cases f==n with
  |true=>exact⟨(by intro e;cases e),(by intro u e;cases e;exact⟨v,rfl,h2⟩)⟩
  |false=>exact ih
section
variable{xa:Nat->Addr}{X:Cx}{xk:St->XK}{a b e o:Expr}{es:List Expr}{t:WE}{ts:WA}{pos p apos:Pos}{k j:Nat}{sp:Wsp}{x m:Str}{C:Addr}
def z5U(X:Cx)(xk:St->XK):Prop:=∀σ,z9o (CXx X.prog X.w) X σ (xk σ)
def zem{pins:yyP}{σ:St}{H:Hp}{s:Shared}{Q':VK}{ys:List Value}{vs:List V}{f:Addr}{fd:FuncData}{ps:List Str}{us:List U}{hd:Hd}{S:Sto}{Q:Kq U}{E:Xq}(F:z2h X.prog X.w X.K X.mg X.base (CXx X.prog X.w) j f fd ps (lsp xa sp))(hr:z1C j X.A)(hb:z1q X.K fd ps [])(hx:z5U X xk)(I:Inv X pins σ H s)(r:z0B vs ys)(rp:Rep hd S H)(u:UrL H us vs)(h:sp us S Q E)(c:Ct xa (xk σ) hd Ur H Q E Q'):wpAny (model X.prog X.w) X.A (call (.ref f) ys) (EP X pins σ Q') X.xe s :=
 zec (dvs:=[]) F hr hb .nil (hx σ) I r ⟨hd,us,S,Q,E,rp,by rw[y0j];exact u,h,c⟩
def z0b(F:Fc X.prog X.w X.K X.mg X.base xa x j sp)(hr:z1C j X.A)(hx:z5U X xk)(ha:SA xa X xk (e::es) ts)(hg:Gl X x:=by rfl)(hdb:(x==("__debug__":Str))=false:=by decide)(he:starEach (e::es) X.env=(false,eval e X.env)::starEach es X.env:=by rfl)(hpl:(backTo pos (starEach es X.env)).any (·.1)=false:=by rfl):SE xa X xk (.Call (.Name x p) (e::es) [] pos) (z8I sp ts):=by obtain⟨f,fd,ps,F,hb,hk,hm⟩:=F.ok;intro pins s σ H Q' I h;refine y1q (z2R I hg hm ?_ hdb);refine y20 (h₀:=X.base) I.ok.mod.kin hk (thn (ha pos pins s σ H _ I (Lt.bind (T:=λvs H1=>∃hd us S Q E,Rep hd S H1/\UrL H1 us vs/\sp us S Q E/\Ct xa (xk σ) hd Ur H1 Q E Q') (f:=λus ρ S1 Q E=>sp us S1 Q E) h λhd ρ S Q E us vs H1 e1 r1 u1 q1 c1=>⟨hd,us,S,Q,E,r1,u1,q1,c1⟩)) λys s1 ⟨vs,H1,I1,r,hd,us,S,Q,E,rp,u1,q,c⟩=>⟨I1.kIn,?_⟩) he hpl;exact zem F hr hb hx I1 r rp u1 q c
def z0n{pl:Sem Bool}(F:Fm X.prog X.w X.K X.mg X.base xa C m j sp)(hr:z1C j X.A)(hx:z5U X xk)(ho:SE xa X xk o t)(ha:SA xa X xk (e::es) ts)
  (hst:starEach (e::es) X.env=(false,eval e X.env)::starEach es X.env:=by rfl) (hpl:(backTo pos (starEach es X.env)).any (·.1)=false:=by rfl)
  (ht:eval (.Call (.Attribute o m apos) (e::es) [] pos) X.env=(do
   let ov <-eval o X.env
   standAt apos.atName
   let(f,first) <-holding [ov] (getMethod ov m pl)
   callWith pos f first (backTo pos (starEach (e::es) X.env)) (backToKw pos (keywordEach [] X.env))):=by rfl):SE xa X xk (.Call (.Attribute o m apos) (e::es) [] pos) (zgr C m sp t ts):=by
 obtain⟨f,fd,ps,F,hb,hm,hc⟩:=F.ok;intro pins s σ H Q' I h;refine PySem.W.methodCall_KW (pl:=pl) (thn (ho pins s σ H _ I (Lt.bind (T:=λv H1=>∃hd ρ S Q E x,EnR H1 ρ σ/\Rep hd S H1/\Ur H1 x v/\(z48 S x C λfs=>fs.lookup m=none/\ts ρ S (λus S2=>sp (x::us) S2 Q E) E)/\Ct xa (xk σ) hd Ur H1 Q E Q')
  (f:=λx ρ S1 Q E=>z48 S1 x C λfs=>fs.lookup m=none/\ts ρ S1 (λus S2=>sp (x::us) S2 Q E) E) h λhd ρ S Q E x v H1 e1 r1 u1 q1 c1=>⟨hd,ρ,S,Q,E,x,e1,r1,u1,q1,c1⟩)) λu s1 ⟨y,H1,I1,rx,hd,ρ,S,Q,E,x,e1,r1,u1,q1,c1⟩=>?_) ht
 obtain⟨a,fs,rfl,hS,hf,q⟩:=q1.ex;obtain rfl:=urR u1;obtain⟨dx,vs,eH,l⟩:=r1.1 a _ hS;obtain rfl:u=Value.ref a:=rx;refine z4i I1 eH hc hm ((l.lookup m).1 hf) ?_;refine y20 (first:=[.ref a]) (h₀:=X.base) I.ok.mod.kin hm.kp (thn (ha pos pins s1 σ H1 (λvs H2=>∃us S,Rep hd S H2/\UrL H2 us vs/\sp (.ref a::us) S Q E/\Ct xa (xk σ) hd Ur H2 Q E Q') I1 ⟨hd,ρ,S,_,E,e1,r1,q,λus S2 vs H2 k2 r2 u2 q2=>⟨us,S2,r2,u2,q2,c1.mono k2⟩,c1.ex⟩)
  λys s2 ⟨vs2,H2,I2,r,us,S2,r2,u2,q2,c2⟩=>⟨I2.kIn,?_⟩) hst hpl
 exact zem (vs:=.ref a::vs2) F hr hb hx I2 (.cons rfl r) r2 (.cons (u:=.ref a) (v:=.ref a) (by simp only[Ur]) u2) q2 c2
def z4t{pl:Sem Bool}(F:Fm X.prog X.w X.K X.mg X.base xa C m j sp)(hr:z1C j X.A)(hx:z5U X xk)(ho:SE xa X xk o t)
  (ht:eval (.Call (.Attribute o m apos) [] [] pos) X.env=(do
   let ov <-eval o X.env
   standAt apos.atName
   let(f,first) <-holding [ov] (getMethod ov m pl)
   callWith pos f first (backTo pos (starEach [] X.env)) (backToKw pos (keywordEach [] X.env))):=by rfl):SE xa X xk (.Call (.Attribute o m apos) [] [] pos) (zgr C m sp t zay):=by
 obtain⟨f,fd,ps,F,hb,hm,hc⟩:=F.ok;intro pins s σ H Q' I h;refine PySem.W.methodCall_KW (pl:=pl) (thn (ho pins s σ H _ I (Lt.bind (T:=λv H1=>∃hd S Q E x,Rep hd S H1/\Ur H1 x v/\(z48 S x C λfs=>fs.lookup m=none/\sp [x] S Q E)/\Ct xa (xk σ) hd Ur H1 Q E Q')
  (f:=λx ρ S1 Q E=>z48 S1 x C λfs=>fs.lookup m=none/\sp [x] S1 Q E) h λhd ρ S Q E x v H1 e1 r1 u1 q1 c1=>⟨hd,S,Q,E,x,r1,u1,q1,c1⟩)) λu s1 ⟨y,H1,I1,rx,hd,S,Q,E,x,r1,u1,q1,c1⟩=>?_) ht
 obtain⟨a,fs,rfl,hS,hf,q⟩:=q1.ex;obtain rfl:=urR u1;obtain⟨dx,vs,eH,l⟩:=r1.1 a _ hS;obtain rfl:u=Value.ref a:=rx;refine z4i I1 eH hc hm ((l.lookup m).1 hf) ?_;exact PySem.W.callWith_K0 (first:=[.ref a]) I1.kIn hm.kp (zem (vs:=[.ref a]) F hr hb hx I1 (.cons rfl .nil) r1 (.cons (u:=.ref a) (v:=.ref a) (by simp only[Ur]) .nil) q c1)
def zjw(f:Str)(C:Addr)(t:WE):WE:=λρ S Q E=>t ρ S (λx S1=>z48 S1 x C λfs=>opt (fs.lookup f) λu=>Q u S1) E
def zfw{f:Str}(hc:Cls X.K C)(hn:z2X X.K C f)(ho:SE xa X xk o t)(hb:attributeBase o f X.env (eval o X.env)=eval o X.env:=by rfl):SE xa X xk (.Attribute o f pos) (zjw f C t):=PE.weak (zgo ho hb) λσ H Q' h=>by refine Lt.bind (f:=λx ρ S1 Q E=>z48 S1 x C λfs=>opt (fs.lookup f) λu=>Q u S1) h λhd ρ S Q E x v H1 e1 r1 u1 q1 c1=>?_;obtain⟨a,fs,rfl,hS,q⟩:=q1.ex;obtain⟨u,hu,q⟩:=q.ex;obtain rfl:=urR u1;obtain⟨dx,vs,eH,l⟩:=r1.1 a _ hS;obtain⟨v,hv,r⟩:=(l.lookup f).2 u hu;exact⟨a,C,dx,vs,v,rfl,eH,hc,hn,hv,c1.ok.put r1 r q⟩
def rC(f:List U->Sto->Kq U->Prop):List V->Hp->VK->Prop:=λvs H Q'=>∃hd us S Q,Rep hd S H/\UrL H us vs/\Co hd Ur H Q Q'/\f us S Q
def wB(f:List U->Sto->Kq U->Prop)(t:WA):WE:=λρ S Q E=>t ρ S (λus S1=>f us S1 Q) E
def zj7{f:List U->Sto->Kq U->Prop}{σ:St}{H:Hp}{Q':VK}(h:Lt xa xk Ur (wB f ts) σ H Q'):tCB (rC f) (Lt xa xk UrL ts) σ H Q' :=
 Lt.bind (f:=λus ρ S1 Q E=>f us S1 Q) h λhd ρ S Q E us vs H1 e1 r1 u1 q1 c1=>⟨hd,us,S,Q,r1,u1,c1.ok,q1⟩
def zj0{id:String}{f:List U->Sto->Kq U->Prop}(hc:z0Q X (.builtin id) (rC f))(hm:X.mg x=none)(hv:bootBuiltins x=some (.builtin id))(ha:SA xa X xk (e::es) ts)(hg:Gl X x:=by rfl)(hn:x≠"__name__":=by decide)(hdb:(x==("__debug__":Str))=false:=by decide)(he:starEach (e::es) X.env=(false,eval e X.env)::starEach es X.env:=by rfl)(hpl:(backTo pos (starEach es X.env)).any (·.1)=false:=by rfl):SE xa X xk (.Call (.Name x p) (e::es) [] pos) (wB f ts):=PE.weak (z7M hc hg hm hv ha hn hdb he hpl) λσ H Q h=>zj7 h
def ziM{id:String}{f:List U->Sto->Kq U->Prop}(hc:z0Q X (.type id) (rC f))(hm:X.mg x=none)(hv:bootBuiltins x=some (.type id))(ha:SA xa X xk (e::es) ts)(hg:Gl X x:=by rfl)(hn:x≠"__name__":=by decide)(hdb:(x==("__debug__":Str))=false:=by decide)(he:starEach (e::es) X.env=(false,eval e X.env)::starEach es X.env:=by rfl)(hpl:(backTo pos (starEach es X.env)).any (·.1)=false:=by rfl):SE xa X xk (.Call (.Name x p) (e::es) [] pos) (wB f ts):=PE.weak (z25 hc hg hm hv ha hn hdb he hpl) λσ H Q h=>zj7 h
def ziQ(us:List U)(S:Sto)(Q:Kq U):Prop:=match us with
 |[.tup us]=>Q (.int us.length) S
 |[.str z]=>z.length<=sizeLine/\Q (.int z.length) S
 |[.ref a]=>∃us,isL S a us/\Q (.int us.length) S
 |_=>False
def z0E:z0Q X (.builtin "len") (rC ziQ):=by
 rintro pins s σ H vs xs Q' I r1 ⟨hd,us,S,Q,r,u,c,h⟩;unfold ziQ at h;split at h
 .obtain⟨v,rfl,g⟩:=z4e u;obtain⟨a,ws,rfl,e,l⟩:=urT g;exact z2W pins s σ H _ _ _ I r1 ⟨a,ws,rfl,.inr (.of e),by rw[<-l.len];exact c.put r uI h⟩
 .obtain⟨v,rfl,g⟩:=z4e u;obtain rfl:=urS g;exact z5S pins s σ H _ _ _ I r1 ⟨_,rfl,h.1,c.put r uI h.2⟩
 .obtain⟨v,rfl,g⟩:=z4e u;obtain rfl:=urR g;obtain⟨us,hl,q⟩:=h;obtain⟨ws,e,l⟩:=hl.of (K:=X.K) r;exact z2W pins s σ H _ _ _ I r1 ⟨_,ws,rfl,.inl e,by rw[<-l.len];exact c.put r uI q⟩
 .exact h.elim
def zcE(us:List U)(S:Sto)(Q:Kq U):Prop:=match us with
 |[.tup us]=>Q (.tup us) S
 |[.ref a]=>∃us,isL S a us/\Q (.tup us) S
 |_=>False
def z11:z0Q X (.type "tuple") (rC zcE):=by
 rintro pins s σ H vs xs Q' I r1 ⟨hd,us,S,Q,r,u,c,h⟩;unfold zcE at h;split at h
 .obtain⟨v,rfl,g⟩:=z4e u;obtain⟨a,ws,rfl,e,l⟩:=urT g;exact z2v pins s σ H _ _ _ I r1 ⟨a,ws,rfl,.inr ⟨.of e,c.put r (by simp only[Ur];exact⟨a,ws,rfl,e,l⟩) h⟩⟩
 .obtain⟨v,rfl,g⟩:=z4e u;obtain rfl:=urR g;obtain⟨us,hl,q⟩:=h;obtain⟨ws,e,l⟩:=hl.of (K:=X.K) r;exact z2v pins s σ H _ _ _ I r1 ⟨_,ws,rfl,.inl ⟨e,λp hp=>c.tup r l q hp⟩⟩
 .exact h.elim
def zfm(us:List U)(S:Sto)(Q:Kq U):Prop:=match us with
 |[.tup us]=>nw (.lst us) S Q
 |[.ref a]=>∃us,isL S a us/\nw (.lst us) S Q
 |_=>False
def z7T:z0Q X (.type "list") (rC zfm):=by
 rintro pins s σ H vs xs Q' I r1 ⟨hd,us,S,Q,r,u,c,h⟩;unfold zfm at h;split at h
 .obtain⟨v,rfl,g⟩:=z4e u;obtain⟨a,ws,rfl,e,l⟩:=urT g;exact z34 pins s σ H _ _ _ I r1 ⟨a,ws,rfl,.inr (.of e),λp hp=>c.lst r l h hp⟩
 .obtain⟨v,rfl,g⟩:=z4e u;obtain rfl:=urR g;obtain⟨us,hl,q⟩:=h;obtain⟨ws,e,l⟩:=hl.of (K:=X.K) r;exact z34 pins s σ H _ _ _ I r1 ⟨_,ws,rfl,.inl e,λp hp=>c.lst r l q hp⟩
 .exact h.elim
def tyL(u:U)(S:Sto):Prop:=match u with
 |.ref a=>∃us,isL S a us
 |_=>False
def wBM(ty:U->Sto->Prop)(f:U->List U->Sto->Kq U->Prop)(t:WE)(ts:WA):WE:=λρ S Q E=>t ρ S (λx S1=>ty x S1/\ts ρ S1 (λus S2=>f x us S2 Q) E) E
def rM(f:U->List U->Sto->Kq U->Prop):V->List V->Hp->VK->Prop:=λv vs H Q'=>∃hd x us S Q,Rep hd S H/\Ur H x v/\UrL H us vs/\Co hd Ur H Q Q'/\f x us S Q
def z4O{hd:Hd}{u:U}{S:Sto}{H:Hp}{v:V}(h:tyL u S)(r:Rep hd S H)(k:Ur H u v):tyV X.K "list" v H:=by cases u<;>simp only[tyL]at h;obtain rfl:=urR k;obtain⟨us,hl⟩:=h;obtain⟨vs,e,_⟩:=hl.of (K:=X.K) r;exact .inl ⟨rfl,vs,e⟩
def z5H{T id:String}{ty:U->Sto->Prop}{f:U->List U->Sto->Kq U->Prop}{name:Str}{cpos:Pos}(pa:PlainAttrs T)(slot:Slot T name id)(hty:typeOf (.builtin id)=pure (.type "method_descriptor"))(hm:MtR X id (rM f))(tv:∀hd u S H v,ty u S->Rep hd S H->Ur H u v->tyV X.K T v H)(ho:SE xa X xk o t)(ha:SA xa X xk (e::es) ts)(hbase:attributeBase o name X.env (eval o X.env)=eval o X.env:=by rfl)(hfew:((backTo cpos (starEach (e::es) X.env)).all (λx=>!x.1)&&(backToKw cpos (keywordEach [] X.env)).all (λx=>x.1.isSome)&&decide ((e::es).length+([]:List Keyword).length+(if([]:List Keyword).isEmpty then 0 else 1)<30))=true:=by rfl)(hline:(apos.endLine==cpos.line)=true:=by rfl)(hs:starEach (e::es) X.env=(false,eval e X.env)::starEach es X.env:=by rfl)(hplain:(backTo cpos (starEach es X.env)).any (·.1)=false:=by rfl):SE xa X xk (.Call (.Attribute o name apos) (e::es) [] cpos) (wBM ty f t ts) :=
 PE.weak (zhs pa slot hty hm ho ha hbase hfew hline hs hplain) λσ H Q' h=>Lt.bind (f:=λx ρ S1 Q E=>ty x S1/\ts ρ S1 (λus S2=>f x us S2 Q) E) h λhd ρ S Q E x v H1 e1 r1 u1 q1 c1 =>
  ⟨tv hd x S H1 v q1.1 r1 u1,hd,ρ,S,_,E,e1,r1,q1.2,λus S2 vs H2 k2 r2 u2 q2=>⟨hd,x,us,S2,Q,r2,u1.mono k2,u2,c1.ok.mono k2,q2⟩,c1.ex⟩
def zcv{T id:String}{ty:U->Sto->Prop}{f:U->List U->Sto->Kq U->Prop}{name:Str}{cpos:Pos}(pa:PlainAttrs T)(slot:Slot T name id)(hty:typeOf (.builtin id)=pure (.type "method_descriptor"))(hm:MtR X id (rM f))(tv:∀hd u S H v,ty u S->Rep hd S H->Ur H u v->tyV X.K T v H)(ho:SE xa X xk o t)(hbase:attributeBase o name X.env (eval o X.env)=eval o X.env:=by rfl)(hline:(apos.endLine==cpos.line)=true:=by rfl):SE xa X xk (.Call (.Attribute o name apos) [] [] cpos) (wBM ty f t zay) :=
 PE.weak (zfk pa slot hty hm ho hbase hline) λσ H Q' h=>Lt.bind (f:=λx ρ S1 Q E=>ty x S1/\f x [] S1 Q) h λhd ρ S Q E x v H1 e1 r1 u1 q1 c1=>⟨tv hd x S H1 v q1.1 r1 u1,hd,x,[],S,Q,r1,u1,.nil,c1.ok,q1.2⟩
def Co.wr{hd:Hd}{H:Hp}{Q:Kq U}{Q':VK}{S:Sto}{a:Addr}{us:List U}{vs vs':List V}{u:U}{v:V}(c:Co hd Ur H Q Q')(r:Rep hd S H)(n:S a≠none)(h:H a=some (.lst vs))(l:UrL H us vs')(k:Ur H u v)(q:Q u (up S a (.lst us))):Q' v (upd H a (.lst vs')):=by have kp:Kp H (upd H a (.lst vs')):=.put h (λ_ z=>nomatch z) (λ_ _ z=>nomatch z);exact c _ _ _ _ kp (r.up (o:=.lst us) kp (.inr n) ⟨vs',z0e,l.mono kp⟩) (k.mono kp) q
def z6k(x:U)(us:List U)(S:Sto)(Q:Kq U):Prop:=match x,us with
 |.ref a,[y]=>∃us,S a=some (.lst us)/\us.length<sizeLine/\Q .non (up S a (.lst (us++[y])))
 |_,_=>False
def z2C:MtR X "list.append" (rM z6k):=by
 rintro pins s σ H v vs x xs Q' I r1 r2 ⟨hd,y,us,S,Q,r,u1,u2,c,h⟩;unfold z6k at h;split at h
 .obtain rfl:=urR u1;obtain⟨z,rfl,g⟩:=z4e u2;obtain⟨us,hS,hl,q⟩:=h;obtain⟨ws,e,l⟩:=r.1 _ _ hS;exact z5y pins s σ H _ _ _ _ _ I r1 r2 ⟨_,ws,z,rfl,rfl,e,by rw[<-l.len];exact hl,c.wr r (by rw[hS];exact λz=>nomatch z) e (l.app (.cons g .nil)) (by simp only[Ur]) q⟩
 .exact h.elim
def zhT(x:U)(us:List U)(S:Sto)(Q:Kq U):Prop:=match x,us with
 |.ref a,[]=>∃us u,S a=some (.lst (us++[u]))/\Q u (up S a (.lst us))
 |_,_=>False
def zhE:MtR X "list.pop" (rM zhT):=by
 rintro pins s σ H v vs x xs Q' I r1 r2 ⟨hd,y,us,S,Q,r,u1,u2,c,h⟩;unfold zhT at h;split at h
 .obtain rfl:=urR u1;simp only[UrL]at u2;subst u2;obtain⟨us,u,hS,q⟩:=h;obtain⟨ws,e,l⟩:=r.1 _ _ hS;obtain⟨z,h1,h2⟩:=l.get (i:=us.length) (u:=u) (by simp);have hl:=l.len;rw[y04,y1n]at hl;refine zfq pins s σ H _ _ _ _ _ I r1 r2 ⟨_,ws,z,rfl,rfl,e,by rw[<-hl];exact h1,c.wr r (by rw[hS];exact λz=>nomatch z) e ?_ h2 q⟩;have:=l.take us.length;rw[List.take_left,show us.length=ws.length-1 by lia,<-List.dropLast_eq_take]at this;exact this
 .exact h.elim
end
open PySem L2 PySem.SeqAt
open PyProof.Rows (envOfC)
variable[WW]
def zg9(c h:Nat):Bool:=c==h||h==0
def z93(K:yyF)(C C':Addr):Bool:=match K.lookup C with
 |some ⟨_,_,.cls cd,_⟩=>cd.mro.contains (.ref C')
 |_=>false
structure Xt(K:yyF)(mg:yyS)(xa:Nat->Addr)(L:List (Str × Nat)):Prop where
 mgx:∀x c,L.lookup x=some c->mg x=some (.ref (xa c))
 exc:∀x c,L.lookup x=some c->∃bmB B newId initId,PySem.W.excIn K (xa c) bmB newId=true/\ExcBaseFacts B newId initId bmB
 sub:∀x c y d,L.lookup x=some c->L.lookup y=some d->z93 K (xa c) (xa d)=zg9 c d
section
variable{M:Model}{A:Around}{E:yyE}
variable{nm q:Str}{C N:Addr}{bs bm:List Value}{hdct:Bool}{sn:List Str}{sub:List Value}{ab:Bool}{col:Option Bool}{dd:Option Addr}{k0 k1 k2 k3 k5:Option Value}{newId:String}
variable{nm' q':Str}{C' N':Addr}{bs' bm':List Value}{hdct':Bool}{sn':List Str}{sub':List Value}{ab':Bool}{col':Option Bool}{dd':Option Addr}{k0' k1' k2' k3' k5':Option Value}{newId':String}
def zgZ{h:Heap}{g:Array GenState}{d:Drawn}{t:Nat}{os:OsState}{e:Addr}{oe:Obj}{Q:Bool->Shared->Prop}{b:Bool}(hC:h.get? C=some (excClassObj nm q C N bs bm hdct sn sub ab col dd k0 k1 k2 k3 k5 newId))(hC':h.get? C'=some (excClassObj nm' q' C' N' bs' bm' hdct' sn' sub' ab' col' dd' k0' k1' k2' k3' k5' newId'))(he:h.get? e=some oe)(hcls:oe.cls=.ref C)(hbase:bm'.contains (.type "BaseException")=true)(hno:(Value.ref C::bm).contains (.ref C')=b)(hq:Q b ⟨h,g,d,t,os⟩):wpAny M A (excMatches (.ref e) (.ref C')) Q E ⟨h,g,d,t,os⟩:=by
 have hcB:(Value.ref C'::bm').contains (.type "BaseException")=true:=by rw[List.contains_cons,hbase,Bool.or_true]
 have f:=tc_notTuple;unfold excMatches;repeat (first|(with_reducible refine wpAny_loadPart_at he ?_;rw[hcls])|with_reducible refine wpAny_loadPart_at hC' ?_|(with_reducible refine wpAny_isSubtype_exc hC' ?_;rw[hcB])|(with_reducible refine wpAny_isSubtype_exc hC ?_;rw[hno])|wp_step)
 cases b
 .repeat wp_step
  exact hq
 .repeat wp_step
  exact hq
end
def ze6{K:yyF}{h:Heap}{C C':Addr}{bmB:List Value}{newId:String}(X:K.In h)(e:PySem.W.excIn K C bmB newId=true):∃bm N nm q bs hdct sn sub ab col dd k0 k1 k2 k3 k5 mN, h.get? C=some (excClassObj nm q C N bs bm hdct sn sub ab col dd k0 k1 k2 k3 k5 newId)/\h.Ns N mN/\mN "__init__"=none/\OwnTail h bmB bm/\(Value.ref C::bm).contains (.ref C')=z93 K C C':=by
 obtain⟨bm,N,nm,q,bs,hdct,sn,sub,ab,col,dd,k0,k1,k2,k3,k5,mN,hC,hN,hi,ht⟩:=z6I X e;refine⟨bm,N,nm,q,bs,hdct,sn,sub,ab,col,dd,k0,k1,k2,k3,k5,mN,hC,hN,hi,ht,?_⟩;unfold PySem.W.excIn at e;unfold z93;split at e
 .rename_i dict cd sl hl;rw[hl];have e1:=(X C _ hl).symm.trans hC;have e3:=y0d e1;unfold excClassObj at e3;injection e3 with _ _ e4 _;injection e4 with e5;rw[e5]
 .cases e
def zeN(c:Nat)(t:WE):WS:=λρ S _ E=>t ρ S (λ_ S1=>E ρ c S1) (E ρ)
section
variable{P:Program}{w:World}{K:yyF}{mg:yyS}{base:Heap}{N:List Str}{qual:Str}{scope:Scope}{f:Addr}{cd:Value}{A:Around}{outer:List Env}{s0:Shared}{H0:Hp}{E0:XK}{xa:Nat->Addr}{L:List (Str × Nat)}
def z0N{x:Str}{c:Nat}{arg:Expr}{t:WE}{np cpos pos:Pos}(T:Xt K mg xa L)(hc:L.lookup x=some c)(ha:SE xa (z2V (CXx P w) P w K mg base N qual scope f cd A outer s0 H0 E0) (λ_=>E0) arg t)(hg:Gl (z2V (CXx P w) P w K mg base N qual scope f cd A outer s0 H0 E0) x:=by rfl)(htr:backTo cpos (starEach [arg] (z2V (CXx P w) P w K mg base N qual scope f cd A outer s0 H0 E0).env)=[(false,eval arg (z2V (CXx P w) P w K mg base N qual scope f cd A outer s0 H0 E0).env)]:=by rfl)(hdb:(x==("__debug__":Str))=false:=by decide) : SS xa (λ_=>E0) (z2V (CXx P w) P w K mg base N qual scope f cd A outer s0 H0 E0) (.Raise (some (.Call (.Name x np) [arg] [] cpos)) none pos) (zeN c t):=by obtain⟨bmB,B,newId,initId,he,hB⟩:=T.exc x c hc;exact PS.weak (zbk (T.mgx x c hc) hg he hB ha htr hdb) λD σ H q=>LtS.of (R:=Ur) (f:=λ_ ρ S1 W E=>E ρ c S1) q λhd ρ S W E u v H1 e1 r1 u1 q1 c1 ea=>c1.ex ea c ρ σ S H1 (.refl _) e1 r1 q1
end
def noX:St->XK:=λ_ _ _ _=>False
def hnd:List (Nat × WS)->Nat->En->Sto->Wd->Prop
 |[],_,_,_,_=>False
 | (h,t)::r,c,ρ,S,W=>cond (zg9 c h) (t ρ S W λ_ _ _=>False) (hnd r c ρ S W)
inductive SH(xa:Nat->Addr)(L:List (Str × Nat))(X:Cx):List ExceptHandler->List (Nat × WS)->Prop
 |nil:SH xa L X [] []
 |cons {x:Str} {c:Nat} {np hpos:Pos} {b₀:Stmt} {suite:List Stmt} {hs:List ExceptHandler} {ws:List (Nat × WS)} {t:WS}:L.lookup x=some c->(∀ea,SSs xa noX (X.sup ea) (b₀::suite) t)->SH xa L X hs ws->Gl X x->(x==("__debug__":Str))=false ->
  SH xa L X (.ExceptHandler (some (.Name x np)) none (b₀::suite) hpos::hs) ((c,t)::ws)
def zjQ(L:List (Str × Nat))(tb:WS)(ws:List (Nat × WS)):WS:=λρ S W E=>tb ρ S W λρ' c S'=>(∃y,L.lookup y=some c)/\hnd ws c ρ' S' W
def zfz{X:Cx}{xa:Nat->Addr}{L:List (Str × Nat)}{xk:St->XK}{body:List Stmt}{h:ExceptHandler}{hs:List ExceptHandler}{ws:List (Nat × WS)}{tb:WS}{pos:Pos}(T:Xt X.K X.mg xa L)(hfr:X.env.frame=some X.env.locals)(hstk:X.stack=X.env::X.outer)(hb:∀pn E1 xk',z5U (X.tried pn E1) xk'->SSs xa xk' (X.tried pn E1) body tb)(hh:SH xa L X (h::hs) ws):SS xa xk X (.Try body (h::hs) [] [] pos) (zjQ L tb ws):=by
 intro pins s σ H D I ⟨hd,ρ0,S0,W,E0,en0,r0,h0,cs0⟩;refine wpAny_Try_except ?_;have pass:z5U (X.tried (X.pn++pins) λe s₁=>wpAny (model X.prog X.w) X.A (noteFrame e X.env) (λ_ s₂=>wpAny (model X.prog X.w) X.A (setFlight e none) (λ_ s₃=>wpAny (model X.prog X.w) X.A (handleBy e X.env (h::hs)) (SP X pins D) X.xe s₃) X.xe s₂) X.xe s₁)
   (λσ' _ C' H'=>∃c y ρ S,C'=some (xa c)/\L.lookup y=some c/\EnR H' ρ σ'/\Rep hd S H'/\hnd ws c ρ S W/\Cs xa xk hd H' W E0 D):=by
  intro σ' pins' H1 s1 e s' I1 hx';obtain⟨ea,Ce,H',rfl,os,bare,un,hok,fly,c,y,ρ,S,hC,hy,en,rp,hw,cs⟩:=hx';cases hC;have J:=I1.call' (ch:=[]) os un hok bare (λb z=>absurd z (by simp));have FF:s'.heap.FunFrames X.base (X.env::X.outer):=by have:=J.stack;rw[show(X.tried (X.pn++pins) _).stack=X.stack from rfl,hstk]at this;exact this
  have un':Un (frs (X.env::X.outer)) [] H1 H' s1.heap s'.heap:=by rw[<-hstk];exact un
  have hfree:∀b∈frs (X.env::X.outer),H' b=none/\(b∈frs (X.env::X.outer)\/s1.heap.get? b=none):=λb hb=>⟨J.stkFree b (by show b∈frs X.stack;rw[hstk];exact hb),.inl hb⟩;refine zes (P:=X.prog) (w:=X.w) (fr:=frs (X.env::X.outer)) (H1:=H1) (H':=H') (h1:=s1.heap) (base:=X.base) (outer:=X.outer) (L:=X.env.locals) (by rw[I.ok.frames,hstk]) hfr FF un' hok hfree (λb hb=>hb) fly λh2 u2 k2 f2=>?_;have mk:∀h3,Un (frs (X.env::X.outer)) [] H1 H' s1.heap h3->HOk X.prog X.w H' h3->Inv (X.sup ea) pins σ' H' { s' with heap:=h3 }:=λh3 u3 k3=>by have J3:=I1.call' (s':={ s' with heap:=h3 }) (ch:=[]) os (by show Un (frs X.stack) [] H1 H' s1.heap h3;rw[hstk];exact u3) k3 bare (λb z=>absurd z (by simp));exact⟨I.ok.sup ea,J3.os,J3.bare,J3.base,J3.loc,J3.cell,J3.free,J3.freeC,λp hp=>J3.pin p (y30 _ hp),J3.hok,J3.len⟩
  have J2:=mk h2 u2 k2;have go:∀{hs:List ExceptHandler}{ws:List (Nat × WS)},SH xa L X hs ws->hnd ws c ρ S W->wpAny (model X.prog X.w) X.A (handleBy (.ref ea) X.env hs) (SP X pins D) X.xe { s' with heap:=h2 }:=by
   intro hs ws hh hw;induction hh with
   |nil=>exact hw.elim
   |@cons x d np hpos b₀ suite hs ws t hld hsu hr hg hdb ih =>
    obtain⟨bmB,B,newId,initId,he,hB⟩:=T.exc x d hld;obtain⟨bmB',B',newId',initId',he',hB'⟩:=T.exc y c hy;obtain⟨bm,NN,nm,q,bs,hdd,sn,sub,ab,col,dict,a0,a1,a2,a3,a5,mN,hC,hN,hi,ht⟩:=z6I J2.kIn he;obtain⟨bm',NN',nm',q',bs',hd',sn',sub',ab',col',dict',a0',a1',a2',a3',a5',mN',hC',hN',hi',ht',hno'⟩:=ze6 (C':=xa d) J2.kIn he';obtain⟨_,_,b0,oe,vs,Tt,oT,ts,g1,⟨g2,_⟩,_⟩:=id f2;refine wpAny_handleBy_cons (codeAny_handlers_test (z2R J2 hg (T.mgx x d hld) ?_ hdb)) (by intro z;cases z);rw[T.sub y c x d hy hld]at hno';refine zgZ hC' hC g1 g2 (z7j ht hB.hasBase) hno' ?_;simp only[hnd]at hw;cases hcd:zg9 c d with
    |false =>
     rw[hcd]at hw;exact ih hw
    |true =>
     rw[hcd]at hw;refine codeAny_handlers_suite ?_;refine zb3 (P:=X.prog) (w:=X.w) (fr:=frs (X.env::X.outer)) (H1:=H1) (H':=H') (h1:=s1.heap) (base:=X.base) (env:=X.env) (outer:=X.outer) (by have:=J2.stack;rw[show(X.sup ea).stack=X.stack from rfl,hstk]at this;exact this) u2 k2 hfree (λb hb=>hb) f2 λh3 u3 k3 f3=>?_;have J3:=mk h3 u3 k3;refine y0I (hsu ea pins _ σ' H' D J3 ⟨hd,ρ,S,W,_,en,rp,hw,cs.nx,cs.bk,cs.ct,cs.rt,λ_ _ _ _ _ _ _ _ _ z=>z.elim⟩) (λf s4 sp=>?_) λ_ _ z=>False.elim z;have back:∀{σ4 H4},Inv (X.sup ea) pins σ4 H4 s4->Inv X pins σ4 H4 s4:=λK4=>⟨I.ok,K4.os,K4.bare,K4.base,K4.loc,K4.cell,K4.free,K4.freeC,K4.pin,K4.hok,K4.len⟩;cases f with
     |next=>obtain⟨σ4,H4,K4,q⟩:=sp;exact⟨σ4,H4,back K4,q⟩
     |brk=>obtain⟨σ4,H4,K4,q⟩:=sp;exact⟨σ4,H4,back K4,q⟩
     |cont=>obtain⟨σ4,H4,K4,q⟩:=sp;exact⟨σ4,H4,back K4,q⟩
     |ret u=>obtain⟨v,σ4,H4,K4,r,q⟩:=sp;exact⟨v,σ4,H4,back K4,r,q⟩
  exact go hh hw
 have I0:∀E,Inv (X.tried (X.pn++pins) E) [] σ H s:=λE=>⟨I.ok.tried _ _,I.os,I.bare,I.base,I.loc,I.cell,I.free,I.freeC,λp hp=>I.pin p (by rw[y0j]at hp;exact hp),I.hok,I.len⟩;refine y0I (hb (X.pn++pins) _ _ pass [] s σ H D (I0 _) ⟨hd,ρ0,S0,W,_,en0,r0,h0,cs0.nx,cs0.bk,cs0.ct,cs0.rt,λea c ρ σ' S H' k e r ⟨⟨y,hy⟩,hw⟩=>⟨c,y,ρ,S,rfl,hy,e,r,hw,cs0.mono k⟩⟩) (λf s1 sp=>?_) λe s1 z=>z;have back:∀{E σ4 H4 s4},Inv (X.tried (X.pn++pins) E) [] σ4 H4 s4->Inv X pins σ4 H4 s4:=λK4=>⟨I.ok,K4.os,K4.bare,K4.base,K4.loc,K4.cell,K4.free,K4.freeC,λp hp=>K4.pin p (by rw[y0j];exact hp),K4.hok,K4.len⟩;cases f with
 |next=>obtain⟨σ4,H4,K4,q⟩:=sp;exact y2p ⟨σ4,H4,back K4,q⟩
 |brk=>obtain⟨σ4,H4,K4,q⟩:=sp;exact⟨σ4,H4,back K4,q⟩
 |cont=>obtain⟨σ4,H4,K4,q⟩:=sp;exact⟨σ4,H4,back K4,q⟩
 |ret u=>obtain⟨v,σ4,H4,K4,r,q⟩:=sp;exact⟨v,σ4,H4,back K4,r,q⟩
open PySem L2 PySem.SeqAt
variable[WW]
def noQ:Xq:=λ_ _=>False
abbrev WR:=En->Sto->List U->(En->List U->Sto->Prop)->Prop
def em(te:WE):WR:=λρ S acc k=>te ρ S (λu S1=>acc.length<sizeLine/\k ρ (acc++[u]) S1) noQ
def wTs:List WT->En->Sto->(Bool->Sto->Prop)->Prop
 |[],_,S,Q=>Q true S
 |t::r,ρ,S,Q=>t ρ S (λb S1=>cond b (wTs r ρ S1 Q) (Q false S1)) noQ
def cmL(ck:Sto->Prop)(g:WX U)(ts:List WT)(rest:WR):List U->WR
 |[]=>λρ S acc k=>ck S/\k ρ acc S
 |x::L=>λρ S acc k=>ck S/\g x ρ S λρ1 S1=>wTs ts ρ1 S1 λb S2=>cond b (rest ρ1 S2 acc λρ2 acc2 S3=>cmL ck g ts rest L ρ2 S3 acc2 k) (cmL ck g ts rest L ρ1 S2 acc k)
def wCl(ti:WI)(g:WX U)(ts:List WT)(rest:WR):WR:=λρ S acc k=>ti ρ S (λL ck S1=>cmL ck g ts rest L ρ S1 acc k) noQ
def cst(ix:List (Option Nat))(ρ:En):En:=ix.map λo=>o.bind (lk ρ)
def zg4(ix:List (Option Nat))(ti:WI)(g:WX U)(ts:List WT)(rest:WR):WE:=λρ S Q E=>ti ρ S (λL ck S1=>cmL ck g ts rest L (cst ix ρ) S1 [] λ_ acc S2=>nw (.lst acc) S2 Q) E
section
variable{prog:Program}{w:World}{A:Around}{R:Result->Shared->Prop}{s:Shared}
def tsC(fs:List Expr)(env:Env):Sem Bool:=forIn fs true λc r=>if r=true then do let ok <-isTrue c env (eval c env);pure (ForInStep.yield ok)else pure (ForInStep.yield r)
def zeC(M:Model)(A:Around)(e elt:Expr)(g:Option Comprehension)(d:Nat)(acc:Value)(env:Env)(Q:Shared->Prop)(s:Shared):Prop:=match g with
 |some g'=>wpAny M A (eval g'.iter env) (λx s5=>wpAny M A (pyIter x) (λit2 s6=>∀R':Result->Shared->Prop,(∀s7,Q s7->R' (.ok .next) s7)->codeAny M A (.compStart e d it2 acc env) R' s6) noE s5) noE s
 |none=>wpAny M A (eval elt env) (λx s5=>wpAny M A (call (.builtin "list.append") [acc,x]) (λ_ s6=>Q s6) noE s5) noE s
def z6q{elt t i:Expr}{fs:List Expr}{cs:List Comprehension}{scope:Scope}{pos:Pos}{d:Nat}{it acc:Value}{env:Env}(h:cs[d]?=some ⟨t,i,fs,0⟩)(hs:∀g',cs[d+1]?=some g'->g'.is_async=0/\∀x,foldedSetIterable g'.iter env x=pure x)(I:Nat->Shared->Prop)
  (turn:∀n s,I n s->wpAny (model prog w) A (pyNext it) (λr s1=>match r with
   |none=>R (.ok .next) s1
   |some v=>wpAny (model prog w) A (letOwnedTupleGo t it v) (λ_ s2=>wpAny (model prog w) A (assign t env v) (λ_ s3=>wpAny (model prog w) A (tsC fs env) (λok s4 =>
     cond ok (zeC (model prog w) A (.ListComp elt cs scope pos) elt cs[d+1]? (d+1) acc env (λs5=>∃m,m<n/\I m s5) s4) (∃m,m<n/\I m s4)) noE s3) noE s2) noE s1) noE s)
  (n:Nat) (hI:I n s):codeAny (model prog w) A (.compLoop (.ListComp elt cs scope pos) d it acc env) R s:=by
 have no:∀(P:yyE)(a:Value)(b:Shared),noE a b->P a b:=λ_ _ _ z=>False.elim z;refine codeAny_loop rfl I (λn s hI=>?_) n hI;show wpAny _ _ ((compTurn (.ListComp elt cs scope pos) d it acc env).onRaise
  (λx=>do noteFrame x env;theTreesLotGoes x)) _ _ s
 refine wpAny_noted ?_;unfold compTurn;simp only[h];refine y01 (y1W (y01 (y0I (turn n s hI) (λr s1 h1=>?_) (no _))));cases r with
 |none=>exact y03 h1
 |some v =>
  refine y01 (y0I h1 (λ_ s2 h2=>?_) (no _));refine y01 (y0I h2 (λ_ s3 h3=>y01 (y0I h3 (λok s4 h4=>?_) (no _))) (no _));cases ok with
  |false=>exact y03 ⟨rfl,h4⟩
  |true =>
   have h4:zeC (model prog w) A (.ListComp elt cs scope pos) elt cs[d+1]? (d+1) acc env (λs5=>∃m,m<n/\I m s5) s4:=h4;rw[if_pos rfl];cases hn:cs[d+1]? with
   |none =>
    simp only[hn,zeC]at h4⊢;exact y01 (y01 (y0I h4 (λx s5 h5=>y01 (y0I h5 (λ_ s6 h6=>y03 (y03 ⟨rfl,h6⟩)) (no _))) (no _)))
   |some g' =>
    obtain⟨ha,hf⟩:=hs g' hn;simp only[hn,zeC,ha]at h4⊢;refine y01 (y0I h4 (λx s5 h5=>y01 (y1W ?_)) (no _));rw[if_neg (by decide)];simp only[hf];refine y01 (y03 (y01 (y1e (y0I h5 (λit2 s6 h6=>?_) (no _)))));exact y01 (wpAny_runOwn (h6 _ λs7 h7=>y03 ⟨rfl,h7⟩))
def z3Z{elt:Expr}{cs:List Comprehension}{c:Comprehension}{scope:Scope}{pos:Pos}{d:Nat}{it acc:Value}{env:Env}(hc:cs[d]?=some c)(ha:c.is_async=0)(h0:codeAny (model prog w) A (.compLoop (.ListComp elt cs scope pos) d it acc env) R s)(h:wpAny (model prog w) A (pyIter it) (λit' s'=>codeAny (model prog w) A (.compLoop (.ListComp elt cs scope pos) d it' acc env) R s') (notedBy (model prog w) A env λx s'=>R (.error x) s') s) : codeAny (model prog w) A (.compStart (.ListComp elt cs scope pos) d it acc env) R s:=by
 refine codeAny_of_tree ?_;show wpAny _ _ ((compStart (.ListComp elt cs scope pos) d it acc env).onRaise (λx=>do noteFrame x env;standAt theWindowsPlace)) _ _ s
 refine wpAny_notedAt ?_;unfold compStart;have e1:(clausesOf (.ListComp elt cs scope pos))[d]?=some c:=hc;simp only[e1,ha,Option.elim];rw[if_neg (by decide)];refine y01 (wpAny_askSetting (wpAny_ite ?_));split
 .first
   |exact y01 (y03 (y03 (And.intro rfl h0)))
   |exact y03 (And.intro rfl h0)
 .refine y01 (wpAny_rule ?_);refine y01 (y1W (y01 (y0I h (λit' s' h'=>y03 (And.intro rfl h')) λ_ _ z=>z)))
end
inductive TsR(xa:Nat->Addr)(Y:Cx):List Expr->List WT->Prop
 |nil:TsR xa Y [] []
 |cons {f:Expr} {fs:List Expr} {t:WT} {ts:List WT}:ST xa Y noX f t->TsR xa Y fs ts->TsR xa Y (f::fs) (t::ts)
def Okl(Y:Cx)(pins:yyP)(l:Addr)(hd:Hd)(k:En->List U->Sto->Prop)(H0:Hp)(s:Shared):Prop:=∃σ H ρ S acc vs,Inv Y pins σ H s/\Kp H0 H/\EnR H ρ σ/\Rep ((l,.lst vs)::hd) S H/\UrL H acc vs/\k ρ acc S
def z5M(xa:Nat->Addr)(Y:Cx)(e elt:Expr)(g:Option Comprehension)(d:Nat)(rest:WR):Prop:=∀(pins:yyP)(s:Shared)(σ:St)(H:Hp)(hd:Hd)(ρ:En)(S:Sto)(acc:List U)(vs:List V)(l:Addr)(k:En->List U->Sto->Prop),Inv Y pins σ H s->EnR H ρ σ->Rep ((l,.lst vs)::hd) S H->(∀p∈hd,p.1≠l)->UrL H acc vs->rest ρ S acc k ->
 zeC (model Y.prog Y.w) Y.A e elt g d (.ref l) Y.env (Okl Y pins l hd k H) s
def zh3{xa:Nat->Addr}{σ:St}{hd:Hd}{H:Hp}:Cx' xa (noX σ) hd H noQ:=λ_ _ _ _ _ _ z=>z
def Rep.app{hd:Hd}{l:Addr}{vs vs':List V}{S:Sto}{H:Hp}(r:Rep ((l,.lst vs)::hd) S H)(hn:∀p∈hd,p.1≠l):Kp H (upd H l (.lst vs'))/\Rep ((l,.lst vs')::hd) S (upd H l (.lst vs')):=by
 obtain⟨h1,h2,_⟩:=r.2.1 _ y0t;have k:Kp H (upd H l (.lst vs')):=.put h2 (λ_ z=>by cases z) λ_ _ z=>by cases z
 refine⟨k,λa o e=>(r.1 a o e).mono k (z0f ?_),λp hp=>?_,z1I r.2.2 (λb ps e=>?_) λb oc vs d e=>?_⟩
 .rintro rfl;rw[h1]at e;cases e
 .rcases y0l.mp hp with rfl|hp
  .exact⟨h1,z0e,rfl⟩
  .obtain⟨g1,g2,g3⟩:=r.2.1 p (y0g _ hp);exact⟨g1,by rw[z0f (hn p hp)];exact g2,g3⟩
 .rw[z0f (λz=>by rw[z,h2]at e;cases e)];exact e
 .rw[z0f (λz=>by rw[z,h2]at e;cases e)];exact e
section
variable{xa:Nat->Addr}{Y:Cx}{elt:Expr}{cs:List Comprehension}{scope:Scope}{pos:Pos}{d:Nat}{rest:WR}{ts:List WT}{fs:List Expr}{t i:Expr}{g:WX U}
def zin(fs:List Expr)(env:Env):forIn (m:=Sem) fs false (λc r=>if r=true then do let ok <-isTrue c env (eval c env);pure (ForInStep.yield ok)else pure (ForInStep.yield r))=pure false:=by
 induction fs with
 |nil=>rfl
 |cons f fs ih=>rw[y27,if_neg y0c];exact ih
def zhM(hx:Y.xe=noE)(h:TsR xa Y fs ts):∀{pins:yyP}{s:Shared}{σ:St}{H:Hp}{hd:Hd}{ρ:En}{S:Sto}{Q:Bool->Sto->Prop},Inv Y pins σ H s->EnR H ρ σ->Rep hd S H->wTs ts ρ S Q -> wpAny (model Y.prog Y.w) Y.A (tsC fs Y.env) (λb s'=>∃H' S',Inv Y pins σ H' s'/\Kp H H'/\Rep hd S' H'/\Q b S') noE s:=by
 induction h with
 |nil=>intro pins s σ H hd ρ S Q I e r q;exact y03 ⟨H,S,I,.refl H,r,q⟩
 |@cons f fs t ts h1 _ ih =>
  intro pins s σ H hd ρ S Q I e r q;unfold tsC;rw[y27,if_pos rfl];have:=h1 pins s σ H (λb H1=>Kp H H1/\∃S1,Rep hd S1 H1/\cond b (wTs ts ρ S1 Q) (Q false S1)) I ⟨hd,ρ,S,_,noQ,e,r,q,λb S1 b' H1 k1 r1 e1 q1=>by subst e1;exact⟨k1,S1,r1,q1⟩,zh3⟩;rw[hx]at this;refine y01 (y01 (thn this λb s1 ⟨H1,I1,k1,S1,r1,q1⟩=>y03 ?_));cases b with
  |true=>exact thn (ih I1 (e.mono k1) r1 q1) λb s2 ⟨H2,S2,I2,k2,r2,q2⟩=>⟨H2,S2,I2,k1.trans k2,r2,q2⟩
  |false =>
   show wpAny _ _ (forIn fs false _) _ _ _;rw[zin];exact y03 ⟨H1,S1,I1,k1,r1,q1⟩
def z1j{e:Expr}{te:WE}(hx:Y.xe=noE)(he:SE xa Y noX elt te):z5M xa Y e elt none d (em te):=by intro pins s σ H hd ρ S acc vs l k I en r hn u q;have:=he pins s σ H (λv H1=>Kp H H1/\∃x S1,Rep ((l,.lst vs)::hd) S1 H1/\Ur H1 x v/\acc.length<sizeLine/\k ρ (acc++[x]) S1) I ⟨_,ρ,S,_,noQ,en,r,q,λx S1 v H1 k1 r1 u1 q1=>⟨k1,x,S1,r1,u1,q1⟩,zh3⟩;rw[hx]at this;refine thn this λy s9 hz8=>?_;obtain⟨v,H9,J9,r9,k9,x,S1,rp,u9,hz,q9⟩:=hz8;have hl9:=(rp.2.1 _ y0t).2.1;have hmt:=z5y (X:=Y) _ s9 σ H9 (.ref l) [v] (.ref l) [y] (λz Hz=>z=.non/\Hz=upd H9 l (.lst (vs++[v]))) J9 rfl (.cons r9 .nil) ⟨_,vs,v,rfl,rfl,hl9,by rw[<-u.len];exact hz,rfl,rfl⟩;rw[hx]at hmt;refine thn hmt λ_ s10 hz8=>?_;obtain⟨_,H10,J10,_,_,e10⟩:=hz8;subst e10;obtain⟨k10,r10⟩:=rp.app (vs':=vs++[v]) hn;exact⟨σ,_,ρ,S1,acc++[x],vs++[v],J10,k9.trans k10,(en.mono k9).mono k10,r10,(((u.mono k9).app (.cons u9 .nil))).mono k10,q9⟩
def z98{pins:yyP}{s:Shared}{σ:St}{H:Hp}{hd:Hd}{ρ:En}{S:Sto}{acc:List U}{vs:List V}{l it:Addr}{fp:List Addr}{tn:Nat->Heap->Prop}{J:It}{L:List U}{ck:Sto->Prop}{k:En->List U->Sto->Prop}{R:Result->Shared->Prop}(hx:Y.xe=noE)(hc:Y.calm=true)(h:cs[d]?=some ⟨t,i,fs,0⟩)(hs:∀g',cs[d+1]?=some g'->g'.is_async=0/\∀x,foldedSetIterable g'.iter Y.env x=pure x)(hg:SG Y t g)(ht:TsR xa Y fs ts)(hr:z5M xa Y (.ListComp elt cs scope pos) elt cs[d+1]? (d+1) rest)(I:Inv Y pins σ H s)(T:z8M Y.prog Y.w Y.K t J fp it tn)(st:tn 0 s.heap)(hf:∀b∈fp,z4n Y pins H b)(en:EnR H ρ σ)(r:Rep ((l,.lst vs)::hd) S H)(hn:∀p∈hd,p.1≠l)(u:UrL H acc vs)(hi:ItR H J L ck)(q:cmL ck g ts rest L ρ S acc k)(hR:∀s',Okl Y pins l hd k H s'->R (.ok .next) s') : codeAny (model Y.prog Y.w) Y.A (.compLoop (.ListComp elt cs scope pos) d (.ref it) (.ref l) Y.env) R s:=by
 have stat:∀{H':Hp},(∀b∈fp,H' b=none)->∀b∈fp,z4n Y pins H' b:=λhn b hb=>⟨hn b hb,(hf b hb).2⟩;refine z6q h hs (λn s'=>∃j σ' Hc ρ' S' acc' vs',j+n=L.length/\Inv Y pins σ' Hc s'/\tn j s'.heap/\(∀b∈fp,Hc b=none)/\Kp H Hc/\EnR Hc ρ' σ'/\Rep ((l,.lst vs')::hd) S' Hc/\UrL Hc acc' vs'/\cmL ck g ts rest (L.drop j) ρ' S' acc' k) ?_ L.length ⟨0,σ,H,ρ,S,acc,vs,by simp,I,st,λb hb=>(hf b hb).1,.refl H,en,r,u,q⟩;rintro n s5 ⟨j,σ5,Hc,ρ5,S5,acc5,vs5,hm,J5,st5,fr5,k5,en5,r5,u5,q5⟩;by_cases hj:j<L.length
 .rw[y1P hj]at q5;obtain⟨c5,q5⟩:=q5;obtain⟨g1,g2⟩:=hi.go j Hc S5 L[j] k5 r5 c5 (by simp[hj]);refine thn (T.item Y rfl rfl rfl hc j pins s5 σ5 Hc noE J5 (stat fr5) st5 g1) λz s6 hz8=>?_;obtain⟨y,hz,h6⟩:=hz8;subst hz;refine thn h6 λ_ s7 hz8=>?_;obtain⟨x,H7,J7,r7,y7,st7,fr7⟩:=hz8;obtain⟨k7,rp7,u7⟩:=g2 x H7 y7;have J7':=J7.pinned (stat fr7) (T.obj _ _ st7);have hgY:=hg _ s7 σ5 H7 x y (λσ8 H8=>Kp H7 H8/\∃ρ8 S8,EnR H8 ρ8 σ8/\Rep ((l,.lst vs5)::hd) S8 H8/\wTs ts ρ8 S8 λb S2=>cond b (rest ρ8 S2 acc5 λρ2 acc2 S3=>cmL ck g ts rest (L.drop (j+1)) ρ2 S3 acc2 k) (cmL ck g ts rest (L.drop (j+1)) ρ8 S2 acc5 k)) J7' r7 ⟨_,_,ρ5,S5,_,en5.mono k7,rp7,u7,q5,λρ8 S8 σ8 H8 k8 e8 r8 q8=>⟨k8,ρ8,S8,e8,r8,q8⟩⟩;rw[hx]at hgY;refine thn hgY λ_ s8 hz8=>?_;obtain⟨σ8,H8,J8,k8,ρ8,S8,e8,r8,q8⟩:=hz8;refine thn (zhM hx ht J8 e8 r8 q8) λb s9 hz8=>?_;obtain⟨H9,S9,J9,k9,r9,q9⟩:=hz8;have K9:=k5.trans (k7.trans (k8.trans k9));have again:∀s':Shared,Okl Y (pins++z5x fp s7.heap) l hd (λρ2 acc2 S3=>cmL ck g ts rest (L.drop (j+1)) ρ2 S3 acc2 k) H9 s'->∃m,m<n/\∃j σ' Hc ρ' S' acc' vs',j+m=L.length/\Inv Y pins σ' Hc s'/\tn j s'.heap/\(∀b∈fp,Hc b=none)/\Kp H Hc/\EnR Hc ρ' σ'/\Rep ((l,.lst vs')::hd) S' Hc/\UrL Hc acc' vs'/\cmL ck g ts rest (L.drop j) ρ' S' acc' k:=by
   rintro s' ⟨σ',H',ρ',S',acc',vs',J',k',e',r',u',q'⟩;refine⟨n-1,by lia,j+1,σ',H',ρ',S',acc',vs',by lia,J'.unpinned,T.keep _ _ _ st7 λb hb o e=>(J'.pin (b,o) (y0v _ (y0v _ (z1l hb e)))).1,λb hb=>?_,K9.trans k',e',r',u',q'⟩;obtain⟨o,e,_⟩:=T.obj _ _ st7 b hb;exact(J'.pin (b,o) (y0v _ (y0v _ (z1l hb e)))).2.1
  have u9:=u5.mono (k7.trans (k8.trans k9));cases b with
  |false=>exact again s9 ⟨σ8,H9,ρ8,S9,acc5,vs5,J9,.refl _,e8.mono k9,r9,u9,q9⟩
  |true =>
   have z:=hr _ s9 σ8 H9 hd ρ8 S9 acc5 vs5 l _ J9 (e8.mono k9) r9 hn u9 q9;show zeC _ _ _ _ _ _ _ _ _ _;revert z;generalize hgg:cs[d+1]?=gg;cases gg with
   |none=>exact λz=>thn z λx s5 z=>thn z λ_ s6 z=>again s6 z
   |some g'=>exact λz=>thn z λx s5 z=>thn z λit2 s6 z R' hR'=>z R' λs7 q7=>hR' s7 (again s7 q7)
 .have ej:L.length=j:=by lia
  rw[y2E (by lia)]at q5;refine thn (T.done Y rfl rfl rfl hc j pins s5 σ5 Hc noE J5 (stat fr5) st5 (hi.stop j Hc S5 k5 r5 q5.1 ej)) λz s6 hz8=>?_;obtain⟨hz,J6⟩:=hz8;subst hz;exact hR s6 ⟨σ5,Hc,ρ5,S5,acc5,vs5,J6,k5,en5,r5,u5,q5.2⟩
def zgW{ti:WI}(hx:Y.xe=noE)(hc:Y.calm=true)(h:cs[d]?=some ⟨t,i,fs,0⟩)(hs:∀g',cs[d+1]?=some g'->g'.is_async=0/\∀x,foldedSetIterable g'.iter Y.env x=pure x)(hi:SI xa noX Y t i ti)(hg:SG Y t g)(ht:TsR xa Y fs ts)(hr:z5M xa Y (.ListComp elt cs scope pos) elt cs[d+1]? (d+1) rest):z5M xa Y (.ListComp elt cs scope pos) elt (some ⟨t,i,fs,0⟩) d (wCl ti g ts rest):=by intro pins s σ H hd ρ S acc vs l k I en r hn u q;have:=hi pins s σ H (λJ H1=>Kp H H1/\∃L ck S1,Rep ((l,.lst vs)::hd) S1 H1/\ItR H1 J L ck/\cmL ck g ts rest L ρ S1 acc k) I ⟨_,ρ,S,_,noQ,en,r,q,λL ck S1 J H1 k1 r1 i1 q1=>⟨k1,L,ck,S1,r1,i1,q1⟩,zh3⟩;rw[hx]at this;refine thn this λx s5 h5=>thn h5 λit2 s6 ⟨it,fp,tn,J,H6,e6,J6,T,st6,f6,k6,L,ck,S6,r6,i6,q6⟩ R' hR'=>?_;subst e6;have loop:=z98 (R:=R') hx hc h hs hg ht hr J6 T st6 f6 (en.mono k6) r6 hn (u.mono k6) i6 q6 λs' ⟨σ',H',ρ',S',acc',vs',J',k',e',r',u',q'⟩=>hR' s' ⟨σ',H',ρ',S',acc',vs',J',k6.trans k',e',r',u',q'⟩;exact z3Z h rfl loop (T.self _ 0 _ _ _ st6 loop)
end
open PySem L2 PySem.SeqAt PySem.Spec
variable[WW]
theorem z81:∀(ρ:En)(i:Nat),lk ρ i=(ρ[i]?).join
 |[],_=>rfl
 |x::_,0=>rfl
 |_::r,n+1=>z81 r n
def z9e{H:Hp}{ρ:En}{σ:St}(h:EnR H ρ σ)(ix:List (Option Nat)):EnR H (cst ix ρ) (z18 ix σ):=by
 unfold cst z18;refine⟨by rw[y00,y00],λi u e=>?_⟩;rw[z81,y0x]at e;rw[y0x];cases z:ix[i]? with
 |none=>rw[z]at e;cases e
 |some o =>
  rw[z]at e;cases o with
  |none=>cases e
  |some j =>
   obtain⟨v,h1,h2⟩:=h.2 j u e;exact⟨v,by show some ((σ[j]?).join)=_;rw[h1];rfl,h2⟩
def zaM{hd:Hd}{l:Addr}{acc:List U}{vs:List V}{S:Sto}{H:Hp}(r:Rep ((l,.lst vs)::hd) S H)(hn:∀p∈hd,p.1≠l)(u:UrL H acc vs):S l=none/\Rep hd (up S l (.lst acc)) H:=by
 obtain⟨h1,h2,_⟩:=r.2.1 _ y0t;refine⟨h1,λa o e=>?_,λp hp=>?_,r.2.2⟩
 .by_cases z:a=l
  .subst z;rw[z04]at e;cases e;exact⟨vs,h2,u⟩
  .rw[z0c z]at e;exact r.1 a o e
 .obtain⟨g1,g2⟩:=r.2.1 p (y0g _ hp);exact⟨by rw[z0c (hn p hp)];exact g1,g2⟩
section
variable{xa:Nat->Addr}{X:Cx}{xk:St->XK}{N:List Str}{ix:List (Option Nat)}{scope:Scope}{elt t i:Expr}{fs:List Expr}{cs:List Comprehension}{pos:Pos}{ti:WI}{g:WX U}{ts:List WT}{rest:WR}{E:yyE}
structure zdQ(xa:Nat->Addr)(X:Cx)(N:List Str)(ix:List (Option Nat))(scope:Scope)(elt t i:Expr)(fs:List Expr)(cs:List Comprehension)(pos:Pos)(g:WX U)(ts:List WT)(rest:WR):Prop where
 sc:z0K X.N X.env.scope N ix scope
 calm:X.calm=true
 at_:∀cl C ex s H,SG (z0W X N scope cl C ex s H) t g/\TsR xa (z0W X N scope cl C ex s H) fs ts/\z5M xa (z0W X N scope cl C ex s H) (.ListComp elt (⟨t,i,fs,0⟩::cs) scope pos) elt cs[0]? 1 rest
 fold:∀g',cs[0]?=some g'->g'.is_async=0/\∀env x,foldedSetIterable g'.iter env x=pure x
def z3U{pins:yyP}{s:Shared}{σ:St}{H:Hp}{hd:Hd}{ρ:En}{S:Sto}{it:Addr}{fp:List Addr}{tn:Nat->Heap->Prop}{J:It}{L:List U}{ck:Sto->Prop}{Q:Kq U}{RR:Value->Addr->Result->Shared->Prop}(B:zdQ xa X N ix scope elt t i fs cs pos g ts rest)(I:Inv X pins σ H s)(T:z8M X.prog X.w X.K t J fp it tn)(st:tn 0 s.heap)(hf:∀b∈fp,z4n X pins H b)(en:EnR H ρ σ)(r:Rep hd S H)(hi:ItR H J L ck)(q:cmL ck g ts rest L (cst ix ρ) S [] λ_ acc S2=>nw (.lst acc) S2 Q)(hRR:∀l C s' H' S' m,s'.heap.Ns C m->Inv X pins σ H' s'->z4n X pins H' C->Kp H H'->Rep hd S' H'->Q (.ref l) S'->RR (.ref l) C (.ok .next) s') : wpAny (model X.prog X.w) X.A (newList []) (λacc s3=>wpAny (model X.prog X.w) X.A (newFunctionEnv scope X.env.globals (z0s X.env.cells scope.names []) [] X.env.qual none .none (some X.env)) (λcenv s4 => codeAny (model X.prog X.w) X.A (.compStart (.ListComp elt (⟨t,i,fs,0⟩::cs) scope pos) 0 (.ref it) acc { cenv with scope:=relabel scope X.env }) (RR acc cenv.locals) s4) E s3) E s:=by
 have hlt:∀b∈fp,b<s.heap.objs.size:=λb hb=>by obtain⟨o,e,_⟩:=T.obj 0 s.heap st b hb;exact y07 e
 have hl0:H s.heap.objs.size=none:=I.fresh;refine y0A ?_;generalize hs3:({ s with heap:=s.heap.push { cls:=.type "list",dict:=none,data:=.seq ([]:List Value).toArray } }:Shared)=s3;have I3:Inv X pins σ (upd H s.heap.objs.size (.lst [])) s3:=by rw[<-hs3];exact I.lnew (its:=[]) (t':=s.toks) .nil (y1M _)
 have k3:∀b o,s.heap.get? b=some o->s3.heap.get? b=some o:=λb o e=>by rw[<-hs3];exact y02 _ e
 have sz3:s3.heap.objs.size=s.heap.objs.size+1:=by rw[<-hs3];exact y1k ..
 have lnfp:s.heap.objs.size∉fp:=λhb=>y1w _ (hlt _ hb);have st3:tn 0 s3.heap:=T.keep 0 _ _ st λb _ o e=>k3 b o e;have hf3:∀b∈fp,z4n X pins (upd H s.heap.objs.size (.lst [])) b:=λb hb=>by obtain⟨f0,f⟩:=hf b hb;have nb:b≠s.heap.objs.size:=λe=>lnfp (by rw[<-e];exact hb);exact⟨by rw[z0f nb];exact f0,f⟩
 have hlt3:∀b∈fp,b<s3.heap.objs.size:=λb hb=>by rw[sz3];exact Nat.lt_succ_of_lt (hlt b hb)
 clear hs3;have kp:Kp H (upd H s.heap.objs.size (.lst [])):=.new hl0;have hn:∀p∈hd,p.1≠s.heap.objs.size:=λp hp=>z0i (r.2.1 p hp).2.1 hl0;have r3:Rep ((s.heap.objs.size,.lst [])::hd) S (upd H s.heap.objs.size (.lst [])):=by
  refine⟨λa o e=>(r.1 a o e).mono kp (z0f ?_),λp hp=>?_,z1I r.2.2 (λb ps e=>?_) λb oc vs d e=>?_⟩
  .rintro rfl;rw[r.none hl0]at e;cases e
  .rcases y0l.mp hp with rfl|hp
   .exact⟨r.none hl0,z0e,rfl⟩
   .obtain⟨g1,g2,g3⟩:=r.2.1 p hp;exact⟨g1,by rw[z0f (hn p hp)];exact g2,g3⟩
  .rw[z0f (z0i e hl0)];exact e
  .rw[z0f (z0i e hl0)];exact e
 refine y33 B.sc.nocell (by intro y hy;simp at hy) (λh1 hn1 hb1=>?_) B.sc.kind;have hk1:∀b o,s3.heap.get? b=some o->h1.get? b=some o:=λb o e =>
  (hb1.2 b (y0p (y07 e))).trans (y02 _ e)
 have J0:Inv (z0W X N scope (z0s X.env.cells scope.names []) s3.heap.objs.size fp s3 (upd H s.heap.objs.size (.lst []))) [] (z18 ix σ) (upd H s.heap.objs.size (.lst [])) { s3 with heap:=h1,toks:=s3.toks+([]:List (Str × Value)).length } :=
  z78 I3 B.sc rfl hf3 hlt3 hn1 hk1
 have st1:tn 0 h1:=T.keep 0 _ _ st3 λb _ o e=>hk1 b o e;have fpY:∀b∈fp,z4n (z0W X N scope (z0s X.env.cells scope.names []) s3.heap.objs.size fp s3 (upd H s.heap.objs.size (.lst []))) [] (upd H s.heap.objs.size (.lst [])) b:=λb hb=>by obtain⟨f0,f1,f2,_,f4,_⟩:=hf3 b hb;refine⟨f0,y0p (hlt3 b hb),λhb2=>(y0l.mp (I3.stkSub b hb2)).elim f1 f2,.inl hb,λx c e=>f4 x c (z1c I3 B.sc e),λp hp=>absurd (show p∈([]:yyP)from hp) (by simp)⟩
 obtain⟨hg,ht,hr⟩:=B.at_ (z0s X.env.cells scope.names []) s3.heap.objs.size fp s3 (upd H s.heap.objs.size (.lst []));have hi3:ItR (upd H s.heap.objs.size (.lst [])) J L ck:=⟨λi H' S x k=>hi.go i H' S x (kp.trans k),λi H' S k=>hi.stop i H' S (kp.trans k)⟩;have loop:∀s4:Shared,s4=({ s3 with heap:=h1,toks:=s3.toks+([]:List (Str × Value)).length }:Shared)->codeAny (model X.prog X.w) X.A (.compLoop (.ListComp elt (⟨t,i,fs,0⟩::cs) scope pos) 0 (.ref it) (.ref s.heap.objs.size)
   (compEnvC scope (z0s X.env.cells scope.names []) s3.heap.objs.size X.env)) (RR (.ref s.heap.objs.size) s3.heap.objs.size) s4:=by
  intro s4 hs4;subst hs4;refine z98 (Y:=z0W X N scope (z0s X.env.cells scope.names []) s3.heap.objs.size fp s3 (upd H s.heap.objs.size (.lst []))) rfl B.calm rfl (λg' e=>⟨(B.fold g' e).1,(B.fold g' e).2 _⟩) hg ht hr J0 T st1 fpY (z9e (en.mono kp) ix) r3 hn .nil hi3 q ?_;rintro s6 ⟨σ6,H6,ρ6,S6,acc6,vs6,J6,k6,e6,r6,u6,q6⟩;have I6:Inv X pins σ H6 s6:=I3.call' (ch:=fp) J6.os J6.base J6.hok J6.bare λb hb=>by obtain⟨_,f1,f2,f3,f4,f5⟩:=hf3 b hb;exact⟨f3,f1,f4,f5⟩
  obtain⟨m6,hn6,_⟩:=J6.loc;obtain⟨n6,w6⟩:=zaM r6 hn u6;exact hRR _ _ s6 H6 _ m6 hn6 I6 (I3.fpOk (y0a _) J6.free) (kp.trans k6) w6 (q6 _ n6)
 exact z3Z rfl rfl (loop _ rfl) (T.self _ 0 _ _ _ st1 (loop _ rfl))
def z0D(B:zdQ xa X N ix scope elt t i fs cs pos g ts rest)(hi:SI xa xk X t i ti)(hs:∀x,foldedSetIterable i X.env x=pure x:=by intro _;rfl):SE xa X xk (.ListComp elt (⟨t,i,fs,0⟩::cs) scope pos) (zg4 ix ti g ts rest):=by intro pins s σ H Q' I ⟨hd,ρ,S,Q,E,en,r,h,c⟩;rw[eval_ListComp];refine y2o (use:=none) rfl hs (z1a (z0y I B.sc)) B.sc.kind B.sc.names (thn (hi pins s σ H (λJ H1=>Kp H H1/\∃L ck S1,Rep hd S1 H1/\ItR H1 J L ck/\cmL ck g ts rest L (cst ix ρ) S1 [] λ_ acc S2=>nw (.lst acc) S2 Q) I ⟨hd,ρ,S,_,E,en,r,h,λL ck S1 J H1 k1 r1 i1 q1=>⟨k1,L,ck,S1,r1,i1,q1⟩,c.ex⟩) λv s1 h1=>thn h1 λitv s2 h2=>?_);obtain⟨it,fp,tn,J,H2,e,I2,T,st2,f2,k2,L,ck,S2,r2,i2,q2⟩:=h2;subst e;refine z3U (RR:=λacc C=>compPost (model X.prog X.w) X.A X.xe none (EP X pins σ Q') acc C) B I2 T st2 f2 (en.mono k2) r2 i2 q2 λl C s' H' S' m hn I' fC k' r' q'=>⟨m,hn,λh' hs'=>?_⟩;obtain⟨c0,c1,_,c3,c4,c5⟩:=fC;exact⟨.ref l,H',I'.turned (t':=s'.toks) (λb o hb e=>(hs'.2 b hb).trans e) c0 c1 c3 c4 c5,rfl,c.ok _ S' _ H' (k2.trans k') r' (by simp only[Ur]) q'⟩
def z6j(j:Nat){x:Str}{spos pos':Pos}(hN:X.N.Nodup)(B:zdQ xa X N ix scope elt t i fs cs pos g ts rest)(hi:SI xa xk X t i ti)(hx:X.N[j]?=some x:=by rfl)(hl:X.env.scope.names.lookup x=some .local:=by rfl)(hsw:swapsWith (.ListComp elt (⟨t,i,fs,0⟩::cs) scope pos) (some (.Name x pos')) spos.line X.env=pure true:=by rfl)(hs:∀x,foldedSetIterable i X.env x=pure x:=by intro _;rfl):SS xa xk X (.Assign [.Name x pos'] (.ListComp elt (⟨t,i,fs,0⟩::cs) scope pos) spos) (zi7 (zg4 ix ti g ts rest) (gN j)):=by
 intro pins s σ H D I ⟨hd,ρ,S,W,E,en,r,h,c⟩;rw[exec_Assign_Name_used _ _ _ _ hsw];refine y01 (y1W (y01 ?_));show wpAny _ _ (comprehension (.ListComp elt (⟨t,i,fs,0⟩::cs) scope pos) scope X.env _ (newList []) false (eval i X.env) (some (assign (.Name x pos') X.env))>>=λ_=>pure ()) _ _ s;refine y01 (y0I (y2o (use:=some (assign (.Name x pos') X.env)) (Q:=λ_ s'=>SP X pins D .next s') rfl hs (z1a (z0y I B.sc)) B.sc.kind B.sc.names
  (thn (hi pins s σ H (λJ H1=>Kp H H1/\∃L ck S1,Rep hd S1 H1/\ItR H1 J L ck/\cmL ck g ts rest L (cst ix ρ) S1 [] λ_ acc S2=>nw (.lst acc) S2 λu S3=>gN j u ρ S3 W.nx) I ⟨hd,ρ,S,_,E ρ,en,r,h,λL ck S1 J H1 k1 r1 i1 q1=>⟨k1,L,ck,S1,r1,i1,q1⟩,c.at en⟩) λv s1 h1=>thn h1 λitv s2 h2=>?_)) (λ_ s' q=>y03 (y03 q)) λ_ _ e=>e)
 obtain⟨it,fp,tn,J,H2,e,I2,T,st2,f2,k2,L,ck,S2,r2,i2,q2⟩:=h2;subst e;refine z3U (RR:=λacc C=>compPost (model X.prog X.w) X.A X.xe (some (assign (.Name x pos') X.env)) (λ_ s'=>SP X pins D .next s') acc C) B I2 T st2 f2 (en.mono k2) r2 i2 q2 λl C s' H' S' m hn I' fC k' r' q'=>?_;obtain⟨c0,c1,c2,c3,c4,c5⟩:=fC;show wpAny _ _ (assign (.Name x pos') X.env (.ref l)) _ _ _;refine wpAny_assign_Name (z3M I' hN hx (.inl hl) (v:=.ref l) rfl (λs'' I'' hz8=>?_) (.inr hl));obtain⟨a,sb,ha⟩:=hz8;have haC:C≠a:=by
  rcases ha with ha|ha
  .rw[ha];exact c1
  .exact λz=>c4 x a ha z.symm
 refine⟨m,hn.sameBut sb haC,λh' hs'=>?_⟩;exact⟨_,H',I''.turned (t':=s''.toks) (λb o hb e=>(hs'.2 b hb).trans e) c0 c1 c3 c4 c5,c.nx _ S' _ H' (k2.trans k') ((en.mono (k2.trans k')).set j (by simp only[Ur])) r' q'⟩
end
open PySem L2 PySem.SeqAt PySem.Spec
variable[WW]
mutual
theorem z0S:∀u:U,eqU u u=true
 |.non=>by simp only[eqU]
 |.bl _|.int _|.str _|.ref _=>by simp only[eqU,beq_self_eq_true]
 |.tup us=>by simp only[eqU];exact z76 us
theorem z76:∀us:List U,eqL us us=true
 |[]=>by simp only[eqL]
 |u::us=>by simp only[eqL,z0S u,z76 us,Bool.and_self]
end
instance:DecidableEq U:=λa b=>if h:eqU a b=true then isTrue (z2D h)else isFalse λe=>h (by rw[e];exact z0S b)
def zdA(a b:U):decide (a=b)=eqU a b:=by
 by_cases h:eqU a b=true
 .rw[y18 (z2D h),h]
 .rw[y0u (λe=>h (by rw[e];exact z0S b)),Bool.eq_false_iff.mpr h]
mutual
def drw:U->Nat
 |.tup us=>z8N us+1
 |_=>1
def z8N:List U->Nat
 |[]=>0
 |u::us=>drw u+z8N us
end
theorem z9O:∀a b:List U,uhL (a++b)=uhL a++uhL b
 |[],b=>by simp only[y24,uhL]
 |d::a,b=>by simp only[y1J,uhL,z9O a b]
theorem z7e:∀a b:List U,z8N (a++b)=z8N a+z8N b
 |[],b=>by simp only[y24,z8N,y2S]
 |d::a,b=>by simp only[y1J,z8N,z7e a b,y37]
mutual
theorem Hu.keep{h h':Heap}(k:∀a its,h.IsTuple a its->h'.IsTuple a its):∀{d:U}{v:Value},Hu h d v->Hu h' d v
 |.non,_,q|.bl _,_,q|.int _,_,q|.str _,_,q=>by simp only[Hu]at q⊢;exact q
 |.ref _,_,q=>by simp only[Hu]at q
 |.tup ds,_,q=>by simp only[Hu]at q⊢;obtain⟨a,its,e,h1,h4⟩:=q;exact⟨a,its,e,k a its h1,HuL.keep k h4⟩
theorem HuL.keep{h h':Heap}(k:∀a its,h.IsTuple a its->h'.IsTuple a its):∀{ds:List U}{vs:List Value},HuL h ds vs->HuL h' ds vs
 |[],_,q=>by simp only[HuL]at q⊢;exact q
 |d::ds,_,q=>by simp only[HuL]at q⊢;obtain⟨v,r,e,q1,q2⟩:=q;exact⟨v,r,e,Hu.keep k q1,HuL.keep k q2⟩
end
mutual
theorem zd1:∀{u:U},ky u=true->fl u=true
 |.int _,_|.str _,_=>by simp only[fl]
 |.tup us,h=>by simp only[ky]at h;simp only[fl];exact z7r h
 |.non,h|.bl _,h|.ref _,h=>by simp[ky]at h
theorem z7r:∀{us:List U},kyL us=true->flL us=true
 |[],_=>by simp only[flL]
 |u::us,h=>by simp only[kyL,y0h]at h;simp only[flL,zd1 h.1,z7r h.2,Bool.and_self]
end
mutual
theorem zgM:∀{u w:U},ky u=true->ky w=true->okU u w=true
 |.int _,.int _,_,_|.int _,.str _,_,_|.int _,.tup _,_,_|.str _,.int _,_,_|.str _,.str _,_,_|.str _,.tup _,_,_|.tup _,.int _,_,_|.tup _,.str _,_,_=>by simp only[okU]
 |.tup a,.tup b,h,k=>by simp only[ky]at h k;simp only[okU];exact z9n h k
 |.non,_,h,_|.bl _,_,h,_|.ref _,_,h,_=>by simp[ky]at h
 |.int _,.non,_,h|.int _,.bl _,_,h|.int _,.ref _,_,h|.str _,.non,_,h|.str _,.bl _,_,h|.str _,.ref _,_,h|.tup _,.non,_,h|.tup _,.bl _,_,h|.tup _,.ref _,_,h=>by simp[ky]at h
theorem z9n:∀{us ws:List U},kyL us=true->kyL ws=true->okL us ws=true
 |[],_,_,_=>by simp only[okL]
 |_::_,[],_,_=>by simp only[okL]
 |u::us,w::ws,h,k=>by simp only[kyL,y0h]at h k;simp only[okL,zgM h.1 k.1,z9n h.2 k.2,Bool.and_self]
end
section
variable{prog:Program}
def zfB:∀(n:Nat){A:Around}{E:yyE}{s:Shared}{d:U}{v:Value}{Q:Int->Shared->Prop},ky d=true->dep d<=n->A.units+n<cLine->Hu s.heap d v->Q (uh d) { s with toks:=s.toks+drw d }->wpAny (model prog WW.w) A (pyHash v) Q E s:=by
 have flat:∀{A:Around}{E:yyE}{s:Shared}{d:U}{v:Value}{Q:Int->Shared->Prop},ky d=true->dep d=0->Hu s.heap d v->Q (uh d) { s with toks:=s.toks+drw d }->wpAny (model prog WW.w) A (pyHash v) Q E s:=by
  intro A E s d v Q hk hd hv h;cases d<;>simp only[ky,y0B]at hk<;>simp only[dep,Nat.add_eq_zero_iff,Nat.one_ne_zero,and_false]at hd<;>simp only[Hu]at hv<;>obtain⟨t,rfl⟩:=hv<;>simp only[uh,drw]at h
  .exact wpAny_pyHash_int h
  .exact wpAny_pyHash_str h
 intro n;induction n with
 |zero=>intro A E s d v Q hk hd hu hv h;exact flat hk (by lia) hv h
 |succ n ih =>
  intro A E s d v Q hk hd hu hv h;cases d with
  |tup ds =>
   simp only[Hu]at hv;simp only[dep]at hd;simp only[ky]at hk;obtain⟨a,its,rfl,⟨o,ho,hc,m,hdd⟩,hi⟩:=hv;have hT:s.TypeIs (.ref a) "tuple":=⟨o,ho,hc⟩;have hin:A.in1.units+n<cLine:=by show A.units+1+n<cLine;lia
   unfold pyHash;first|unfold pyHashByItsType|skip
   first|refine y01 (wpAny_cRoomFor_or (.inr (show A.units<cLine by lia)) ?_)|skip
   refine y01 (y2t hT y2K.lookup ?_);show wpAny _ _ (if(some (Value.builtin "tuple.__hash__")==some Value.none)=true
    then _ else _) Q E s
   rw[if_neg (by rw[beq_builtin_none];exact y0c)];refine y01 (y2t hT y2K.lookup ?_);show wpAny _ _ (callSpecialIfBoundUnlessNone? (.ref a) "__hash__" _
    >>= _) Q E s
   refine y01 (wpAny_callSpecialIfBoundUnlessNone?_slot hT y2K (y0K y2K
    hT F.entry_tuple_hash ?_ (F.args_tuple_hash_1 _)))
   show wpAny _ _ (Builtin.Tuple.tupleItemsOf (.ref a)>>=_) _ _ s;refine y01 (wpAny_tupleItemsOf ho hdd (y01 ?_));rw[<-Array.forIn_toList];refine wpAny_forIn_list _ (λrest (b:Array Int) s'=>∃done left,ds=done++left/\HuL s.heap left rest/\kyL left=true/\z6t left<=n/\b.toList=uhL done/\s'={ s with toks:=s.toks+z8N done }) _ ?_ ?_ _ _ ⟨[],ds,rfl,hi,hk,by lia,by simp only[uhL],by simp only[z8N,y2Q]⟩
   .rintro x rest b s' ⟨done,left,e,hl,hkl,hdl,hb,rfl⟩;cases left with
    |nil=>simp only[HuL]at hl;cases hl
    |cons k ks =>
     simp only[HuL]at hl;simp only[kyL,y0h]at hkl;simp only[z6t]at hdl;obtain⟨v',r,ev,q1,q2⟩:=hl;cases ev;refine y01 (ih hkl.1 (by lia) hin q1 ?_);have fin:∃done' left',ds=done'++left'/\HuL s.heap left' rest/\kyL left'=true/\z6t left'<=n/\(b.push (uh k)).toList=uhL done'/\({ s with toks:=s.toks+z8N done+drw k }:Shared)={ s with toks:=s.toks+z8N done' } :=
      ⟨done++[k],ks,by rw[e];simp,q2,hkl.2,by lia,by rw[z9O,<-hb];simp[uhL],by rw[z7e];simp only[z8N,y2Q,y37]⟩
     first
      |exact y03 fin
      |exact y01 (y03 (y03 fin))
   .rintro b s' ⟨done,left,e,hl,_,_,hb,rfl⟩;cases left with
    |cons k ks=>simp only[HuL]at hl;obtain⟨_,_,e,_⟩:=hl;cases e
    |nil =>
     rw[y0j]at e;subst e;show wpAny _ _ (retInt (Builtin.Tuple.tupleHashOf b.toList))
      _ _ _
     rw[hb];refine wpAny_ret_mkInt ?_;show wpAny _ _ (if(decide (-(2:Int)^63<=Builtin.Tuple.tupleHashOf (uhL ds))&&decide (Builtin.Tuple.tupleHashOf (uhL ds)<2^63))=true then _ else _) Q E _;simp only[uh]at h;unfold reduceHash at h;simp only[drw]at h;by_cases hr:(decide (-(2:Int)^63<=Builtin.Tuple.tupleHashOf (uhL ds))&&decide (Builtin.Tuple.tupleHashOf (uhL ds)<2^63))=true
     .rw[if_pos hr];rw[if_pos hr]at h;exact y03 (by simpa[y37]using h)
     .rw[if_neg hr];rw[if_neg hr]at h;exact y01 (wpAny_rule (y03 (by simpa[y37]using h)))
  |_=>exact flat hk rfl hv h
def zcK{A:Around}{E:yyE}{s:Shared}:∀(n:Nat){d:U}{v:Value}{Q:Bool->Shared->Prop},ky d=true->dep d<=n->Hu s.heap d v->Q true s->wpAny (model prog WW.w) A (eqIsQuiet n v) Q E s:=by
 have flat:∀(n:Nat){d:U}{v:Value}{Q:Bool->Shared->Prop},ky d=true->dep d=0->Hu s.heap d v->Q true s->wpAny (model prog WW.w) A (eqIsQuiet n v) Q E s:=λn d v Q hk hd hv h=>by
  cases d<;>simp only[ky,y0B]at hk<;>simp only[dep,Nat.add_eq_zero_iff,Nat.one_ne_zero,and_false]at hd<;>simp only[Hu]at hv<;>obtain⟨t,rfl⟩:=hv
  .rw[eqIsQuiet_byValue n (v:=.int _ t) rfl];exact y03 h
  .rw[eqIsQuiet_byValue n (v:=.str _ t) rfl];exact y03 h
 intro n;induction n with
 |zero=>intro d v Q hk hd hv h;exact flat 0 hk (by lia) hv h
 |succ n ih =>
  intro d v Q hk hd hv h;cases d with
  |tup ds =>
   simp only[Hu]at hv;simp only[dep]at hd;simp only[ky]at hk;obtain⟨a,its,rfl,⟨o,ho,hc,m,hdd⟩,hi⟩:=hv;have hT:s.TypeIs (.ref a) "tuple":=⟨o,ho,hc⟩;unfold eqIsQuiet;refine y01 (y2t hT F.slot_tuple_eq.lookup ?_);show wpAny _ _ (isInstance (.ref a) (.type "tuple")
    >>= _) _ _ s
   refine y01 (wpAny_isInstance hT isSubtype_tuple_tuple ?_);simp only[Bool.not_true,y0B,y35];refine y01 (y1Q ho hdd (y01 ?_));show wpAny _ _ (forIn its _ _) _ _ s;rw[<-Array.forIn_toList];refine wpAny_forIn_list _ (λrest r s'=>r.1=none/\s'=s/\∃left,HuL s.heap left rest/\kyL left=true/\z6t left<=n) _ ?_ ?_ _ _ ⟨rfl,rfl,ds,hi,hk,by lia⟩
   .rintro x rest r s' ⟨hr,rfl,left,hl,hkl,hdl⟩;cases left with
    |nil=>simp only[HuL]at hl;cases hl
    |cons k ks =>
     simp only[HuL]at hl;simp only[z6t]at hdl;simp only[kyL,y0h]at hkl;obtain⟨v',q,ev,q1,q2⟩:=hl;cases ev;refine y01 (ih hkl.1 (by lia) q1 ?_);simp only[Bool.not_true,y0B,y35];exact y03 ⟨rfl,rfl,ks,q2,hkl.2,by lia⟩
   .rintro⟨r1,r2⟩ s' ⟨hr,rfl,_⟩;simp only at hr;subst hr;exact y03 h
  |_=>exact flat _ hk rfl hv h
def z4c{u:U}(h:tk u=true):isT u=true/\ky u=true/\dep u<=8:=by unfold tk at h;rw[y0h,y0h]at h;exact⟨h.1.1,h.1.2,y0i h.2⟩
def zb0(prog:Program):HeapKind prog WW.w U where
 is:=λh d a=>Hu h d (.ref a)/\tk d=true
 hash:=uh
 draws:=drw
 room:=λA=>A.units+8<cLine
 inj:=λhx hy=>z2D (Hu.eq hx.1 hy.1)
 keeps:=λ{h h' k a d o es ep} hx ho hd hs=>⟨Hu.keep (λb its ⟨o',e,c,n,q⟩=>⟨o',(hs.2 b (by rintro rfl;rw[ho]at e;cases e;rw[hd]at q;cases q)).trans e,c,n,q⟩) hx.1,hx.2⟩
 pyHash:=λhu hk h=>zfB 8 (z4c hk.2).2.1 (z4c hk.2).2.2 hu hk.1 h
 eqBool:=λhu hx hy h=>by rw[zdA]at h;exact(zdh 8 _ (z4c hx.2).2.2 hu hx.1 hy.1 (zgM (z4c hx.2).2.1 (z4c hy.2).2.1)).1 _ _ _ _ h
 quiet:=λhk h=>zcK 8 (z4c hk.2).2.1 (z4c hk.2).2.2 hk.1 h
end
open PySem L2 PySem.SeqAt PySem.Spec
variable[WW]
def z0o:List (U × U)->U->Option U
 |[],_=>none
 |p::r,k=>cond (eqU p.1 k) (some p.2) (z0o r k)
def z1T(kvs:List (U × U))(k v:U):List (U × U):=cond (z0o kvs k).isSome (kvs.map λp=>cond (eqU p.1 k) (p.1,v) p) (kvs++[(k,v)])
def z6d(kvs:List (U × U))(k:U):List (U × U):=kvs.filter λp=>!eqU p.1 k
def kok:Bool->U->Bool
 |true,k=>tk k
 |false,.int _=>true
 |false,.str _=>true
 |false,_=>false
def z99{a b:U}:eqU a b=true↔a=b:=⟨z2D,λh=>by rw[h];exact z0S b⟩
def z12{a b:U}(h:a≠b):eqU a b=false:=by cases e:eqU a b;rfl;exact absurd (z2D e) h
def z9g{a b:Key}(h:kU a=kU b):a=b:=by cases a<;>cases b<;>simp[kU]at h<;>rw[h]
def z1G{k:U}{H:Hp}{y:V}(h:kok false k=true)(u:Ur H k y):∃q:Key,k=kU q/\y=kV q:=by
 cases k<;>simp only[kok,y0B]at h
 .exact⟨.inl _,rfl,urI u⟩
 .exact⟨.inr _,rfl,urS u⟩
def z4j{k:U}{H:Hp}{y:V}(h:tk k=true)(u:Ur H k y):∃b,y=.ref b:=by obtain⟨h,_⟩:=z4c h;cases k<;>simp only[isT,y0B]at h;obtain⟨a,_,rfl,_⟩:=urT u;exact⟨a,rfl⟩
inductive OR(H:Hp):Option U->Option V->Prop
 |no:OR H none none
 |yes {u:U} {v:V}:Ur H u v->OR H (some u) (some v)
inductive OV(H:Hp):Option U->Option (Addr × Value)->Prop
 |no:OV H none none
 |yes {u:U} {v:V} {p:Addr × Value}:Ur H u v->z0A v p.2->OV H (some u) (some p)
def KsR.val{H:Hp}{kvs:List (U × U)}{vs:List (Key × V)}(r:KsR H kvs vs)(k:Key):OR H (z0o kvs (kU k)) (z6p vs k):=by
 unfold KsR at r;induction r with
 |nil=>exact .no
 |@cons p q ps qs h t ih =>
  unfold z0o;by_cases e:q.1=k
  .rw[z3e e,h.1,e,z0S];exact .yes h.2
  .rw[z3d e,h.1,z12 λz=>e (z9g z)];exact ih
def UK.val{H:Hp}{kvs:List (U × U)}{xs:List (U × Addr × Value)}(r:UK H kvs xs)(k:U):OV H (z0o kvs k) (atKey xs k):=by
 unfold UK at r;induction r with
 |nil=>exact .no
 |@cons p q ps qs h t ih =>
  obtain⟨h1,_,v,h2,h3⟩:=h;unfold z0o;by_cases e:q.1=k
  .have b:atKey (q::qs) k=some q.2:=by simp[atKey,y1D,e]
   rw[b,h1,e,z0S];exact .yes h2 h3
  .have b:atKey (q::qs) k=atKey qs k:=by simp[atKey,y1D,e]
   rw[b,h1,z12 e];exact ih
def OR.some_eq{H:Hp}{a:Option U}{b:Option V}(h:OR H a b):a.isSome=b.isSome:=by cases h<;>rfl
def OV.some_eq{H:Hp}{a:Option U}{b:Option (Addr × Value)}(h:OV H a b):a.isSome=b.isSome:=by cases h<;>rfl
def KsR.len{H:Hp}{kvs:List (U × U)}{vs:List (Key × V)}(r:KsR H kvs vs):kvs.length=vs.length:=y1j r
def KsR.put{H:Hp}{kvs:List (U × U)}{vs:List (Key × V)}(r:KsR H kvs vs)(k:Key){u:U}{v:V}(h:Ur H u v):KsR H (z1T kvs (kU k) u) (z46 vs k v):=by
 unfold z1T z46;rw[(r.val k).some_eq,<-z5b];cases e:vs.any λkv=>decide (kv.1=k)with
 |false=>rw[if_neg y0c];exact Paired.snoc r ⟨rfl,h⟩
 |true =>
  rw[if_pos rfl];clear e;unfold KsR at r;induction r with
  |nil=>exact .nil
  |@cons p q ps qs z t ih =>
   refine .cons ?_ ih;show(cond (eqU p.1 (kU k)) (p.1,u) p).1=kU (if q.1=k then(q.1,v)else q).1/\Ur H (cond (eqU p.1 (kU k)) (p.1,u) p).2 (if q.1=k then(q.1,v)else q).2;by_cases e:q.1=k
   .rw[if_pos e,z.1,e,z0S];exact⟨rfl,h⟩
   .rw[if_neg e,z.1,z12 λy=>e (z9g y)];exact z
def UK.put{H:Hp}{kvs:List (U × U)}{xs:List (U × Addr × Value)}(r:UK H kvs xs){k u:U}{b:Addr}{v:V}{x:Value}(hk:tk k=true/\Ur H k (.ref b))(h:Ur H u v)(hx:z0A v x):UK H (z1T kvs k u) (storedH xs k b x):=by
 unfold z1T storedH;rw[(r.val k).some_eq];cases e:(atKey xs k).isSome with
 |false=>rw[if_neg y0c];exact Paired.snoc r ⟨rfl,hk,v,h,hx⟩
 |true =>
  rw[if_pos rfl];clear e;unfold UK at r;induction r with
  |nil=>exact .nil
  |@cons p q ps qs z t ih =>
   refine .cons ?_ ih;unfold putAt;by_cases e:q.1=k
   .have e2:eqU p.1 k=true:=by rw[z.1,e,z0S]
    simp only[if_pos e,e2,cond_true];exact⟨z.1,z.2.1,v,h,hx⟩
   .have e2:eqU p.1 k=false:=by rw[z.1,z12 e]
    simp only[if_neg e,e2,cond_false];exact z
def z5g(kvs:List (U × U))(k v:U):(z1T kvs k v).length<=kvs.length+1:=by
 unfold z1T;cases(z0o kvs k).isSome
 .simp
 .show(kvs.map _).length<=_;rw[y00];lia
def KsR.del{H:Hp}{kvs:List (U × U)}{vs:List (Key × V)}(r:KsR H kvs vs)(k:Key):KsR H (z6d kvs (kU k)) (z6B vs k):=by
 unfold KsR at r;unfold z6d z6B;induction r with
 |nil=>exact .nil
 |@cons p q ps qs z t ih =>
  by_cases e:q.1=k
  .rw[y1x (by simp[z.1,e,z0S]),y1x (by simp[e])];exact ih
  .rw[y1y (by simp[z.1,z12 λy=>e (z9g y)]),y1y (by simp[e])];exact .cons z ih
def UK.del{H:Hp}{kvs:List (U × U)}{xs:List (U × Addr × Value)}(r:UK H kvs xs)(k:U):UK H (z6d kvs k) (xs.filter λx=>decide (x.1≠k)):=by
 unfold UK at r;unfold z6d;induction r with
 |nil=>exact .nil
 |@cons p q ps qs z t ih =>
  by_cases e:q.1=k
  .rw[y1x (by simp[z.1,e,z0S]),y1x (by simp[e])];exact ih
  .rw[y1y (by simp[z.1,z12 e]),y1y (by simp[e])];exact .cons z ih
section
variable{X:Cx}{pins:yyP}{σ:St}{H:Hp}{s:Shared}{a b:Addr}{xs:List (U × Addr × Value)}{kvs:List (U × U)}
def z5C(I:Inv X pins σ H s)(e:H a=some (zbx a xs))(r:UK H kvs xs):(a==sysModules)=false/\s.heap.DictOfH (zb0 X.prog) a xs:=by
 obtain⟨⟨hs,o,es,ep,h1,h2,h3,h4,h5⟩,h6,h7⟩:=I.hok a _ e;refine⟨hs,o,es,ep,h1,h2,h3,h4,?_,h5⟩;clear h4 h5 e h6 h7;unfold UK at r;induction r with
 |nil=>intro x hx;exact nomatch hx
 |@cons p q ps qs hq t ih =>
  intro x hx;rcases y0l.mp hx with e|hx
  .subst e;have k:=hq.2.1.1;rw[<-hq.1];exact⟨Ur.hu I.hok (zd1 (z4c k).2.1) hq.2.1.2 rfl,k⟩
  .exact ih x hx
def z3m(I:Inv X pins σ H s){k:U}(hk:tk k=true)(h:Ur H k (.ref b)):(zb0 X.prog).is s.heap k b:=⟨Ur.hu I.hok (zd1 (z4c hk).2.1) h rfl,hk⟩
def z3D{P:Program}{w:World}{h':Heap}{H':Hp}(hs:(a==sysModules)=false)(dd:h'.DictOfH (zb0 P) a xs):z0X P w H' h' a (zbx a xs):=by obtain⟨o,es,ep,h1,h2,h3,h4,_,h5⟩:=dd;refine⟨⟨hs,o,es,ep,h1,h2,h3,h4,h5⟩,⟨o,h1⟩,λg1 g2 p k=>?_⟩;obtain⟨p0,o1,es1,ep1,p1,p2⟩:=p;exact⟨p0,o1,es1,ep1,k _ p1,p2⟩
def z7U(I:Inv X pins σ H s){t:Bool}(h:z8u H a kvs t):s.TypeIs (.ref a) "dict"/\(∀b,Value.ref a=.ref b->∃ob,s.heap.get? b=some ob/\ob.dict=none):=by
 cases t
 .obtain⟨vs,e,_⟩:=h;obtain⟨t1,t2,_⟩:=zeU I (.inl ⟨vs,.inl e⟩);exact⟨t1,t2⟩
 .obtain⟨xs,e,r,_⟩:=h;obtain⟨_,dd⟩:=z5C I e r;refine⟨dd.typeIs,λb q=>?_⟩;cases q;obtain⟨ob,_,_,h1,h2,_⟩:=dd;exact⟨ob,h1,h2.2.1⟩
def zd5{A:Around}{E:yyE}{t:Bool}{k v:U}{y:V}{u:Value}{Q:yyE}(hu:A.units+9<cLine)(hw:X.w=WW.w)(I:Inv X pins σ H s)(d:z8u H a kvs t)(hk:kok t k=true)(uk:Ur H k y)(ry:z0A y u)(hv:z0o kvs k=some v)(h:∀z w' s',Inv X pins σ H s'->Ur H v z->z0A z w'->Q w' s') : wpAny (model X.prog X.w) A (getItem (.ref a) u) Q E s:=by
 cases t
 .obtain⟨vs,e,r⟩:=d;obtain⟨q,rfl,rfl⟩:=z1G hk uk;have z:=r.val q;rw[hv]at z;generalize ho:z6p vs q=o at z;cases z with
  |yes z=>exact za0 (by lia) I (by rw[<-ho];exact zaB.k e) ry λw' s' I' rw'=>h _ w' s' I' z rw'
 .obtain⟨xs,e,r,_⟩:=d;obtain⟨b,rfl⟩:=z4j hk uk;cases(show u=Value.ref b from ry);obtain⟨_,dd⟩:=z5C I e r;have z:=r.val k;rw[hv]at z;generalize ho:atKey xs k=o at z;cases z with
  |yes z1 z2 =>
   rw[hw];exact wpAny_getItem_heap (show A.units+1+8<cLine by lia) (z3m I hk uk) dd ho (h _ _ _ (I.tok _) z1 z2)
def zgg{A:Around}{E:yyE}{t:Bool}{k:U}{y:V}{u:Value}{Q:yyE}(hu:A.units+9<cLine)(hw:X.w=WW.w)(I:Inv X pins σ H s)(d:z8u H a kvs t)(hk:kok t k=true)(uk:Ur H k y)(ry:z0A y u) : ((∀s',Inv X pins σ H s'->Q (.bool (z0o kvs k).isSome) s')->wpAny (model X.prog X.w) A (compareOp .In u (.ref a)) Q E s)/\((∀s',Inv X pins σ H s'->Q (.bool (!(z0o kvs k).isSome)) s')->wpAny (model X.prog X.w) A (compareOp .NotIn u (.ref a)) Q E s):=by
 cases t
 .obtain⟨vs,e,r⟩:=d;obtain⟨q,rfl,rfl⟩:=z1G hk uk;rw[(r.val q).some_eq];exact⟨λh=>zki (by lia) I (zaB.k e) ry h,λh=>zdN (by lia) I (zaB.k e) ry h⟩
 .obtain⟨xs,e,r,_⟩:=d;obtain⟨b,rfl⟩:=z4j hk uk;cases(show u=Value.ref b from ry);obtain⟨hs,dd⟩:=z5C I e r;rw[(r.val k).some_eq,hw];exact⟨λh=>wpAny_in_heap (show A.units+1+8<cLine by lia) (z3m I hk uk) hs dd (h _ (I.tok _)),λh=>PyProof.Rows.wpAny_notIn_heap (show A.units+1+8<cLine by lia) (z3m I hk uk) hs dd (h _ (I.tok _))⟩
def zei{A:Around}{E:yyE}{t:Bool}{k v:U}{y z:V}{u r:Value}{Q:Unit->Shared->Prop}(hu:A.units+9<cLine)(hw:X.w=WW.w)(I:Inv X pins σ H s)(d:z8u H a kvs t)(hk:kok t k=true)(uk:Ur H k y)(ry:z0A y u)(uv:Ur H v z)(rz:z0A z r)(hl:kvs.length<sizeLine)(h:∀o s',Inv X pins σ (upd H a o) s'->Kp H (upd H a o)->z8u (upd H a o) a (z1T kvs k v) t->Q () s'):wpAny (model X.prog X.w) A (setItem (.ref a) u r) Q E s:=by
 cases t
 .obtain⟨vs,e,rr⟩:=d;obtain⟨q,rfl,rfl⟩:=z1G hk uk;have kp:Kp H (upd H a (.dK (z46 vs q z))):=.put e (λ_ z=>by cases z) λ_ _ z=>by cases z
  exact zal (by lia) I (zh9.k e (by rw[<-rr.len];exact hl)) ry rz λs' I'=>h _ s' I' kp ⟨_,z0e,Paired.mapP (rr.put q uv) λ_ _ z=>⟨z.1,z.2.mono kp⟩⟩
 .obtain⟨xs,e,rr,hz⟩:=d;obtain⟨b,rfl⟩:=z4j hk uk;cases(show u=Value.ref b from ry);obtain⟨hs,dd⟩:=z5C I e rr;have kp:∀o,Kp H (upd H a o):=λo=>.put e (λ_ z=>by cases z) λ_ _ z=>by cases z
  have hlen:xs.length<=sizeLine:=by rw[<-y1j rr];exact hz
  have:=@wpAny_setItem_heap (hsz:=hlen) (prog:=X.prog) (w:=WW.w) (A:=A) (E:=E) (s:=s) (v:=r) (Q:=Q) _ _ _ _ _ _ _ (show A.units+1+8<cLine by lia) (z3m I hk uk) dd λh' dd' hsb=>by have he:∃q,h'.get? a=some q:=let⟨q,_,_,hq,_⟩:=dd';⟨q,hq⟩;refine h _ _ (z1d I (by rw[e];exact y0Y) hsb he (z3D hs dd')) (kp _) ⟨_,z0e,Paired.mapP (rr.put ⟨hk,uk⟩ uv rz) λ_ _ ⟨z1,z2,v,z3,z4⟩=>⟨z1,⟨z2.1,z2.2.mono (kp _)⟩,v,z3.mono (kp _),z4⟩,?_⟩;have:=z5g kvs k v;lia
  rw[hw];exact this
end
open PySem L2 PySem.SeqAt PySem.Spec
variable[WW]
def z4h(S:Sto)(u:U)(k:Addr->Bool->List (U × U)->Prop):Prop:=match u with
 |.ref a=>∃t kvs,S a=some (.dic t kvs)/\k a t kvs
 |_=>False
def z4h.ex{S:Sto}{u:U}{k:Addr->Bool->List (U × U)->Prop}(h:z4h S u k):∃a t kvs,u=.ref a/\S a=some (.dic t kvs)/\k a t kvs:=by cases u<;>simp only[z4h]at h;obtain⟨t,kvs,h1,h2⟩:=h;exact⟨_,t,kvs,rfl,h1,h2⟩
def zku:WF:=λd k S Q=>z4h S d λ_ t kvs=>kok t k=true/\opt (z0o kvs k) λv=>Q v S
def zjb(no:Bool):WF:=λk d S Q=>z4h S d λ_ t kvs=>kok t k=true/\Q (.bl ((z0o kvs k).isSome != no)) S
def z5r{prog:Program}{w:World}{A:Around}{E:yyE}{s:Shared}{value slice:Expr}{o i:Value}{Q:yyE}(hT:s.TypeIs o "dict")(hs:subscripted slice false o i=operate [o,i] (getItem o i))(h:wpAny (model prog w) A (getItem o i) Q E s):wpAny (model prog w) A (PyProof.Rows.subscriptTail value slice o i) Q E s:=by
 unfold PyProof.Rows.subscriptTail;refine y01 ?_;rw[getitemInPython_of_ne hT.not_modules];refine y01 (y2t hT PySem.F.slot_dict_getitem.lookup ?_);have fin:wpAny (model prog w) A (subscripted slice false o i) (λr s₃=>wpAny (model prog w) A (letTemporaryGo value o r>>=λ_=>pure r) Q E s₃) E s:=by rw[hs];exact wpAny_operating (y0I h (λr s₃ h₃=>y01 (wpAny_letTemporaryGo (y03 h₃))) λ_ _ x=>x)
 first
  |exact y03 (y01 fin)
  |exact y01 (y03 (y01 fin))
  |exact y01 fin
section
variable{xa:Nat->Addr}{X:Cx}{xk:St->XK}{a b c d o i e f value:Expr}{ta tb tc td tv:WE}{pos pos' tpos apos cpos:Pos}
def z5B(hu:X.A.units+9<cLine)(hw:X.w=WW.w):IxR X (rW zku):=by rintro value slice pins s σ H v1 v2 x1 x2 Q' I r1 r2 ⟨hd,x,y,S,Q,r,u1,u2,c,h⟩ hs;obtain⟨a,t,kvs,rfl,hS,hk,h⟩:=h.ex;obtain⟨v,hv,q⟩:=h.ex;obtain rfl:=urR u1;cases(show x1=Value.ref a from r1);have dr:=r.1 _ _ hS;refine z5r (z7U I dr).1 hs (zd5 hu hw I dr hk u2 r2 hv λz w' s' I' uz rz=>⟨z,H,I',rz,c.put r uz q⟩)
def z6Y(hu:X.A.units+9<cLine)(hw:X.w=WW.w):OpR X (compareOp .In) (rW (zjb false))/\OpR X (compareOp .NotIn) (rW (zjb true)):=by
 constructor <;>
 .rintro pins s σ H v1 v2 x1 x2 Q' I r1 r2 ⟨hd,x,y,S,Q,r,u1,u2,c,h⟩;obtain⟨a,t,kvs,rfl,hS,hk,q⟩:=h.ex;obtain rfl:=urR u2;cases(show x2=Value.ref a from r2);have dr:=r.1 _ _ hS;have z:=zgg (Q:=EP X pins σ Q') (E:=X.xe) hu hw I dr hk u1 r1;first
   |exact z.1 λs' I'=>⟨.bl _,H,I',rfl,c.put r uB (by simpa using q)⟩
   |exact z.2 λs' I'=>⟨.bl _,H,I',rfl,c.put r uB (by simpa using q)⟩
def SE.run{e:Expr}{t:WE}{pins:yyP}{s:Shared}{σ:St}{H:Hp}{hd:Hd}{ρ:En}{S:Sto}{Q:Kq U}{E:Xq}(h:SE xa X xk e t)(I:Inv X pins σ H s)(en:EnR H ρ σ)(r:Rep hd S H)(q:t ρ S Q E)(cx:Cx' xa (xk σ) hd H E) : wpAny (model X.prog X.w) X.A (eval e X.env) (λv s1=>∃x y H1 S1,Inv X pins σ H1 s1/\z0A y v/\Kp H H1/\Rep hd S1 H1/\Ur H1 x y/\Q x S1) X.xe s :=
 thn (h pins s σ H (λy H1=>Kp H H1/\∃x S1,Rep hd S1 H1/\Ur H1 x y/\Q x S1) I ⟨hd,ρ,S,Q,E,en,r,q,λx S1 y H1 k1 r1 u1 q1=>⟨k1,x,S1,r1,u1,q1⟩,cx⟩) λv s1 ⟨y,H1,I1,rv,k1,x,S1,r1,u1,q1⟩=>⟨x,y,H1,S1,I1,rv,k1,r1,u1,q1⟩
def zjF(td tk tv:WE):WS:=λρ S W E=>tv ρ S (λv S1=>td ρ S1 (λx S2=>tk ρ S2 (λk S3=>z4h S3 x λa t kvs=>kok t k=true/\kvs.length<sizeLine/\W.nx ρ (up S3 a (.dic t (z1T kvs k v)))) (E ρ)) (E ρ)) (E ρ)
def z5L{tk:WE}(hu:X.A.units+9<cLine)(hw:X.w=WW.w)(ho:SE xa X xk o td)(hi:SE xa X xk i tk)(hv:SE xa X xk value tv)(hs:swapsWith value (some (.Subscript o i pos')) pos.line X.env=pure false:=by rfl):SS xa xk X (.Assign [.Subscript o i pos'] value pos) (zjF td tk tv):=by intro pins s σ H D I ⟨hd,ρ,S,W,E,en,r,h,c⟩;refine wpAny_Assign_Subscript (thn (hv.run I en r h (c.at en)) λrv s1 hz8=>?_) hs;obtain⟨x,v,H1,S1,I1,rr,k1,r1,u1,q1⟩:=hz8;refine thn (ho.run I1 (en.mono k1) r1 q1 ((c.mono k1).at (en.mono k1))) λov s2 hz8=>?_;obtain⟨y,w,H2,S2,I2,rw2,k2,r2,u2,q2⟩:=hz8;have k12:=k1.trans k2;refine thn (hi.run I2 (en.mono k12) r2 q2 ((c.mono k12).at (en.mono k12))) λiv s3 hz8=>?_;obtain⟨k,z,H3,S3,I3,rz,k3,r3,u3,q3⟩:=hz8;obtain⟨a,t,kvs,rfl,hS,hk,hl,q⟩:=q3.ex;obtain rfl:=urR u2;cases(show ov=Value.ref a from rw2);refine zei hu hw I3 (r3.1 _ _ hS) hk u3 rz ((u1.mono k2).mono k3) rr hl λob s4 I4 k4 d4=>⟨σ,_,I4,?_⟩;have kk:=k12.trans (k3.trans k4);exact c.nx ρ _ σ _ kk (en.mono kk) (r3.up (o:=.dic t _) k4 (.inr (by rw[hS];exact λz=>by cases z)) d4) q
end
open PySem L2 PySem.SeqAt PySem.Spec
variable[WW]
section
variable{X:Cx}{pins:yyP}{σ:St}{H:Hp}{s:Shared}{a b:Addr}{kvs:List (U × U)}{A:Around}{E:yyE}{t:Bool}{k:U}{y:V}{u:Value}
def zaP{Q:yyE}(hu:A.units+9<cLine)(hw:X.w=WW.w)(I:Inv X pins σ H s)(d:z8u H a kvs t)(hk:kok t k=true)(uk:Ur H k y)(ry:z0A y u)(h:∀z w' s',Inv X pins σ H s'->Ur H ((z0o kvs k).getD .non) z->z0A z w'->Q w' s') : wpAny (model X.prog X.w) A (call (.builtin "dict.get") [.ref a,u]) Q E s:=by
 cases t
 .obtain⟨vs,e,r⟩:=d;obtain⟨q,rfl,rfl⟩:=z1G hk uk;refine zfM (by lia) I (zaB.k e) ry λw' s' I' rw'=>h _ w' s' I' ?_ rw';have z:=r.val q;revert z;generalize z0o kvs (kU q)=o1;generalize z6p vs q=o2;rintro(_|z)
  .exact rfl
  .exact z
 .obtain⟨xs,e,r,_⟩:=d;obtain⟨b,rfl⟩:=z4j hk uk;cases(show u=Value.ref b from ry);obtain⟨hs,dd⟩:=z5C I e r;have z:=r.val k;rw[hw];refine call_meetsIn y26 dd.typeIs y2D (y2u _ _) (meetsH_dict_get (zb0 X.prog) a b hs) ⟨show A.units+1+8<cLine by lia,k,xs,z3m I hk uk,dd,?_⟩;revert z;generalize hu1:z0o kvs k=o1;generalize ho:atKey xs k=o2;rw[hu1]at h;intro z;cases z with
  |no=>exact h .non _ _ (I.tok _) (by simp only[Option.getD_none,Ur]) rfl
  |yes z1 z2=>exact h _ _ _ (I.tok _) z1 z2
def ze9{Q:Unit->Shared->Prop}(hu:A.units+9<cLine)(hw:X.w=WW.w)(I:Inv X pins σ H s)(d:z8u H a kvs t)(hk:kok t k=true)(uk:Ur H k y)(ry:z0A y u)(l:(z0o kvs k).isSome=true)(h:∀o s',Inv X pins σ (upd H a o) s'->Kp H (upd H a o)->z8u (upd H a o) a (z6d kvs k) t->Q () s'):wpAny (model X.prog X.w) A (delItem (.ref a) u) Q E s:=by
 cases t
 .obtain⟨vs,e,rr⟩:=d;obtain⟨q,rfl,rfl⟩:=z1G hk uk;have kp:Kp H (upd H a (.dK (z6B vs q))):=.put e (λ_ z=>by cases z) λ_ _ z=>by cases z
  exact za6 I e ry (by rw[<-(rr.val q).some_eq];exact l) λs' I'=>h _ s' I' kp ⟨_,z0e,Paired.mapP (rr.del q) λ_ _ z=>⟨z.1,z.2.mono kp⟩⟩
 .obtain⟨xs,e,rr,hz⟩:=d;obtain⟨b,rfl⟩:=z4j hk uk;cases(show u=Value.ref b from ry);obtain⟨hs,dd⟩:=z5C I e rr;have kp:∀o,Kp H (upd H a o):=λo=>.put e (λ_ z=>by cases z) λ_ _ z=>by cases z
  have hlen:xs.length<=sizeLine:=by rw[<-y1j rr];exact hz
  obtain⟨j,p,hj⟩:∃(j:Nat)(p:Addr × Value),xs[j]?=some (k,p):=by
   have z:=(rr.val k).some_eq;rw[l]at z;unfold atKey at z;rw[y2H]at z;obtain⟨x,hx⟩:=y1r.mp z.symm;have hk2:=List.find?_some hx;obtain⟨j,hj⟩:=List.getElem?_of_mem (List.mem_of_find?_eq_some hx);obtain⟨x1,x2⟩:=x;have hk2:x1=k:=by simpa using hk2
   subst hk2;exact⟨j,x2,hj⟩
  rw[hw];refine wpAny_delItem_slot dd.typeIs (by decide) y1O (y0K y1O dd.typeIs PySem.F.entry_dict_delitem ?_ (PySem.F.args_dict_delitem_2 _ _));unfold Builtin.«dict.__delitem__»;refine y01 ?_;unfold Builtin.Dict.dictSlotArgs;refine y01 (wpAny_notOrdered_dict dd.typeIs ?_);refine y03 ?_;show wpAny _ _ (Builtin.Dict.takeOut a (.ref b)>>=_) _ _ s;refine y01 (z5a (show A.units+1+8<cLine by lia) (z3m I hk uk) dd hj hlen λen h' dd' hs'=>?_);refine y01 (wpAny_letGo (y03 ⟨.none,rfl,?_⟩));have he:∃q,h'.get? a=some q:=let⟨q,_,_,hq,_⟩:=dd';⟨q,hq⟩;refine h _ _ (z1d I (by rw[e];exact y0Y) hs' he (z3D hs dd')) (kp _) ⟨_,z0e,Paired.mapP (rr.del k) λ_ _ ⟨z1,z2,v,z3,z4⟩=>⟨z1,⟨z2.1,z2.2.mono (kp _)⟩,v,z3.mono (kp _),z4⟩,?_⟩;exact y0k (y2N _ _) hz
def zdb(I:Inv X pins σ H s):∃o,Inv X pins σ (upd H s.heap.objs.size o) { s with heap:=s.heap.push { cls:=.type "dict",data:=.dict #[] } }/\Kp H (upd H s.heap.objs.size o)/\z8u (upd H s.heap.objs.size o) s.heap.objs.size [] t:=by
 cases t
 .exact⟨.dK [],I.laid (a:=s.heap.objs.size) (o:=.dK []) (t':=s.toks) (λ_ _ q=>y02 _ q) (y0a _) (z5j s.heap I.big),.new I.fresh,[],z0e,.nil⟩
 .have hb:(s.heap.objs.size==sysModules)=false:=y1A.mpr (y10 (y0p I.big));exact⟨zbx s.heap.objs.size [],I.laid (a:=s.heap.objs.size) (o:=zbx s.heap.objs.size []) (t':=s.toks) (λ_ _ q=>y02 _ q) (y0a _) (z3D hb (Heap.DictOfH.new s.heap)),.new I.fresh,[],z0e,.nil,y1M _⟩
end
section
variable{xa:Nat->Addr}{X:Cx}{xk:St->XK}{o i e f value:Expr}{td tk tv:WE}{pos pos' tpos apos cpos:Pos}
def ziw(td tk:WE):WE:=λρ S Q E=>td ρ S (λx S1=>z4h S1 x λa _ _=>tk ρ S1 (λk S2=>z4h S2 x λ_ t kvs=>kok t k=true/\Q ((z0o kvs k).getD .non) S2) E) E
def zdD(hu:X.A.units+9<cLine)(hw:X.w=WW.w)(ho:SE xa X xk o td)(he:SE xa X xk e tk)(m:M1 X o "get" apos e cpos):SE xa X xk (.Call (.Attribute o "get" apos) [e] [] cpos) (ziw td tk):=by intro pins s σ H Q' I ⟨hd,ρ,S,Q,E,en,r,h,c⟩;refine wpAny_Call_method m.base m.few m.line PySem.F.plainAttrs_dict y26 PySem.F.type_dict_get (thn (ho.run I en r h c.ex) λov s1 hz8=>?_);obtain⟨x,v,H1,S1,I1,rv,k1,r1,u1,q1⟩:=hz8;obtain⟨a,t,kvs,rfl,hS,q1⟩:=q1.ex;obtain rfl:=urR u1;cases(show ov=Value.ref a from rv);obtain⟨t1,t2⟩:=z7U I1 (r1.1 _ _ hS);refine⟨t1,t2,?_⟩;rw[m.trees];refine y2C rfl (y32 (Calls.spliced_cons (thn (he.run I1 (en.mono k1) r1 q1 (c.mono k1).ex) λiv s2 ⟨k,y,H2,S2,I2,ry,k2,r2,u2,q2⟩=>Calls.spliced_nil ?_)));obtain⟨t,kvs,hS2,hk,q⟩:=q2;exact zaP hu hw I2 (r2.1 _ _ hS2) hk u2 ry λz w' s3 I3 uz rz=>⟨z,H2,I3,rz,c.ok _ S2 _ H2 (k1.trans k2) r2 uz q⟩
def zkm(td tk:WE):WS:=λρ S W E=>td ρ S (λx S1=>tk ρ S1 (λk S2=>z4h S2 x λa t kvs=>kok t k=true/\(z0o kvs k).isSome=true/\W.nx ρ (up S2 a (.dic t (z6d kvs k)))) (E ρ)) (E ρ)
def zfx(hu:X.A.units+9<cLine)(hw:X.w=WW.w)(ho:SE xa X xk o td)(hi:SE xa X xk i tk):SS xa xk X (.Delete [.Subscript o i tpos] pos) (zkm td tk):=by intro pins s σ H D I ⟨hd,ρ,S,W,E,en,r,h,c⟩;refine wpAny_Delete (wpAny_deleteEach_cons (wpAny_delete_Subscript (thn (ho.run I en r h (c.at en)) λov s1 ⟨x,v,H1,S1,I1,rv,k1,r1,u1,q1⟩=>thn (hi.run I1 (en.mono k1) r1 q1 ((c.mono k1).at (en.mono k1))) λiv s2 hz8=>?_)));obtain⟨k,y,H2,S2,I2,ry,k2,r2,u2,q2⟩:=hz8;obtain⟨a,t,kvs,rfl,hS,hk,hl,q⟩:=q2.ex;obtain rfl:=urR u1;cases(show ov=Value.ref a from rv);refine ze9 hu hw I2 (r2.1 _ _ hS) hk u2 ry hl λob s3 I3 k3 d3=>wpAny_deleteEach_nil ⟨σ,_,I3,?_⟩;have kk:=k1.trans (k2.trans k3);exact c.nx ρ _ σ _ kk (en.mono kk) (r2.up (o:=.dic t _) k3 (.inr (by rw[hS];exact λz=>by cases z)) d3) q
def zi4(t:Bool):WE:=λ_ S Q _=>nw (.dic t []) S Q
def z4L(t:Bool):SE xa X xk (.Dict [] [] pos) (zi4 t):=by intro pins s σ H Q' I ⟨hd,ρ,S,Q,E,en,r,h,c⟩;obtain⟨ob,I1,k1,d1⟩:=zdb (t:=t) I;exact wpAny_Dict_empty ⟨.ref s.heap.objs.size,_,I1,rfl,c.ok _ _ _ _ k1 (r.up (o:=.dic t []) k1 (.inl I.fresh) d1) (by simp only[Ur]) (h _ (r.none I.fresh))⟩
def zc7(f:Str)(v:U):List (Str × U)->List (Str × U)
 |[]=>[(f,v)]
 | (g,x)::r=>if g=f then(g,v)::r else(g,x)::zc7 f v r
def FsR.put{H:Hp}{fs:List (Str × U)}{vs:List (Str × V)}(h:FsR H fs vs)(f:Str){u:U}{v:V}(r:Ur H u v):FsR H (zc7 f u fs) (z5q f v vs):=by
 unfold FsR at h;induction h with
 |nil=>exact .cons ⟨rfl,r⟩ .nil
 |@cons p q ps qs h t ih =>
  obtain⟨g,x⟩:=p;obtain⟨g',y⟩:=q;obtain⟨rfl,h2⟩:=h;unfold zc7 z5q;by_cases e:g=f
  .rw[if_pos e,if_pos e];exact .cons ⟨rfl,r⟩ t
  .rw[if_neg e,if_neg e];exact .cons ⟨rfl,h2⟩ ih
def zhU(f:Str)(C:Addr)(t tv:WE):WS:=λρ S W E=>tv ρ S (λv S1=>t ρ S1 (λx S2=>match x with
 |.ref a=>∃fs,S2 a=some (.ins C fs)/\fs.length<1000/\W.nx ρ (up S2 a (.ins C (zc7 f v fs)))
 |_=>False) (E ρ)) (E ρ)
def z7h{f:Str}{C:Addr}{t:WE}(hc:Cls X.K C)(hn:z2X X.K C f)(ho:SE xa X xk o t)(hv:SE xa X xk value tv)(hs:swapsWith value (some (.Attribute o f pos')) pos.line X.env=pure false:=by rfl):SS xa xk X (.Assign [.Attribute o f pos'] value pos) (zhU f C t tv):=by
 intro pins s σ H D I ⟨hd,ρ,S,W,E,en,r,h,c⟩;refine plainObj_wpAny_Assign_Attribute (thn (hv.run I en r h (c.at en)) λuv s1 ⟨x,v,H1,S1,I1,rv,k1,r1,u1,q1⟩=>thn (ho.run I1 (en.mono k1) r1 q1 ((c.mono k1).at (en.mono k1))) λov s2 hz8=>?_) hs;obtain⟨y,w,H2,S2,I2,rw2,k2,r2,u2,q2⟩:=hz8;cases y<;>simp only at q2;obtain⟨fs,hS,hl,q⟩:=q2;obtain rfl:=urR u2;rename_i a;cases(show ov=Value.ref a from rw2);obtain⟨dx,vs,eH,l⟩:=r2.1 _ _ hS;have kp:∀o,Kp H2 (upd H2 a o):=λo=>.put eH (λ_ z=>by cases z) λ_ _ z=>by cases z
 refine z8h I2 eH hc hn (by rw[<-y1j l];exact hl) rv λs3 I3=>⟨σ,_,I3,?_⟩;have kk:=k1.trans (k2.trans (kp (.ins C dx (z5q f v vs))));exact c.nx ρ _ σ _ kk (en.mono kk) (r2.up (o:=.ins C _) (kp _) (.inr (by rw[hS];exact λz=>by cases z)) ⟨dx,_,z0e,Paired.mapP (l.put f (u1.mono k2)) λ_ _ z=>⟨z.1,z.2.mono (kp _)⟩⟩) q
def z7O(i:Nat){x:Str}{op:Operator}{te:WE}{g:WF}(hN:X.N.Nodup)(he:SE xa X xk e te)(ho:OpR X (inplaceOp op) (rW g))(hi:X.N[i]?=some x:=by rfl)(hx:Loc X.env.scope x:=by first|exact Or.inl rfl|exact Or.inr rfl)(hf:X.fn x=true\/X.env.scope.names.lookup x=some .local:=by first|exact .inl rfl|exact .inr rfl|assumption):SS xa xk X (.AugAssign (.Name x pos') op e pos) (zk9 i g te) :=
 PS.weak (zgR (ti:=rW g) hN hi hx he ho hf) λD σ H ⟨hd,ρ,S,W,E,en,r,h,c⟩=>by obtain⟨u,hu,h⟩:=h.ex;obtain⟨v,hv,uv⟩:=en.2 i u hu;exact⟨v,hv,hd,ρ,S,_,E ρ,en,r,h,λy S1 y' H1 k1 r1 u1 q1=>⟨hd,u,y,S1,_,r1,uv.mono k1,u1,λz S2 z' H2 k2 r2 u2 q2=>c.nx _ S2 _ H2 (k1.trans k2) ((en.mono (k1.trans k2)).set i u2) r2 q2,q1⟩,c.at en⟩
def zgL:WF
 |.int i,.int j,S,Q=>Q (.int (i+j)) S
 |_,_,_,_=>False
def z80:OpR X (inplaceOp .Add) (rW zgL):=by rintro pins s σ H v1 v2 x1 x2 Q' I r1 r2 ⟨hd,x,y,S,Q,r,u1,u2,c,h⟩;cases x<;>cases y<;>simp only[zgL]at h;obtain rfl:=urI u1;obtain rfl:=urI u2;exact zdf pins s σ H _ _ _ _ _ I r1 r2 ⟨_,_,rfl,rfl,c.put r uI h⟩
def z6S{x:Str}{u:U}{v:Value}(hm:X.mg x=some v)(hr:∀H,∃y,Ur H u y/\z0A y v)(hg:Gl X x:=by rfl)(hd:(x==("__debug__":Str))=false:=by decide):SE xa X xk (.Name x pos) (wC u):=λpins s σ H Q' I h=>by obtain⟨y,h1,h2⟩:=hr H;exact z2R I hg hm ⟨y,H,I,h2,zh0 h h1⟩ hd
def z9u(x:U)(us:List U)(S:Sto)(Q:Kq U):Prop:=match x,us with
 |.ref a,[]=>∃us,S a=some (.lst us)/\Q .non (up S a (.lst []))
 |_,_=>False
def zeq:MtR X "list.clear" (rM z9u):=by
 rintro pins s σ H v vs x xs Q' I r1 r2 ⟨hd,y,us,S,Q,r,u1,u2,c,h⟩;unfold z9u at h;split at h
 .obtain rfl:=urR u1;simp only[UrL]at u2;subst u2;obtain⟨us,hS,q⟩:=h;obtain⟨ws,e,l⟩:=r.1 _ _ hS;exact zbC pins s σ H _ _ _ _ _ I r1 r2 ⟨_,ws,rfl,rfl,e,c.wr r (by rw[hS];exact λz=>nomatch z) e .nil (by simp only[Ur]) q⟩
 .exact h.elim
end
open PySem L2 PySem.SeqAt PySem.Spec
variable[WW]
def zaI(S:Sto)(u:U)(k:Addr->Nat->En->Prop):Prop:=match u with
 |.ref a=>∃i ρ,S a=some (.clo i ρ)/\k a i ρ
 |_=>False
def zaI.ex{S:Sto}{u:U}{k:Addr->Nat->En->Prop}(h:zaI S u k):∃a i ρ,u=.ref a/\S a=some (.clo i ρ)/\k a i ρ:=by cases u<;>simp only[zaI]at h;obtain⟨t,kvs,h1,h2⟩:=h;exact⟨_,t,kvs,rfl,h1,h2⟩
def oC:Option Ob->Bool
 |some (.clo _ _)=>true
 |_=>false
def nc(S:Sto):Sto:=λa=>cond (oC (S a)) none (S a)
def mgC(S S':Sto):Sto:=λa=>cond (oC (S a)) (S a) (cond (oC (S' a)) none (S' a))
def zcB{S S':Sto}{a:Addr}{o:Ob}(h:mgC S S' a=some o):(isC o=true/\S a=some o)\/(isC o=false/\S' a=some o):=by
 unfold mgC at h;cases e:oC (S a)with
 |true =>
  rw[e]at h;refine .inl ⟨?_,h⟩;have h:S a=some o:=h;rw[h]at e;cases o<;>first|rfl|cases e
 |false =>
  rw[e]at h;cases e2:oC (S' a)with
  |true=>rw[e2]at h;cases h
  |false =>
   rw[e2]at h;have h:S' a=some o:=h;refine .inr ⟨?_,h⟩;rw[h]at e2;cases o<;>first|rfl|cases e2
def zeS{S:Sto}{a:Addr}{o:Ob}(h:nc S a=some o):isC o=false/\S a=some o:=by
 unfold nc at h;cases e:oC (S a)with
 |true=>rw[e]at h;cases h
 |false =>
  rw[e]at h;have h:S a=some o:=h;refine⟨?_,h⟩;rw[h]at e;cases o<;>first|rfl|cases e
def z7g{S S':Sto}{a:Addr}(h:S a=none)(h':S' a=none):mgC S S' a=none:=by unfold mgC;rw[h,h'];rfl
def zcT{S:Sto}{a:Addr}(h:S a=none):nc S a=none:=by unfold nc;rw[h];rfl
def ObR.nofr{H:Hp}{a:Addr}{o:Ob}(h:ObR H a o)(n:isC o=false):∀ob,H a≠Option.some (frO ob):=by
 cases o with
 |lst us=>obtain⟨_,e,_⟩:=h;rw[e];exact λ_ z=>by cases z
 |scr us=>obtain⟨_,_,e,_⟩:=h;rw[e];exact λ_ z=>by cases z
 |ins C fs=>obtain⟨_,_,e,_⟩:=h;rw[e];exact λ_ z=>by cases z
 |dic t kvs=>cases t<;>(obtain⟨_,e,_⟩:=h;rw[e];exact λ_ z=>by cases z)
 |pin o xs kvs=>rw[h.1];exact λ_ z=>by cases z
 |clo i ρ=>cases n
def ObR.clo_frz{H:Hp}{a:Addr}{o:Ob}(h:ObR H a o)(n:isC o=true):∃ob,H a=Option.some (frO ob):=by cases o<;>simp only[isC,y0B]at n;obtain⟨_,⟨_,_,_,_,_,_,_,_,e,_⟩,_⟩:=h;exact⟨_,e⟩
def zfy(i:Nat)(ts:WA):WE:=λρ S Q E=>opt (lk ρ i) λu=>zaI S u λa j cp=>ts ρ S (λus S1=>S1 a=some (.clo j cp)/\us.length=(WW.lam j).ps.length/\WW.rd j (us.map some++cp.drop us.length) S1 Q) E
def lsv(j:Nat)(cp:En):List V->Hp->VK->Prop:=λvs H Q'=>∃hd us S Q,Rep hd S H/\UrL H us vs/\us.length=(WW.lam j).ps.length/\WW.rd j (us.map some++cp.drop us.length) S Q/\Co hd Ur H Q Q'
def ziN(P:Program)(K:yyF)(mg:yyS)(base:Heap)(k:Nat):Prop:=∀j H f cp,ObR H f (.clo j cp)->z5F P WW.w K mg base (CXx P WW.w) k H f (lsv j cp)
section
variable{xa:Nat->Addr}{X:Cx}{xk:St->XK}{e:Expr}{es:List Expr}{ts:WA}{x:Str}{p pos:Pos}{k:Nat}
def zbW(i:Nat)(L:ziN X.prog X.K X.mg X.base k)(hw:X.w=WW.w)(hr:z1C k X.A)(ha:SA xa X xk (e::es) ts)(hN:X.N[i]?=some x:=by rfl)(hv:Vis X.env.scope x:=by first|exact Or.inl rfl|exact Or.inr (Or.inl rfl)|exact Or.inr (Or.inr rfl))(hd:(x==("__debug__":Str))=false:=by decide)(hcd:(x==("__classdict__":Str))=false:=by decide)(he:starEach (e::es) X.env=(false,eval e X.env)::starEach es X.env:=by rfl)(hpl:(backTo pos (starEach es X.env)).any (·.1)=false:=by rfl):SE xa X xk (.Call (.Name x p) (e::es) [] pos) (zfy i ts) :=
 PE.weak (zaN (CX:=CXx X.prog X.w) i hr ha hN hv hd hcd he hpl) λσ H Q' ⟨hd,ρ,S,Q,E,en,r,h,c⟩=>by obtain⟨u,hu,h⟩:=h.ex;obtain⟨a,j,cp,rfl,hS,h⟩:=h.ex;obtain⟨v,hv,uv⟩:=en.2 i _ hu;obtain rfl:=urR uv;obtain⟨fv,⟨_,_,_,_,_,_,_,_,e1,_⟩,_⟩:=id (r.1 _ _ hS);refine⟨a,lsv j cp,hv,⟨_,_,e1,rfl⟩,hd,ρ,S,_,E,en,r,h,λus S1 vs H1 k1 r1 u1 q1=>⟨?_,hd,us,S1,Q,r1,u1,q1.2.1,q1.2.2,c.ok.mono k1⟩,c.ex⟩;rw[hw];exact L j H1 a cp (r1.1 _ _ q1.1)
end
def zdp{H:Hp}{us:List U}{vs:List V}{cp:En}{fv:St}(u:UrL H us vs)(e:EnR H cp fv):EnR H (us.map some++cp.drop us.length) (z56 vs fv):=by
 unfold z56;have hl:=u.len;refine⟨by simp[e.1,hl],λi x h=>?_⟩;rw[z81]at h;by_cases hi:i<us.length
 .rw[y1l (by simpa using hi),y0x]at h;cases z:us[i]? with
  |none=>rw[z]at h;cases h
  |some y =>
   rw[z]at h;cases h;obtain⟨v,h1,h2⟩:=u.get z;exact⟨v,by rw[y1l (by rw[y00];lia),y0x,h1];rfl,h2⟩
 .rw[y15 (by simpa using hi),y00,y1L,show us.length+(i-us.length)=i by lia,<-z81]at h;obtain⟨v,h1,h2⟩:=e.2 i x h;refine⟨v,?_,h2⟩;rw[y15 (by rw[y00];lia),y00,y1L,show vs.length+(i-vs.length)=i by lia];exact h1
def zeV{P:Program}{K:yyF}{mg:yyS}{base:Heap}{xa:Nat->Addr}{k j:Nat}{t:WE}(S:zh1 (WW.lam j).N (WW.lam j).ps (WW.lam j).scope)(hbind:∀(cl:List (Str × Addr)) (pm cdv ct:Value) (us:List Value),us.length=(WW.lam j).ps.length->bindArgs (PySem.W.kla_fn "<lambda>" (WW.lam j).qual (WW.lam j).params (WW.lam j).body (WW.lam j).scope cl pm cdv ct) ⟨us,[]⟩=pure ((WW.lam j).ps.zip us))(hb:∀(f:Addr) (cd:Value) (clos:List (Str × Addr)) (A:Around) (outer:List Env) (s:Shared) (H:Hp),z1C k (A.deeper (PySem.W.envX (WW.lam j).qual (WW.lam j).scope s.heap.objs.size f cd clos))->SE xa (zao P WW.w K mg base (WW.lam j).N (WW.lam j).qual (WW.lam j).scope f cd clos A outer s H) noX (WW.lam j).body t)(hrd:∀ρ S Q,WW.rd j ρ S Q->t ρ (nc S) (λu S1=>Q u (mgC S S1)) noQ)(H:Hp)(f:Addr)(cp:En)(h:ObR H f (.clo j cp)):z5F P WW.w K mg base (CXx P WW.w) (k+1) H f (lsv j cp):=by
 obtain⟨fv,C,hfv,en⟩:=h;refine z5F.lam2 C S hbind hfv (λvs H Q' ⟨hd,us,S,Q,r,u,hl,_⟩=>by rw[<-u.len];exact hl) λH' s' A outer s cd clos cs vs Q' hr nf hcs ⟨hd,us,S,Q,r,u,hl,h,c⟩=>⟨_,hb f cd clos A outer s (utk H' cs) hr,?_⟩;have ncs:∀{b:Addr}{o:HO},H' b=some o->(∀ob,o≠frO ob)->b∉cs:=λ{b o} e n z=>by obtain⟨ob,_,q,_⟩:=hcs b z;rw[q]at e;cases e;exact n ob rfl
 have tp:Tp H' (utk H' cs):=λa xs e=>by rw[z0q (ncs e λ_ z=>by cases z)];exact e
 have rp:Rep hd (nc S) (utk H' cs):=by
  refine⟨λa o e=>?_,λp hp=>?_,z1I r.2.2 (λb ps e=>?_) λb oc vs d e=>?_⟩
  .obtain⟨n,e⟩:=zeS e;have q:=r.1 a o e;obtain⟨x,hx⟩:=q.some;exact q.tp n tp (z0q (ncs hx λob z=>q.nofr n ob (by rw[hx,z])))
  .obtain⟨h1,h2,h3⟩:=r.2.1 p hp;exact⟨zcT h1,by rw[z0q (ncs h2 λob z=>by rw[z]at h3;cases h3)];exact h2,h3⟩
  .rw[z0q (ncs e λ_ z=>by cases z)];exact e
  .rw[z0q]
   .exact e
   .intro z;obtain⟨o,u,q,d2⟩:=hcs b z;rw[q]at e;cases e;rw[d]at d2;cases d2
 refine⟨hd,_,nc S,_,noQ,(zdp u (en.mono (.same s'))).tp tp,rp,hrd _ _ _ h,λy S1 v H1 k1 r1 u1 q1 hn=>?_,zh3⟩;have out:∀{b:Addr}{o:HO},H1 b=some o->rtk H' H1 cs b=some o:=λ{b o} e=>by rw[z1P (λz=>by rw[hn b z]at e;cases e)];exact e
 have kp:Kp H' (rtk H' H1 cs):=by
  refine⟨λa xs e=>?_,λa o x e=>?_⟩
  .by_cases z:a∈cs
   .rw[z7y z];exact e
   .rw[z1P z];exact k1.tup _ _ (by rw[z0q z];exact e)
  .by_cases z:a∈cs
   .rw[z7y z];exact e
   .rw[z1P z];exact k1.frz _ _ _ (by rw[z0q z];exact e)
 refine c y (mgC S S1) v _ kp ⟨λa o e=>?_,λp hp=>?_,z1I r1.2.2 (λb ps e=>out e) λb oc vs d e=>out e⟩ (u1.tp λa xs e=>out e) q1
 .rcases zcB e with⟨n,e⟩|⟨n,e⟩
  .have q:=r.1 a o e;obtain⟨ob,hx⟩:=q.clo_frz n;exact q.mono kp (by rw[hx];exact kp.frz _ _ _ hx)
  .have q:=r1.1 a o e;obtain⟨x,hx⟩:=q.some;exact q.tp n (λa xs e=>out e) (by rw[hx];exact out hx)
 .obtain⟨h1,h2,h3⟩:=r.2.1 p hp;obtain⟨g1,g2,_⟩:=r1.2.1 p hp;exact⟨z7g h1 g1,out g2,h3⟩
def zeG(sp:Wsp)(j:Nat)(ix:List (Option Nat))(t0:WE):WE:=λρ S Q E=>t0 ρ S (λu S1=>∀fa,S1 fa=none->sp [u,.ref fa] (up S1 fa (.clo j (cst ix ρ))) (λv S2=>Q v (mgC S1 S2)) (λc S2=>E c (mgC S1 S2))) E
section
variable{xa:Nat->Addr}{X:Cx}{E0:XK}{N:List Str}{ix:List (Option Nat)}{lpos p pos:Pos}{c:Addr}{T:Tb}{k j:Nat}{sp:Wsp}{x:Str}{e0:Expr}{t0:WE}
def zaR(j:Nat){params:Arguments}{body:Expr}{lsc:Scope}{ps':List Str}(hl:WW.lam j=⟨params,body,lsc,T.qual,N,ps'⟩)(G:Fc X.prog X.w X.K X.mg X.base xa x k sp)(hr:z1C k X.A)(hx:z2r (CXx X.prog X.w) X E0)(h0:SE xa X (λ_=>E0) e0 t0)(S:z0K X.N X.env.scope N ix lsc)(hcode:X.env.code=.ref c)(hC:PySem.W.CodeHd X.base c T.at_)(hB:z45 X.base X.mg)(hT:T∈WW.Ts)(hTn:∀T'∈WW.Ts,T'.at_=T.at_->T'=T)(hTp:T.pos=lpos)(hTq:T.qual=X.env.qual++"<lambda>")(hfn:∀y,X.fn y=true:=by intro _;rfl)(hg:Gl X x:=by rfl)(hdef:defaultsOf params X.env=([],[]):=by rfl)(hdb:(x==("__debug__":Str))=false:=by decide)(he:starEach [e0,.Lambda params body lsc lpos] X.env=(false,eval e0 X.env)::starEach [.Lambda params body lsc lpos] X.env:=by rfl)(he2:starEach [.Lambda params body lsc lpos] X.env=(false,eval (.Lambda params body lsc lpos) X.env)::starEach [] X.env:=by rfl)(hpl:(backTo pos (starEach [.Lambda params body lsc lpos] X.env)).any (·.1)=false:=by rfl) : SE xa X (λ_=>E0) (.Call (.Name x p) [e0,.Lambda params body lsc lpos] [] pos) (zeG sp j ix t0):=by
 obtain⟨f,fd,ps,F,hb,hk,hm⟩:=G.ok;refine PE.weak (zaJ F hr hg hm hk hb hx h0 (λσ H Q Q' m ⟨hd,ρ,S,Q0,E,en,r,h,c⟩=>⟨hd,ρ,S,Q0,E,en,r,h,⟨λy S v H' k r u q=>m _ _ (c.ok y S v H' k r u q),c.ex⟩⟩) S hcode hC hB hfn hT hTn hTp hTq hdef hdb he he2 hpl) ?_;rintro σ H Q' ⟨hd,ρ,S0,Q,E,en,r,h,cc⟩;refine⟨hd,ρ,S0,_,E,en,r,h,λu S1 v H1 k1 r1 u1 q1=>⟨r1.2.2,λfa H2 cs ob hfa fr tb hn hcl C=>?_⟩,cc.ex⟩;have out:∀{b:Addr}{o:HO},H2 b=some o->b∉cs:=λ{b o} e z=>by rw[hn b z]at e;cases e
 have tr:∀{b:Addr}{o:HO},H2 b=some o->z6e H2 cs ob b=some o:=λe=>by rw[z0T (out e)];exact e
 have k2:Kp H1 (z6e H2 cs ob):=⟨λa xs e=>tr (fr _ _ (λ_ z=>by cases z) e),λa o x e=>tr (fr _ _ (λ_ z=>by cases z) e)⟩;have r2:Rep hd (up S1 fa (.clo j (cst ix ρ))) (z6e H2 cs ob):=by
  refine⟨λa o e=>?_,λp hp=>?_,z1I tb (λb ps e=>tr e) λb oc vs d e=>tr e⟩
  .by_cases z:a=fa
   .subst z;rw[z04]at e;cases e;refine⟨z18 ix σ,by rw[hl];exact C,?_,(z9e (en.mono k1) ix).mono k2⟩;rw[hl];unfold z18;rw[y00];exact S.len
   .rw[z0c z]at e;have q:=r1.1 a o e;obtain⟨y,hy⟩:=q.some;exact q.mono k2 (by rw[hy];exact tr (fr _ _ (λps z=>q.notab.1 ps (by rw[hy,z])) hy))
  .obtain⟨h1,h2,h3⟩:=r1.2.1 p hp;have z:p.1≠fa:=z0i h2 hfa;exact⟨by rw[z0c z];exact h1,tr (fr _ _ (λps z=>by rw[z]at h3;cases h3) h2),h3⟩
 have back:∀{H3:Hp}{S3:Sto},Kp (z6e H2 cs ob) H3->Rep hd S3 H3->Kp H1 (utk H3 cs)/\Rep hd (mgC S1 S3) (utk H3 cs)/\Tp H3 (utk H3 cs):=by
  intro H3 S3 k3 r3;have fz:∀c∈cs,H3 c=some (frO (ob c)):=λc hc=>k3.frz _ _ _ (z3x hc);have ncs:∀{b:Addr}{o:HO},H3 b=some o->(∀ob,o≠frO ob)->b∉cs:=λ{b o} e n z=>by rw[fz b z]at e;cases e;exact n _ rfl
  have old:∀{b:Addr}{o:HO},H1 b=some o->(∀ps,o≠.tbl ps)->b∉cs:=λe n=>out (fr _ _ n e);have tp:Tp H3 (utk H3 cs):=λa xs e=>by rw[z0q (ncs e λ_ z=>by cases z)];exact e
  have kp:Kp H1 (utk H3 cs):=⟨λa xs e=>by rw[z0q (old e λ_ z=>by cases z)];exact k3.tup _ _ (k2.tup _ _ e),λa o x e=>by rw[z0q (old e λ_ z=>by cases z)];exact k3.frz _ _ _ (k2.frz _ _ _ e)⟩;refine⟨kp,⟨λa o e=>?_,λp hp=>?_,z1I r3.2.2 (λb ps e=>?_) λb oc vs d e=>?_⟩,tp⟩
  .rcases zcB e with⟨n,e⟩|⟨n,e⟩
   .have q:=r1.1 a o e;obtain⟨ob,hx⟩:=q.clo_frz n;exact q.mono kp (by rw[hx];exact kp.frz _ _ _ hx)
   .have q:=r3.1 a o e;obtain⟨x,hx⟩:=q.some;exact q.tp n tp (z0q (ncs hx λob z=>q.nofr n ob (by rw[hx,z])))
  .obtain⟨h1,h2,h3⟩:=r1.2.1 p hp;obtain⟨g1,g2,g3⟩:=r3.2.1 p hp;exact⟨z7g h1 g1,by rw[z0q (ncs g2 λob z=>by rw[z]at g3;cases g3)];exact g2,h3⟩
  .rw[z0q (ncs e λ_ z=>by cases z)];exact e
  .rw[z0q]
   .exact e
   .intro z;obtain⟨u,d2⟩:=hcl b z;rw[fz b z]at e;cases e;rw[d]at d2;cases d2
 refine⟨hd,_,_,_,_,r2,.cons (u1.mono k2) (.cons (u:=.ref fa) (v:=.ref fa) (by simp only[Ur]) .nil),q1 fa (r1.none hfa),λy S3 w H3 k3 r3 u3 q3=>?_,λea cx S3 H3 k3 r3 q3=>?_⟩
 .obtain⟨b1,b2,b3⟩:=back k3 r3;exact cc.ok y _ w _ (k1.trans b1) b2 (u3.tp b3) q3
 .obtain⟨b1,b2,b3⟩:=back k3 r3;exact cc.ex ea cx _ _ (k1.trans b1) b2 q3
end
open PySem L2 PySem.SeqAt PySem.Spec
variable[WW]
theorem z9Y{H:Hp}:∀{bs:List Bool}{vs:List V},UrL H (bs.map U.bl) vs->vs=bs.map V.bl
 |[],_,h=>by simpa only[y25,UrL]using h
 |b::bs,_,h=>by simp only[y0m,UrL]at h;obtain⟨v,r,rfl,h1,h2⟩:=h;rw[urB h1,z9Y h2];rfl
theorem z6n{H:Hp}:∀{bs:List Int}{vs:List V},UrL H (bs.map U.int) vs->vs=bs.map V.int
 |[],_,h=>by simpa only[y25,UrL]using h
 |b::bs,_,h=>by simp only[y0m,UrL]at h;obtain⟨v,r,rfl,h1,h2⟩:=h;rw[urI h1,z6n h2];rfl
theorem z3F{H:Hp}:∀{bs:List Str}{vs:List V},UrL H (bs.map U.str) vs->vs=bs.map V.str
 |[],_,h=>by simpa only[y25,UrL]using h
 |b::bs,_,h=>by simp only[y0m,UrL]at h;obtain⟨v,r,rfl,h1,h2⟩:=h;rw[urS h1,z3F h2];rfl
theorem z3B{H:Hp}:∀(bs:List Int),UrL H (bs.map U.int) (bs.map V.int)
 |[]=>.nil
 |b::bs=>.cons uI (z3B bs)
theorem z2U{H:Hp}:∀(bs:List Str),UrL H (bs.map U.str) (bs.map V.str)
 |[]=>.nil
 |b::bs=>.cons uS (z2U bs)
def zh6(al:Bool)(us:List U)(S:Sto)(Q:Kq U):Prop:=match us with
 |[.ref a]=>∃bs:List Bool,isL S a (bs.map U.bl)/\Q (.bl (cond al (bs.all id) (bs.any id))) S
 |_=>False
def zj2(us:List U)(S:Sto)(Q:Kq U):Prop:=match us with
 |[.int i,.int j]=>Q (.int (if j>i then j else i)) S
 |[.ref a]=>∃(ns:List Int)(M:Int),isL S a (ns.map U.int)/\M∈ns/\(∀a∈ns,a<=M)/\Q (.int M) S
 |_=>False
def zjq(us:List U)(S:Sto)(Q:Kq U):Prop:=match us with
 |[.int i]=>i.natAbs.log2<1920/\Q (.str (toString i)) S
 |[.str x]=>Q (.str x) S
 |_=>False
def zcr(us:List U)(S:Sto)(Q:Kq U):Prop:=match us with
 |[.ref a]=>∃ss:List Str,isL S a (ss.map U.str)/\ss.length<64/\∀ss':List Str,ss'.Perm ss->PyProof.Rows.sortedS ss'=true->nw (.lst (ss'.map U.str)) S Q
 |_=>False
def zgh(us:List U)(S:Sto)(Q:Kq U):Prop:=match us with
 |[.ref a]=>∃t kvs,S a=some (.dic t kvs)/\Q (.int kvs.length) S
 |_=>False
section
variable{X:Cx}
def zg0(hc:X.calm=true):z0Q X (.builtin "any") (rC (zh6 false)):=by
 rintro pins s σ H vs xs Q' I r1 ⟨hd,us,S,Q,r,u,c,h⟩;unfold zh6 at h;split at h
 .obtain⟨v,rfl,g⟩:=z4e u;obtain rfl:=urR g;obtain⟨bs,hl,q⟩:=h;obtain⟨ws,e,l⟩:=hl.of (K:=X.K) r;exact zbi hc pins s σ H _ _ _ I r1 ⟨_,bs,rfl,by rw[<-z9Y l];exact e,c.put r uB q⟩
 .exact h.elim
def zfs(hc:X.calm=true):z0Q X (.builtin "all") (rC (zh6 true)):=by
 rintro pins s σ H vs xs Q' I r1 ⟨hd,us,S,Q,r,u,c,h⟩;unfold zh6 at h;split at h
 .obtain⟨v,rfl,g⟩:=z4e u;obtain rfl:=urR g;obtain⟨bs,hl,q⟩:=h;obtain⟨ws,e,l⟩:=hl.of (K:=X.K) r;exact zbp hc pins s σ H _ _ _ I r1 ⟨_,bs,rfl,by rw[<-z9Y l];exact e,c.put r uB q⟩
 .exact h.elim
def zgG(hc:X.calm=true):z0Q X (.builtin "max") (rC zj2):=by
 rintro pins s σ H vs xs Q' I r1 ⟨hd,us,S,Q,r,u,c,h⟩;unfold zj2 at h;split at h
 .obtain⟨v,w,rfl,g1,g2⟩:=zfG u;exact z9D hc pins s σ H _ _ _ I r1 ⟨_,_,by rw[urI g1,urI g2],c.put r uI h⟩
 .obtain⟨v,rfl,g⟩:=z4e u;obtain rfl:=urR g;obtain⟨ns,M,hl,h1,h2,q⟩:=h;obtain⟨ws,e,l⟩:=hl.of (K:=X.K) r;exact zk0 X.K rfl hc pins s σ H _ _ _ I r1 ⟨_,ns,M,rfl,by rw[<-z6n l];exact e,h1,h2,c.put r uI q⟩
 .exact h.elim
def zfb:z0Q X (.type "str") (rC zjq):=by
 rintro pins s σ H vs xs Q' I r1 ⟨hd,us,S,Q,r,u,c,h⟩;unfold zjq at h;split at h
 .obtain⟨v,rfl,g⟩:=z4e u;exact z6c pins s σ H _ _ _ I r1 ⟨_,by rw[urI g],h.1,c.put r uS h.2⟩
 .obtain⟨v,rfl,g⟩:=z4e u;exact z5u pins s σ H _ _ _ I r1 ⟨_,by rw[urS g],c.put r uS h⟩
 .exact h.elim
def zdK:z0Q X (.builtin "sorted") (rC zcr):=by
 rintro pins s σ H vs xs Q' I r1 ⟨hd,us,S,Q,r,u,c,h⟩;unfold zcr at h;split at h
 .obtain⟨v,rfl,g⟩:=z4e u;obtain rfl:=urR g;obtain⟨ns,hl,hz,q⟩:=h;obtain⟨ws,e,l⟩:=hl.of (K:=X.K) r;exact zfI X.K rfl pins s σ H _ _ _ I r1 ⟨_,ns,rfl,by rw[<-z3F l];exact e,hz,λns' h1 h2 p hp=>c.lst r (z2U ns') (q ns' h1 h2) hp⟩
 .exact h.elim
def zfn:z0Q X (.builtin "len") (rC zgh):=by
 rintro pins s σ H vs xs Q' I r1 ⟨hd,us,S,Q,r,u,c,h⟩;unfold zgh at h;split at h
 .obtain⟨v,rfl,g⟩:=z4e u;obtain rfl:=urR g;obtain⟨t,kvs,hS,q⟩:=h;have d:=r.1 _ _ hS;cases t
  .obtain⟨ws,e,l⟩:=d;exact z8Y pins s σ H _ _ _ I r1 ⟨_,ws,rfl,e,by rw[<-l.len];exact c.put r uI q⟩
  .obtain⟨ys,e,rr,hz⟩:=d;obtain⟨hsm,dd⟩:=z5C I e rr;obtain⟨o,es,ep,ho,hc,hdat,hes,_⟩:=id dd;obtain⟨y,rfl,ry⟩:=z1Z r1;cases ry;have hlen:es.size=kvs.length:=by
    have:es.toList.length=ys.length:=by rw[hes,y00]
    rw[y1j rr,<-this];simp
   have hz2:(kvs.length:Int)<2^63:=by have:=z30;lia
   refine Calls.call_function_entry kind_len plain_len entry_len (args_len1 _) ?_;unfold Builtin.«len»;refine y01 (m:=oneArg "len" _) (y03 ?_);refine y01 (m:=callSpecial? (.ref _) (Str.ofString "__len__")) (y0E (name:=Str.ofString "__len__") dd.typeIs F.slot_dict_len
    (y0K F.slot_dict_len dd.typeIs F.entry_dict_len ?_ (F.args_dict_len_1 _)))
   show wpAny _ _ (dictSize _>>=_) _ _ s;unfold dictSize;refine y01 (y01 (y1S ho hdat (y03 ?_)));show wpAny _ _ (Builtin.Dict.pendingCount _>>=_) _ _ s;refine y01 (wpAny_pendingCount_other hsm ?_);refine wpAny_ret_mkInt ?_;rw[y2Q,hlen];refine y01 (y1e (y03 ?_));refine y01 (wpAny_letGo ?_);show wpAny _ _ (if((kvs.length:Nat):Int)<0
    then _ else _) _ _ _
   rw[if_neg (by lia)];show wpAny _ _ (if((kvs.length:Nat):Int) ≥ 2^63
    then _ else _) _ _ _
   rw[if_neg (by lia)];exact y01 (wpAny_mkInt (y03 ⟨_,rfl,.int kvs.length,H,I.tok _,⟨_,rfl⟩,c.put r uI q⟩))
 .exact h.elim
end
open PySem L2 PySem.SeqAt PySem.Spec
variable[WW]
def prs(L L':List U):List U:=List.zipWith (λx y=>U.tup [x,y]) L L'
def z9w{L L':List U}{i:Nat}{x:U}(h:(prs L L')[i]?=some x):∃a b,L[i]?=some a/\L'[i]?=some b/\x=.tup [a,b]:=by
 unfold prs at h;rw[List.getElem?_zipWith]at h;cases e1:L[i]? with
 |none=>rw[e1]at h;cases h
 |some a =>
  cases e2:L'[i]? with
  |none=>rw[e1,e2]at h;cases h
  |some b=>rw[e1,e2]at h;cases h;exact⟨a,b,rfl,rfl,rfl⟩
def z6W(L L':List U):(prs L L').length=min L.length L'.length:=by unfold prs;rw[List.length_zipWith]
def z87{hd:Hd}{H:Hp}{S:Sto}{p:Addr}{a b:U}{x y:V}(hp:H p=none)(r:Rep hd S H)(ha:Ur H a x)(hb:Ur H b y):Kp H (upd H p (.tup [x,y]))/\Rep hd S (upd H p (.tup [x,y]))/\Ur (upd H p (.tup [x,y])) (.tup [a,b]) (.ref p):=by have s:Same H (upd H p (.tup [x,y])):=Gu.same_up (Same.refl H) hp;refine⟨.same s,r.same s,?_⟩;simp only[Ur];exact⟨p,_,rfl,z0e,.cons (ha.mono (.same s)) (.cons (hb.mono (.same s)) .nil)⟩
section
variable{K:yyF}{H0:Hp}
def zaG{a b:Addr}{L L':List U}:ItR H0 (Itz K a b) (prs L L') (λS=>isL S a L/\isL S b L'):=by
 constructor
 .intro hd i H S x _ r ck hx;obtain⟨y,z,h1,h2,rfl⟩:=z9w hx;obtain⟨vs,e,l⟩:=ck.1.of (K:=K) r;obtain⟨ws,e',l'⟩:=ck.2.of (K:=K) r;obtain⟨v,g1,k1⟩:=l.get h1;obtain⟨w,g2,k2⟩:=l'.get h2;refine⟨⟨vs,ws,v,w,e,e',g1,g2⟩,λv' H' hz8=>?_⟩;obtain⟨p,x,y,e1,hp,q1,q2,e2⟩:=hz8;have z1:=q1 vs e;have z2:=q2 ws e';rw[g1]at z1;rw[g2]at z2;cases z1;cases z2;subst e1 e2;exact z87 hp r k1 k2
 .intro hd i H S _ r ck hl;obtain⟨vs,e,l⟩:=ck.1.of (K:=K) r;obtain⟨ws,e',l'⟩:=ck.2.of (K:=K) r;rw[z6W]at hl;exact⟨vs,ws,e,e',by rw[<-l.len,<-l'.len];lia⟩
end
abbrev Rk:=List U->(Sto->Prop)->Sto->Prop
def fZL(us:List U)(S:Sto)(R:Rk):Prop:=match us with
 |[.ref a,.ref b]=>∃L L',isL S a L/\isL S b L'/\R (prs L L') (λS=>isL S a L/\isL S b L') S
 |_=>False
section
variable{xa:Nat->Addr}{X:Cx}{xk:St->XK}{a b:Expr}{ta:WA}{p pos:Pos}{elts:List Expr}{tk:Nat}{tp:Pos}
def zeY(hm:X.mg "zip"=none)(ha:SA xa X xk [a,b] ta)(hg:Gl X "zip":=by rfl)(hs:starEach [a,b] X.env=[(false,eval a X.env),(false,eval b X.env)]:=by rfl)(hs2:starEach [b] X.env=[(false,eval b X.env)]:=by rfl):SI xa xk X (.Tuple elts tk tp) (.Call (.Name "zip" p) [a,b] [] pos) (wRg fZL ta) :=
 λpins s σ H R' I q=>zfF hg hm ha hs hs2 pins s σ H R' I (LtI.of (f:=fZL) q λhd S R u v H1 r1 u1 q1 c1=>by
  unfold fZL at q1;split at q1
  .obtain⟨v,w,rfl,g1,g2⟩:=zfG u1;obtain rfl:=urR g1;obtain rfl:=urR g2;obtain⟨L,L',h1,h2,q⟩:=q1;obtain⟨vs,e,_⟩:=h1.of (K:=X.K) r1;obtain⟨ws,e',_⟩:=h2.of (K:=X.K) r1;exact⟨_,_,rfl,⟨_,e⟩,⟨_,e'⟩,c1 _ _ S _ H1 (.refl _) r1 zaG q⟩
  .exact q1.elim)
end
open PySem L2 PySem.SeqAt PySem.Spec
variable[WW]
def Rep.hide{hd:Hd}{S:Sto}{H:Hp}{a:Addr}{x:HO}(r:Rep hd S H)(h:H a=Option.none)(hx:hid x=true):Rep ((a,x)::hd) S (upd H a x)/\∀p∈hd,p.1≠a:=by
 have hn:∀p∈hd,p.1≠a:=λp hp=>z0i (r.2.1 p hp).2.1 h;refine⟨⟨λb o e=>(r.1 b o e).mono (.new h) (z0f ?_),λp hp=>?_,z1I r.2.2 (λb ps e=>?_) λb oc vs d e=>?_⟩,hn⟩
 .rintro rfl;rw[r.none h]at e;cases e
 .rcases y0l.mp hp with rfl|hp
  .exact⟨r.none h,z0e,hx⟩
  .obtain⟨g1,g2,g3⟩:=r.2.1 p hp;exact⟨g1,by rw[z0f (hn p hp)];exact g2,g3⟩
 .rw[z0f (z0i e h)];exact e
 .rw[z0f (z0i e h)];exact e
def Rep.bare{hd:Hd}{S:Sto}{H:Hp}{a:Addr}{x y:HO}{o:Ob}(r:Rep ((a,x)::hd) S H)(hn:∀p∈hd,p.1≠a)(k:Kp H (upd H a y))(h:ObR (upd H a y) a o):S a=Option.none/\Rep hd (W.up S a o) (upd H a y):=by
 obtain⟨h1,h2,h3⟩:=r.2.1 _ y0t;refine⟨h1,λb p e=>?_,λp hp=>?_,z1I r.2.2 (λb ps e=>?_) λb oc vs d e=>?_⟩
 .by_cases z:b=a
  .subst z;rw[z04]at e;cases e;exact h
  .rw[z0c z]at e;exact(r.1 b p e).mono k (z0f z)
 .obtain⟨g1,g2,g3⟩:=r.2.1 p (y0g _ hp);exact⟨by rw[z0c (hn p hp)];exact g1,by rw[z0f (hn p hp)];exact g2,g3⟩
 .rw[z0f (λz=>by rw[z,h2]at e;cases e;cases h3)];exact e
 .rw[z0f (λz=>by rw[z,h2]at e;cases e;cases h3)];exact e
def zdI{X:Cx}{pins:yyP}{σ:St}{H:Hp}{s:Shared}{a:Addr}{kvs:List (U × U)}{A:Around}{E:yyE}{t:Bool}{k v:U}{y z:V}{u r:Value}{Q:Unit->Shared->Prop}(hu:A.units+9<cLine)(hw:X.w=WW.w)(I:Inv X pins σ H s)(d:z8u H a kvs t)(hk:kok t k=true)(uk:Ur H k y)(ry:z0A y u)(uv:Ur H v z)(rz:z0A z r)(hl:kvs.length<sizeLine)(h:∀o s',Inv X pins σ (upd H a o) s'->Kp H (upd H a o)->z8u (upd H a o) a (z1T kvs k v) t->Q () s'):wpAny (model X.prog X.w) A (dictSet a u r) Q E s:=by
 cases t
 .obtain⟨vs,e,rr⟩:=d;obtain⟨q,rfl,rfl⟩:=z1G hk uk;have kp:Kp H (upd H a (.dK (z46 vs q z))):=.put e (λ_ z=>by cases z) λ_ _ z=>by cases z
  obtain⟨hz,hd,ws,rel,dd⟩:=zak I.hok e;have hl2:(z46 vs q z).length<=sizeLine:=by have:=z1O vs q z;have:=rr.len;lia
  refine wpAny_dictSet_pairs (hsz:=by rw[<-rel.length];exact hz) (z4D ry) dd λh' dd' hs=>?_;have he:∃q,h'.get? a=some q:=let⟨q,_,_,hq,_⟩:=dd';⟨q,hq⟩;exact h _ _ (z1d I (by rw[e];exact y0Y) hs he (z7H hl2 hd (rel.put q rz) dd')) kp ⟨_,z0e,Paired.mapP (rr.put q uv) λ_ _ z=>⟨z.1,z.2.mono kp⟩⟩
 .obtain⟨xs,e,rr,hz⟩:=d;obtain⟨b,rfl⟩:=z4j hk uk;cases(show u=Value.ref b from ry);obtain⟨hs,dd⟩:=z5C I e rr;have kp:∀o,Kp H (upd H a o):=λo=>.put e (λ_ z=>by cases z) λ_ _ z=>by cases z
  have hlen:xs.length<=sizeLine:=by rw[<-y1j rr];exact hz
  rw[hw];refine wpAny_dictSet_heap (hsz:=hlen) (show A.units+8<cLine by lia) (z3m I hk uk) dd λh' dd' hsb=>?_;have he:∃q,h'.get? a=some q:=let⟨q,_,_,hq,_⟩:=dd';⟨q,hq⟩;refine h _ _ (z1d I (by rw[e];exact y0Y) hsb he (z3D hs dd')) (kp _) ⟨_,z0e,Paired.mapP (rr.put ⟨hk,uk⟩ uv rz) λ_ _ ⟨z1,z2,v,z3,z4⟩=>⟨z1,⟨z2.1,z2.2.mono (kp _)⟩,v,z3.mono (kp _),z4⟩,?_⟩;have:=z5g kvs k v;lia
def zfA(tk tv:WE):WE:=λρ S Q E=>tk ρ S (λk S1=>tv ρ S1 (λv S2=>kok (isT k) k=true/\nw (.dic (isT k) [(k,v)]) S2 Q) E) E
section
variable{xa:Nat->Addr}{X:Cx}{xk:St->XK}{k v e:Expr}{tk tv te:WE}{pos:Pos}
def ziF{pins:yyP}{σ:St}{H:Hp}{s:Shared}{a:Addr}(I:Inv X pins σ H s)(e:H a=some (.dK []))(t:Bool):∃o s',s'=s/\Inv X pins σ (upd H a o) s'/\Kp H (upd H a o)/\z8u (upd H a o) a [] t:=by
 have kp:∀o,Kp H (upd H a o):=λo=>.put e (λ_ z=>by cases z) λ_ _ z=>by cases z
 obtain⟨z,hs,vs,rel,o,es,ep,h1,h2,h3,h4,h5,h6⟩:=zak I.hok e;cases rel;cases t
 .exact⟨.dK [],s,rfl,by have:=z1d (t':=s.toks) (h':=s.heap) (ob:=.dK []) I (by rw[e];exact y0Y) ⟨rfl,λ_ _=>rfl⟩ ⟨o,h1⟩ ⟨y1M _,hs,[],.nil,o,es,ep,h1,h2,h3,h4,h5,h6⟩;exact this,kp _,[],z0e,.nil⟩
 .refine⟨zbx a [],s,rfl,?_,kp _,[],z0e,.nil,y1M _⟩;have he:es.toList=[]:=by
   have:=h5.length;simpa using this
  have:=z1d (t':=s.toks) (h':=s.heap) (ob:=zbx a []) I (by rw[e];exact y0Y) ⟨rfl,λ_ _=>rfl⟩ ⟨o,h1⟩ (z3D hs ⟨o,es,ep,h1,h2,h3,he,(by intro x hx;simp at hx),y2b⟩);exact this
def zbh(hu:X.A.units+9<cLine)(hw:X.w=WW.w)(hk:SE xa X xk k tk)(hv:SE xa X xk v tv):SE xa X xk (.Dict [some k] [v] pos) (zfA tk tv):=by
 intro pins s σ H Q' I ⟨hd,ρ,S,Q,E,en,r,h,c⟩;have hf:=I.fresh;have I1:=I.laid (a:=s.heap.objs.size) (o:=.dK []) (t':=s.toks) (λ_ _ q=>y02 _ q) (y0a _) (z5j s.heap I.big);obtain⟨r1,hn⟩:=r.hide (x:=.dK []) hf rfl;have k1:Kp H (upd H s.heap.objs.size (.dK [])):=.new hf;generalize hs1:({ s with heap:=s.heap.push { cls:=.type "dict",data:=.dict #[] } }:Shared)=s1 at I1;generalize ha:s.heap.objs.size=a at *;refine wpAny_Dict_any rfl rfl (by simp) (by simp) ?_;rw[ha,hs1];refine pairTrees_cons_walk (thn (hk.run I1 (en.mono k1) r1 h (λea cx S' H' k' r' q=>c.ex ea cx S' H' (k1.trans k') ⟨r'.1,λp hp=>r'.2.1 p (y0g _ hp),r'.2.2⟩ q)) λkv s2 hz8=>?_);obtain⟨x,y,H2,S2,I2,ry,k2,r2,u2,q2⟩:=hz8;refine thn (hv.run I2 ((en.mono k1).mono k2) r2 q2 (λea cx S' H' k' r' q=>c.ex ea cx S' H' (k1.trans (k2.trans k')) ⟨r'.1,λp hp=>r'.2.1 p (y0g _ hp),r'.2.2⟩ q)) λvv s3 ⟨z,w,H3,S3,I3,rw3,k3,r3,u3,hok,q3⟩=>pairTrees_nil_walk ?_;obtain⟨o4,s4,e4,I4,k4,d4⟩:=ziF I3 (r3.2.1 _ y0t).2.1 (isT x);subst e4;unfold storeAll;rw[y27];refine y01 (y01 (zdI hu hw I4 d4 hok ((u2.mono k3).mono k4) ry (u3.mono k4) rw3 (show 0<sizeLine by decide) λo s5 I5 k5 d5=>y03 ?_));show wpAny _ _ (forIn ([]:List (Value × Value)) PUnit.unit _) _ _ _;rw[List.forIn_nil];refine y03 ?_;have eo:upd (upd H3 a o4) a o=upd H3 a o:=by funext b;unfold upd;by_cases z:b=a<;>simp[z]
 rw[eo]at I5 d5 k5;obtain⟨n5,r5⟩:=r3.bare hn (k4.trans k5) (o:=.dic (isT x) (z1T [] x z)) d5;exact⟨.ref a,_,I5,rfl,c.ok _ _ _ _ (k1.trans (k2.trans (k3.trans (k4.trans k5)))) r5 (by simp only[Ur]) (q3 a n5)⟩
end
open PySem L2 PySem.SeqAt PySem.Spec
variable[WW]
def tyN:U->Option String
 |.non=>some "NoneType"
 |.bl _=>some "bool"
 |.int _=>some "int"
 |.str _=>some "str"
 |.tup _=>some "tuple"
 |.ref _=>none
def under(t c:String):Bool:=t==c||(t == "bool"&&c == "int")
def zhm(c:String)(u:U)(S:Sto)(k:Bool->Prop):Prop:=match u with
 |.ref a=>∃us,isL S a us/\k (under "list" c)
 |u=>opt (tyN u) λt=>k (under t c)
def zjZ(c:String)(t:WE):WE:=λρ S Q E=>t ρ S (λu S1=>zhm c u S1 λb=>Q (.bl b) S1) E
def zgX(K:yyF){c:String}(hc:c="int"\/c="str"\/c="tuple"\/c="list"\/c="bool"):∀t∈(["NoneType","bool","int","str","tuple","list"]:List String),PySem.W.kitOne K (.type t) (.type c)=some (under t c):=by intro t ht;simp only[y0l,y2Y,or_false]at ht;rcases ht with rfl|rfl|rfl|rfl|rfl|rfl<;>rcases hc with rfl|rfl|rfl|rfl|rfl<;>rfl
section
variable{xa:Nat->Addr}{X:Cx}{xk:St->XK}{e:Expr}{t:WE}{p q cpos:Pos}{x:Str}{c:String}
def z1x(hc:c="int"\/c="str"\/c="tuple"\/c="list"\/c="bool")(he:SE xa X xk e t)(mi:X.mg "isinstance"=none)(mc:X.mg x=none)(hb:bootBuiltins x=some (.type c))(hg:Gl X "isinstance":=by rfl)(hgc:Gl X x:=by rfl)(hn:x≠"__name__":=by decide)(hd:(x==("__debug__":Str))=false:=by decide)(hs:starEach [e,.Name x q] X.env=(false,eval e X.env)::starEach [.Name x q] X.env:=by rfl)(hpl:(backTo cpos (starEach [.Name x q] X.env)).any (·.1)=false:=by rfl):SE xa X xk (.Call (.Name "isinstance" p) [e,.Name x q] [] cpos) (zjZ c t) :=
 PE.weak (zjS X.K rfl he mi mc hb hg hgc hn hd hs hpl) λσ H Q' h=>Lt.bind (f:=λu ρ S1 Q E=>zhm c u S1 λb=>Q (U.bl b) S1) h λhd ρ S Q E u v H1 e1 r1 u1 q1 c1=>by
  have kit:=zgX X.K hc;cases u<;>simp only[zhm]at q1
  .simp only[Ur]at u1;subst u1;exact⟨_,_,_,rfl,.of .non,kit _ (by simp),c1.ok.put r1 uB q1⟩
  .obtain rfl:=urB u1;exact⟨_,_,_,rfl,.of (.bl _),kit _ (by simp),c1.ok.put r1 uB q1⟩
  .obtain rfl:=urI u1;exact⟨_,_,_,rfl,.of (.int _),kit _ (by simp),c1.ok.put r1 uB q1⟩
  .obtain rfl:=urS u1;exact⟨_,_,_,rfl,.of (.str _),kit _ (by simp),c1.ok.put r1 uB q1⟩
  .obtain⟨a,vs,rfl,e,l⟩:=urT u1;exact⟨_,_,_,rfl,.tup (.of e),kit _ (by simp),c1.ok.put r1 uB q1⟩
  .obtain rfl:=urR u1;obtain⟨us,hl,q⟩:=q1;obtain⟨vs,e,_⟩:=hl.of (K:=X.K) r1;exact⟨_,_,_,rfl,.lst e,kit _ (by simp),c1.ok.put r1 uB q⟩
end
def z9y(x:U)(us:List U)(S:Sto)(Q:Kq U):Prop:=match x,us with
 |.str y,[.ref a]=>∃xs:List Str,isL S a (xs.map U.str)/\(xs.map (·.length)).sum+xs.length*y.length<=16777216/\Q (.str (Str.join y xs)) S
 |_,_=>False
def tyT(u:U)(_:Sto):Prop:=match u with
 |.str _=>True
 |_=>False
def zjn:WF
 |.str i,.str j,S,Q=>Q (.bl (!(Builtin.Str.occurrences j i 0 j.length 1).isEmpty)) S
 |_,_,_,_=>False
def zih(x:U)(us:List U)(S:Sto)(Q:Kq U):Prop:=match x,us with
 |.ref a,[.tup ys]=>∃xs,S a=some (.lst xs)/\xs.length+ys.length<=sizeLine/\Q .non (up S a (.lst (xs++ys)))
 |.ref a,[.ref b]=>∃xs ys,S a=some (.lst xs)/\S b=some (.lst ys)/\xs.length+ys.length<=sizeLine/\Q .non (up S a (.lst (xs++ys)))
 |_,_=>False
section
variable{X:Cx}
def zhw{hd:Hd}{u:U}{S:Sto}{H:Hp}{v:V}(h:tyT u S)(r:Rep hd S H)(k:Ur H u v):tyV X.K "str" v H:=by cases u<;>simp only[tyT]at h;obtain rfl:=urS k;exact rfl
def zeL:MtR X "str.join" (rM z9y):=by
 rintro pins s σ H v vs x xs Q' I r1 r2 ⟨hd,y,us,S,Q,r,u1,u2,c,h⟩;unfold z9y at h;split at h
 .obtain rfl:=urS u1;obtain⟨z,rfl,g⟩:=z4e u2;obtain rfl:=urR g;obtain⟨ys,hl,hz,q⟩:=h;obtain⟨ws,e,l⟩:=hl.of (K:=X.K) r;exact zdR X.K rfl pins s σ H _ _ _ _ _ I r1 r2 ⟨_,_,ys,rfl,rfl,by rw[<-z3F l];exact e,hz,c.put r uS q⟩
 .exact h.elim
def zhj:OpR X (compareOp .In) (rW zjn):=by rintro pins s σ H v1 v2 x1 x2 Q' I r1 r2 ⟨hd,x,y,S,Q,r,u1,u2,c,h⟩;cases x<;>cases y<;>simp only[zjn]at h;obtain rfl:=urS u1;obtain rfl:=urS u2;exact z95 pins s σ H _ _ _ _ _ I r1 r2 ⟨_,_,rfl,rfl,c.put r uB h⟩
def zbQ:MtR X "list.extend" (rM zih):=by
 rintro pins s σ H v vs x xs Q' I r1 r2 ⟨hd,y,us,S,Q,r,u1,u2,c,h⟩;unfold zih at h;split at h
 .obtain rfl:=urR u1;obtain⟨z,rfl,g⟩:=z4e u2;obtain⟨b,ws,rfl,e,l⟩:=urT g;obtain⟨ys,hS,hz,q⟩:=h;obtain⟨zs,e2,l2⟩:=r.1 _ _ hS;exact z8y pins s σ H _ _ _ _ _ I r1 r2 ⟨_,_,zs,ws,rfl,rfl,e2,e,by rw[<-l.len,<-l2.len];exact hz,c.wr r (by rw[hS];exact λz=>nomatch z) e2 (l2.app l) (by simp only[Ur]) q⟩
 .obtain rfl:=urR u1;obtain⟨z,rfl,g⟩:=z4e u2;obtain rfl:=urR g;obtain⟨ys,zs,hS,hS2,hz,q⟩:=h;obtain⟨ws,e2,l2⟩:=r.1 _ _ hS;obtain⟨ws2,e3,l3⟩:=r.1 _ _ hS2;exact z9f pins s σ H _ _ _ _ _ I r1 r2 ⟨_,_,ws,ws2,rfl,rfl,e2,e3,by rw[<-l3.len,<-l2.len];exact hz,c.wr r (by rw[hS];exact λz=>nomatch z) e2 (l2.app l3) (by simp only[Ur]) q⟩
 .exact h.elim
end
open PySem L2 PySem.SeqAt PySem.Spec
variable[WW]
structure Fk(P:Program)(w:World)(K:yyF)(mg:yyS)(base:Heap)(xa:Nat->Addr)(x:Str)(C:Addr)(k:Nat)(sp:Wsp):Prop where
 ok:∃f fd ps,z2h P w K mg base (CXx P w) k f fd ps (lsp xa sp)/\z1q K fd ps []/\Mk K C f/\mg x=some (.ref C)
def zi5(C:Addr)(sp:Wsp)(ts:WA):WE:=λρ S Q E=>ts ρ S (λus S1=>∀x,S1 x=none->sp (.ref x::us) (up S1 x (.ins C [])) (λu S2=>u=.non/\Q (.ref x) S2) E) E
section
variable{xa:Nat->Addr}{X:Cx}{E0:XK}{e:Expr}{es:List Expr}{ts:WA}{x:Str}{C:Addr}{k:Nat}{sp:Wsp}{p pos:Pos}
def zdt(F:Fk X.prog X.w X.K X.mg X.base xa x C k sp)(hr:z1C (k+1) X.A)(hx:z2r (CXx X.prog X.w) X E0)(ha:SA xa X (λ_=>E0) (e::es) ts)(hg:Gl X x:=by rfl)(hdb:(x==("__debug__":Str))=false:=by decide)(he:starEach (e::es) X.env=(false,eval e X.env)::starEach es X.env:=by rfl)(hpl:(backTo pos (starEach es X.env)).any (·.1)=false:=by rfl):SE xa X (λ_=>E0) (.Call (.Name x p) (e::es) [] pos) (zi5 C sp ts):=by
 obtain⟨f,fd,ps,F,hb,M,hm⟩:=F.ok;refine PE.weak (zdv (dvs:=[]) M F hr hg hm hb .nil hx ha hdb he hpl) λσ H Q' h=>Lt.bind (R:=Ur) (f:=λus ρ S1 Q E=>∀x,S1 x=none->sp (.ref x::us) (up S1 x (.ins C [])) (λu S2=>u=.non/\Q (U.ref x) S2) E) h λhd ρ S Q E us vs H1 e1 r1 u1 q1 c1 y dx hy hdx hne=>?_;have s1:Same H1 (upd H1 dx (.own y)):=Gu.same_up (Same.refl H1) hdx;have hy1:upd H1 dx (.own y) y=none:=by rw[z0f (y10 hne)];exact hy
 have k2:Kp H1 (upd (upd H1 dx (.own y)) y (.ins C dx [])):=(Kp.same s1).trans (.new hy1);refine⟨hd,.ref y::us,_,_,E,(r1.same s1).up (o:=.ins C []) (.new hy1) (.inl hy1) ⟨dx,[],z0e,.nil⟩,?_,q1 y (r1.none hy),?_⟩
 .rw[y0j];exact .cons (by simp only[Ur]) (u1.mono k2)
 .refine⟨λu S3 v H3 k3 r3 u3 hz8=>?_,λea c S3 H3 k3 r3 q=>c1.ex ea c S3 H3 (k2.trans k3) r3 q⟩;obtain⟨hu,q⟩:=hz8;subst hu;simp only[Ur]at u3;exact⟨u3,c1.ok _ S3 _ H3 (k2.trans k3) r3 (by simp only[Ur]) q⟩
end
open PySem L2 PySem.SeqAt PySem.Spec
variable[WW]
def zjd(d:Addr)(od:Obj)(xs:List (U × Addr × Value)):It :=
 ⟨λi H=>H d=some (zfT od d xs)/\i<xs.length,λi H x H'=>H'=H/\∃y,xs[i]?=some y/\x=.ref y.2.1,λi H=>H d=some (zfT od d xs)/\xs.length<=i⟩
def z8H{P:Program}{w:World}{K:yyF}{tg:Expr}(d it:Addr)(od:Obj)(xs:List (U × Addr × Value))(es:Array DictEntry)(ep:Nat)(hdd:od.data=.dict es ep)(hne:d≠it):z8M P w K tg (zjd d od xs) [it] it (λi h=>h.IsKeyIter it d i es.size ep) where
 mem:=by simp
 obj:=λi h st b hb=>by
  have e:b=it:=by simpa using hb
  subst e;obtain⟨o,e,c,d⟩:=st;exact⟨o,e,λv z=>by rw[d]at z;cases z⟩
 keep:=λi h h' st k=>st.at λo e=>k it (by simp) o e
 item:=by
  intro X hP hw hK hc i pins s σ H E I hf st hg;subst hP hw hK;obtain⟨hd,hi⟩:=hg;obtain⟨⟨ho,y,es',ep',h2,h3,h4,h5⟩,_,_⟩:=I.hok d _ hd;rw[hdd]at h3;cases h3;obtain⟨f0,f1,f2,f3,f4,f5⟩:=hf it (by simp);have hxi:xs[i]?=some xs[i]:=y0e hi;have he:es[i]?=some (⟨uh xs[i].1,.ref xs[i].2.1,xs[i].2.2⟩:DictEntry):=by rw[<-y2M,h4,y0x,hxi];rfl
  refine zc4 st ho hdd he λh' st' sb=>?_;have I1:Inv X pins σ H { s with heap:=h' }:=I.turned (t':=s.toks) (λb o hb e=>(sb.2 b hb).trans e) f0 f1 f3 f4 f5;obtain⟨o,e,c,dt⟩:=id st';exact⟨_,rfl,z8t (s:={ s with heap:=h' }) e c dt (by decide) ⟨.ref xs[i].2.1,H,I1,rfl,⟨rfl,xs[i],hxi,rfl⟩,st',λb hb=>(hf b hb).1⟩⟩
 done:=by
  intro X hP hw hK hc i pins s σ H E I hf st hg;subst hP hw hK;obtain⟨hd,hi⟩:=hg;obtain⟨⟨ho,y,es',ep',h2,h3,h4,h5⟩,_,_⟩:=I.hok d _ hd;rw[hdd]at h3;cases h3;obtain⟨f0,f1,f2,f3,f4,f5⟩:=hf it (by simp);have hl:es.size=xs.length:=by
   have:es.toList.length=xs.length:=by rw[h4,y00]
   rw[<-this];simp
  exact zdx (I.ok.hd hc) st ho hdd (by lia) λh' eb=>⟨rfl,I.turned (t':=s.toks) (λb o hb e=>eb b o hb e) f0 f1 f3 f4 f5⟩
 self:=λ_ _ _ _ _ st h=>wpAny_pyIter_keyiter st h
def ze2{d:Addr}{od:Obj}{xs:List (U × Addr × Value)}{kvs:List (U × U)}{H0:Hp}:ItR H0 (zjd d od xs) (kvs.map (·.1)) (λS=>S d=some (.pin od xs kvs)):=by
 have get:∀{H:Hp}{kvs:List (U × U)}{xs:List (U × Addr × Value)}{i:Nat}{x:U},UK H kvs xs->(kvs.map (·.1))[i]?=some x->∃y,xs[i]?=some y/\Ur H x (.ref y.2.1):=by
  intro H kvs xs i x r;unfold UK at r;induction r generalizing i with
  |nil=>intro h;simp at h
  |@cons p q ps qs z t ih =>
   intro h;cases i with
   |zero=>simp at h;subst h;exact⟨q,rfl,z.2.1.2⟩
   |succ i=>obtain⟨y,h1,h2⟩:=ih (i:=i) (by simpa using h);exact⟨y,by simpa using h1,h2⟩
 constructor
 .intro hd i H S x k r ck hx;obtain⟨h1,h2,h3⟩:=r.1 _ _ ck;obtain⟨y,hy,uy⟩:=get h2 hx;refine⟨⟨h1,(y0G.mp hy).1⟩,λv H' ⟨e1,z,hz,e2⟩=>?_⟩;subst e1 e2;rw[hy]at hz;cases hz;exact⟨.refl _,r,uy⟩
 .intro hd i H S k r ck hl;obtain⟨h1,h2,h3⟩:=r.1 _ _ ck;rw[y00]at hl;exact⟨h1,by rw[<-y1j h2];exact y2l hl⟩
def zkq(t:WE):WI:=λρ S R E=>t ρ S (λu S1=>z4h S1 u λd t kvs=>t=true/\∀od xs,R (kvs.map (·.1)) (λS=>S d=some (.pin od xs kvs)) (up S1 d (.pin od xs kvs))) E
def zhB(t:WE):WE:=λρ S Q E=>∃d,t ρ S (λu S1=>∃od xs kvs,S1 d=some (.pin od xs kvs)/\Q u (up S1 d (.dic true kvs))) E
section
variable{xa:Nat->Addr}{X:Cx}{xk:St->XK}{tg l e:Expr}{tl t:WE}
def zgI(hl:SE xa X xk l tl):SI xa xk X tg l (zkq tl):=by
 intro pins s σ H R' I ⟨hd,ρ,S,R,E,en,r,h,c,ex⟩;refine thn (hl.run I en r h ex) λv s1 hz8=>?_;obtain⟨x,y,H1,S1,I1,ry,k1,r1,u1,q1⟩:=hz8;obtain⟨d,t,kvs,rfl,hS,rfl,q⟩:=q1.ex;obtain rfl:=urR u1;cases(show v=Value.ref d from ry);obtain⟨xs,hd1,rr,hz⟩:=r1.1 _ _ hS;obtain⟨⟨y,od,es,ep,h1,h2,h3,h4,h5⟩,_,_⟩:=I1.hok d _ hd1;have hT:s1.TypeIs (.ref d) "dict":=⟨od,h1,h2.1⟩;refine wpAny_pyIter_slot hT F.slot_dict_iter (y0K F.slot_dict_iter hT F.entry_dict_iter ?_ (F.args_dict_iter_1 _));unfold Builtin.«dict.__iter__»;refine y01 ?_;unfold Builtin.Dict.dictSlotNone;refine y01 (wpAny_notOrdered_dict hT (y03 ?_));show wpAny _ _ (Builtin.Dict.showsAll d>>=λ_=>_) _ _ s1;unfold Builtin.Dict.showsAll;rw[if_neg (by rw[y];exact y0c)];refine y01 (y03 (y01 (y1S h1 h3 (y01 (wpAny_dictEpoch h1 h3 ?_)))));refine y01 (y0A (y03 ⟨_,rfl,"dict_keyiterator",_,⟨_,y05 _ rfl,rfl⟩,y1b.lookup,?_⟩));have hlt:d<s1.heap.objs.size:=y07 h1;have kp:Kp H1 (upd H1 d (zfT od d xs)):=.put hd1 (λ_ z=>by cases z) λ_ _ z=>by cases z
 have I2:Inv X pins σ (upd H1 d (zfT od d xs)) { s1 with heap:=s1.heap,toks:=s1.toks }:=z1d I1 (by rw[hd1];exact y0Y) ⟨rfl,λ_ _=>rfl⟩ ⟨od,h1⟩ ⟨⟨h1,y,es,ep,h2,h3,h4,h5⟩,⟨od,h1⟩,λg1 g2 p k=>⟨k _ p.1,p.2⟩⟩;have I3:=I2.kept (t':=s1.toks) (h':=s1.heap.push { cls:=.type "dict_keyiterator",data:=.fields #[.ref d,rawInt 0,rawInt (es.size:Int),rawInt (ep:Int)] }) λb o e=>y02 _ e;refine⟨s1.heap.objs.size,[s1.heap.objs.size],_,_,_,rfl,I3,z8H d _ od xs es ep h3 (y0p hlt),⟨_,y05 _ rfl,rfl,rfl⟩,λb hb=>?_,?_⟩
 .have e:b=s1.heap.objs.size:=by simpa using hb
  subst e;exact I1.fpOk (y0a _) (by rw[z0f (y10 (y0p hlt))];exact I1.hok.fresh (y0a _))
 .exact c _ _ _ _ _ (k1.trans kp) (r1.up (o:=.pin od xs kvs) kp (.inr (by rw[hS];exact λz=>by cases z)) ⟨z0e,Paired.mapP rr λ_ _ ⟨z1,z2,v,z3,z4⟩=>⟨z1,⟨z2.1,z2.2.mono kp⟩,v,z3.mono kp,z4⟩,hz⟩) ze2 (q od xs)
def zea(h:SE xa X xk e t):SE xa X xk e (zhB t):=by
 intro pins s σ H Q' I ⟨hd,ρ,S,Q,E,en,r,⟨d,q⟩,c⟩;refine thn (h.run I en r q c.ex) λv s1 hz8=>?_;obtain⟨x,y,H1,S1,I1,ry,k1,r1,u1,od,xs,kvs,hS,q1⟩:=hz8;obtain⟨hd1,rr,hz⟩:=r1.1 _ _ hS;obtain⟨⟨ho,hs,es,ep,h2,h3,h4,h5⟩,_,_⟩:=I1.hok d _ hd1;have kp:Kp H1 (upd H1 d (zbx d xs)):=.put hd1 (λ_ z=>by cases z) λ_ _ z=>by cases z
 have I2:Inv X pins σ (upd H1 d (zbx d xs)) { s1 with heap:=s1.heap,toks:=s1.toks }:=z1d I1 (by rw[hd1];exact y0Y) ⟨rfl,λ_ _=>rfl⟩ ⟨od,ho⟩ ⟨⟨hs,od,es,ep,ho,h2,h3,h4,h5⟩,⟨od,ho⟩,λg1 g2 p k=>by obtain⟨p0,o1,es1,ep1,p1,p2⟩:=p;exact⟨p0,o1,es1,ep1,k _ p1,p2⟩⟩
 exact⟨y,_,I2,ry,c.ok _ _ _ _ (k1.trans kp) (r1.up (o:=.dic true kvs) kp (.inr (by rw[hS];exact λz=>by cases z)) ⟨xs,z0e,Paired.mapP rr λ_ _ ⟨z1,z2,v,z3,z4⟩=>⟨z1,⟨z2.1,z2.2.mono kp⟩,v,z3.mono kp,z4⟩,hz⟩) (u1.mono kp) q1⟩
end
open PySem L2 PySem.SeqAt PySem.Spec
open PyProof.Rows (envOfC)
variable[WW]
structure Zx where
 P:Program
 K:yyF
 mg:yyS
 base:Heap
 xa:Nat->Addr
 C:Addr
 da:Str->Addr
def xL:List (Str × Nat):=[("GuiseError",0),("BadBreadth",1),("BadMachine",2),("BadWord",3),("BadCount",4),("BadName",5),("Taken",8),("NoGuise",9),("NoPeg",10),("TooMany",11),("TooLong",12),("NothingWorn",13)]
def bL:List Str:=["bool","len","tuple","list","range","max","min","sorted","any","all","zip","enumerate","str","int","abs","isinstance","divmod","sum","set","dict"]
def sL:List (Str × Str):=[("SMALL_LETTERS","abcdefghijklmnopqrstuvwxyz"),("EMPTY","-"),("GUISE","guise"),("PEG","peg")]
def iL:List (Str × Int):=[("MOST_FORM_ROWS",60),("MOST_TIMES",64),("MOST_WORDS",1024),("MOST_LETTERS_TOLD",1000),("MOST_LETTERS_OF_NAME",12),("MOST_SEWN_ROWS",60),("LEAST_BREADTH",2),("MOST_BREADTH",5),("MOST_WORN",1000)]
def dL:List Str:=["DEEDS","WRITERS"]
def fL:List Str:=["many_letters","things","done","taken_back"]
namespace Zx
variable(Z:Zx)
structure Tx:Prop where
 b:∀x∈bL,Z.mg x=none
 x:Xt Z.K Z.mg Z.xa xL
 s:∀x c,sL.lookup x=some c->∃t,Z.mg x=some (.str c t)
 i:∀x c,iL.lookup x=some c->∃t,Z.mg x=some (.int c t)
 d:∀x∈dL,Z.mg x=some (.ref (Z.da x))
 cl:Cls Z.K Z.C
 n:∀f∈fL,z2X Z.K Z.C f
def f(x:Str)(k:Nat)(sp:Wsp):Prop:=Fc Z.P WW.w Z.K Z.mg Z.base Z.xa x k sp
def m(x:Str)(k:Nat)(sp:Wsp):Prop:=Fm Z.P WW.w Z.K Z.mg Z.base Z.xa Z.C x k sp
structure fd(x:Str)(st:Stmt)(ps:List Str):Prop where
 ex:∃f fd,Fun Z.K x x st f fd/\z1q Z.K fd ps []/\Z.mg x=some (.ref f)
structure md(x qual:Str)(st:Stmt)(ps:List Str):Prop where
 ex:∃f fd,Fun Z.K x qual st f fd/\z1q Z.K fd ps []/\zhg Z.K Z.C x f/\Cls Z.K Z.C
def body(N:List Str)(qual:Str)(st:Stmt)(k:Nat)(t:WS):Prop:=∀(f:Addr)(cdv:Value)(A:Around)(outer:List Env)(s:Shared)(H:Hp)(E:XK),z1C k (A.deeper (envOfC qual (z0a st) s.heap.objs.size f cdv))->N.Nodup ->
 SSs Z.xa (λ_=>E) (z2V (CXx Z.P WW.w) Z.P WW.w Z.K Z.mg Z.base N qual (z0a st) f cdv A outer s H E) (z0v st) t
end Zx
variable{Z:Zx}
def wF{x:Str}{st:Stmt}{ps:List Str}(N:List Str){k:Nat}{sp:Wsp}{t:WS}(D:Z.fd x st ps)(hb:Z.body N x st k t)(len:∀us S Q E,sp us S Q E->us.length=ps.length)(hp:∀us S Q E,sp us S Q E->t (stt N.length us) S { nx:=λ_ S'=>Q .non S',rt:=Q } λ_=>E)(Sc:z1M N ps (z0a st):=by exact⟨rfl,rfl,rfl,by decide +kernel,rfl,by decide +kernel,by decide +kernel⟩):Z.f x (k+1) sp:=by obtain⟨f,fd,F,B,M⟩:=D.ex;exact⟨f,fd,ps,wfn F Sc len ⟨t,λcdv A outer s H E hr=>hb f cdv A outer s H E hr Sc.nd,hp⟩,B,F.kp,M⟩
def wM{x qual:Str}{st:Stmt}{ps:List Str}(N:List Str){k:Nat}{sp:Wsp}{t:WS}(D:Z.md x qual st ps)(hb:Z.body N qual st k t)(len:∀us S Q E,sp us S Q E->us.length=ps.length)(hp:∀us S Q E,sp us S Q E->t (stt N.length us) S { nx:=λ_ S'=>Q .non S',rt:=Q } λ_=>E)(Sc:z1M N ps (z0a st):=by exact⟨rfl,rfl,rfl,by decide +kernel,rfl,by decide +kernel,by decide +kernel⟩):Z.m x (k+1) sp:=by obtain⟨f,fd,F,B,M,c⟩:=D.ex;exact⟨f,fd,ps,wfn F Sc len ⟨t,λcdv A outer s H E hr=>hb f cdv A outer s H E hr Sc.nd,hp⟩,B,M,c⟩
section
variable{P:Program}{w:World}{K:yyF}{mg:yyS}{base:Heap}{N:List Str}{qual:Str}{scope:Scope}{f:Addr}{cd:Value}{A:Around}{outer:List Env}{s:Shared}{H:Hp}{E:XK}
def z0h:z5U (z2V (CXx P w) P w K mg base N qual scope f cd A outer s H E) λ_=>E:=λσ pins H1 s1 e s' I h=>zc2 (E':=E) (λ_ _ _ z=>z) pins σ H1 s1 e s' I h
end
def hu9{k:Nat}{A:Around}(h:z1C k A):A.units+9<cLine:=by have:=h.un;lia
def z2p{k:Nat}{A:Around}(h:z1C k A):A.units+64<cLine:=by have:=h.un;lia
section
variable{xa:Nat->Addr}{X:Cx}{xk:St->XK}{pos:Pos}
def z7X{x c:Str}(T:Z.Tx)(hs:sL.lookup x=some c)(hm:X.mg=Z.mg)(hg:Gl X x:=by rfl)(hd:(x==("__debug__":Str))=false:=by decide):SE xa X xk (.Name x pos) (wC (.str c)):=by obtain⟨t,h⟩:=T.s x c hs;exact z6S (by rw[hm];exact h) (λH=>⟨.str c,by simp only[Ur],t,rfl⟩) hg hd
end
section
variable{xa:Nat->Addr}{X:Cx}{xk:St->XK}{pos apos cpos p:Pos}{o e:Expr}{es:List Expr}{t:WE}{ts:WA}
def zeF{x:Str}{c:Int}(T:Z.Tx)(hs:iL.lookup x=some c)(hm:X.mg=Z.mg)(hg:Gl X x:=by rfl)(hd:(x==("__debug__":Str))=false:=by decide):SE xa X xk (.Name x pos) (wC (.int c)):=by obtain⟨t,h⟩:=T.i x c hs;exact z6S (by rw[hm];exact h) (λH=>⟨.int c,by simp only[Ur],t,rfl⟩) hg hd
def sFl{f:Str}(T:Z.Tx)(ho:SE xa X xk o t)(hK:X.K=Z.K:=by rfl)(hf:f∈fL:=by decide)(hb:attributeBase o f X.env (eval o X.env)=eval o X.env:=by rfl):SE xa X xk (.Attribute o f pos) (zjw f Z.C t):=zfw (hK▸T.cl) (hK▸T.n f hf) ho hb
def sBu{x:Str}{id:String}{f:List U->Sto->Kq U->Prop}(T:Z.Tx)(hc:z0Q X (.builtin id) (rC f))(hv:bootBuiltins x=some (.builtin id))(ha:SA xa X xk (e::es) ts)(hm:X.mg=Z.mg:=by rfl)(hx:x∈bL:=by decide)(hg:Gl X x:=by rfl)(hn:x≠"__name__":=by decide)(hdb:(x==("__debug__":Str))=false:=by decide)(he:starEach (e::es) X.env=(false,eval e X.env)::starEach es X.env:=by rfl)(hpl:(backTo pos (starEach es X.env)).any (·.1)=false:=by rfl):SE xa X xk (.Call (.Name x p) (e::es) [] pos) (wB f ts):=zj0 hc (by rw[hm];exact T.b x hx) hv ha hg hn hdb he hpl
def sTy{x:Str}{id:String}{f:List U->Sto->Kq U->Prop}(T:Z.Tx)(hc:z0Q X (.type id) (rC f))(hv:bootBuiltins x=some (.type id))(ha:SA xa X xk (e::es) ts)(hm:X.mg=Z.mg:=by rfl)(hx:x∈bL:=by decide)(hg:Gl X x:=by rfl)(hn:x≠"__name__":=by decide)(hdb:(x==("__debug__":Str))=false:=by decide)(he:starEach (e::es) X.env=(false,eval e X.env)::starEach es X.env:=by rfl)(hpl:(backTo pos (starEach es X.env)).any (·.1)=false:=by rfl):SE xa X xk (.Call (.Name x p) (e::es) [] pos) (wB f ts):=ziM hc (by rw[hm];exact T.b x hx) hv ha hg hn hdb he hpl
end
def zj4{xa:Nat->Addr}{X:Cx}{xk:St->XK}{pos:Pos}{x:Str}(T:Z.Tx)(hm:X.mg=Z.mg:=by rfl)(hx:x∈dL:=by decide)(hg:Gl X x:=by rfl)(hd:(x==("__debug__":Str))=false:=by decide):SE xa X xk (.Name x pos) (wC (.ref (Z.da x))) :=
 z6S (by rw[hm];exact T.d x hx) (λH=>⟨.ref _,by simp only[Ur],rfl⟩) hg hd
end W
namespace W
open PySem L2 PySem.SeqAt PySem.Spec
variable[WW]{Z:Zx}
def zeT(i:Nat)(tab:Addr->Wsp->Prop)(t:WA):WE:=λρ S Q E=>opt (lk ρ i) λu=>∃f sp,u=.ref f/\tab f sp/\t ρ S (λus S1=>sp us S1 Q E) E
def Zx.fa(Z:Zx)(x:Str):Addr:=match Z.mg x with
 |some (.ref f)=>f
 |_=>0
def Tab(Z:Zx)(k:Nat)(tab:Addr->Wsp->Prop):Prop:=∀f sp,tab f sp->∃fd ps,z2h Z.P WW.w Z.K Z.mg Z.base (CXx Z.P WW.w) k f fd ps (lsp Z.xa sp)/\z1q Z.K fd ps []/\PySem.W.keepIn Z.K (.ref f)=true
def Zx.f_at{x:Str}{k k':Nat}{sp:Wsp}(h:Z.f x k sp)(hk:k<=k'):∃fd ps,z2h Z.P WW.w Z.K Z.mg Z.base (CXx Z.P WW.w) k' (Z.fa x) fd ps (lsp Z.xa sp)/\z1q Z.K fd ps []/\PySem.W.keepIn Z.K (.ref (Z.fa x))=true:=by
 obtain⟨f,fd,ps,F,B,K,m⟩:=h.ok;have e:Z.fa x=f:=by unfold Zx.fa;rw[m]
 rw[e];exact⟨fd,ps,F.mono hk,B,K⟩
section
variable{xa:Nat->Addr}{P:Program}{w:World}{K:yyF}{mg:yyS}{base:Heap}{X:Cx}{E0:XK}{e:Expr}{es:List Expr}{ts:WA}{x:Str}{k:Nat}{tab:Addr->Wsp->Prop}{p pos:Pos}
def zc9(i:Nat)(hF:∀f sp,tab f sp->∃fd ps,z2h X.prog X.w X.K X.mg X.base (CXx X.prog X.w) k f fd ps (lsp xa sp)/\z1q X.K fd ps []/\PySem.W.keepIn X.K (.ref f)=true)(hr:z1C k X.A)(hx:z2r (CXx X.prog X.w) X E0)(ha:SA xa X (λ_=>E0) (e::es) ts)(hN:X.N[i]?=some x:=by rfl)(hv:Vis X.env.scope x:=by first|exact Or.inl rfl|exact Or.inr (Or.inl rfl)|exact Or.inr (Or.inr rfl))(hd:(x==("__debug__":Str))=false:=by decide)(hcd:(x==("__classdict__":Str))=false:=by decide)(he:starEach (e::es) X.env=(false,eval e X.env)::starEach es X.env:=by rfl)(hpl:(backTo pos (starEach es X.env)).any (·.1)=false:=by rfl) : SE xa X (λ_=>E0) (.Call (.Name x p) (e::es) [] pos) (zeT i tab ts) :=
 PE.weak (zaV (CX:=CXx X.prog X.w) (k:=k) i hr ha hN hv hd hcd he hpl) λσ H Q' ⟨hd,ρ,S,Q,E,en,r,h,c⟩=>by obtain⟨u,hu,f,sp,rfl,ht,h⟩:=h.ex;obtain⟨v,hv,uv⟩:=en.2 i _ hu;obtain rfl:=urR uv;obtain⟨fd,ps,F,B,Kp⟩:=hF f sp ht;exact⟨f,fd,ps,_,E0,hv,F,B,Kp,hx,hd,ρ,S,_,E,en,r,h,λus S1 vs H1 k1 r1 u1 q1=>⟨hd,us,S1,Q,E,r1,u1,q1,c.mono k1⟩,c.ex⟩
end
section
variable{xa:Nat->Addr}{X:Cx}{xk:St->XK}{o e:Expr}{t:WE}{ts:WA}{apos cpos:Pos}
def zax(ho:SE xa X xk o t)(ha:SA xa X xk [e] ts)(hbase:attributeBase o "append" X.env (eval o X.env)=eval o X.env:=by rfl)(hfew:((backTo cpos (starEach [e] X.env)).all (λx=>!x.1)&&(backToKw cpos (keywordEach [] X.env)).all (λx=>x.1.isSome)&&decide ([e].length+([]:List Keyword).length+(if([]:List Keyword).isEmpty then 0 else 1)<30))=true:=by rfl)(hline:(apos.endLine==cpos.line)=true:=by rfl)(hs:starEach [e] X.env=(false,eval e X.env)::starEach [] X.env:=by rfl)(hplain:(backTo cpos (starEach [] X.env)).any (·.1)=false:=by rfl):SE xa X xk (.Call (.Attribute o "append" apos) [e] [] cpos) (wBM tyL z6k t ts) :=
 z5H y0M y1s y1t z2C (λ_ _ _ _ _=>z4O) ho ha hbase hfew hline hs hplain
def zjK(ho:SE xa X xk o t)(ha:SA xa X xk [e] ts)(hbase:attributeBase o "extend" X.env (eval o X.env)=eval o X.env:=by rfl)(hfew:((backTo cpos (starEach [e] X.env)).all (λx=>!x.1)&&(backToKw cpos (keywordEach [] X.env)).all (λx=>x.1.isSome)&&decide ([e].length+([]:List Keyword).length+(if([]:List Keyword).isEmpty then 0 else 1)<30))=true:=by rfl)(hline:(apos.endLine==cpos.line)=true:=by rfl)(hs:starEach [e] X.env=(false,eval e X.env)::starEach [] X.env:=by rfl)(hplain:(backTo cpos (starEach [] X.env)).any (·.1)=false:=by rfl):SE xa X xk (.Call (.Attribute o "extend" apos) [e] [] cpos) (wBM tyL zih t ts) :=
 z5H y0M PySem.F.slot_list_extend PySem.F.type_list_extend zbQ (λ_ _ _ _ _=>z4O) ho ha hbase hfew hline hs hplain
def zc5(ho:SE xa X xk o t)(ha:SA xa X xk [e] ts)(hbase:attributeBase o "join" X.env (eval o X.env)=eval o X.env:=by rfl)(hfew:((backTo cpos (starEach [e] X.env)).all (λx=>!x.1)&&(backToKw cpos (keywordEach [] X.env)).all (λx=>x.1.isSome)&&decide ([e].length+([]:List Keyword).length+(if([]:List Keyword).isEmpty then 0 else 1)<30))=true:=by rfl)(hline:(apos.endLine==cpos.line)=true:=by rfl)(hs:starEach [e] X.env=(false,eval e X.env)::starEach [] X.env:=by rfl)(hplain:(backTo cpos (starEach [] X.env)).any (·.1)=false:=by rfl):SE xa X xk (.Call (.Attribute o "join" apos) [e] [] cpos) (wBM tyT z9y t ts) :=
 z5H PySem.F.plainAttrs_str PySem.F.slot_str_join PySem.F.type_str_join zeL (λ_ _ _ _ _=>zhw) ho ha hbase hfew hline hs hplain
def zhb(ho:SE xa X xk o t)(hbase:attributeBase o "pop" X.env (eval o X.env)=eval o X.env:=by rfl)(hline:(apos.endLine==cpos.line)=true:=by rfl):SE xa X xk (.Call (.Attribute o "pop" apos) [] [] cpos) (wBM tyL zhT t zay) :=
 zcv y0M PySem.F.slot_list_pop PySem.F.type_list_pop zhE (λ_ _ _ _ _=>z4O) ho hbase hline
def zkt(ho:SE xa X xk o t)(hbase:attributeBase o "clear" X.env (eval o X.env)=eval o X.env:=by rfl)(hline:(apos.endLine==cpos.line)=true:=by rfl):SE xa X xk (.Call (.Attribute o "clear" apos) [] [] cpos) (wBM tyL z9u t zay) :=
 zcv y0M PySem.F.slot_list_clear PySem.F.type_list_clear zeq (λ_ _ _ _ _=>z4O) ho hbase hline
end
def wDM(K:yyF)(td ty:WE):WE:=λρ S Q E=>td ρ S (λx S1=>ty ρ S1 (λy S2=>∃a z t,x=.ref a/\y=.str z/\z2O K a=true/\PySem.W.nsIn K a z=some (some (.ref t))/\Q (.ref t) S2) E) E
def zgx(T:Z.Tx){xa:Nat->Addr}{X:Cx}{xk:St->XK}{o i:Expr}{td ty:WE}{pos:Pos}(ho:SE xa X xk o td)(hi:SE xa X xk i ty)(hs:zia i:=by exact λ_ _=>rfl)(hK:X.K=Z.K:=by rfl):SE xa X xk (.Subscript o i pos) (wDM Z.K td ty) :=
 hK▸PE.weak (zb4 ho hi hs) λσ H Q' ⟨hd,ρ,S,Q,E,en,r,h,c⟩=>⟨hd,ρ,S,_,E,en,r,h,λx S1 v1 H1 k1 r1 u1 q1=>⟨hd,ρ,S1,_,E,en.mono k1,r1,q1,λy S2 v2 H2 k2 r2 u2 q2=>by obtain⟨a,z,t,rfl,rfl,h1,h2,q⟩:=q2;exact⟨a,z,.ref t,_,urR u1,h1,urS u2,h2,rfl,(c.ok.mono (k1.trans k2)).put r2 (by simp only[Ur]) q⟩,c.ex.mono k1⟩,c.ex⟩
def fZK(K:yyF)(us:List U)(S:Sto)(R:Rk):Prop:=match us with
 |[.ref t,.tup L']=>∃xs:List Str,zeg K t xs=true/\xs.length<=1000/\xs.length=L'.length/\R (prs (xs.map U.str) L') (λ_=>True) S
 |_=>False
def zbn{K:yyF}{H0:Hp}{a b:Addr}{xs:List Str}{L':List U}{ws:List V}(e:zeg K a xs=true)(hz:xs.length<=1000)(e':H0 b=some (.tup ws))(l':UrL H0 L' ws)(hl:xs.length=L'.length):ItR H0 (zid K a b) (prs (xs.map U.str) L') (λ_=>True):=by
 have s:=zai e hz;constructor
 .intro hd i H S x k r _ hx;obtain⟨y,z,h1,h2,rfl⟩:=z9w hx;obtain⟨v,g1,k1⟩:=(z2U (H:=H) xs).get h1;obtain⟨w,g2,k2⟩:=l'.get h2;refine⟨⟨_,ws,v,w,s H,.of (k.tup _ _ e'),g1,g2⟩,λv' H' hz8=>?_⟩;obtain⟨p,x,y,e1,hp,q1,q2,e2⟩:=hz8;have z1:=q1 _ (s H);have z2:=q2 ws (.of (k.tup _ _ e'));rw[g1]at z1;rw[g2]at z2;cases z1;cases z2;subst e1 e2;exact z87 hp r k1 (k2.mono k)
 .intro hd i H S k r _ hi;rw[z6W,y00]at hi;exact⟨_,ws,s H,.of (k.tup _ _ e'),by rw[y00];lia,by rw[<-l'.len];lia⟩
def ziH(T:Z.Tx){xa:Nat->Addr}{X:Cx}{xk:St->XK}{a b:Expr}{ta:WA}{elts:List Expr}{tk:Nat}{tp p pos:Pos}(hm:X.mg "zip"=none)(ha:SA xa X xk [a,b] ta)(hg:Gl X "zip":=by rfl)(hs:starEach [a,b] X.env=[(false,eval a X.env),(false,eval b X.env)]:=by rfl)(hs2:starEach [b] X.env=[(false,eval b X.env)]:=by rfl)(hK:X.K=Z.K:=by rfl):SI xa xk X (.Tuple elts tk tp) (.Call (.Name "zip" p) [a,b] [] pos) (wRg (fZK Z.K) ta) :=
 hK▸λpins s σ H R' I q=>zd6 hg hm ha hs hs2 pins s σ H R' I (LtI.of (f:=fZK X.K) q λhd S R u v H1 r1 u1 q1 c1=>by
  unfold fZK at q1;split at q1
  .obtain⟨v,w,rfl,g1,g2⟩:=zfG u1;obtain rfl:=urR g1;obtain⟨b1,ws,rfl,e',l'⟩:=urT g2;obtain⟨xs,h1,h2,h3,q⟩:=q1;exact⟨_,_,rfl,⟨_,zai h1 h2 _⟩,⟨_,.of e'⟩,c1 _ _ S _ H1 (.refl _) r1 (zbn h1 h2 e' l' h3) q⟩
  .exact q1.elim)
end W
namespace W
open PySem L2 PySem.SeqAt PySem.Spec
variable[WW]
def isR(u:U)(k:Nat->Prop):Prop:=isI u λn=>-(2^62)<=n/\n<=2^24/\k n.toNat
def zkb(t:WE):WE:=λρ S Q E=>t ρ S (λu S1=>isR u λn=>nw (.lst (rg 0 n)) S1 Q) E
def zjN(t:WE):WE:=λρ S Q E=>t ρ S (λu S1=>isR u λn=>Q (.tup (rg 0 n)) S1) E
def zgt{H:Hp}(n:Nat):UrL H (rg 0 n) (zaw 0 n):=by
 unfold rg zaw;generalize List.range n=L;induction L with
 |nil=>exact .nil
 |cons x L ih=>exact .cons (by simp only[Ur]) ih
section
variable{xa:Nat->Addr}{X:Cx}{xk:St->XK}{e a b c:Expr}{t ta tb tc:WE}{p p' pos pos':Pos}
theorem isR.ex{u:U}{k:Nat->Prop}(h:isR u k):∃n:Int,u=.int n/\(-(2^62)<=n/\n<=2^24)/\k n.toNat:=by obtain⟨n,rfl,h1,h2,h3⟩:=isI.ex h;exact⟨n,rfl,⟨h1,h2⟩,h3⟩
def zcl(ml:X.mg "list"=none)(mr:X.mg "range"=none)(hc:X.calm=true)(he:SE xa X xk e t)(hg:Gl X "list":=by rfl)(hg':Gl X "range":=by rfl)(h1:starEach [e] X.env=(false,eval e X.env)::starEach [] X.env:=by rfl)(h2:starEach [.Call (.Name "range" p') [e] [] pos'] X.env=(false,eval (.Call (.Name "range" p') [e] [] pos') X.env)::starEach [] X.env:=by rfl) : SE xa X xk (.Call (.Name "list" p) [.Call (.Name "range" p') [e] [] pos'] [] pos) (zkb t) :=
 PE.weak (z25 (z4Q hc) hg ml y17 (z1L (z25 z85 hg' mr PyProof.Rows.boot_range (z1L he z40 h1) (he:=h1)) z40 h2) (he:=h2)) λσ H Q' h =>
  Lt.bind (f:=λu ρ S1 Q E=>isR u λn=>nw (.lst (rg 0 n)) S1 Q) h λhd ρ S Q E u v H1 e1 r1 u1 q1 c1=>by obtain⟨n,rfl,⟨b1,b2⟩,q⟩:=q1.ex;obtain rfl:=urI u1;refine⟨n,rfl,b1,by lia,λp hp=>⟨p,0,n,rfl,z0e,⟨by decide,by decide,b1,by lia⟩,by lia,λl hl=>?_⟩⟩;have s:=Gu.same_up (o:=.rng 0 n) (Same.refl H1) hp;rw[show(n-0).toNat=n.toNat by lia];exact(c1.ok.mono (Kp.same s)).lst (r1.same s) (zgt _) q hl
def zgq(ml:X.mg "tuple"=none)(mr:X.mg "range"=none)(hc:X.calm=true)(he:SE xa X xk e t)(hg:Gl X "tuple":=by rfl)(hg':Gl X "range":=by rfl)(h1:starEach [e] X.env=(false,eval e X.env)::starEach [] X.env:=by rfl)(h2:starEach [.Call (.Name "range" p') [e] [] pos'] X.env=(false,eval (.Call (.Name "range" p') [e] [] pos') X.env)::starEach [] X.env:=by rfl) : SE xa X xk (.Call (.Name "tuple" p) [.Call (.Name "range" p') [e] [] pos'] [] pos) (zjN t) :=
 PE.weak (z25 (z49 hc) hg ml y0o (z1L (z25 z85 hg' mr PyProof.Rows.boot_range (z1L he z40 h1) (he:=h1)) z40 h2) (he:=h2)) λσ H Q' h =>
  Lt.bind (f:=λu ρ S1 Q E=>isR u λn=>Q (U.tup (rg 0 n)) S1) h λhd ρ S Q E u v H1 e1 r1 u1 q1 c1=>by obtain⟨n,rfl,⟨b1,b2⟩,q⟩:=q1.ex;obtain rfl:=urI u1;refine⟨n,rfl,b1,by lia,λp hp=>⟨p,0,n,rfl,z0e,⟨by decide,by decide,b1,by lia⟩,by lia,λl hl=>?_⟩⟩;have s:=Gu.same_up (o:=.rng 0 n) (Same.refl H1) hp;rw[show(n-0).toNat=n.toNat by lia];exact(c1.ok.mono (Kp.same s)).tup (r1.same s) (zgt _) q hl
def fmU(u:U)(k:Str->Prop):Prop:=match u with
 |.str y=>y.length<=sizeLine/\k y
 |.int i=>i.natAbs.log2<1920/\k (Str.ofString (toString i))
 |_=>False
def isX(u:U)(k:Str->Prop):Prop:=match u with
 |.str y=>k y
 |_=>False
def isX.ex{u:U}{k:Str->Prop}(h:isX u k):∃b,u=.str b/\k b:=by cases u<;>simp only[isX]at h;exact⟨_,rfl,h⟩
def zjY(t:WE):WE:=λρ S Q E=>t ρ S (λu S1=>fmU u λy=>Q (.str y) S1) E
def zgp(h:SE xa X xk a ta):SE xa X xk (.FormattedValue a (-1) none pos) (zjY ta):=PE.weak (zfv h) λσ H Q' h=>Lt.bind (f:=λu ρ S1 Q E=>fmU u λy=>Q (U.str y) S1) h λhd ρ S Q E u v H1 e1 r1 u1 q1 c1=>by
 cases u<;>simp only[fmU]at q1
 .obtain rfl:=urI u1;exact .inr ⟨_,rfl,q1.1,c1.ok.put r1 uS q1.2⟩
 .obtain rfl:=urS u1;exact .inl ⟨_,rfl,q1.1,c1.ok.put r1 uS q1.2⟩
def wJ3(ta tb tc:WE):WE:=λρ S Q E=>ta ρ S (λu S1=>isX u λx=>x.length<=sizeLine/\tb ρ S1 (λv S2=>isX v λy=>x.length+y.length<=sizeLine/\tc ρ S2 (λw S3=>isX w λz=>x.length+y.length+z.length<=sizeLine/\Q (.str (x++y++z)) S3) E) E) E
def ziK(ha:SE xa X xk a ta)(hb:SE xa X xk b tb)(hc:SE xa X xk c tc)(he:evalEach [a,b,c] X.env=[eval a X.env,eval b X.env,eval c X.env]:=by rfl):SE xa X xk (.JoinedStr [a,b,c] pos) (wJ3 ta tb tc):=PE.weak (zbt ha hb hc he) λσ H Q' h =>
 Lt.bind (f:=λu ρ S1 Q E=>isX u λx=>x.length<=sizeLine/\tb ρ S1 (λv S2=>isX v λy=>x.length+y.length<=sizeLine/\tc ρ S2 (λw S3=>isX w λz=>x.length+y.length+z.length<=sizeLine/\Q (U.str (x++y++z)) S3) E) E) h λhd ρ S Q E u v H1 e1 r1 u1 q1 c1=>by obtain⟨x,rfl,l1,q⟩:=q1.ex;obtain rfl:=urS u1;refine⟨x,rfl,l1,hd,ρ,S,_,E,e1,r1,q,λu2 S2 v2 H2 k2 r2 u2' q2=>?_,c1.ex⟩;obtain⟨y,rfl,l2,q⟩:=q2.ex;obtain rfl:=urS u2';refine⟨y,rfl,l2,hd,ρ,S2,_,E,e1.mono k2,r2,q,λu3 S3 v3 H3 k3 r3 u3' q3=>?_,(c1.mono k2).ex⟩;obtain⟨z,rfl,l3,q⟩:=q3.ex;obtain rfl:=urS u3';exact⟨z,rfl,l3,((c1.mono k2).mono k3).ok.put r3 uS q⟩
end
def zcn(us:List U)(S:Sto)(Q:Kq U):Prop:=match us with
 |[.tup us]=>∃ns:List Int,us=ns.map U.int/\ns.length<64/\∀ns':List Int,ns'.Perm ns->ns'.Pairwise (·<=·)->nw (.lst (ns'.map U.int)) S Q
 |_=>False
def zd4{X:Cx}:z0Q X (.builtin "sorted") (rC zcn):=by
 rintro pins s σ H vs xs Q' I r1 ⟨hd,us,S,Q,r,u,c,h⟩;unfold zcn at h;split at h
 .obtain⟨v,rfl,g⟩:=z4e u;obtain⟨ns,rfl,hz,q⟩:=h;obtain⟨p,ws,rfl,e,l⟩:=urT g;exact zij X.K rfl pins s σ H _ _ _ I r1 ⟨p,ns,rfl,by rw[<-z6n l];exact .of e,hz,λns' h1 h2 p hp=>c.lst r (z3B ns') (q ns' h1 h2) hp⟩
 .exact h.elim
def zjB(ti:WI)(j:Nat):WS:=λρ S W E=>ti ρ S (λL ck S1=>L=[]/\∀d,S1 d=none->ck (up S1 d (.dic false []))/\W.nx (st ρ j (.ref d)) (up S1 d (.dic false []))) (E ρ)
def z9l{xa:Nat->Addr}{X:Cx}{xk:St->XK}{ti:WI}{N:List Str}{ix:List (Option Nat)}{scope:Scope}{kx vx tg iter:Expr}{pos:Pos}(j:Nat){x:Str}{spos pos':Pos}(hN:X.N.Nodup)(hc:X.calm=true)(C:z0K X.N X.env.scope N ix scope)(hi:SI xa xk X tg iter ti)(hx:X.N[j]?=some x:=by rfl)(hl:X.env.scope.names.lookup x=some .local:=by rfl)(hsw:swapsWith (.DictComp kx vx [⟨tg,iter,[],0⟩] scope pos) (some (.Name x pos')) spos.line X.env=pure true:=by rfl)(hs:∀x,foldedSetIterable iter X.env x=pure x:=by intro _;rfl) : SS xa xk X (.Assign [.Name x pos'] (.DictComp kx vx [⟨tg,iter,[],0⟩] scope pos) spos) (zjB ti j) :=
 PS.weak (zc6 (g:=λ_ _ _ _=>False) (tk:=λ_ _ _=>False) (tv:=λ_ _ _=>False) hc C hi (λ_ _ _ _ _ _ _ _ _ _ _ _ _ _ h=>False.elim h) (λ_ _ _ _ _ _ _ _ _ _ _ h=>False.elim h) (λ_ _ _ _ _ _ _ _ _ _ _ h=>False.elim h) hN hx hl hsw hs) λD σ H ⟨hd,ρ,S,W,E,e,r,h,c⟩=>by refine⟨hd,ρ,S,_,E ρ,e,r,h,λL ck S1 J H1 k1 r1 it ⟨hL,q⟩ l hl=>?_,c.at e⟩;subst hL;obtain⟨q1,q2⟩:=q l (r1.none hl);have k2:Kp H1 (upd H1 l (.dK [])):=.new hl;have r2:=r1.up (o:=.dic false []) k2 (.inl hl) ⟨[],z0e,.nil⟩;refine⟨λi m ys H'=>i=0/\ys=[]/\H'=upd H1 l (.dK []),⟨0,rfl,rfl,rfl⟩,?_⟩;rintro i m ys H' ⟨rfl,rfl,rfl⟩ hy;exact .inl ⟨it.stop 0 _ _ k2 r2 q1 rfl,(c.mono (k1.trans k2)).nx _ _ _ _ (.refl _) ((e.mono (k1.trans k2)).set j (by simp only[Ur])) r2 q2⟩
def zh4(no:Bool):WF
 |.str x,.ref a,S,Q=>∃ss:List Str,isL S a (ss.map U.str)/\Q (.bl (decide (x∈ss) != no)) S
 |.str x,.tup us,S,Q=>∃ss:List Str,us=ss.map U.str/\Q (.bl (decide (x∈ss) != no)) S
 |_,_,_,_=>False
def zd3(x:Str)(ss:List Str):inV (.str x) (ss.map V.str)=decide (x∈ss):=by
 unfold inV;induction ss with
 |nil=>rfl
 |cons y ss ih =>
  rw[y0m,y28,ih];show((y==x)||decide (x∈ss))=decide (x∈y::ss);by_cases h:y=x
  .subst h;simp
  .rw[y2z h];simp[y10 h]
def z7u(ss:List Str):(ss.map V.str).all z5n=true:=y0D.mpr λz hz=>by obtain⟨s,_,rfl⟩:=y0f.mp hz;rfl
section
variable{X:Cx}
def zfR{no:Bool}{v1 v2:V}{H:Hp}{Q':VK}(h:rW (zh4 no) v1 v2 H Q'):rIn X.K no v1 v2 H Q':=by
 obtain⟨hd,x,y,S,Q,r,u1,u2,c,h⟩:=h;have fin:∀(x:Str)(ss:List Str),Q (.bl (decide (x∈ss) != no)) S->Q' (.bl (if no then !inV (.str x) (ss.map V.str)else inV (.str x) (ss.map V.str))) H:=λx ss q=>by refine c.put r (v:=.bl _) (u:=.bl (decide (x∈ss) != no)) ?_ q;rw[zd3];cases no<;>simp[Ur]
 cases x<;>cases y<;>simp only[zh4]at h
 .obtain rfl:=urS u1;obtain⟨p,vs,rfl,e,l⟩:=urT u2;obtain⟨ss,rfl,q⟩:=h;obtain rfl:=z3F l;exact⟨p,_,rfl,.inr (.of e),rfl,z7u ss,fin _ _ q⟩
 .obtain rfl:=urS u1;obtain rfl:=urR u2;obtain⟨ss,hl,q⟩:=h;obtain⟨vs,e,l⟩:=hl.of (K:=X.K) r;obtain rfl:=z3F l;exact⟨_,_,rfl,.inl e,rfl,z7u ss,fin _ _ q⟩
def zhZ:OpR X (compareOp .In) (rW (zh4 false)):=λpins s σ H v1 v2 x1 x2 Q' I r1 r2 h=>z9v pins s σ H _ _ _ _ _ I r1 r2 (zfR h)
def zbJ:OpR X (compareOp .NotIn) (rW (zh4 true)):=λpins s σ H v1 v2 x1 x2 Q' I r1 r2 h=>z6b pins s σ H _ _ _ _ _ I r1 r2 (zfR h)
def ze8(x:U)(us:List U)(S:Sto)(Q:Kq U):Prop:=match x,us with
 |.ref a,[.int i]=>∃us,S a=some (.lst us)/\0<=i/\i<2^60/\opt us[i.toNat]? λu=>Q u (up S a (.lst (us.eraseIdx i.toNat)))
 |_,_=>False
theorem UrL.erase{H:Hp}:∀{us:List U}{vs:List V}(n:Nat),UrL H us vs->UrL H (us.eraseIdx n) (vs.eraseIdx n)
 |[],_,n,h=>by simp only[UrL]at h;subst h;exact .nil
 |u::us,_,0,h=>by
  simp only[UrL]at h;obtain⟨v,r,rfl,_,q⟩:=h;exact q
 |u::us,_,n+1,h=>by simp only[UrL]at h;obtain⟨v,r,rfl,p,q⟩:=h;exact .cons p (q.erase n)
def zfl:MtR X "list.pop" (rM ze8):=by
 rintro pins s σ H v vs x xs Q' I r1 r2 ⟨hd,y,us,S,Q,r,u1,u2,c,h⟩;unfold ze8 at h;split at h
 .obtain rfl:=urR u1;obtain⟨w,rfl,g⟩:=z4e u2;obtain rfl:=urI g;obtain⟨us,hS,h0,h1,h⟩:=h;obtain⟨u,hu,q⟩:=h.ex;obtain⟨ws,e,l⟩:=r.1 _ _ hS;obtain⟨z,g1,g2⟩:=l.get hu;have hz:=(y0G.mp g1).1;refine zbA pins s σ H _ _ _ _ _ I r1 r2 ⟨_,ws,_,_,z,rfl,rfl,e,by lia,by lia,?_,g1,c.wr r (by rw[hS];exact λz=>nomatch z) e (l.erase _) g2 q⟩;unfold seqIndex?;simp;lia
 .exact h.elim
def ziT(us:List U)(S:Sto)(Q:Kq U):Prop:=match us with
 |[.int i,.int j]=>Q (.int (if j<i then j else i)) S
 |_=>False
def zie(hc:X.calm=true):z0Q X (.builtin "min") (rC ziT):=by
 rintro pins s σ H vs xs Q' I r1 ⟨hd,us,S,Q,r,u,c,h⟩;unfold ziT at h;split at h
 .obtain⟨v,w,rfl,g1,g2⟩:=zfG u;exact zaf hc pins s σ H _ _ _ I r1 ⟨_,_,by rw[urI g1,urI g2],c.put r uI h⟩
 .exact h.elim
end
section
variable{xa:Nat->Addr}{X:Cx}{xk:St->XK}{o e:Expr}{t:WE}{ts:WA}{apos cpos:Pos}
def ziO(ho:SE xa X xk o t)(ha:SA xa X xk [e] ts)(hbase:attributeBase o "pop" X.env (eval o X.env)=eval o X.env:=by rfl)(hfew:((backTo cpos (starEach [e] X.env)).all (λx=>!x.1)&&(backToKw cpos (keywordEach [] X.env)).all (λx=>x.1.isSome)&&decide ([e].length+([]:List Keyword).length+(if([]:List Keyword).isEmpty then 0 else 1)<30))=true:=by rfl)(hline:(apos.endLine==cpos.line)=true:=by rfl)(hs:starEach [e] X.env=(false,eval e X.env)::starEach [] X.env:=by rfl)(hplain:(backTo cpos (starEach [] X.env)).any (·.1)=false:=by rfl):SE xa X xk (.Call (.Attribute o "pop" apos) [e] [] cpos) (wBM tyL ze8 t ts) :=
 z5H y0M PySem.F.slot_list_pop PySem.F.type_list_pop zfl (λ_ _ _ _ _=>z4O) ho ha hbase hfew hline hs hplain
end
end W
namespace W
open PySem L2 PySem.SeqAt PySem.Spec Gu
variable[WW]{Z:Zx}
def prU:Nat->List U->List (U × U)
 |_,[]=>[]
 |n,x::r=>(x,.int n)::prU (n+1) r
theorem z2n(k:U):∀(u:List U)(n:Nat),z0o (prU n u) k=if k∈u then some (.int ((n+u.idxOf k:Nat):Int))else none
 |[],n=>by simp[prU,z0o]
 |x::r,n=>by
  unfold prU z0o;by_cases e:x=k
  .subst e;rw[z0S];simp
  .rw[z12 e];show z0o (prU (n+1) r) k=_;rw[z2n k r (n+1)];have e1:(x::r).idxOf k=r.idxOf k+1:=by rw[y3g,y2z e];rfl
   by_cases hm:k∈r
   .rw[if_pos hm,if_pos (by simp[hm]),e1,show n+1+r.idxOf k=n+(r.idxOf k+1)by lia]
   .rw[if_neg hm,if_neg (by simp[hm,y10 e])]
theorem z3K:∀(u:List U)(n:Nat),(prU n u).length=u.length
 |[],_=>rfl
 |x::r,n=>by rw[prU,y0b,y0b,z3K r]
theorem z9W(k:U):∀(u:List U)(n:Nat),prU n (u++[k])=prU n u++[(k,.int ((n+u.length:Nat):Int))]
 |[],n=>by simp[prU]
 |x::r,n=>by rw[y1J,prU,z9W k r,prU,y1J,y0b,show n+1+r.length=n+(r.length+1)by lia]
def z6R{k:U}{u:List U}(h:k∉u):z1T (prU 0 u) k (.int u.length)=prU 0 (u++[k]):=by unfold z1T;rw[z2n,if_neg h,z9W];simp
def Ex(S S':Sto):Prop:=∀a o,S a=some o->S' a=some o
theorem Ex.up{S S1:Sto}{p:Addr}{o:Ob}(e:Ex S S1)(h:S p=none):Ex S (up S1 p o):=λa x q=>by rw[z0c];exact e a x q;rintro rfl;rw[h]at q;cases q
def Ex.no{S S1:Sto}{l:Addr}(e:Ex S S1)(h:S1 l=none):S l=none:=by
 cases q:S l with
 |none=>rfl
 |some o=>rw[e _ _ q]at h;cases h
def Ex.l{S S1:Sto}{a:Addr}{us:List U}(e:Ex S S1)(h:isL S a us):isL S1 a us:=h.elim (λz=>.inl (e _ _ z)) λz=>.inr (e _ _ z)
def z27{ck:Sto->Prop}{g:WX U}{b:WS}{W:Wd}{E:Xs}{L:List U}{ρ:En}{S:Sto}(I:List U->En->Sto->Prop)(h0:I L ρ S)(hd:∀ρ S,I [] ρ S->ck S/\W.nx ρ S)(hs:∀x L ρ S,I (x::L) ρ S->(∀ρ S,I L ρ S->frL ck g b L ρ S W E)->frL ck g b (x::L) ρ S W E):frL ck g b L ρ S W E:=by
 induction L generalizing ρ S with
 |nil=>exact hd ρ S h0
 |cons x L ih=>exact hs x L ρ S h0 λρ S h=>ih h
def zaY{ck:Sto->Prop}{g:WX U}{ts:List WT}{rest:WR}{k:En->List U->Sto->Prop}{L:List U}{ρ:En}{S:Sto}{acc:List U}(I:List U->List U->En->Sto->Prop)(h0:I L acc ρ S)(hd:∀acc ρ S,I [] acc ρ S->ck S/\k ρ acc S)(hs:∀x L acc ρ S,I (x::L) acc ρ S->(∀acc ρ S,I L acc ρ S->cmL ck g ts rest L ρ S acc k)->cmL ck g ts rest (x::L) ρ S acc k):cmL ck g ts rest L ρ S acc k:=by
 induction L generalizing ρ S acc with
 |nil=>exact hd acc ρ S h0
 |cons x L ih=>exact hs x L acc ρ S h0 λacc ρ S h=>ih h
inductive ze5:Wsp
 |mk {S Q E} (a:Addr) (xs:List U):isL S a xs->(∀x∈xs,tk x=true)->xs.length<=4900->(∀l S',Ex S S'->S l=none->S' l=some (.lst ((z5c xs).map λi=>.int i))->Q (.ref l) S')->ze5 [.ref a] S Q E
def csN:z0K ["things","numbers","thing"] (z0a z2u) ["thing","numbers"] [none,some 1] (csc [(".0",.local),("thing",.local),("numbers",.free)]):={}
inductive iN(S:Sto)(a d:Addr)(xs:List U):List U->En->Sto->Prop
 |mk {S1 L} (dn:List U) (x:Option U):xs=dn++L->Ex S S1->S1 d=some (.dic true (prU 0 (z2K dn)))->iN S a d xs L [some (.ref a),some (.ref d),x] S1
inductive iC(d:Addr)(xs:List U)(S:Sto):List U->List U->En->Sto->Prop
 |mk {L} (dn:List U) (x:Option U):xs=dn++L->iC d xs S L (dn.map λk=>.int ((z2K xs).idxOf k:Nat)) [x,some (.ref d)] S
def zdL(T:Z.Tx)(D:Z.fd "numbered" z2u ["things"]):Z.f "numbered" 1 ze5:=by
 refine wF ["things","numbers","thing"] D (λf cdv A outer s H E hr nd=>z02 (z0d 1 nd (z4L true)) (z02 (z28 y0s rfl (z0G (z00 0) z0I) (z07 2 nd) (z05 (z0L (z0k (z6Y (hu9 hr) rfl).2 (z00 2) (z00 1)) (z05 (z5L (hu9 hr) rfl (z00 1) (z00 2) (zj0 zfn (T.b _ (by decide)) y08 (z01 (z00 1) z03)))) z0l))) (z05 (z0j (z0D ⟨csN,rfl,λcl C ex s H=>⟨z07 0 csN.nd,.nil,z1j rfl (z0m (z5B (hu9 hr) rfl) (z00 1) (z00 0))⟩,λg' e=>by cases e⟩ (z0G (z00 0) z0I)))))) (λus S Q E h=>by cases h;rfl) ?_;rintro _ S Q E ⟨a,xs,hl,hk,hz,q⟩;intro d hd;have e0:Ex S (up S d (.dic true [])):=Ex.up (λ_ _ h=>h) hd;refine⟨xs,e0.l hl,z27 (iN S a d xs) (.mk [] _ rfl e0 z04) ?_ ?_⟩
 .rintro ρ S1 h;generalize e:([]:List U)=L at h;obtain⟨dn,x,hx,e1,hS⟩:=h;subst e;rw[y0j]at hx;subst hx;refine⟨e1.l hl,xs,e1.l hl,zaY (iC d xs S1) (.mk [] _ rfl) ?_ ?_⟩
  .rintro acc ρ S2 h;generalize e:([]:List U)=L at h;obtain⟨dn,x,hx⟩:=h;subst e;rw[y0j]at hx;subst hx;refine⟨e1.l hl,λl hl2=>q l _ (Ex.up e1 (e1.no hl2)) (e1.no hl2) (by rw[z04,z5c,y0W];rfl)⟩
  .rintro y L acc ρ S2 h ih;generalize e:y::L=L' at h;obtain⟨dn,x,hx⟩:=h;subst e;refine⟨e1.l hl,_,_,hS,hk y (by rw[hx];simp),?_⟩;refine opt.of (by rw[z2n,if_pos (zbb.mpr (by rw[hx];simp))]) ⟨?_,?_⟩
   .rw[y00];rw[hx,y04,y0b]at hz;exact y0L (show dn.length<=4900 by lia) (by decide)
   have:=ih _ _ _ (.mk (dn++[y]) (some y) (by rw[hx];simp));rw[y0n]at this;rw[y2S];exact this
 .rintro y L ρ S1 h ih;generalize e:y::L=L' at h;obtain⟨dn,x,hx,e1,hS⟩:=h;subst e;refine⟨e1.l hl,_,_,hS,hk y (by rw[hx];simp),?_⟩;show cond ((z0o (prU 0 (z2K dn)) y).isSome != true) _ _;rw[z2n];have eu:z2K (dn++[y])=z5l (z2K dn) y:=by unfold z2K;exact z2f _ _ _
  by_cases hm:y∈z2K dn
  .rw[if_pos hm];exact ih _ _ (.mk (dn++[y]) _ (by rw[hx];simp) e1 (by rw[eu,z1v hm];exact hS))
  .rw[if_neg hm];refine⟨_,_,hS,_,_,hS,hk y (by rw[hx];simp),?_,ih _ _ (.mk (dn++[y]) _ (by rw[hx];simp) (Ex.up e1 hd) ?_)⟩
   .have:=z2a dn [];rw[z3K,z2K];rw[hx,y04,y0b]at hz;exact y0L (show(z0z [] dn).length<=4900 by simp at this;lia) (by decide)
   .rw[z04,eu,z1w hm,z3K,z6R hm]
end W
namespace W
open PySem L2 PySem.SeqAt Gu
variable[WW]{Z:Zx}
def z3J{c:WT}{b:WS}{W:Wd}{E:Xs}{ρ:En}{S:Sto}(I:Nat->En->Sto->Prop)(n:Nat)(h0:I n ρ S)(hs:∀m ρ S,I m ρ S->∀again:En->Sto->Prop,(∀k ρ' S',k<m->I k ρ' S'->again ρ' S')->c ρ S (λt S1=>cond t (b ρ S1 { nx:=again,rt:=W.rt,bk:=W.nx,ct:=again } E) (W.nx ρ S1)) (E ρ)):wWh c b ρ S W E:=by
 have go:∀N m ρ S,m<N->I m ρ S->whN c b N ρ S W E:=by
  intro N;induction N with
  |zero=>intro m ρ S h;lia
  |succ N ih=>intro m ρ S hm h;exact hs m ρ S h _ λk ρ' S' hk h'=>ih k ρ' S' (by lia) h'
 exact⟨n+1,go _ n ρ S (y2d _) h0⟩
def uI'(ns:List Int):U:=.tup (ns.map .int)
def uR(r:Row):U:=.tup [uI' r.1,uI' r.2]
def zje(nm:Int->U)(r:Row):U:=.tup [uI' r.1,.tup (r.2.map nm)]
structure zjm(S:Sto)(f:Addr)(nm:Int->U)(rows:List Row):Prop where
 ex:∃j cp,S f=some (.clo j cp)/\(WW.lam j).ps.length=1/\∀r,0<=r->r<(rows.length:Int)->∀S' Q',Ex S S'->(∀S'',Ex S' S''->Q' (zje nm (row rows r)) S'')->WW.rd j ([some (nm r)]++cp.drop 1) S' Q'
structure FG(n m:Nat)(fs:List Row):Prop where
 perm:∀r∈fs,IsP n r.1
 len:∀r∈fs,r.2.length=n
 go:∀r∈fs,∀g∈r.2,0<=g/\g<(m:Int)
inductive za4:Wsp
 |mk {S Q E} (f:Addr) (nm:Int->U) (rows:List Row) (n:Nat):zjm S f nm rows->(∀x y,nm x=nm y->x=y)->(∀r,kok (isT (nm 0)) (nm r)=true)->z1i n rows->n<=60->(∀fs l S',z1i n fs->fs.length<=rows.length->Ex S S'->S l=none->S' l=some (.lst (fs.map uR))->Q (.ref l) S')->za4 [nm 0,.ref f] S Q E
def zcf:z0K ["first","row_at","order","places","found","rearranging","goings","going"] (z0a zaH) ["going","places"] [none,some 3] (csc [(".0",.local),("going",.local),("places",.free)]):={}
inductive iW(S:Sto)(nm:Int->U)(rows:List Row)(n:Nat)(f lo lp lf:Addr):Nat->En->Sto->Prop
 |mk {S1} (fs:List Row) (o:List Int) (x y z:Option U):Ex S S1->S1 lo=some (.lst (o.map nm))->S1 lp=some (.dic (isT (nm 0)) (prU 0 (o.map nm)))->S1 lf=some (.lst (fs.map uR))->zck rows o->fs.length<=o.length->FG n o.length fs ->
  iW S nm rows n f lo lp lf (rows.length-fs.length) [some (nm 0),some (.ref f),some (.ref lo),some (.ref lp),some (.ref lf),x,y,z] S1
inductive iF(S:Sto)(nm:Int->U)(o gs:List Int)(f lo lp lf:Addr)(fs:List U)(x y:U):List U->En->Sto->Prop
 |mk {S1} (dn L:List Int) (z:Option U):gs=dn++L->Ex S S1->S1 lo=some (.lst ((z0z o dn).map nm))->S1 lp=some (.dic (isT (nm 0)) (prU 0 ((z0z o dn).map nm)))->S1 lf=some (.lst fs)->iF S nm o gs f lo lp lf fs x y (L.map nm) [some (nm 0),some (.ref f),some (.ref lo),some (.ref lp),some (.ref lf),some x,some y,z] S1
inductive iP(d:Addr)(nm:Int->U)(o gs:List Int)(S:Sto):List U->List U->En->Sto->Prop
 |mk (dn L:List Int) (x:Option U):gs=dn++L->iP d nm o gs S (L.map nm) ((dn.map λg=>((o.idxOf g:Nat):Int)).map U.int) [x,some (.ref d)] S
def z4m{α:Type}{f:α->U}{xs:List α}{i:Nat}{x:α}(h:xs[i]?=some x):atI (xs.map f) (i:Int)=some (f x):=by have hl:=(y0G.mp h).1;unfold atI ixN;rw[if_pos (by lia),if_pos (by rw[y00];lia)];simp[h]
theorem z5o{nm:Int->U}(hi:∀x y,nm x=nm y->x=y)(g:Int):∀o:List Int,(o.map nm).idxOf (nm g)=o.idxOf g
 |[]=>rfl
 |x::o=>by
  rw[y0m,y3g,y3g,z5o hi g o];by_cases e:x=g
  .subst e;simp
  .rw[y2z e,y2z λz=>e (hi _ _ z)]
def z0C{nm:Int->U}(hi:∀x y,nm x=nm y->x=y){g:Int}{o:List Int}:nm g∈o.map nm↔g∈o:=⟨λh=>by obtain⟨y,hy,e⟩:=y0f.mp h;rw[<-hi _ _ e];exact hy,λh=>y0f.mpr ⟨g,h,rfl⟩⟩
def zdq(T:Z.Tx)(L:ziN Z.P Z.K Z.mg Z.base 4)(D:Z.fd "rows_come_to" zaH ["first","row_at"]):Z.f "rows_come_to" 5 za4:=by
 refine wF ["first","row_at","order","places","found","rearranging","goings","going"] D (λf cdv A outer s H E hr nd=>z02 (z0d 2 nd (z1g (z01 (z00 0) z03))) (z02 (z0d 3 nd (zbh (hu9 hr) rfl (z00 0) z06)) (z02 (z0d 4 nd (z1g z03)) (z02 (z14 y0s (z0k (z16 z4P) (sBu T z0E y08 (z01 (z00 4) z03)) (sBu T z0E y08 (z01 (z00 2) z03))) (z02 (z17 (zbW 1 L rfl (hr.mono (by decide)) (z01 (z0m z19 (z00 2) (sBu T z0E y08 (z01 (z00 4) z03))) z03)) (z0F rfl (z09 (z07 5 nd) (z09 (z07 6 nd) z0r)))) (z02 (z28 y0s rfl (z0G (z00 6) z0I) (z07 7 nd) (z05 (z0L (z0k (z6Y (hu9 hr) rfl).2 (z00 7) (z00 3)) (z02 (z5L (hu9 hr) rfl (z00 3) (z00 7) (sBu T z0E y08 (z01 (z00 2) z03))) (z05 (z0g (z5H y0M y1s y1t z2C (λ_ _ _ _ _=>z4O) (z00 2) (z01 (z00 7) z03))))) z0l))) (z05 (z0g (z5H y0M y1s y1t z2C (λ_ _ _ _ _=>z4O) (z00 4) (z01 (z0t (z01 (z00 5) (z01 (sTy T z11 y0o (z01 (z0D ⟨zcf,rfl,λ_ _ _ _ _=>⟨(z07 0 zcf.nd),.nil,(z1j rfl (z0m (z5B (hu9 hr) rfl) (z00 1) (z00 0)))⟩,λg' e=>by cases e⟩ (z0G (z00 6) z0I)) z03)) z03))) z03))))))) (z05 (z0j (z00 4))))))) (λus S Q E h=>by cases h;rfl) ?_;rintro _ S Q E ⟨f,nm,rows,n,⟨j,cp,hf,h1,hrow⟩,hi,hk,G,hn,q⟩;refine⟨show 1<=sizeLine by decide,λlo hlo=>⟨hk 0,λlp hlp=>⟨show 0<=sizeLine by decide,λlf hlf=>?_⟩⟩⟩;have el:Ex S (up S lo (.lst [nm 0])):=Ex.up (λ_ _ h=>h) hlo;have hlp0:=el.no hlp;have ep:=Ex.up (o:=.dic (isT (nm 0)) [(nm 0,.int 0)]) el hlp0;have hlf0:=ep.no hlf;have nop:lo≠lp:=λz=>by rw[z]at hlp;rw[z04]at hlp;cases hlp
 have npf:lp≠lf:=λz=>by rw[<-z,z04]at hlf;cases hlf
 have nof:lo≠lf:=λz=>by rw[<-z,z0c nop,z04]at hlf;cases hlf
 have h400:=G.few;refine z3J (iW S nm rows n f lo lp lf) (rows.length-0) (.mk [] [0] _ _ _ (Ex.up ep hlf0) (by rw[z0c nof,z0c nop,z04];rfl) (by rw[z0c npf,z04];rfl) z04 (zi9 G) (by simp) ⟨by simp,by simp,by simp⟩) ?_;rintro _ ρ S1 ⟨fs,o,x,y,z,e1,so,sp,sf,Ln,hio,F⟩ again ag;refine⟨_,.inl sf,_,.inl so,?_⟩;have hz:∀{k:Nat},k<=4500->k<sizeLine:=λh=>y0L h (by decide);have hlen:=Ln.len;refine z0x (λc=>?_) (λc=>?_)
 .have c:=y0i c;rw[y00,y00]at c;have hio':fs.length<o.length:=by lia
  have eo:o[fs.length]?=some o[fs.length]:=y0e hio';have hro:o[fs.length]∈o:=y13 hio';generalize o[fs.length]=r at eo hro;obtain⟨r0,r1⟩:=Ln.rg r hro;have hrw:=z1B r0 r1;have hgl:=G.len _ hrw;refine opt.of rfl ⟨j,cp,e1 _ _ hf,_,.inl sf,_,.inl so,opt.of (by rw[y00];exact z4m eo) ⟨e1 _ _ hf,h1.symm,hrow r r0 r1 S1 _ e1 λS2 e2=>⟨rfl,?_⟩⟩⟩;have e12:Ex S S2:=λa o h=>e2 _ _ (e1 _ _ h);generalize hgs:(row rows r).2=gs at hgl;refine z27 (iF S nm o gs f lo lp lf (fs.map uR) (uI' (row rows r).1) (.tup (gs.map nm))) (.mk [] gs _ rfl e12 (e2 _ _ so) (e2 _ _ sp) (e2 _ _ sf)) ?_ ?_
  .rintro ρ3 S3 h;generalize e:([]:List U)=L' at h;obtain⟨dn,L',z,hg,e3,so3,sp3,sf3⟩:=h;cases L'<;>cases e;rw[y0j]at hg;subst hg;have L2:zck rows (z0z o gs):=by rw[<-hgs];exact Ln.add G hro
   obtain⟨m1,em1⟩:=z2b gs o;have hi':fs.length+1<=(z0z o gs).length/\o.length<=(z0z o gs).length:=by rw[em1,y04];lia
   have hmem:∀g∈gs,g∈z0z o gs:=λg hg=>z1m.mpr (.inr hg);clear em1;generalize z0z o gs=o' at *;refine⟨trivial,⟨_,.inl sf3⟩,zaY (iP lp nm o' gs S3) (.mk [] gs _ rfl) ?_ ?_⟩
   .rintro acc ρ4 S4 h;generalize e:([]:List U)=L' at h;obtain⟨dn,L',z,hg⟩:=h;cases L'<;>cases e;rw[y0j]at hg;subst hg;refine⟨trivial,λl hl=>⟨_,.inl z04,show 2<=sizeLine by decide,?_⟩⟩;have nl:∀{b:Addr}{o:Ob},S3 b=some o->b≠l:=λh z=>by rw[z,hl]at h;cases h
    refine⟨_,(z0c (nl sf3)).trans sf3,by rw[y00];exact hz (by lia),ag _ _ _ (by rw[y04,y1n];lia) (.mk (fs++[((row rows r).1,gs.map λg=>((o'.idxOf g:Nat):Int))]) o' _ _ _ (Ex.up (Ex.up e3 (e3.no hl)) hlf0) (by rw[z0c nof,z0c (nl so3)];exact so3) (by rw[z0c npf,z0c (nl sp3)];exact sp3) (by rw[z04,y0n];rfl) L2 (by rw[y04];exact hi'.1) ?_)⟩;refine⟨λq hq=>?_,λq hq=>?_,λq hq g hg=>?_⟩<;>rcases y0S.mp hq with h|h
    .exact F.perm q h
    .rw[y0w]at h;subst h;exact G.perm (row rows r) hrw
    .exact F.len q h
    .rw[y0w]at h;subst h;show(List.map _ _).length=n;rw[y00];exact hgl
    .have:=F.go q h g hg;lia
    .rw[y0w]at h;subst h;obtain⟨y,hy,rfl⟩:=y0f.mp hg;have:=y0Q (hmem y hy);lia
   .rintro g L acc ρ4 S4 h ih;generalize e:g::L=L' at h;obtain⟨dn,L',z,hg⟩:=h;cases L'<;>cases e;rename_i g L;have hgm:g∈o':=hmem g (by rw[hg];simp);refine⟨trivial,_,_,sp3,hk g,opt.of (by rw[z2n,if_pos ((z0C hi).mpr hgm),z5o hi,y2S]) ⟨?_,?_⟩⟩
    .rw[y00,y00];rw[hg,y04]at hgl;exact hz (by lia)
    .have:=ih _ _ S3 (.mk (dn++[g]) L (some (nm g)) (by rw[hg];simp));rw[y0n,y0n]at this;exact this
  .rintro g L ρ3 S3 h ih;generalize e:g::L=L' at h;obtain⟨dn,L',z,hg,e3,so3,sp3,sf3⟩:=h;cases L'<;>cases e;rename_i g L;refine⟨trivial,_,_,sp3,hk g,?_⟩;show cond ((z0o (prU 0 ((z0z o dn).map nm)) (nm g)).isSome != true) _ _;rw[z2n];have eu:z0z o (dn++[g])=z5l (z0z o dn) g:=z2f _ _ _;have hal:(z0z o dn).length<=4500:=by
    have:=z2a dn o;rw[hg,y04]at hgl;lia
   by_cases hm:g∈z0z o dn
   .rw[if_pos ((z0C hi).mpr hm)];exact ih _ _ (.mk (dn++[g]) L _ (by rw[hg];simp) e3 (by rw[eu,z1v hm];exact so3) (by rw[eu,z1v hm];exact sp3) sf3)
   .rw[if_neg λz=>hm ((z0C hi).mp z)];refine⟨_,.inl so3,_,_,sp3,hk g,by rw[z3K,y00];exact hz hal,⟨_,.inl ((z0c nop).trans so3)⟩,_,(z0c nop).trans so3,by rw[y00];exact hz hal,ih _ _ (.mk (dn++[g]) L _ (by rw[hg];simp) (Ex.up (Ex.up e3 hlp0) hlo) ?_ ?_ ?_)⟩
    .rw[z04,eu,z1w hm,y0n];rfl
    .rw[z0c nop.symm,z04,eu,z1w hm,y00,y0n,<-y00 (f:=nm),z6R λz=>hm ((z0C hi).mp z)];rfl
    .rw[z0c nof.symm,z0c npf.symm];exact sf3
 .have c:=y0C c;rw[y00,y00]at c;have e:o.length=fs.length:=by lia
  obtain⟨t,et⟩:=Ln.hd;have:1<=o.length:=by rw[et];simp
  exact q fs lf S1 ⟨by lia,by lia,F.perm,F.len,by rw[<-e];exact F.go⟩ (by lia) e1 hlf0 sf
end W
namespace W
open PySem L2 PySem.SeqAt Gu
variable[WW]{Z:Zx}
def Ex.refl(S:Sto):Ex S S:=λ_ _ h=>h
def Ex.trans{S S1 S2:Sto}(a:Ex S S1)(b:Ex S1 S2):Ex S S2:=λx o h=>b x o (a x o h)
def z1D{α:Type}{ck:Sto->Prop}{g:WX U}{te:WE}{k:En->List U->Sto->Prop}(L:List α)(f h:α->U){ρ:En}{S:Sto}(J:En->Prop)(h0:J ρ)(hz:L.length<=100000)(hck:∀S',Ex S S'->ck S')(hs:∀x∈L,∀ρ S',J ρ->Ex S S'->∀Qf:En->U->Sto->Prop,(∀ρ' S'',J ρ'->Ex S' S''->Qf ρ' (h x) S'')->g (f x) ρ S' λρ1 S1=>te ρ1 S1 (λu S3=>Qf ρ1 u S3) noQ)(hd:∀ρ S',J ρ->Ex S S'->k ρ (L.map h) S'):cmL ck g [] (em te) (L.map f) ρ S [] k:=by
 have go:∀(R dn:List α)(ρ:En)(S':Sto),L=dn++R->J ρ->Ex S S'->cmL ck g [] (em te) (R.map f) ρ S' (dn.map h) k:=by
  intro R;induction R with
  |nil=>intro dn ρ S' e j x;rw[y0j]at e;subst e;exact⟨hck S' x,hd ρ S' j x⟩
  |cons y R ih =>
   intro dn ρ S' e j x;refine⟨hck S' x,hs y (by rw[e];simp) ρ S' j x (λρ1 u S3=>(dn.map h).length<sizeLine/\cmL ck g [] (em te) (R.map f) ρ1 S3 (dn.map h++[u]) k) λρ' S'' j' x'=>⟨?_,?_⟩⟩
   .rw[y00];have:dn.length<=L.length:=by rw[e,y04];lia
    exact y0L (show dn.length<=100000 by lia) (by decide)
   .have:=ih (dn++[y]) ρ' S'' (by rw[e];simp) j' (x.trans x');rw[y0n]at this;exact this
 exact go L [] ρ S rfl h0 (.refl S)
inductive z84:Wsp
 |mk {S Q E} (a:Addr) (ks gs:List Int):isL S a (ks.map .int)->(∀g∈gs,0<=g/\g<(ks.length:Int))->gs.length<=1000->(∀S',Ex S S'->Q (uI' (gs.map λg=>ks.getD g.toNat 0)) S')->z84 [.ref a,uI' gs] S Q E
def zct:z0K ["kinds","goings"] (z0a zbN) ["going","kinds"] [none,some 0] (csc [(".0",.local),("going",.local),("kinds",.free)]):={}
def zdY(T:Z.Tx)(D:Z.fd "kinds_gone_to" zbN ["kinds","goings"]):Z.f "kinds_gone_to" 1 z84:=by
 refine wF ["kinds","goings"] D (λf cdv A outer s H E hr nd=>z05 (z0j (sTy T z11 y0o (z01 (z0D ⟨zct,rfl,λ_ _ _ _ _=>⟨(z07 0 zct.nd),.nil,(z1j rfl (z0m z19 (z00 1) (z00 0)))⟩,λg' e=>by cases e⟩ (z0G (z00 1) z0I)) z03)))) (λus S Q E h=>by cases h;rfl) ?_;rintro _ S Q E ⟨a,ks,gs,hl,hb,hz,q⟩;refine z1D gs U.int (λg=>.int (ks.getD g.toNat 0)) (λρ=>∃x,ρ=[x,some (.ref a)]) ⟨_,rfl⟩ (by lia) (λ_ _=>trivial) ?_ ?_
 .rintro g hg ρ S' ⟨x,rfl⟩ e Qf qf;obtain⟨g0,g1⟩:=hb g hg;have z:atI (ks.map U.int) g=some (.int (ks.getD g.toNat 0)):=by
   have:=z4m (f:=U.int) (xs:=ks) (i:=g.toNat) (x:=ks.getD g.toNat 0) (by rw[y0e (by lia)];simp[show g.toNat<ks.length by lia])
   rwa [show((g.toNat:Nat):Int)=g by lia]at this
  have w:=qf [some (.int g),some (.ref a)] S' ⟨_,rfl⟩ (.refl _);exact⟨_,e.l hl,opt.of z w⟩
 .rintro ρ S' ⟨x,rfl⟩ e l hl2;refine⟨_,.inl z04,?_⟩;rw[show(gs.map λg=>U.int (ks.getD g.toNat 0))=(gs.map λg=>ks.getD g.toNat 0).map U.int by rw[y0W];rfl];exact q _ (Ex.up e (e.no hl2))
def z8j{X:Cx}:z5U X noX:=λσ pins H s e s' I h=>by obtain⟨ea,C,H',_,_,_,_,_,_,q⟩:=h;exact q.elim
def z1N(ns:List Int):kyL (ns.map U.int)=true/\z6t (ns.map U.int)=0:=by
 induction ns with
 |nil=>exact⟨rfl,rfl⟩
 |cons n ns ih=>simp only[y0m,kyL,z6t,ky,dep,ih.1,ih.2];exact⟨rfl,rfl⟩
def stU(p:Int × List Int):U:=.tup [.int p.1,uI' p.2]
def zdy(ns:List Int):tk (uI' ns)=true:=by obtain⟨h1,h2⟩:=z1N ns;simp only[uI',tk,isT,ky,dep,h1,h2];decide
def zi1(p:Int × List Int):tk (stU p)=true:=by obtain⟨h1,h2⟩:=z1N p.2;simp only[stU,uI',tk,isT,ky,kyL,dep,z6t,h1,h2];decide
theorem z2w:∀{a b:List Int},uI' a=uI' b->a=b
 |[],[],_=>rfl
 |[],_::_,h=>by simp[uI']at h
 |_::_,[],h=>by simp[uI']at h
 |x::a,y::b,h=>by simp only[uI',y0m,U.tup.injEq,List.cons.injEq,U.int.injEq]at h;rw[h.1,z2w (a:=a) (b:=b) (by simp only[uI',h.2])]
def zcY(ks:List Int)(rows:List Row):prs (ks.map U.int) (rows.map uR)=(ks.zip rows).map λp=>.tup [.int p.1,uR p.2]:=by unfold prs;rw[List.zipWith_map,List.zip,List.map_zipWith]
inductive z6E:Wsp
 |mk {S Q E} (a:Addr) (rows:List Row) (n:Nat):isL S a (rows.map uR)->z1i n rows->n<=60->rows.length<=60->(∀(xs:List U) l S',xs.length=rows.length->Ex S S'->S l=none->S' l=some (.lst ((z5c xs).map U.int))->Q (.ref l) S')->z6E [.ref a] S Q E
def zhd:z0K ["rows","kinds","count"] (z0a z5s) ["kind","rearranging","goings","kinds"] [none,none,none,some 1] (csc [(".0",.local),("kind",.local),("rearranging",.local),("goings",.local),("kinds_gone_to",.globalImplicit),("kinds",.free)]):={}
def ziJ:z0K ["rows","kinds","count"] (z0a z5s) ["rearranging","goings"] [none,none] (csc [(".0",.local),("rearranging",.local),("goings",.local)]):={}
inductive iK(S:Sto)(a:Addr)(rows:List Row):Nat->En->Sto->Prop
 |mk {S1} (c:Int) (xs:List U) (l:Addr):Ex S S1->S l=none->S1 l=some (.lst ((z5c xs).map U.int))->xs.length=rows.length->0<=c->iK S a rows (rows.length-c.toNat) [some (.ref a),some (.ref l),some (.int c)] S1
theorem zcC:∀{ks:List Int},ks≠[]->∃M∈ks,∀k∈ks,k<=M
 |[],h=>absurd rfl h
 |[a],_=>⟨a,by simp⟩
 |a::b::r,_=>by
  obtain⟨M,h,q⟩:=zcC (ks:=b::r) (by simp);rcases Int.le_total a M with z|z
  .exact⟨M,y0g _ h,λk hk=>(y0l.mp hk).elim (λe=>e▸z) (q k)⟩
  .exact⟨a,by simp,λk hk=>(y0l.mp hk).elim (λe=>e▸y3h _) λh=>Int.le_trans (q k h) z⟩
def z9Q{xs:List U}{k:Int}(h:k∈z5c xs):0<=k/\k<((z2K xs).length:Int):=by unfold z5c at h;obtain⟨x,hx,rfl⟩:=y0f.mp h;have:=y0Q (show x∈z2K xs from z1m.mpr (.inr hx));lia
def z6U(xs:List U):(z2K xs).length<=xs.length:=by have:=z2a xs [];unfold z2K;simpa using this
def z7N(xs:List U):(z5c xs).length=xs.length:=by unfold z5c;rw[y00]
def zc3(T:Z.Tx)(JF:Z.f "numbered" 1 ze5)(Jf:Z.f "kinds_gone_to" 1 z84)(D:Z.fd "kinds_of_rows" z5s ["rows"]):Z.f "kinds_of_rows" 2 z6E:=by
 refine wF ["rows","kinds","count"] D (λf cdv A outer s H E hr nd=>z02 (z0d 1 nd (z0b JF (hr.mono (by decide)) z0h (z01 (z0D ⟨ziJ,rfl,λ_ _ _ _ _=>⟨(z0F rfl (z09 (z07 0 ziJ.nd) (z09 (z07 1 ziJ.nd) z0r))),.nil,(z1j rfl (z00 0))⟩,λg' e=>by cases e⟩ (z0G (z00 0) z0I)) z03))) (z02 (z0d 2 nd z06) (z02 (z14 y0s (z0k (z16 z4P) (z00 2) (z08 z15 (sBu T (zgG rfl) PyProof.Rows.boot_max (z01 (z00 1) z03)) z06)) (z02 (z0d 2 nd (z08 z15 (sBu T (zgG rfl) PyProof.Rows.boot_max (z01 (z00 1) z03)) z06)) (z02 (z0L (z0k (z16 z8n) (z00 2) (zeF T rfl rfl)) (z05 (z0N T.x rfl z0p)) z0l) (z05 (z0d 1 nd (z0b JF (hr.mono (by decide)) z0h (z01 (z0D ⟨zhd,rfl,λ_ _ _ _ _=>⟨(z0F rfl (z09 (z07 0 zhd.nd) (z09 (z0F rfl (z09 (z07 1 zhd.nd) (z09 (z07 2 zhd.nd) z0r))) z0r))),.nil,(z1j rfl (z0t (z01 (z00 0) (z01 (z0b Jf (hr.mono (by decide)) z8j (z01 (z00 3) (z01 (z00 2) z03))) z03))))⟩,λg' e=>by cases e⟩ (zeY (T.b _ (by decide)) (z01 (z00 1) (z01 (z00 0) z03)))) z03))))))) (z05 (z0j (z00 1)))))) (λus S Q E h=>by cases h;rfl) ?_;rintro _ S Q E ⟨a,rows,n,hl,G,hn,h6,q⟩;have h1:=G.some;refine⟨_,hl,z1D rows uR (λr=>uI' r.1) (λρ=>∃x y,ρ=[x,y]) ⟨_,_,rfl⟩ (by lia) (λS' e=>e.l hl) ?_ ?_⟩
 .rintro r _ ρ S' ⟨x,y,rfl⟩ e Qf qf;exact⟨rfl,qf [some (uI' r.1),some (uI' r.2)] S' ⟨_,_,rfl⟩ (.refl _)⟩
 rintro ρ S1 ⟨x,y,rfl⟩ e1 l1 hl1;refine .mk l1 _ (.inl z04) (λx hx=>by obtain⟨r,_,rfl⟩:=y0f.mp hx;exact zdy _) (by rw[y00];lia) λl2 S2 e2 hl2 hS2=>?_;have ea:=Ex.up (o:=.lst (rows.map λr=>uI' r.1)) e1 (e1.no hl1);refine z3J (iK S a rows) (rows.length-(0:Int).toNat) (.mk 0 _ l2 (ea.trans e2) (ea.no hl2) hS2 (y00 ..) (y3h _)) ?_;rintro m ρ S3 ⟨c,xs,l,e3,hl3,hS3,hx,hc0⟩ again ag;have hkl:=z7N xs;obtain⟨M,x1,x2⟩:=zcC (ks:=z5c xs) (by intro z;rw[z]at hkl;simp at hkl;lia);have hM:=z9Q x1;have hu:=z6U xs;refine⟨_,M,.inl hS3,x1,x2,?_⟩;show cond (decide (c<M+1)) _ _;refine z0x (λcc=>?_) (λcc=>q xs l S3 hx e3 hl3 hS3);have cc:=y0i cc;refine⟨_,M,.inl hS3,x1,x2,?_⟩;show cond (decide (M+1>60)) _ _;refine z0x (λcx=>by have:=y0i cx;lia) (λ_=>?_);refine⟨_,_,.inl hS3,e3.l hl,?_⟩;rw[zcY];refine z1D ((z5c xs).zip rows) _ (λp=>stU (p.1,p.2.2.map λg=>(z5c xs).getD g.toNat 0)) (λρ=>∃x y z,ρ=[x,y,z,some (.ref l)]) ⟨_,_,_,rfl⟩ (by rw[List.length_zip];lia) (λS' e=>⟨.inl (e _ _ hS3),(e3.trans e).l hl⟩) ?_ ?_
 .rintro⟨k,r⟩ hp ρ S4 ⟨x,y,z,rfl⟩ e4 Qf qf;have hr:=(y2r hp).2;refine⟨rfl,rfl,.mk l _ r.2 (.inl (e4 _ _ hS3)) (λg hg=>by rw[hkl,hx];exact G.go r hr g hg) (by rw[G.len r hr];lia) λS5 e5=>⟨show 2<=sizeLine by decide,qf [some (.int k),some (uI' r.1),some (uI' r.2),some (.ref l)] S5 ⟨_,_,_,rfl⟩ e5⟩⟩
 rintro ρ S4 ⟨x,y,z,rfl⟩ e4 l5 hl5;have e34:=e3.trans e4;have e5:=Ex.up (o:=.lst (((z5c xs).zip rows).map λp=>stU (p.1,p.2.2.map λg=>(z5c xs).getD g.toNat 0))) e34 (e34.no hl5);refine .mk l5 _ (.inl z04) (λx hx=>by obtain⟨r,_,rfl⟩:=y0f.mp hx;exact zi1 _) (by rw[y00,List.length_zip];lia) λl6 S6 e6 hl6 hS6=>?_;exact ag _ _ S6 (by lia) (.mk (M+1) _ l6 (e5.trans e6) (e5.no hl6) hS6 (by rw[y00,List.length_zip];lia) (by lia))
end W
namespace W
open PySem L2 PySem.SeqAt PySem.Spec Gu
variable[WW]{Z:Zx}
inductive zej:Wsp
 |mk {S Q E} (x:Str):x.length<=1000000->(∀S',Ex S S'->Q (.bl (z1S x)) S')->zej [.str x] S Q E
def ziV:z0K ["text"] (z0a z4G) ["sign"] [none] (csc [(".0",.local),("sign",.local),("SMALL_LETTERS",.globalImplicit)]):={}
def z8z(T:Z.Tx)(D:Z.fd "is_name" z4G ["text"]):Z.f "is_name" 1 zej:=by
 refine wF ["text"] D (λf cdv A outer s H E hr nd=>z05 (z0j (z41 (z4A (z16 z2Q) (z16 z2Q) z06 (sBu T z0E y08 (z01 (z00 0) z03)) (zeF T rfl rfl)) (z3A (sBu T (zfs rfl) PyProof.Rows.boot_all (z01 (z0D ⟨ziV,rfl,λ_ _ _ _ _=>⟨(z07 0 ziV.nd),.nil,(z1j rfl (z3X zhj (z00 0) (z7X T rfl rfl)))⟩,λg' e=>by cases e⟩ (z0G (z00 0) z0I)) z03)))))) (λus S Q E h=>by cases h<;>rfl) ?_;rintro _ S Q E ⟨x,hx,q⟩;have hz:x.length<=sizeLine:=y0k hx (by decide);unfold z1S at q;refine⟨hz,?_⟩;show cond (decide ((1:Int)<=(x.length:Int))) _ _;refine z0x (λc1=>?_) (λc1=>?_)
 .show cond (decide ((x.length:Int)<=12)) _ _;have c1:=y0i c1;refine z0x (λc2=>?_) (λc2=>?_)
  .have c2:=y0i c2;refine z1D (sg x) (λc=>U.str ⟨#[c]⟩) (λc=>U.bl (decide (97<=c/\c<=122))) (λρ=>∃u,ρ=[u]) ⟨_,rfl⟩ (by rw[z7w];lia) (λ_ _=>trivial) ?_ ?_
   .rintro c _ ρ S' ⟨u,rfl⟩ e Qf qf;have w:=qf [some (.str ⟨#[c]⟩)] S' ⟨_,rfl⟩ (.refl _);rw[<-zby]at w;exact w
   .rintro ρ S' ⟨u,rfl⟩ e l hl;refine⟨(sg x).map λc=>decide (97<=c/\c<=122),.inl (by rw[z04,y0W];rfl),?_⟩;simp only[y18 (show 1<=x.length/\x.length<=12 by lia),Bool.true_and]at q;rw[List.all_map];exact q _ (Ex.up e (e.no hl))
  .have c2:=y0C c2;have w:=q S (.refl S);rw[y0u (show ¬(1<=x.length/\x.length<=12)by lia),Bool.false_and]at w;exact w
 .have c1:=y0C c1;have w:=q S (.refl S);rw[y0u (show ¬(1<=x.length/\x.length<=12)by lia),Bool.false_and]at w;exact w
def txU:U->Str
 |.int i=>zaA i
 |.str x=>x
 |_=>Str.empty
def goP:U->Prop
 |.int i=>i.natAbs<10^60
 |.str x=>x.length<=61
 |_=>False
def goP.len{u:U}(h:goP u):(txU u).length<=61:=by
 cases u<;>simp only[goP]at h
 .exact(z2c h).2
 .exact h
inductive zeH:Wsp
 |mk {S Q E} (u:U):goP u->Q (.str (txU u)) S->zeH [u] S Q E
def z2J(T:Z.Tx)(D:Z.fd "plainly_written" z4U ["part"]):Z.f "plainly_written" 1 zeH:=by
 refine wF ["part"] D (λf cdv A outer s H E hr nd=>z05 (z0j (sTy T zfb y1a (z01 (z00 0) z03)))) (λus S Q E h=>by cases h<;>rfl) ?_;rintro _ S Q E ⟨u,g,q⟩;cases u<;>simp only[goP]at g
 .exact⟨z2s (by lia),q⟩
 .exact q
def OkW(w:List Int):Prop:=w.length<=100000/\∀i∈w,0<=i/\i<10^18
inductive z7E:Wsp
 |mk {S Q E} (w:List Int):OkW w->(∀S',Ex S S'->Q (.str (z1s w)) S')->z7E [uI' w] S Q E
def zga:z0K ["word"] (z0a z54) ["letter"] [none] (csc [(".0",.local),("letter",.local),("str",.globalImplicit)]):={}
def z3I(T:Z.Tx)(D:Z.fd "word_written" z54 ["word"]):Z.f "word_written" 1 z7E:=by
 refine wF ["word"] D (λf cdv A outer s H E hr nd=>z05 (z0j (z8V (z0k (z16 z8n) (sBu T z0E y08 (z01 (z00 0) z03)) z06) (zc5 z0p (z01 (z0D ⟨zga,rfl,λ_ _ _ _ _=>⟨(z07 0 zga.nd),.nil,(z1j rfl (sTy T zfb y1a (z01 (z00 0) z03)))⟩,λg' e=>by cases e⟩ (z0G (z00 0) z0I)) z03)) (z7X T rfl rfl)))) (λus S Q E h=>by cases h<;>rfl) ?_;rintro _ S Q E ⟨w,hw,q⟩;show cond (decide ((((w.map U.int).length:Nat):Int)>0)) _ _;rw[y00];unfold z1s at q;refine z0x (λc=>?_) (λc=>?_)
 .have c:=y0i c;rw[if_neg (λz=>by rw[z]at c;simp at c)]at q;refine⟨trivial,z1D w U.int (λi=>.str (zaA i)) (λρ=>∃u,ρ=[u]) ⟨_,rfl⟩ hw.1 (λ_ _=>trivial) ?_ ?_⟩
  .rintro i hi ρ S' ⟨u,rfl⟩ e Qf qf;have:=hw.2 i hi;exact⟨z2s (by lia),qf [some (.int i)] S' ⟨_,rfl⟩ (.refl _)⟩
  .rintro ρ S' ⟨u,rfl⟩ e l hl;refine⟨w.map zaA,.inl (by rw[z04,y0W];rfl),?_,q _ (Ex.up e (e.no hl))⟩;have h:=(z29 (y:=str "") (xs:=w.map zaA) (B:=61) λp hp=>by obtain⟨i,hi,rfl⟩:=y0f.mp hp;have:=hw.2 i hi;exact(z2c (by lia)).2).2;have:=hw.1;refine y0k h ?_;rw[y00];show w.length*(61+0)<=_;lia
 .have c:=y0C c;rw[if_pos (y0F.mp (by lia))]at q;exact q S (.refl S)
abbrev z8a:=List Int × List U
def uRG(r:z8a):U:=.tup [uI' r.1,.tup r.2]
structure OkR(r:z8a):Prop where
 fw:r.1.length<=20
 fig:∀i∈r.1,0<=i/\i<10^18
 few:r.2.length<=20
 go:∀g∈r.2,goP g
def ze4(r:z8a):Str:=Str.join (str " ") (z1s r.1::r.2.map txU)
def zae(rs:List z8a):Str:=Str.join (str " / ") (rs.map ze4)
def z2y{w:List Int}(h:∀i∈w,0<=i/\i<10^18):(z1s w).length<=w.length*61+1:=by
 unfold z1s;split
 .rename_i z;subst z;decide +kernel
 .have h:=(z29 (y:=str "") (xs:=w.map zaA) (B:=61) λp hp=>by obtain⟨i,hi,rfl⟩:=y0f.mp hp;have:=h i hi;exact(z2c (by lia)).2).1;rw[y00]at h;exact y0k h (by show w.length*(61+0)<=_;lia)
def z4B{r:z8a}(h:OkR r):(ze4 r).length<=27321/\((z1s r.1::r.2.map txU).map (·.length)).sum+(z1s r.1::r.2.map txU).length*(str " ").length<=27321:=by
 have h1:=z2y h.fig;have f1:=h.fw;have f2:=h.few;have hb:=z29 (y:=str " ") (xs:=z1s r.1::r.2.map txU) (B:=1300) λp hp=>by
  rcases y0l.mp hp with rfl|hp
  .lia
  .obtain⟨g,hg,rfl⟩:=y0f.mp hp;have:=(h.go g hg).len;lia
 have e:(z1s r.1::r.2.map txU).length*(1300+(str " ").length)<=27321:=by rw[y0b,y00];show(r.2.length+1)*1301<=_;lia
 exact⟨y0k hb.1 e,y0k hb.2 e⟩
inductive zb5:Wsp
 |mk {S Q E} (r:z8a):OkR r->(∀S',Ex S S'->Q (.str (ze4 r)) S')->zb5 [uRG r] S Q E
def zf3:z0K ["row","rearranging","goings"] (z0a z74) ["going"] [none] (csc [(".0",.local),("going",.local),("plainly_written",.globalImplicit)]):={}
def z4b(T:Z.Tx)(Jm:Z.f "word_written" 1 z7E)(Ji:Z.f "plainly_written" 1 zeH)(D:Z.fd "row_written" z74 ["row"]):Z.f "row_written" 2 zb5:=by
 refine wF ["row","rearranging","goings"] D (λf cdv A outer s H E hr nd=>z02 (z17 (z00 0) (z0F rfl (z09 (z07 1 nd) (z09 (z07 2 nd) z0r)))) (z05 (z0j (zc5 z0p (z01 (z08 z15 (z1g (z01 (z0b Jm (hr.mono (by decide)) z0h (z01 (z00 1) z03)) z03)) (z0D ⟨zf3,rfl,λ_ _ _ _ _=>⟨(z07 0 zf3.nd),.nil,(z1j rfl (z0b Ji (hr.mono (by decide)) z8j (z01 (z00 0) z03)))⟩,λg' e=>by cases e⟩ (z0G (z00 2) z0I))) z03))))) (λus S Q E h=>by cases h<;>rfl) ?_;rintro _ S Q E ⟨r,hr,q⟩;have f1:=hr.fw;have f2:=hr.few;refine⟨rfl,trivial,.mk r.1 ⟨by lia,hr.fig⟩ λS1 e1=>⟨show 1<=sizeLine by decide,λl1 hl1=>?_⟩⟩;have e2:=Ex.up (o:=.lst [.str (z1s r.1)]) e1 (e1.no hl1);have z2:up S1 l1 (.lst [.str (z1s r.1)]) l1=_:=z04;generalize up S1 l1 (.lst [.str (z1s r.1)])=S2 at e2 z2⊢;have:=z1D r.2 id (λg=>.str (txU g)) (λρ=>∃u,ρ=[u]) (ρ:=[none]) (S:=S2) ⟨_,rfl⟩ (by lia) (ck:=λ_=>True) (λ_ _=>trivial) (g:=gN 0) (te:=z8I zeH (z3b (z6C 0) zay)) (k:=λ_ acc S3=>nw (.lst acc) S3 λu S4=>zim (.ref l1) u S4 λu S5=>z9y (.str (str " ")) [u] S5 Q) ?_ ?_
 .rw[List.map_id]at this;exact this
 .rintro g hg ρ S' ⟨u,rfl⟩ e Qf qf;exact .mk g (hr.go g hg) (qf [some g] S' ⟨_,rfl⟩ (.refl _))
 .rintro ρ S' ⟨u,rfl⟩ e l hl;refine⟨_,_,Ex.up (.refl _) hl _ _ (e _ _ z2),z04,y0k (show 1+(r.2.map λg=>U.str (txU g)).length<=21 by rw[y00];lia) (by decide),λl4 hl4=>⟨z1s r.1::r.2.map txU,.inl (by rw[z04,y0m,y0W];rfl),y0k (z4B hr).2 (by decide),q _ ?_⟩⟩;have e3:=Ex.up (o:=.lst (r.2.map λg=>U.str (txU g))) (e2.trans e) ((e2.trans e).no hl);exact Ex.up e3 (e3.no hl4)
def zh2(rs:List z8a):Prop:=rs.length<=400/\∀r∈rs,OkR r
inductive isS(S:Sto):U->List U->Prop
 |lst {a us}:isL S a us->isS S (.ref a) us
 |tup {us}:isS S (.tup us) us
def isS.ex{S S':Sto}{u:U}{us:List U}(h:isS S u us)(e:Ex S S'):isS S' u us:=by
 cases h with
 |lst h=>exact .lst (e.l h)
 |tup=>exact .tup
inductive zaq:Wsp
 |mk {S Q E} (u:U) (rs:List z8a):isS S u (rs.map uRG)->zh2 rs->(∀S',Ex S S'->Q (.str (zae rs)) S')->zaq [u] S Q E
def zgP:z0K ["rows"] (z0a z4Y) ["row"] [none] (csc [(".0",.local),("row",.local),("row_written",.globalImplicit)]):={}
def z3i(T:Z.Tx)(JD:Z.f "row_written" 2 zb5)(D:Z.fd "rows_written" z4Y ["rows"]):Z.f "rows_written" 3 zaq:=by
 refine wF ["rows"] D (λf cdv A outer s H E hr nd=>z05 (z0j (zc5 z0p (z01 (z0D ⟨zgP,rfl,λ_ _ _ _ _=>⟨(z07 0 zgP.nd),.nil,(z1j rfl (z0b JD (hr.mono (by decide)) z8j (z01 (z00 0) z03)))⟩,λg' e=>by cases e⟩ (z0G (z00 0) z0I)) z03)))) (λus S Q E h=>by cases h<;>rfl) ?_;rintro _ S Q E ⟨u,rs,hu,hr,q⟩;have key:∀ck:Sto->Prop,(∀S',Ex S S'->ck S')->cmL ck (gN 0) [] (em (z8I zb5 (z3b (z6C 0) zay))) (rs.map uRG) [none] S [] λ_ acc S3=>nw (.lst acc) S3 λu S4=>z9y (.str (str " / ")) [u] S4 Q:=λck hck=>?_
 .cases hu with
  |lst h=>exact⟨trivial,_,h,key _ λS' e=>e.l h⟩
  |tup=>exact⟨trivial,key _ λ_ _=>trivial⟩
 refine z1D rs uRG (λr=>.str (ze4 r)) (λρ=>∃u,ρ=[u]) ⟨_,rfl⟩ (by have:=hr.1;lia) hck ?_ ?_
 .rintro r hm ρ S' ⟨u,rfl⟩ e Qf qf;exact .mk r (hr.2 r hm) λS'' e'=>qf [some (uRG r)] S'' ⟨_,rfl⟩ e'
 .rintro ρ S' ⟨u,rfl⟩ e l hl;refine⟨rs.map ze4,.inl (by rw[z04,y0W];rfl),?_,q _ (Ex.up e (e.no hl))⟩;have h:=(z29 (y:=str " / ") (xs:=rs.map ze4) (B:=27321) λp hp=>by obtain⟨r,hm,rfl⟩:=y0f.mp hp;exact(z4B (hr.2 r hm)).1).2;have:=hr.1;refine y0k h ?_;rw[y00];show rs.length*27324<=_;lia
def wrT:List (Str × Str):=[("name","plainly_written"),("number","plainly_written"),("word","word_written"),("ring","word_written"),("rows","rows_written")]
structure Md(Z:Zx)(S:Sto):Prop where
 dd:z2O Z.K (Z.da "DEEDS")=true
 dq:∀p∈z2d,∃t,PySem.W.nsIn Z.K (Z.da "DEEDS") p.1=some (some (.ref t))/\zeg Z.K t p.2=true
 dw:z2O Z.K (Z.da "WRITERS")=true
 wq:∀p∈wrT,PySem.W.nsIn Z.K (Z.da "WRITERS") p.1=some (some (.ref (Z.fa p.2)))
def Md.any{S S':Sto}(h:Md Z S):Md Z S':=⟨h.dd,h.dq,h.dw,h.wq⟩
def Md.ex{S S':Sto}(h:Md Z S)(_:Ex S S'):Md Z S':=h.any
inductive z47(S:Sto):Str->U->Str->Prop
 |pl {k u}:k="name"\/k="number"->goP u->z47 S k u (txU u)
 |wd {k w}:k="word"\/k="ring"->OkW w->z47 S k (uI' w) (z1s w)
 |rs {u rs}:isS S u (rs.map uRG)->zh2 rs->z47 S "rows" u (zae rs)
theorem z47.ex{S S':Sto}{k:Str}{u:U}{x:Str}(h:z47 S k u x)(e:Ex S S'):z47 S' k u x:=by
 cases h with
 |pl a b=>exact .pl a b
 |wd a b=>exact .wd a b
 |rs a b=>exact .rs (a.ex e) b
theorem z47.len{S:Sto}{k:Str}{u:U}{x:Str}(h:z47 S k u x):x.length<=10930000:=by
 cases h with
 |pl a b=>have:=b.len;lia
 |wd a b=>have:=z2y b.2;have:=b.1;lia
 |@rs u rs a b =>
  have h:=(z29 (y:=str " / ") (xs:=rs.map ze4) (B:=27321) λp hp=>by obtain⟨r,hm,rfl⟩:=y0f.mp hp;exact(z4B (b.2 r hm)).1).1;have:=b.1;refine y0k h ?_;rw[y00];show rs.length*27324<=_;lia
inductive z2Y(S:Sto):List Str->List U->List Str->Prop
 |nil:z2Y S [] [] []
 |cons {k u x ks us xs}:z47 S k u x->z2Y S ks us xs->z2Y S (k::ks) (u::us) (x::xs)
def z2S(name:Str)(xs:List Str):Str:=Str.join (str " ") (name::xs)
inductive zaL(Z:Zx):Wsp
 |mk {S Q E} (name:Str) (ks:List Str) (ds:List U) (xs:List Str):Md Z S->(name,ks)∈z2d->z2Y S ks ds xs->((name::xs).map (·.length)).sum+(name::xs).length<=16777216->(∀S',Ex S S'->Q (.str (z2S name xs)) S')->zaL Z [.tup (.str name::ds)] S Q E
inductive zgf(Z:Zx):Addr->Wsp->Prop
 |pl:zgf Z (Z.fa "plainly_written") zeH
 |wd:zgf Z (Z.fa "word_written") z7E
 |rs:zgf Z (Z.fa "rows_written") zaq
end W
namespace W
open PySem L2 PySem.SeqAt Gu
variable[WW]{Z:Zx}
def uG(g:List Row):U:=.tup (g.map uR)
inductive z6y:Wsp
 |mk {S Q E} (f:Addr) (nm:Int->U) (rows:List Row) (n:Nat):zjm S f nm rows->(∀x y,nm x=nm y->x=y)->(∀r,kok (isT (nm 0)) (nm r)=true)->z1i n rows->n<=60->rows.length<=60->(∀g S',z1i n g->g.length<=60->Ex S S'->Q (uG g) S')->z6y [nm 0,.ref f] S Q E
def lr(ks:List Int)(r:Row):Row:=(r.1,r.2.map λg=>ks.getD g.toNat 0)
inductive iL'(S:Sto)(fs:List Row)(xs:List U)(u v:Option U)(lf lk ll:Addr):List U->En->Sto->Prop
 |mk {S1} (dn L:List U) (F G:List Row) (x y z:Option U):Ex S S1->S1 ll=some (.lst (G.map uR))->xs=dn++L->F.length=L.length->(∀r∈F,r∈fs)->G.length=(z2K dn).length->(∀r∈G,∃q∈fs,r=lr (z5c xs) q) ->
  iL' S fs xs u v lf lk ll (prs (F.map uR) (L.map λk=>.int ((z2K xs).idxOf k:Nat))) [u,v,some (.ref lf),some (.ref lk),some (.ref ll),x,y,z] S1
def zaF(T:Z.Tx)(JA:Z.f "rows_come_to" 5 za4)(Jp:Z.f "kinds_of_rows" 2 z6E)(Jf:Z.f "kinds_gone_to" 1 z84)(D:Z.fd "least_form" z9c ["first","row_at"]):Z.f "least_form" 6 z6y:=by
 refine wF ["first","row_at","found","kinds","least","rearranging","goings","kind"] D (λf cdv A outer s H E hr nd=>z02 (z0d 2 nd (z0b JA (hr.mono (by decide)) z0h (z01 (z00 0) (z01 (z00 1) z03)))) (z02 (z0d 3 nd (z0b Jp (hr.mono (by decide)) z0h (z01 (z00 2) z03))) (z02 (z0d 4 nd (z1g z03)) (z02 (z28 y0s rfl (zeY (T.b _ (by decide)) (z01 (z00 2) (z01 (z00 3) z03))) (z0F rfl (z09 (z0F rfl (z09 (z07 5 nd) (z09 (z07 6 nd) z0r))) (z09 (z07 7 nd) z0r))) (z05 (z0L (z0k (z2o (z2p hr)).1 (z00 7) (sBu T z0E y08 (z01 (z00 4) z03))) (z05 (z0g (z5H y0M y1s y1t z2C (λ_ _ _ _ _=>z4O) (z00 4) (z01 (z0t (z01 (z00 5) (z01 (z0b Jf (hr.mono (by decide)) z0h (z01 (z00 3) (z01 (z00 6) z03))) z03))) z03)))) z0l))) (z05 (z0j (sTy T z11 y0o (z01 (z00 4) z03)))))))) (λus S Q E h=>by cases h;rfl) ?_;rintro _ S Q E ⟨f,nm,rows,n,ht,hi,hk,G,hn,h6,q⟩;refine .mk f nm rows n ht hi hk G hn λfs lf S1 GF hfl e1 hlf hS1=>?_;refine .mk lf fs n (.inl hS1) GF hn (by lia) λxs lk S2 hx e2 hlk hS2=>?_;have hS1':=e2 _ _ hS1;have e12:=e1.trans e2;have hkl:=z7N xs;have hu:=z6U xs;refine⟨show 0<=sizeLine by decide,λll hll=>?_⟩;have e0:=Ex.up (o:=.lst []) (.refl S2) hll;have st:=iL'.mk (S:=S2) (xs:=xs) (u:=some (nm 0)) (v:=some (.ref f)) (lf:=lf) (lk:=lk) [] xs fs [] none none none e0 z04 rfl hx.symm (λ_ h=>h) rfl (by simp);rw[show(xs.map λk=>U.int ((z2K xs).idxOf k:Nat))=(z5c xs).map U.int by unfold z5c;rw[y0W];rfl]at st;refine⟨_,_,.inl (e0 _ _ hS1'),.inl (e0 _ _ hS2),z27 (iL' S2 fs xs _ _ lf lk ll) st ?_ ?_⟩
 .rintro ρ S3 h;generalize e:([]:List U)=L at h;obtain⟨dn,L,F,g,x,y,z,e3,hS3,hd,hF,_,hg,hr⟩:=h;have hl:=y2c List.length e;rw[z6W,y00,y00,y1o]at hl;have hL:L=[]:=y0F.mp (by lia);subst hL;rw[y0j]at hd;subst hd;have h1:=GF.some;refine⟨⟨.inl (e3 _ _ hS1'),.inl (e3 _ _ hS2)⟩,_,.inl hS3,q g S3 ⟨by lia,?_,λr h=>?_,λr h=>?_,λr h y hy=>?_⟩ (by lia) (e12.trans e3)⟩
  .rw[hg];cases xs with
   |nil=>simp at hx;lia
   |cons a r=>exact List.length_pos_of_mem (show a∈z2K (a::r)from z1m.mpr (.inr (by simp)))
  .obtain⟨p,hp,rfl⟩:=hr r h;exact GF.perm p hp
  .obtain⟨p,hp,rfl⟩:=hr r h;show(List.map _ _).length=n;rw[y00];exact GF.len p hp
  .obtain⟨p,hp,rfl⟩:=hr r h;obtain⟨i,hi,rfl⟩:=y0f.mp hy;have:=GF.go p hp i hi;rw[hg,y09,y0e (show i.toNat<(z5c xs).length by lia)];exact z9Q (y13 _)
 .rintro w L' ρ S3 h ih;generalize e:w::L'=L0 at h;obtain⟨dn,L,F,g,x,y,z,e3,hS3,hd,hF,hFm,hg,hr⟩:=h;cases L with
  |nil=>cases F<;>cases e
  |cons k L =>
  cases F with
  |nil=>simp at hF
  |cons r F =>
  obtain⟨rfl,rfl⟩:=List.cons.inj e;have hrm:=hFm r (by simp);have hgl:g.length<=xs.length:=by have:=z6U dn;rw[hd,y04];lia
  refine⟨⟨.inl (e3 _ _ hS1'),.inl (e3 _ _ hS2)⟩,rfl,rfl,_,.inl hS3,rfl,?_⟩;show cond (false != eqU (.int _) (.int ((g.map uR).length:Nat))) _ _;rw[y00];have eu:z2K (dn++[k])=z5l (z2K dn) k:=by unfold z2K;exact z2f _ _ _
  obtain⟨m,em⟩:∃m,z2K xs=z5l (z2K dn) k++m:=by rw[<-eu,hd,show dn++k::L=(dn++[k])++L by simp];unfold z2K z0z;rw[List.foldl_append];exact z2b _ _
  have hF':F.length=L.length:=by simpa using hF
  have hd':xs=(dn++[k])++L:=by rw[hd];simp
  by_cases c:k∈z2K dn
  .have hlt:=y0Q c;rw[z1v c]at em eu;rw[show(false != eqU (.int ((z2K xs).idxOf k:Nat)) (.int (g.length:Nat)))=false by rw[em,z5w c];simp[eqU];lia];exact ih _ _ (.mk (dn++[k]) L F g _ _ _ e3 hS3 hd' hF' (λr h=>hFm r (by simp[h])) (by rw[eu];exact hg) hr)
  .rw[z1w c]at em eu;rw[show(false != eqU (.int ((z2K xs).idxOf k:Nat)) (.int (g.length:Nat)))=true by rw[em,z5w (by simp),z9k c];simp[eqU];lia];refine⟨⟨_,.inl hS3⟩,.mk lk (z5c xs) r.2 (.inl (e3 _ _ hS2)) (λi hi=>by rw[hkl,hx];exact GF.go r hrm i hi) (by rw[GF.len r hrm];lia) λS4 e4=>⟨show 2<=sizeLine by decide,_,e4 _ _ hS3,by rw[y00];exact y0L (show g.length<=4500 by lia) (by decide),ih _ _ (.mk (dn++[k]) L F (g++[lr (z5c xs) r]) _ _ _ (Ex.up (e3.trans e4) hll) ?_ hd' hF' (λr h=>hFm r (by simp[h])) (by rw[eu,y04,y04,hg];rfl) λp hp=>?_)⟩⟩
   .rw[z04,y0n];rfl
   .rcases y0S.mp hp with h|h
    .exact hr p h
    .exact⟨r,hrm,y0w.mp h⟩
end W
namespace W
open PySem L2 PySem.SeqAt Gu
variable[WW]{Z:Zx}
inductive z7F:Wsp
 |num {S Q E} (nm:Str) (g:Int):(∀S',Ex S S'->Q (.tup [.str nm,.int g]) S')->z7F [.str nm,.int g] S Q E
 |txt {S Q E} (nm t:Str):(∀S',Ex S S'->Q (.tup [.str t,.int 0]) S')->z7F [.str nm,.str t] S Q E
def zaO(T:Z.Tx)(D:Z.fd "place_gone_to" z23 ["name","going"]):Z.f "place_gone_to" 1 z7F:=by
 refine wF ["name","going"] D (λf cdv A outer s H E hr nd=>z05 (z0j (z8V (z1o (z1x (by decide) (z00 1) (T.b _ (by decide)) (T.b _ (by decide)) y1a)) (z0t (z01 (z00 1) (z01 z06 z03))) (z0t (z01 (z00 0) (z01 (z00 1) z03)))))) (λus S Q E h=>by cases h<;>rfl) ?_;rintro _ S Q E (⟨nm,g,q⟩|⟨nm,t,q⟩)
 .exact⟨show 2<=sizeLine by decide,q S (.refl S)⟩
 .exact⟨show 2<=sizeLine by decide,q S (.refl S)⟩
def pl(i:Int):U:=.tup [.str "",.int i]
inductive z8m:Wsp
 |mk {S Q E} (a d:Addr) (rows:List Row) (i:Int):isL S a (rows.map uR)->0<=i->i<(rows.length:Int)->(row rows i).2.length<=1000->(∀S',Ex S S'->Q (zje pl (row rows i)) S')->z8m [.ref a,.ref d,pl i] S Q E
def zjv:z0K ["rows","guises","place","name","at","rearranging","goings"] (z0a z70) ["going","name"] [none,some 3] (csc [(".0",.local),("going",.local),("place_gone_to",.globalImplicit),("name",.free)]):={}
def zbV(T:Z.Tx)(Jr:Z.f "place_gone_to" 1 z7F)(D:Z.fd "row_at" z70 ["rows","guises","place"]):Z.f "row_at" 2 z8m:=by
 refine wF ["rows","guises","place","name","at","rearranging","goings"] D (λf cdv A outer s H E hr nd=>z02 (z17 (z00 2) (z0F rfl (z09 (z07 3 nd) (z09 (z07 4 nd) z0r)))) (z02 (z17 (z8V (z1o (z00 3)) (z0m z19 (z0m (z5B (hu9 hr) rfl) (z00 1) (z00 3)) (z00 4)) (z0m z19 (z00 0) (z00 4))) (z0F rfl (z09 (z07 5 nd) (z09 (z07 6 nd) z0r)))) (z05 (z0j (z0t (z01 (z00 5) (z01 (sTy T z11 y0o (z01 (z0D ⟨zjv,rfl,λ_ _ _ _ _=>⟨(z07 0 zjv.nd),.nil,(z1j rfl (z0b Jr (hr.mono (by decide)) z8j (z01 (z00 1) (z01 (z00 0) z03))))⟩,λg' e=>by cases e⟩ (z0G (z00 6) z0I)) z03)) z03))))))) (λus S Q E h=>by cases h;rfl) ?_;rintro _ S Q E ⟨a,d,rows,i,hl,h0,h1,hz,q⟩;have z:atI (rows.map uR) i=some (uR (row rows i)):=by
  have:=z4m (f:=uR) (z9J h0 h1)
  rwa [show((i.toNat:Nat):Int)=i by lia]at this
 refine⟨rfl,show 0<=sizeLine by decide,_,hl,opt.of z ⟨rfl,z1D (row rows i).2 U.int pl (λρ=>∃x,ρ=[x,some (.str "")]) ⟨_,rfl⟩ (by lia) (λ_ _=>trivial) ?_ ?_⟩⟩
 .rintro g _ ρ S' ⟨x,rfl⟩ e Qf qf;exact .num _ g λS'' e'=>qf [some (.int g),some (.str "")] S'' ⟨_,rfl⟩ e'
 .rintro ρ S' ⟨x,rfl⟩ e l hl2;exact⟨_,.inl z04,show 2<=sizeLine by decide,q _ (Ex.up e (e.no hl2))⟩
end W
namespace W
open PySem L2 PySem.SeqAt Gu
open PyProof.Rows (envOfC)
variable[WW]{Z:Zx}
structure Zx.fdL(Z:Zx)(x:Str)(st:Stmt)(ps:List Str)(c:Addr):Prop where
 ex:∃f fd,Fun Z.K x x st f fd/\fd.code=.ref c/\z1q Z.K fd ps []/\Z.mg x=some (.ref f)
def wFL{x:Str}{st:Stmt}{ps:List Str}{c:Addr}(N:List Str){k:Nat}{sp:Wsp}{t:WS}(D:Z.fdL x st ps c)(hb:∀(f:Addr)(A:Around)(outer:List Env)(s:Shared)(H:Hp)(E:XK),z1C k (A.deeper (envOfC x (z0a st) s.heap.objs.size f (.ref c)))->N.Nodup -> SSs Z.xa (λ_=>E) (z2V (CXx Z.P WW.w) Z.P WW.w Z.K Z.mg Z.base N x (z0a st) f (.ref c) A outer s H E) (z0v st) t)(len:∀us S Q E,sp us S Q E->us.length=ps.length)(hp:∀us S Q E,sp us S Q E->t (stt N.length us) S { nx:=λ_ S'=>Q .non S',rt:=Q } λ_=>E)(Sc:z1M N ps (z0a st):=by exact⟨rfl,rfl,rfl,by decide +kernel,rfl,by decide +kernel,by decide +kernel⟩):Z.f x (k+1) sp:=by obtain⟨f,fd,F,hc,B,M⟩:=D.ex;refine⟨f,fd,ps,F.okL hc Sc (λvs H Q' xk ⟨hd,us,S,Q,E,r,u,h,c⟩=>by rw[<-u.len];exact len us S Q E h) λA outer s H vs Q' xk hr ⟨hd,us,S,Q,E,r,u,h,c⟩=>⟨_,hb f A outer s H xk hr Sc.nd,?_⟩,B,F.kp,M⟩;exact⟨hd,_,S,_,_,z5N u,r,hp us S Q E h,λρ S1 σ H1 k1 e1 r1 q1=>c.ok _ S1 _ H1 k1 r1 (by simp only[Ur]) q1,λ_ _ _ _ _ _ _ q=>q.elim,λ_ _ _ _ _ _ _ q=>q.elim,λu S1 v H1 k1 r1 u1 q1=>c.ok u S1 v H1 k1 r1 u1 q1,λea c1 ρ σ S1 H1 k1 e1 r1 q1=>c.ex ea c1 S1 H1 k1 r1 q1⟩
abbrev ziL:Scope:=csc [("place",.local),("guises",.free),("rows",.free),("row_at",.globalImplicit)]
def zee:List Stmt->Option (Arguments × Expr × Scope × Pos)
 |.Return (some (.Call _ [_,.Lambda ps b sc p] _ _)) _::_=>some (ps,b,sc,p)
 |_::r=>zee r
 |[]=>none
def zj6(st:Stmt)(qual:Str)(N ps:List Str):ziZ:=match zee (z0v st)with
 |some (a,b,sc,_)=>⟨a,b,sc,qual,N,ps⟩
 |none=>⟨default,.Constant .none 0 default,ziL,qual,N,ps⟩
end W
namespace W
open PySem L2 PySem.SeqAt Gu
open PyProof.Rows (envOfC)
variable[WW]{Z:Zx}
def zkn{S:Sto}{a:Addr}{us:List U}(h:isL S a us):isL (nc S) a us:=by
 unfold isL nc at *;rcases h with h|h<;>rw[h]
 .exact .inl rfl
 .exact .inr rfl
def zfC{S S1:Sto}(h:Ex (nc S) S1):Ex S (mgC S S1):=λa o e=>by
 unfold mgC;cases c:oC (S a)with
 |true=>exact e
 |false =>
  have z:=h a o (by unfold nc;rw[c];exact e);rw[e]at c;rw[z,c];rfl
theorem Ex.nc{S S1:Sto}(h:Ex S S1):Ex (nc S) S1:=λa o e=>h a o (zeS e).2
structure zbI(j:Nat)(T0:Tb):Prop where
 lam:WW.lam j=zj6 z2B T0.qual ["place","guises","rows"] ["place"]
 rd:∀ρ S Q,WW.rd j ρ S Q↔z8I z8m (z3b (z6C 2) (z3b (z6C 1) (z3b (z6C 0) zay))) ρ (nc S) (λu S1=>Q u (mgC S S1)) noQ
 mem:T0∈WW.Ts
 one:∀T'∈WW.Ts,T'.at_=T0.at_->T'=T0
 pos:some T0.pos=(zee (z0v z2B)).map (·.2.2.2)
 qual:T0.qual=("sewn.<locals>."++"<lambda>":Str)
def zib:z0K ["rows","guises"] (z0a z2B) ["place","guises","rows"] [none,some 1,some 0] ziL:={}
inductive z90:Wsp
 |mk {S Q E} (a d:Addr) (rows:List Row) (n:Nat):isL S a (rows.map uR)->z1i n rows->n<=60->rows.length<=60->(∀g S',z1i n g->g.length<=60->Ex S S'->Q (uG g) S')->z90 [.ref a,.ref d] S Q E
def zdr{j:Nat}{T0:Tb}{c:Addr}(T:Z.Tx)(LS:zbI j T0)(hC:PySem.W.CodeHd Z.base c T0.at_)(hB:z45 Z.base Z.mg)(JJ:Z.f "least_form" 6 z6y)(D:Z.fdL "sewn" z2B ["rows","guises"] c):Z.f "sewn" 7 z90:=by refine wFL ["rows","guises"] D (λf A outer s H E hr nd=>z05 (z0j (zaR j LS.lam JJ (hr.mono (by decide)) (zc2 λ_ _ _ z=>z) (z0t (z01 z0p (z01 z06 z03))) zib rfl hC hB LS.mem LS.one (y0d LS.pos) LS.qual))) (λus S Q E h=>by cases h;rfl) ?_;rintro _ S Q E ⟨a,d,rows,n,hl,G,hn,h6,q⟩;refine⟨show 2<=sizeLine by decide,λfa hfa=>?_⟩;have e0:=Ex.up (o:=.clo j [none,some (.ref d),some (.ref a)]) (.refl S) hfa;refine .mk fa pl rows n ⟨j,_,z04,by rw[LS.lam];rfl,λr r0 r1 S' Q' e' q'=>?_⟩ (λx y h=>by simpa[pl]using h) (λr=>rfl) G hn h6 λg S' Gg hg e'=>q g _ Gg hg (zfC (e0.trans e').nc);rw[LS.rd];exact .mk a d rows r (zkn ((e0.trans e').l hl)) r0 r1 (by have:=G.len _ (z1B r0 r1);lia) λS'' e''=>q' _ (zfC e'')
def zfc{P:Program}{K:yyF}{mg:yyS}{base:Heap}{k j:Nat}(hn:∀ρ S Q,¬WW.rd j ρ S Q)(H:Hp)(f:Addr)(cp:En)(h:ObR H f (.clo j cp)):z5F P WW.w K mg base (CXx P WW.w) k H f (lsv j cp):=by obtain⟨fv,⟨_,_,_,_,_,_,_,_,e1,_⟩,_⟩:=h;exact⟨⟨_,_,e1,rfl⟩,λH' s' A outer s us vs Q hr e0 r ⟨_,_,_,_,_,_,_,q,_⟩=>(hn _ _ _ q).elim⟩
def zjT:zh1 ["place","guises","rows"] ["place"] ziL:={}
def z7c{j:Nat}{T0:Tb}(LS:zbI j T0)(JQ:Z.f "row_at" 2 z8m)(H:Hp)(f:Addr)(cp:En)(h:ObR H f (.clo j cp)):z5F Z.P WW.w Z.K Z.mg Z.base (CXx Z.P WW.w) 3 H f (lsv j cp):=by refine zeV (xa:=Z.xa) (k:=2) (t:=z8I z8m (z3b (z6C 2) (z3b (z6C 1) (z3b (z6C 0) zay)))) (by rw[LS.lam];exact zjT) (by rw[LS.lam];intro cl pm cdv ct us hl;obtain⟨a,rfl⟩:=zhR hl;rfl) ?_ (λρ S Q q=>(LS.rd ρ S Q).mp q) H f cp h;rw[LS.lam];intro f cd clos A outer s H hr;exact z0b JQ hr z8j (z01 (z00 2) (z01 (z00 1) (z01 (z00 0) z03)))
end W
namespace W
open PySem L2 PySem.SeqAt Gu
variable[WW]{Z:Zx}
def zfH{xs:List Int}{i:Int}(h0:0<=i)(h:i.toNat<xs.length):atI (xs.map U.int) i=some (.int (xs.getD i.toNat 0)):=by
 have:=z4m (f:=U.int) (xs:=xs) (i:=i.toNat) (x:=xs.getD i.toNat 0) (by rw[y0e h];simp[h])
 rwa [show((i.toNat:Nat):Int)=i by lia]at this
def z7R{rows:List Row}{i:Int}(h0:0<=i)(h1:i<(rows.length:Int)):atI (rows.map uR) i=some (uR (row rows i)):=by
 have:=z4m (f:=uR) (z9J h0 h1)
 rwa [show((i.toNat:Nat):Int)=i by lia]at this
inductive sBr:Wsp
 |mk {S Q E} (rows:List Row) (n:Nat):z1i n rows->Q (.int n) S->sBr [uG rows] S Q E
def z8J(T:Z.Tx)(D:Z.fd "breadth" z4W ["guise"]):Z.f "breadth" 1 sBr:=by
 refine wF ["guise","rearranging","goings"] D (λf cdv A outer s H E hr nd=>z02 (z17 (z0m z19 (z00 0) z06) (z0F rfl (z09 (z07 1 nd) (z09 (z07 2 nd) z0r)))) (z05 (z0j (sBu T z0E y08 (z01 (z00 1) z03))))) (λus S Q E h=>by cases h;rfl) ?_;rintro _ S Q E ⟨rows,n,G,q⟩;have h1:(0:Int)<(rows.length:Int):=by have:=G.some;lia
 refine opt.of (z7R (y3h _) h1) ⟨rfl,?_⟩;have:=(G.perm _ (z1B (y3h _) h1)).len;show Q (.int (((row rows 0).1.map U.int).length:Nat)) S;rw[y00,this];exact q
inductive z6X:Wsp
 |mk {S Q E} (rows:List Row) (n:Nat) (w:List Int) (s:Int):z1i n rows->w.length<=100000->LW n w->0<=s->s<(rows.length:Int)->(∀S',Ex S S'->Q (.tup [uI' (z1h rows s w),.int (goW rows s w)]) S')->z6X [uG rows,.int s,uI' w] S Q E
inductive iRd(rows:List Row)(n:Nat)(p:Addr)(S:Sto)(Q:Kq U):List U->En->Sto->Prop
 |mk {S1} (w:List Int) (s:Int) (ms:List Int) (x y x5 x6 x7:Option U):LW n w->0<=s->s<(rows.length:Int)->ms.length+w.length<=100000->Ex S S1->S1 p=some (.lst (ms.map .int)) ->
  (∀S',Ex S S'->Q (.tup [uI' (ms++z1h rows s w),.int (goW rows s w)]) S')->iRd rows n p S Q (w.map .int) [some (uG rows),x,y,some (.ref p),some (.int s),x5,x6,x7] S1
def zb8{xs:List Int}{i:Nat}(h:i<xs.length):xs.getD i 0∈xs:=by simp[h]
def zbo(T:Z.Tx)(D:Z.fd "read_from" zag ["guise","row","word"]):Z.f "read_from" 1 z6X:=by
 refine wF ["guise","row","word","made","at","letter","rearranging","goings"] D (λf cdv A outer s H E hr nd=>z02 (z0d 3 nd (z1g z03)) (z02 (z0d 4 nd (z00 1)) (z02 (z28 y0s rfl (z0G (z00 2) z0I) (z07 5 nd) (z02 (z17 (z0m z19 (z00 0) (z00 4)) (z0F rfl (z09 (z07 6 nd) (z09 (z07 7 nd) z0r)))) (z02 (z0g (z5H y0M y1s y1t z2C (λ_ _ _ _ _=>z4O) (z00 3) (z01 (z0m z19 (z00 6) (z00 5)) z03))) (z05 (z0d 4 nd (z0m z19 (z00 7) (z00 5))))))) (z05 (z0j (z0t (z01 (sTy T z11 y0o (z01 (z00 3) z03)) (z01 (z00 4) z03)))))))) (λus S Q E h=>by cases h;rfl) ?_;rintro _ S Q E ⟨rows,n,w,s,G,hl,hw,h0,h1,q⟩;refine⟨by decide,λp hp=>?_⟩;refine z27 (iRd rows n p S Q) (.mk w s [] _ _ _ _ _ hw h0 h1 (by simpa using hl) (Ex.up (.refl _) hp) z04 q) ?_ ?_
 .rintro ρ S1 h;generalize e:([]:List U)=L at h;obtain⟨w,s,ms,x,y,x5,x6,x7,hw,h0,h1,hl,ex,hS,q⟩:=h;cases w<;>cases e;refine⟨trivial,_,.inl hS,show 2<=sizeLine by decide,?_⟩;have:=q S1 ex
  rwa [z1h,goW,y0j]at this
 .rintro x L ρ S1 h ih;generalize e:x::L=L' at h;obtain⟨w,s,ms,x0,y,x5,x6,x7,hw,h0,h1,hl,ex,hS,q⟩:=h;cases w<;>cases e;rename_i l w;obtain⟨l0,l1⟩:=hw l (by simp);have R:=z1B h0 h1;have hg:=G.len _ R;have hp1:=(G.perm _ R).len;refine⟨trivial,opt.of (z7R h0 h1) ⟨rfl,⟨_,.inl hS⟩,opt.of (zfH l0 (by lia)) ⟨_,hS,?_,opt.of (zfH l0 (by lia)) (ih _ _ (.mk w _ (ms++[(row rows s).1.getD l.toNat 0]) _ _ _ _ _ (λx hx=>hw x (by simp[hx])) ?_ ?_ ?_ (Ex.up ex hp) ?_ λS' e=>?_))⟩⟩⟩
  .rw[y00];rw[y0b]at hl;exact y0L (show ms.length<=100000 by lia) (by decide)
  .exact(G.go _ R _ (zb8 (by lia))).1
  .exact(G.go _ R _ (zb8 (by lia))).2
  .simp only[y04,y0b,y1o]at hl⊢;lia
  .rw[z04,y0n];rfl
  .have:=q S' e
   rwa [z1h,goW,List.append_cons]at this
inductive zbr:Wsp
 |mk {S Q E} (w:List Int):(w≠[]->Q .non S)->(w=[]->E 3 S)->zbr [uI' w] S Q E
def zda(T:Z.Tx)(D:Z.fd "check_ring" zds ["ring"]):Z.f "check_ring" 1 zbr:=by
 refine wF ["ring"] D (λf cdv A outer s H E hr nd=>z05 (z0L (z0k (z2o (z2p hr)).1 (sBu T z0E y08 (z01 (z00 0) z03)) z06) (z05 (z0N T.x rfl z0p)) z0l)) (λus S Q E h=>by cases h;rfl) ?_;rintro _ S Q E ⟨w,q,x⟩;cases w with
 |nil=>exact⟨rfl,x rfl⟩
 |cons l w=>exact⟨rfl,q (by simp)⟩
def zab{α:Type}(p:α->Bool)(w:List α):(w.map λl=>!p l).any id=!w.all p:=by
 induction w with
 |nil=>rfl
 |cons a w ih=>rw[y0m,y28,y36,ih,Bool.not_and];rfl
def lw(n:Int)(w:List Int):Bool:=w.all λl=>decide (0<=l)&&decide (l<n)
inductive zd2:Wsp
 |mk {S Q E} (n:Int) (w:List Int):w.length<=100000->(∀S',Ex S S'->cond (lw n w) (Q .non S') (E 3 S'))->zd2 [.int n,uI' w] S Q E
def zju:z0K ["letters","word"] (z0a z4I) ["letter","letters"] [none,some 0] (csc [(".0",.local),("letter",.local),("letters",.free)]):={}
def zdn(T:Z.Tx)(D:Z.fd "check_word" z4I ["letters","word"]):Z.f "check_word" 1 zd2:=by
 refine wF ["letters","word"] D (λf cdv A outer s H E hr nd=>z05 (z0L (z1o (sBu T (zg0 rfl) PyProof.Rows.boot_any (z01 (z0D ⟨zju,rfl,λ_ _ _ _ _=>⟨(z07 0 zju.nd),.nil,(z1j rfl (z9L (z4A (z16 z2Q) (z16 z4P) z06 (z00 0) (z00 1))))⟩,λg' e=>by cases e⟩ (z0G (z00 1) z0I)) z03))) (z05 (z0N T.x rfl z0p)) z0l)) (λus S Q E h=>by cases h;rfl) ?_;rintro _ S Q E ⟨n,w,hz,q⟩;refine z1D w U.int (λl=>.bl (!(decide (0<=l)&&decide (l<n)))) (λρ=>∃x,ρ=[x,some (.int n)]) ⟨_,rfl⟩ hz (λ_ _=>trivial) ?_ ?_
 .rintro l _ ρ S' ⟨x,rfl⟩ e Qf qf;have w:=qf [some (.int l),some (.int n)] S' ⟨_,rfl⟩ (.refl _);show cond (decide (0<=l)) _ _;cases c:decide (0<=l)<;>rw[c]at w<;>exact w
 .rintro ρ S' ⟨x,rfl⟩ e l hl;refine⟨w.map λl=>!(decide (0<=l)&&decide (l<n)),.inl (by rw[z04,y0W];rfl),?_⟩;have q:=q _ (Ex.up (o:=.lst (w.map λl=>.bl (!(decide (0<=l)&&decide (l<n))))) e (e.no hl));have z:(w.map λl=>!(decide (0<=l)&&decide (l<n))).any id=!lw n w:=zab (λl=>decide (0<=l)&&decide (l<n)) w;show cond ((w.map λl=>!(decide (0<=l)&&decide (l<n))).any id) _ _;rw[z];cases c:lw n w<;>rw[c]at q<;>exact q
end W
namespace W
open PySem L2 PySem.SeqAt Gu
variable[WW]{Z:Zx}
inductive zc1:Wsp
 |mk {S Q E} (n:Int) (b r:List Int):b.length<=100000->r.length<=100000->(∀S',Ex S S'->cond (!r.isEmpty&&lw n b&&lw n r) (Q .non S') (E 3 S'))->zc1 [.int n,.tup [uI' b,uI' r]] S Q E
def zep(T:Z.Tx)(Jk:Z.f "check_ring" 1 zbr)(Js:Z.f "check_word" 1 zd2)(D:Z.fd "check_endless" z5h ["letters","endless"]):Z.f "check_endless" 2 zc1:=by
 refine wF ["letters","endless","beginning","ring"] D (λf cdv A outer s H E hr nd=>z02 (z17 (z00 1) (z0F rfl (z09 (z07 2 nd) (z09 (z07 3 nd) z0r)))) (z02 (z0g (z0b Jk (hr.mono (by decide)) z0h (z01 (z00 3) z03))) (z02 (z0g (z0b Js (hr.mono (by decide)) z0h (z01 (z00 0) (z01 (z00 2) z03)))) (z05 (z0g (z0b Js (hr.mono (by decide)) z0h (z01 (z00 0) (z01 (z00 3) z03)))))))) (λus S Q E h=>by cases h;rfl) ?_;rintro _ S Q E ⟨n,b,r,hb,hr,q⟩;refine⟨rfl,.mk r (λh=>.mk n b hb λS1 e1=>?_) λh=>?_⟩
 .have hr0:(!r.isEmpty)=true:=by cases r with
   |nil=>exact absurd rfl h
   |cons=>rfl
  rw[hr0]at q;cases c:lw n b with
  |false=>have:=q S1 e1;rw[c]at this;exact this
  |true =>
   refine .mk n r hr λS2 e2=>?_;have:=q S2 (e1.trans e2);rw[c]at this;exact this
 .subst h;exact q S (.refl S)
inductive ze0:Wsp
 |mk {S Q E} (a:Addr) (ws:List (List Int)):isL S a (ws.map uI')->ws.flatten.length<=100000->(∀S',Ex S S'->Q (uI' ws.flatten) S')->ze0 [.ref a] S Q E
def zhS:z0K ["laps"] (z0a z53) ["lap","letter"] [none,none] (csc [(".0",.local),("lap",.local),("letter",.local)]):={}
inductive iS1(ws:List (List Int))(S:Sto):List U->List U->En->Sto->Prop
 |mk (dn L:List (List Int)) (x y:Option U):ws=dn++L->iS1 ws S (L.map uI') (dn.flatten.map U.int) [x,y] S
inductive iS2(a0:List Int)(w:List Int)(x:U)(S:Sto):List U->List U->En->Sto->Prop
 |mk (dn L:List Int) (y:Option U):w=dn++L->iS2 a0 w x S (L.map U.int) ((a0++dn).map U.int) [some x,y] S
def zap(T:Z.Tx)(D:Z.fd "strung" z53 ["laps"]):Z.f "strung" 1 ze0:=by
 refine wF ["laps"] D (λf cdv A outer s H E hr nd=>z05 (z0j (sTy T z11 y0o (z01 (z0D ⟨zhS,rfl,λ_ _ _ _ _=>⟨(z07 0 zhS.nd),.nil,(zgW rfl rfl rfl (λg' e=>by cases e) (z0G (z00 0) z0I) (z07 1 zhS.nd) .nil (z1j rfl (z00 1)))⟩,λg' e=>by cases e;exact⟨rfl,λ_ _=>rfl⟩⟩ (z0G (z00 0) z0I)) z03)))) (λus S Q E h=>by cases h;rfl) ?_;rintro _ S Q E ⟨a,ws,hl,hz,q⟩;refine⟨_,hl,zaY (iS1 ws S) (.mk [] ws _ _ rfl) ?_ ?_⟩
 .rintro acc ρ S1 h;generalize e:([]:List U)=L at h;obtain⟨dn,L,x,y,hw⟩:=h;cases L<;>cases e;rw[y0j]at hw;subst hw;exact⟨hl,λl hl2=>⟨_,.inl z04,q _ (Ex.up (.refl _) hl2)⟩⟩
 .rintro u L acc ρ S1 h ih;generalize e:u::L=L' at h;obtain⟨dn,L,x,y,hw⟩:=h;cases L<;>cases e;rename_i w L;refine⟨hl,zaY (iS2 dn.flatten w (uI' w) S) (by have:=iS2.mk (S:=S) (a0:=dn.flatten) (w:=w) (x:=uI' w) [] w y rfl;rwa [y0j]at this) ?_ ?_⟩
  .rintro acc ρ S2 h;generalize e:([]:List U)=L' at h;obtain⟨d2,L',z,hw2⟩:=h;cases L'<;>cases e;rw[y0j]at hw2;subst hw2;refine⟨trivial,?_⟩;have:=ih _ _ S (.mk (dn++[w]) L (some (uI' w)) z (by rw[hw];simp));rw[y1i,show[w].flatten=w by simp]at this;exact this
  .rintro g L' acc ρ S2 h ih2;generalize e:g::L'=L'' at h;obtain⟨d2,L'',z,hw2⟩:=h;cases L''<;>cases e;rename_i g L';refine⟨trivial,?_,?_⟩
   .rw[y00];have:(dn.flatten++d2).length<=ws.flatten.length:=by rw[hw,hw2];simp
    exact y0L (show _<=100000 by lia) (by decide)
   .have:=ih2 _ _ S (.mk (d2++[g]) L' (some (.int g)) (by rw[hw2];simp));rw[<-y19,y0n]at this;exact this
end W
namespace W
open PySem L2 PySem.SeqAt Gu
variable[WW]{Z:Zx}
def z7m{r:List Int}{c:Nat}(h:c<r.length):atI (r.map U.int) (-1-(c:Int))=some (.int (r.getD (r.length-1-c) 0)):=by rw[z97 (by rw[y00];exact h),y00,y0x,y0e (by lia),z0U (by lia)];rfl
def eqI{x y:Int}:(false != eqU (.int x) (.int y))=decide (x=y):=by
 by_cases h:x=y
 .subst h;simp[eqU]
 .rw[z12 (λz=>h (by injection z)),y0u h];rfl
inductive ziD:Wsp
 |mk {S Q E} (b r:List Int):r≠[]->(∀c:Nat,z3u b r r.length c->Q (.int c) S)->ziD [uI' b,uI' r] S Q E
inductive iRg(b r:List Int)(S:Sto):Nat->En->Sto->Prop
 |mk (m c:Nat):c<=b.length->(∀j,j<c->b.getD (b.length-1-j) 0=r.getD (r.length-1-j%r.length) 0)->m+c=b.length->iRg b r S m [some (uI' b),some (uI' r),some (.int c)] S
def z8R(T:Z.Tx)(D:Z.fd "count_ringed" z6M ["beginning","ring"]):Z.f "count_ringed" 1 ziD:=by
 refine wF ["beginning","ring","count"] D (λf cdv A outer s H E hr nd=>z02 (z0d 2 nd z06) (z02 (z14 y0s (SW.st (z35 (z0k (z16 z4P) (z00 2) (sBu T z0E y08 (z01 (z00 0) z03))) (z26 (z0k (z2o (z2p hr)).1 (z0m z19 (z00 0) (z08 z2k (z1Q z06) (z00 2))) (z0m z19 (z00 1) (z08 z2k (z1Q z06) (z08 z10 (z00 2) (sBu T z0E y08 (z01 (z00 1) z03))))))))) (z05 (z7O 2 nd z06 z80))) (z05 (z0j (z00 2))))) (λus S Q E h=>by cases h;rfl) ?_;rintro _ S Q E ⟨b,r,hne,q⟩;have hp:0<r.length:=y0r.mpr hne;refine z3J (iRg b r S) b.length (.mk _ 0 (y1M _) (λj hj=>absurd hj (Nat.not_lt_zero _)) (by lia)) ?_;rintro m ρ S1 ⟨c,hc,heq,hm⟩ again ag;have hmr:c%r.length<r.length:=y1H _ hp;have em:((c:Int)%(((r.map U.int).length:Nat):Int))=((c%r.length:Nat):Int):=by rw[y00];exact(y1I _ _).symm
 show cond (decide ((c:Int)<((b.map U.int).length:Nat))) _ _;rw[y00];refine z0x (λc1=>?_) (λc1=>?_)
 .have hcb:c<b.length:=by have:=y0i c1;lia
  refine opt.of (z7m hcb) ⟨by rw[y00];lia,?_⟩;rw[em];refine opt.of (z7m hmr) ⟨rfl,?_⟩;show cond (false != eqU (.int _) (.int _)) _ _;rw[eqI];refine z0x (λw=>ag (m-1) _ _ (by lia) (.mk (m-1) (c+1) (by lia) (λj hj=>?_) (by lia))) (λw=>q c ⟨hc,heq,.inr (y0C w)⟩);by_cases y:j<c
  .exact heq j y
  .have:j=c:=by lia
   rw[this];exact y0i w
 .have:=y0C c1;exact q c ⟨hc,heq,.inl (by lia)⟩
end W
set_option maxHeartbeats 7000000
namespace W
open PySem L2 PySem.SeqAt Gu
variable[WW]{Z:Zx}
def zhQ(a b:List Int):(fl (uI' a)&&fl (uI' b)&&okU (uI' a) (uI' b)&&decide (dep (uI' a)<=40))=true:=by simp only[uI',fl,okU,dep];rw[z7r (z1N a).1,z7r (z1N b).1,z9n (z1N a).1 (z1N b).1,(z1N a).2];rfl
def zdC(a b:List Int):eqU (uI' a) (uI' b)=decide (a=b):=by
 by_cases h:a=b
 .subst h;rw[z0S];simp
 .rw[y0u h,z12 λz=>h (z2w z)]
def z39(r:List Int)(lo hi:Option Int):cut (r.map U.int) lo hi=(z68 r lo hi).map U.int:=by unfold cut z68;rw[y00,y2x,List.map_drop]
def z7t{r:List Int}{z:Nat}:cut (r.map U.int) none (some (z:Int))=(r.take z).map U.int:=by rw[z39,z3L]
def zgQ(k:Int)(r:List Int):rep k (r.map U.int)=(List.replicate k.toNat r).flatten.map U.int:=by unfold rep;rw[List.map_flatten,List.map_replicate]
inductive sLR:Wsp
 |mk {S Q E} (r:List Int):r≠[]->r.length<=70000->(∀s:Nat,z4y r s->Q (uI' (r.take s)) S)->sLR [uI' r] S Q E
inductive iLR(r:List Int)(S:Sto):Nat->En->Sto->Prop
 |mk (m z:Nat):0<z->z<=r.length->(∀d,0<d->d<z->¬Per r d)->m+z=r.length->iLR r S m [some (uI' r),some (.int z)] S
def neI{x y:Int}:(true != eqU (.int x) (.int y))=!decide (x=y):=by have:=eqI (x:=x) (y:=y);rw[<-this];cases eqU (.int x) (.int y)<;>rfl
def zaT(T:Z.Tx)(D:Z.fd "least_ring" z6J ["ring"]):Z.f "least_ring" 1 sLR:=by
 refine wF ["ring","size"] D (λf cdv A outer s H E hr nd=>z02 (z0d 1 nd z06) (z02 (z14 y0s (SW.st (z8f (z0k (z2o (z2p hr)).2 (z08 z10 (sBu T z0E y08 (z01 (z00 0) z03)) (z00 1)) z06) (z4k (z0k (z2o (z2p hr)).2 (z08 z4a (z0u (z00 0) z1X (z1n (z00 1))) (z08 z52 (sBu T z0E y08 (z01 (z00 0) z03)) (z00 1))) (z00 0))))) (z05 (z7O 1 nd z06 z80))) (z05 (z0j (z0u (z00 0) z1X (z1n (z00 1))))))) (λus S Q E h=>by cases h;rfl) ?_;rintro _ S Q E ⟨r,hne,hl,q⟩;have hp:0<r.length:=y0r.mpr hne;refine z3J (iLR r S) (r.length-1) (.mk _ 1 (by lia) (by lia) (λd h0 h1=>by lia) (by lia)) ?_;rintro m ρ S1 ⟨z,hz0,hzl,hno,hm⟩ again ag;have em:((((r.map U.int).length:Nat):Int)%(z:Int))=((r.length%z:Nat):Int):=by rw[y00];exact(y1I _ _).symm
 have ed:((((r.map U.int).length:Nat):Int)/(z:Int))=((r.length/z:Nat):Int):=by rw[y00];exact(Int.natCast_ediv _ _).symm
 have more:¬Per r z->again [some (uI' r),some (.int ((z:Int)+1))] S:=λhn=>by
  have hlt:z<r.length:=by
   rcases Nat.lt_or_ge z r.length with c|c
   .exact c
   .have:z=r.length:=by lia
    subst this;exact absurd zah hn
  refine ag (m-1) _ _ (by lia) (.mk (m-1) (z+1) (by lia) (by lia) (λd h0 h1=>?_) (by lia));by_cases c:d<z
  .exact hno d h0 c
  .have:d=z:=by lia
   rw[this];exact hn
 refine⟨by lia,rfl,?_⟩;rw[em];show cond (true != eqU (.int _) (.int 0)) _ _;rw[neI];refine z0x (λc1=>more λh=>?_) (λc1=>?_)
 .have:=Nat.mod_eq_zero_of_dvd h.1;rw[this]at c1;simp at c1
 .have c1:((r.length%z:Nat):Int)=0:=y0i (by simpa only[Bool.not_eq_false']using c1);have hdv:z ∣ r.length:=Nat.dvd_of_mod_eq_zero (by lia);have hq1:r.length/z<=r.length:=Nat.div_le_self _ _;refine⟨⟨by lia,by lia⟩,?_⟩;rw[ed];show _/\_/\_/\_;rw[z7t];refine⟨Int.le_trans (by decide) (Int.natCast_nonneg _),by lia,?_,?_⟩
  .rw[y00,y0z,y0J,y11 hzl];exact z5i (by rw[y3j,Nat.div_mul_cancel hdv];lia)
  rw[zgQ,y0J];refine⟨zhQ _ r,?_⟩;show cond (true != eqU (uI' (List.replicate (r.length/z) (r.take z)).flatten) (uI' r)) _ _;rw[zdC];by_cases c2:(List.replicate (r.length/z) (r.take z)).flatten=r
  .rw[y18 c2];have:=q z ⟨hz0,(za3 hz0 hzl hdv).mp c2,hno⟩;unfold uI' at this;rw[<-z7t]at this;exact this
  .rw[y0u c2];exact more λhp=>c2 ((za3 hz0 hzl hdv).mpr hp)
end W
namespace W
open PySem L2 PySem.SeqAt Gu
variable[WW]{Z:Zx}
inductive zi6:Wsp
 |mk {S Q E} (n:Nat) (p:List Int):p.length<=60->n<=60->(∀k S',(k=true↔IsP n p)->Ex S S'->Q (.bl k) S')->zi6 [.int n,uI' p] S Q E
def z4E(n:Nat):rg 0 n=(z33 n).map U.int:=by unfold rg z33;rw[y0W];exact List.map_congr_left λi _=>by simp
def flI(ns:List Int):flL (ns.map U.int)=true:=by
 induction ns with
 |nil=>rfl
 |cons n ns ih=>simp only[y0m,flL,fl,ih];rfl
theorem okI:∀ns ms:List Int,okL (ns.map U.int) (ms.map U.int)=true
 |[],_=>by cases ‹List Int›<;>rfl
 |_::_,[]=>rfl
 |n::ns,m::ms=>by simp only[y0m,okL,okU,okI ns ms];rfl
def zi3{ns ms:List Int}:eqL (ns.map U.int) (ms.map U.int)=true↔ns=ms:=by have h:=z99 (a:=.tup (ns.map U.int)) (b:=.tup (ms.map U.int));simp only[eqU]at h;rw[h];refine⟨λz=>z2w (by simpa[uI']using z),λz=>by rw[z]⟩
def z4C(T:Z.Tx)(D:Z.fd "rearranges" zam ["letters","numbers"]):Z.f "rearranges" 1 zi6:=by
 refine wF ["letters","numbers"] D (λf cdv A outer s H E hr nd=>z05 (z0j (z3X (z2o (z2p hr)).1 (sBu T zd4 PyProof.Rows.boot_sorted (z01 (z00 1) z03)) (zcl (T.b _ (by decide)) (T.b _ (by decide)) rfl (z00 0))))) (λus S Q E h=>by cases h<;>rfl) ?_;rintro _ S Q E ⟨n,p,hp,hn,q⟩;refine⟨p,rfl,by lia,λns hperm hsort l hl=>?_⟩;refine⟨by lia,by lia,λl2 hl2=>?_⟩;have en:((n:Nat):Int).toNat=n:=by lia
 rw[en,z4E];have e1:=Ex.up (o:=.lst (ns.map U.int)) (.refl S) hl;refine⟨_,_,.inl (Ex.up (.refl _) hl2 _ _ z04),.inl z04,?_,?_⟩
 .rw[flI,flI,okI,(z1N ns).2];rfl
 .refine q _ _ ?_ (Ex.up e1 (e1.no hl2));rw[show(false != eqL (ns.map U.int) ((z33 n).map U.int))=eqL (ns.map U.int) ((z33 n).map U.int)by simp,zi3];exact⟨λz=>by rw[z]at hperm;exact hperm.symm,λz=>z6N z hperm hsort⟩
inductive zd9:Wsp
 |mk {S Q E} (n:Nat) (a:Addr) (rows:List Row) (m:Nat):isL S a (rows.map uR)->n<=60->m<=400->rows.length<=5000->(∀r∈rows,r.1.length<=60/\r.2.length<=60)->(z8D n rows m->∀S',Ex S S'->Q .non S')->(¬z8D n rows m->∀S',Ex S S'->E 2 S')->zd9 [.int n,.ref a,.int m] S Q E
inductive iCM(S:Sto)(n m:Nat)(a:Addr)(rows:List Row):List U->En->Sto->Prop
 |mk {S1} (dn L:List Row) (x y:Option U):rows=dn++L->Ex S S1->(∀r∈dn,IsP n r.1/\r.2.length=n/\∀g∈r.2,0<=g/\g<(rows.length:Int))->iCM S n m a rows (L.map uR) [some (.int n),some (.ref a),some (.int m),x,y] S1
def zjp:z0K ["letters","rows","most","rearranging","goings"] (z0a z7Q) ["going","rows"] [none,some 1] (csc [(".0",.local),("going",.local),("len",.globalImplicit),("rows",.free)]):={}
def z38(T:Z.Tx)(JK:Z.f "rearranges" 1 zi6)(D:Z.fd "check_machine" z7Q ["letters","rows","most"]):Z.f "check_machine" 2 zd9:=by
 refine wF ["letters","rows","most","rearranging","goings"] D (λf cdv A outer s H E hr nd=>z02 (z0L (z31 (z3c (z16 z2Q) (z16 z2Q) z06 (sBu T z0E y08 (z01 (z00 1) z03)) (z00 2))) (z05 (z0N T.x rfl (ziK z0p (zgp (z00 2)) z0p))) z0l) (z05 (z28 y0s rfl (z0G (z00 1) z0I) (z0F rfl (z09 (z07 3 nd) (z09 (z07 4 nd) z0r))) (z02 (z0L (z31 (z1o (z0b JK (hr.mono (by decide)) z0h (z01 (z00 0) (z01 (z00 3) z03))))) (z05 (z0N T.x rfl z0p)) z0l) (z02 (z0L (z0k (z2o (z2p hr)).2 (sBu T z0E y08 (z01 (z00 4) z03)) (z00 0)) (z05 (z0N T.x rfl z0p)) z0l) (z05 (z0L (z1o (sBu T (zg0 rfl) PyProof.Rows.boot_any (z01 (z0D ⟨zjp,rfl,λ_ _ _ _ _=>⟨(z07 0 zjp.nd),.nil,(z1j rfl (z9L (z4A (z16 z2Q) (z16 z4P) z06 (z00 0) (sBu T z0E y08 (z01 (z00 1) z03)))))⟩,λg' e=>by cases e⟩ (z0G (z00 4) z0I)) z03))) (z05 (z0N T.x rfl z0p)) z0l))))))) (λus S Q E h=>by cases h<;>rfl) ?_;rintro _ S Q E ⟨n,a,rows,m,hl,hn,hm,hz,hs,q,bad⟩;have l1:(Str.ofString "a machine has from 1 to ").length<=40:=by decide +kernel
 have l3:(Str.ofString " rows here").length<=40:=by decide +kernel
 have l2:(Str.ofString (toString ((m:Nat):Int))).length<=61:=(z2c (n:=(m:Int)) (by lia)).2;have z1:∀x:Nat,x<=200->x<=sizeLine:=λx h=>y0k h (by decide);refine⟨_,hl,?_⟩;show cond (decide ((1:Int)<=(((rows.map uR).length:Nat):Int))) _ _;rw[y00];refine z0x (λc1=>?_) (λc1=>⟨z1 _ (by lia),z2s (by lia),z1 _ (by lia),z1 _ (by lia),bad (λz=>by have:=z.1.some;have:=y0C c1;lia) S (.refl S)⟩);show cond (!decide (((rows.length:Nat):Int)<=(m:Int))) _ _;have c1:=y0i c1;refine z0x (λc2=>⟨z1 _ (by lia),z2s (by lia),z1 _ (by lia),z1 _ (by lia),bad (λz=>by have:=z.2;simp at c2;lia) S (.refl S)⟩) (λc2=>?_);have c2:(rows.length:Int)<=(m:Int):=by simpa using c2
 refine⟨_,hl,z27 (iCM S n m a rows) (.mk [] rows _ _ rfl (.refl S) (λr hr=>absurd hr (by simp))) ?_ ?_⟩
 .rintro ρ S1 h;generalize e:([]:List U)=L at h;obtain⟨dn,L,x,y,hx,e1,hg⟩:=h;cases L<;>cases e;rw[y0j]at hx;subst hx;exact⟨e1.l hl,q ⟨⟨by lia,by lia,λr hr=>(hg r hr).1,λr hr=>(hg r hr).2.1,λr hr=>(hg r hr).2.2⟩,by lia⟩ S1 e1⟩
 .rintro u L ρ S1 h ih;generalize e:u::L=L' at h;obtain⟨dn,L,x,y,hx,e1,hg⟩:=h;cases L<;>cases e;rename_i r L;have hrm:r∈rows:=by rw[hx];simp
  obtain⟨s1,s2⟩:=hs r hrm;refine⟨e1.l hl,rfl,.mk n r.1 s1 hn λk S2 hk e2=>?_⟩;have e12:=e1.trans e2;cases k with
  |false=>exact bad (λz=>by have:=hk.mpr (z.1.perm r hrm);cases this) S2 e12
  |true =>
   have hperm:=hk.mp rfl;refine⟨rfl,?_⟩;show cond (true != eqU (.int (((r.2.map U.int).length:Nat):Int)) (.int (n:Int))) _ _;rw[y00,neI];refine z0x (λc=>bad (λz=>by have:=z.1.len r hrm;simp at c;lia) S2 e12) (λc=>?_);have hgl:r.2.length=n:=by simp at c;lia
   refine z1D r.2 U.int (λg=>.bl (!(decide (0<=g)&&decide (g<(rows.length:Int))))) (λρ=>∃x,ρ=[x,some (.ref a)]) ⟨_,rfl⟩ (by lia) (λ_ _=>trivial) ?_ ?_
   .rintro g hg2 ρ S3 ⟨x,rfl⟩ e3 Qf qf;show cond (decide ((0:Int)<=g)) _ _;have w:=λS''=>qf [some (.int g),some (.ref a)] S'' ⟨_,rfl⟩;refine z0x (λc3=>⟨_,(e12.trans e3).l hl,?_⟩) (λc3=>?_)
    .rw[c3,Bool.true_and]at w;show Qf _ (.bl (!decide (g<(((rows.map uR).length:Nat):Int)))) _;rw[y00];exact w S3 (.refl _)
    .rw[c3,Bool.false_and]at w;exact w S3 (.refl _)
   .rintro ρ S3 ⟨x,rfl⟩ e3 l hl3;have e13:=e12.trans e3;refine⟨_,.inl (z04.trans (by rw[show(r.2.map λg=>U.bl (!(decide (0<=g)&&decide (g<(rows.length:Int)))))=(r.2.map λg=>!(decide (0<=g)&&decide (g<(rows.length:Int)))).map U.bl by rw[y0W];rfl])),?_⟩;show cond ((r.2.map λg=>!(decide (0<=g)&&decide (g<(rows.length:Int)))).any id) _ _;rw[zab];have e4:=Ex.up (o:=.lst (r.2.map λg=>U.bl (!(decide (0<=g)&&decide (g<(rows.length:Int)))))) e13 (e13.no hl3);refine z0x (λc=>bad (λz=>?_) _ e4) (λc=>ih _ _ (.mk (dn++[r]) L _ _ (by rw[hx];simp) e4 ?_))
    .have:(r.2.all λg=>decide (0<=g)&&decide (g<(rows.length:Int)))=true:=y0D.mpr λg hg3=>by have:=z.1.go r hrm g hg3;simp;lia
     rw[this]at c;cases c
    .intro r' hr';rcases y0S.mp hr' with h|h
     .exact hg r' h
     .rw[y0w]at h;subst h;refine⟨hperm,hgl,λg hg3=>?_⟩;have c:(r'.2.all λg=>decide (0<=g)&&decide (g<(rows.length:Int)))=true:=by simpa using c
      have:=y0D.mp c g hg3;simpa using this
end W
namespace W
open PySem L2 PySem.SeqAt Gu
variable[WW]{Z:Zx}
def z6u{α:Type}{ck:Sto->Prop}{g:WX U}{ts:List WT}{rest:WR}{k:En->List U->Sto->Prop}(L:List α)(f:α->U)(h:α->List U){L':List U}(hL:L'=L.map f){ρ:En}{S:Sto}{acc:List U}(J:En->Prop)(h0:J ρ)(hck:∀S',Ex S S'->ck S')(hs:∀x∈L,∀ρ S' acc',J ρ->Ex S S'->acc'.length+(h x).length<=(acc++L.flatMap h).length->∀K:En->List U->Sto->Prop,(∀ρ' S'',J ρ'->Ex S' S''->K ρ' (acc'++h x) S'')->g (f x) ρ S' λρ1 S1=>wTs ts ρ1 S1 λb S2=>cond b (rest ρ1 S2 acc' K) (K ρ1 acc' S2))(hd:∀ρ S',J ρ->Ex S S'->k ρ (acc++L.flatMap h) S'):cmL ck g ts rest L' ρ S acc k:=by
 subst hL;have go:∀(R dn:List α)(ρ:En)(S':Sto),L=dn++R->J ρ->Ex S S'->cmL ck g ts rest (R.map f) ρ S' (acc++dn.flatMap h) k:=by
  intro R;induction R with
  |nil=>intro dn ρ S' e j x;rw[y0j]at e;subst e;exact⟨hck S' x,hd ρ S' j x⟩
  |cons y R ih =>
   intro dn ρ S' e j x;refine⟨hck S' x,hs y (by rw[e];simp) ρ S' _ j x (by rw[e];simp;lia) (λρ1 acc' S3=>cmL ck g ts rest (R.map f) ρ1 S3 acc' k) λρ' S'' j' x'=>?_⟩;have:=ih (dn++[y]) ρ' S'' (by rw[e];simp) j' (x.trans x');rw[List.flatMap_append,<-y19]at this;simpa using this
 have:=go L [] ρ S rfl h0 (.refl S);simpa using this
def z6m{ck:Sto->Prop}{g:WX U}{te:WE}{k:En->List U->Sto->Prop}(L:List U)(h:U->U){ρ:En}{S:Sto}(J:En->Prop)(h0:J ρ)(hz:L.length<=100000)(hck:∀S',Ex S S'->ck S')(hs:∀x∈L,∀ρ S',J ρ->Ex S S'->∀Qf:En->U->Sto->Prop,(∀ρ' S'',J ρ'->Ex S' S''->Qf ρ' (h x) S'')->g x ρ S' λρ1 S1=>te ρ1 S1 (λu S3=>Qf ρ1 u S3) noQ)(hd:∀ρ S',J ρ->Ex S S'->k ρ (L.map h) S'):cmL ck g [] (em te) L ρ S [] k:=by
 have:=z1D (ck:=ck) (g:=g) (te:=te) (k:=k) L id h J h0 hz hck hs hd
 rwa [List.map_id]at this
def z1f{x:Nat}(h:x<=1000000):x<sizeLine:=y0L h (by decide)
def zgD:U->Bool
 |.int _=>true
 |.str _=>true
 |_=>false
def zbH:U->Bool
 |.str _=>true
 |_=>false
def goN:U->Int
 |.int i=>i
 |_=>0
def bare(r:z8a):Row:=(r.1,r.2.map goN)
inductive zdz:Wsp
 |mk {S Q E} (n:Nat) (a:Addr) (rs:List z8a):isL S a (rs.map uRG)->n<=60->rs.length<=5000->(∀r∈rs,r.1.length<=60/\r.2.length<=60/\∀g∈r.2,zgD g=true)->(z8D n (rs.map bare) 60->∀S',Ex S S'->Q .non S')->(¬z8D n (rs.map bare) 60->∀S',Ex S S'->E 2 S')->zdz [.int n,.ref a] S Q E
def zix:z0K ["letters","rows","numbered"] (z0a z1u) ["rearranging","goings"] [none,none] (csc [(".0",.local),("rearranging",.local),("goings",.local),("tuple",.globalImplicit)]):={}
def zgE:z0K ["rearranging","goings"] (csc [(".0",.local),("rearranging",.local),("goings",.local),("tuple",.globalImplicit)]) ["going"] [none] (csc [(".0",.local),("going",.local),("isinstance",.globalImplicit),("str",.globalImplicit)]):={}
def z3h(T:Z.Tx)(Jq:Z.f "check_machine" 2 zd9)(D:Z.fd "check_sewing" z1u ["letters","rows"]):Z.f "check_sewing" 3 zdz:=by
 refine wF ["letters","rows","numbered"] D (λf cdv A outer s H E hr nd=>z02 (z6j 2 nd ⟨zix,rfl,λ_ _ _ _ _=>⟨(z0F rfl (z09 (z07 0 zix.nd) (z09 (z07 1 zix.nd) z0r))),.nil,(z1j rfl (z0t (z01 (z00 0) (z01 (sTy T z11 y0o (z01 (z0D ⟨zgE,rfl,λ_ _ _ _ _=>⟨(z07 0 zgE.nd),.nil,(z1j rfl (z8V (z1o (z1x (by decide) (z00 0) (T.b _ (by decide)) (T.b _ (by decide)) y1a)) z06 (z00 0)))⟩,λg' e=>by cases e⟩ (z0G (z00 1) z0I)) z03)) z03))))⟩,λg' e=>by cases e⟩ (z0G (z00 1) z0I)) (z05 (z0g (z0b Jq (hr.mono (by decide)) z0h (z01 (z00 0) (z01 (z00 2) (z01 (zeF T rfl rfl) z03))))))) (λus S Q E h=>by cases h<;>rfl) ?_;rintro _ S Q E ⟨n,a,rs,hl,hn,hz,hs,q,bad⟩;refine⟨_,hl,z1D rs uRG (λr=>uR (bare r)) (λρ=>∃x y,ρ=[x,y]) ⟨_,_,rfl⟩ (by lia) (λS' e=>e.l hl) ?_ ?_⟩
 .rintro r hr ρ S' ⟨x,y,rfl⟩ e Qf qf;obtain⟨h1,h2,h3⟩:=hs r hr;refine⟨rfl,z6m r.2 (λg=>.int (goN g)) (λρ=>∃x,ρ=[x]) ⟨_,rfl⟩ (by lia) (λ_ _=>trivial) ?_ ?_⟩
  .rintro g hg ρ S2 ⟨x,rfl⟩ e2 Qg qg;have w:=qg [some g] S2 ⟨_,rfl⟩ (.refl _);have:=h3 g hg;cases g<;>simp only[zgD]at this<;>first|exact w|cases this
  .rintro ρ S2 ⟨x,rfl⟩ e2 l hl2;refine⟨_,.inl z04,show 2<=sizeLine by decide,?_⟩;have w:=qf [some (uI' r.1),some (.tup r.2)] (up S2 l (.lst (r.2.map λg=>U.int (goN g)))) ⟨_,_,rfl⟩ (Ex.up e2 (e2.no hl2));unfold uR bare uI' at w;rw[y0W]at w;exact w
 .rintro ρ S' ⟨x,y,rfl⟩ e l hl2;have e1:=Ex.up (o:=.lst (rs.map λr=>uR (bare r))) e (e.no hl2);refine .mk n l (rs.map bare) 60 (.inl (by rw[z04,y0W];rfl)) hn (by decide) (by rw[y00];lia) (λr hr=>?_) (λm S2 e2=>q m S2 (e1.trans e2)) λm S2 e2=>bad m S2 (e1.trans e2);obtain⟨r,hr',rfl⟩:=y0f.mp hr;obtain⟨h1,h2,h3⟩:=hs r hr';exact⟨h1,by show(r.2.map goN).length<=60;rw[y00];exact h2⟩
def z3z(rs:List z8a):List U:=rs.flatMap λr=>r.2.filter zbH
inductive zhx:Wsp
 |mk {S Q E} (a:Addr) (rs:List z8a):isL S a (rs.map uRG)->(z3z rs).length<=1000000->(∀r∈rs,∀g∈r.2,zgD g=true)->(∀l S',Ex S S'->S l=none->S' l=some (.lst (z3z rs))->Q (.ref l) S')->zhx [.ref a] S Q E
def zfO(L:List U):(L.flatMap λg=>cond (zbH g) [g] [])=L.filter zbH:=by
 induction L with
 |nil=>rfl
 |cons g L ih=>rw[List.flatMap_cons,ih,y2W];cases zbH g<;>rfl
def zh7:z0K ["rows"] (z0a z1y) ["rearranging","goings","going"] [none,none,none] (csc [(".0",.local),("rearranging",.local),("goings",.local),("going",.local),("isinstance",.globalImplicit),("str",.globalImplicit)]):={}
def z36(T:Z.Tx)(D:Z.fd "names_gone_to" z1y ["rows"]):Z.f "names_gone_to" 1 zhx:=by
 refine wF ["rows"] D (λf cdv A outer s H E hr nd=>z05 (z0j (z0D ⟨zh7,rfl,λ_ _ _ _ _=>⟨(z0F rfl (z09 (z07 0 zh7.nd) (z09 (z07 1 zh7.nd) z0r))),.nil,(zgW rfl rfl rfl (λg' e=>by cases e) (z0G (z00 1) z0I) (z07 2 zh7.nd) (.cons (z1o (z1x (by decide) (z00 2) (T.b _ (by decide)) (T.b _ (by decide)) y1a)) .nil) (z1j rfl (z00 2)))⟩,λg' e=>by cases e;exact⟨rfl,λ_ _=>rfl⟩⟩ (z0G (z00 0) z0I)))) (λus S Q E h=>by cases h<;>rfl) ?_;rintro _ S Q E ⟨a,rs,hl,hz,hg,q⟩;refine⟨_,hl,z6u rs uRG (λr=>r.2.filter zbH) rfl (λρ=>∃x y z,ρ=[x,y,z]) ⟨_,_,_,rfl⟩ (λS' e=>e.l hl) ?_ ?_⟩
 .rintro r hr ρ S' acc ⟨x,y,z,rfl⟩ e hb K qK;rw[show([]:List U)++rs.flatMap (λr=>r.2.filter zbH)=z3z rs from rfl]at hb;refine⟨rfl,z6u r.2 id (λg=>cond (zbH g) [g] []) (List.map_id _).symm (λρ=>∃x,ρ=[some (uI' r.1),some (.tup r.2),x]) ⟨_,rfl⟩ (λ_ _=>trivial) ?_ ?_⟩
  .rintro g hg2 ρ S2 acc2 ⟨x,rfl⟩ e2 hb2 K2 qK2;have w:=qK2 [some (uI' r.1),some (.tup r.2),some g] S2 ⟨_,rfl⟩ (.refl _);rw[zfO,y04]at hb2;have:=hg r hr g hg2;cases g<;>simp only[zgD]at this<;>first|(cases this;done)|skip
   .rw[show acc2++cond (zbH (U.int _)) [U.int _] []=acc2 from y0j _]at w;exact w
   .exact⟨z1f (by lia),w⟩
  .rintro ρ S2 ⟨x,rfl⟩ e2;rw[zfO];exact qK _ S2 ⟨_,_,_,rfl⟩ e2
 .rintro ρ S' ⟨x,y,z,rfl⟩ e l hl2;exact q l _ (Ex.up e (e.no hl2)) (e.no hl2) z04
end W
set_option maxHeartbeats 7000000
namespace W
open PySem L2 PySem.SeqAt Gu
variable[WW]{Z:Zx}
def zca{r:List Int}{z:Nat}:cut (r.map U.int) (some (z:Int)) none=(r.drop z).map U.int:=by rw[z39,z3C]
inductive sPW:Wsp
 |mk {S Q E} (b r:List Int):b.length<=70000->r.length<=70000->(r≠[]->∀e:Row,z0Z e->(∀i,lat e i=lat (b,r) i)->e.1.length<=b.length->e.2.length<=r.length->Q (uR e) S)->(r=[]->E 3 S)->sPW [uI' b,uI' r] S Q E
def z94(T:Z.Tx)(Jk:Z.f "check_ring" 1 zbr)(JH:Z.f "least_ring" 1 sLR)(Jz:Z.f "count_ringed" 1 ziD)(D:Z.fd "plain_word" z6V ["beginning","ring"]):Z.f "plain_word" 2 sPW:=by
 refine wF ["beginning","ring","least","ringed","cut"] D (λf cdv A outer s H E hr nd=>z02 (z0g (z0b Jk (hr.mono (by decide)) z0h (z01 (z00 1) z03))) (z02 (z0d 2 nd (z0b JH (hr.mono (by decide)) z0h (z01 (z00 1) z03))) (z02 (z0d 3 nd (z0b Jz (hr.mono (by decide)) z0h (z01 (z00 0) (z01 (z00 2) z03)))) (z02 (z0d 4 nd (z08 z2k (sBu T z0E y08 (z01 (z00 2) z03)) (z08 z10 (z00 3) (sBu T z0E y08 (z01 (z00 2) z03))))) (z05 (z0j (z0t (z01 (z0u (z00 0) z1X (z1n (z08 z2k (sBu T z0E y08 (z01 (z00 0) z03)) (z00 3)))) (z01 (z08 z15 (z0u (z00 2) (z1n (z00 4)) z1X) (z0u (z00 2) z1X (z1n (z00 4)))) z03))))))))) (λus S Q E h=>by cases h;rfl) ?_;rintro _ S Q E ⟨b,r,hb,hr,q,x⟩;refine .mk r (λhne=>.mk r hne hr λz L=>?_) x;have q:=q hne;have hz:=L.pos;have hzl:=L.le hne;have ltz:(r.take z).length=z:=by rw[y0z];lia
 refine .mk b (r.take z) (λw=>by rw[w]at ltz;simp at ltz;lia) λc R=>?_;rw[ltz]at R;have R':=z3E hz R;have hcb:=R.le;have hm:c%z<z:=y1H _ hz;have ltm:(((r.take z).map U.int).length:Int)=z:=by rw[y00,ltz]
 have ecut:((((r.take z).map U.int).length:Int)-(c:Int)%(((r.take z).map U.int).length:Int))=((z-c%z:Nat):Int):=by rw[ltm,<-y1I];lia
 have elb:(((b.map U.int).length:Int)-(c:Int))=((b.length-c:Nat):Int):=by rw[y00];lia
 obtain⟨l1,l2⟩:=z1K (e:=(b,r)) (s:=z) (c:=c);have fin:=q (z24 (b,r) z c) (z2z (e:=(b,r)) hne L R') (z2l (e:=(b,r)) hne L R') (by rw[l1];exact Nat.sub_le _ _) (by rw[l2];exact hzl);refine⟨by rw[ltm];lia,?_⟩;show(cut ((r.take z).map U.int) (some ((((r.take z).map U.int).length:Int)-(c:Int)%(((r.take z).map U.int).length:Int))) none).length+(cut ((r.take z).map U.int) none (some ((((r.take z).map U.int).length:Int)-(c:Int)%(((r.take z).map U.int).length:Int)))).length<=sizeLine/\2<=sizeLine/\Q (.tup [.tup (cut (b.map U.int) none (some (((b.map U.int).length:Int)-(c:Int)))),.tup (cut ((r.take z).map U.int) (some ((((r.take z).map U.int).length:Int)-(c:Int)%(((r.take z).map U.int).length:Int))) none++cut ((r.take z).map U.int) none (some ((((r.take z).map U.int).length:Int)-(c:Int)%(((r.take z).map U.int).length:Int))))]) S;rw[ecut,elb,z7t,zca,z7t,<-y0n,zbw hz hzl];exact⟨by simp only[y00,y12,y0z];exact z5i (by lia),by decide,fin⟩
end W
namespace W
open PySem L2 PySem.SeqAt Gu
variable[WW]{Z:Zx}
def zde{us:List U}{k:Nat}:cut us none (some (k:Int))=us.take k:=by
 unfold cut;rw[HT.sIx_none,HT.sIx_nat,List.drop_zero,Nat.sub_zero];rcases y2P k us.length with h|h
 .rw[y11 h]
 .rw[y2g h,y0X (y0a _),y0X h]
def z9b{us:List U}{k:Nat}:cut us (some (k:Int)) none=us.drop k:=by
 unfold cut;rw[HT.sIx_none,HT.sIx_nat];rcases y2P k us.length with h|h
 .rw[y11 h,y0X (by rw[y12];lia)]
 .rw[y2g h,y1g (y0a _),y1g h];simp
def zcs{n:Nat}{w:List Int}:lw (n:Int) w=true↔LW n w:=by unfold lw LW;rw[y0D];refine⟨λh l hl=>by simpa using h l hl,λh l hl=>by simpa using h l hl⟩
def z3n{n:Nat}{e:Row}:(!e.2.isEmpty&&lw (n:Int) e.1&&lw (n:Int) e.2)=true↔z3S n e:=by unfold z3S;rw[y0h,y0h,zcs,zcs,and_assoc];simp
inductive zcR:Wsp
 |mk {S Q E} (one:List Row) (e:Row) (n:Nat):z1i n one->n<=60->e.1.length<=4900->e.2.length<=4900->e.1.length+one.length*e.2.length<=70000->(z3S n e->∀e':Row,z0Z e'->(∀i,lat e' i=oS one e i)->e'.1.length<=70000->e'.2.length<=70000->∀S',Ex S S'->Q (uR e') S')->(¬z3S n e->∀S',Ex S S'->E 3 S')->zcR [uG one,uR e] S Q E
inductive iWE(S:Sto)(one:List Row)(e:Row)(ll ld:Addr):Nat->En->Sto->Prop
 |mk {S1} (t:Nat) (x8:Option U):Ex S S1->S1 ll=some (.lst ((z1b one e t).map uI'))->S1 ld=some (.dic false (prU 0 ((seen one e t).map U.int)))->(seen one e t).Nodup->iWE S one e ll ld (one.length+1-t) [some (uG one),some (uR e),some (uI' e.1),some (uI' e.2),some (uI' (z1h one 0 e.1)),some (.int (z20 one e t)),some (.ref ll),some (.ref ld),x8,none] S1
def z42(T:Z.Tx)(Je:Z.f "check_endless" 2 zc1)(JT:Z.f "breadth" 1 sBr)(JB:Z.f "read_from" 1 z6X)(Jc:Z.f "plain_word" 2 sPW)(JR:Z.f "strung" 1 ze0)(D:Z.fd "worn_endless" z8P ["guise","endless"]):Z.f "worn_endless" 3 zcR:=by
 refine wF ["guise","endless","beginning","ring","made","at","laps","laps_ahead","lap","first"] D (λf cdv A outer s H E hr nd=>z02 (z0g (z0b Je (hr.mono (by decide)) z0h (z01 (z0b JT (hr.mono (by decide)) z0h (z01 (z00 0) z03)) (z01 (z00 1) z03)))) (z02 (z17 (z00 1) (z0F rfl (z09 (z07 2 nd) (z09 (z07 3 nd) z0r)))) (z02 (z17 (z0b JB (hr.mono (by decide)) z0h (z01 (z00 0) (z01 z06 (z01 (z00 2) z03)))) (z0F rfl (z09 (z07 4 nd) (z09 (z07 5 nd) z0r)))) (z02 (z0d 6 nd (z1g z03)) (z02 (z0d 7 nd (z4L false)) (z02 (z14 y0s (z0k (z6Y (hu9 hr) rfl).2 (z00 5) (z00 7)) (z02 (z5L (hu9 hr) rfl (z00 7) (z00 5) (sBu T z0E y08 (z01 (z00 6) z03))) (z02 (z17 (z0b JB (hr.mono (by decide)) z0h (z01 (z00 0) (z01 (z00 5) (z01 (z00 3) z03)))) (z0F rfl (z09 (z07 8 nd) (z09 (z07 5 nd) z0r)))) (z05 (z0g (zax (z00 6) (z01 (z00 8) z03))))))) (z02 (z0d 9 nd (z0m (z5B (hu9 hr) rfl) (z00 7) (z00 5))) (z05 (z0j (z0b Jc (hr.mono (by decide)) z0h (z01 (z08 z15 (z00 4) (z0b JR (hr.mono (by decide)) z0h (z01 (z0u (z00 6) z1X (z1n (z00 9))) z03))) (z01 (z0b JR (hr.mono (by decide)) z0h (z01 (z0u (z00 6) (z1n (z00 9)) z1X) z03)) z03)))))))))))) (λus S Q E h=>by cases h<;>rfl) ?_;rintro _ S Q E ⟨one,e,n,G,hn,he1,he2,hz,q,bad⟩;refine .mk one n G (.mk n e.1 e.2 (by lia) (by lia) λS1 e1=>z0x (λhg=>?_) λhg=>bad (λz=>by rw[z3n.mpr z]at hg;cases hg) S1 e1);have hg:=z3n.mp hg;obtain⟨hne,l1,l2⟩:=id hg;have q:=q hg;have hL:0<e.2.length:=y0r.mpr hne;have h1:=G.some;refine⟨rfl,.mk one n e.1 0 G (by lia) l1 (y3h 0) (by lia) λS2 e2=>⟨rfl,by decide,λll hll ld hld=>?_⟩⟩;have e12:=e1.trans e2;have e3:=Ex.up (o:=.lst []) e12 (e12.no hll);have e4:=Ex.up (o:=.dic false []) e3 (e3.no hld);have nld:ll≠ld:=by rintro rfl;rw[z04]at hld;cases hld
 have hl0:=e12.no hll;have hd0:=e3.no hld;refine z3J (iWE S one e ll ld) (one.length+1) (.mk 0 _ e4 ((z0c nld).trans z04) z04 y2b) ?_;rintro m ρ S5 ⟨t,x8,e5,el,ed,nd⟩ again ag;have ht:t<=one.length:=by have:=z3T nd (λx hx=>by obtain⟨j,_,rfl⟩:=y0f.mp hx;exact z3v G l1 l2 j);rw[z1z]at this;exact this
 obtain⟨a0,a1⟩:=z3v G l1 l2 t;have h4000:=G.few;have inj:∀x y,U.int x=U.int y->x=y:=λx y h=>by injection h
 refine⟨_,_,ed,rfl,?_⟩;show cond ((z0o (prU 0 ((seen one e t).map U.int)) (.int (z20 one e t))).isSome != true) _ _;have hv:=z2n (.int (z20 one e t)) ((seen one e t).map U.int) 0;rw[z5o inj,y2S]at hv;by_cases hm:z20 one e t∈seen one e t
 .rw[if_pos ((z0C inj).mpr hm)]at hv;rw[hv];obtain⟨first,hf⟩:∃first,first=(seen one e t).idxOf (z20 one e t):=⟨_,rfl⟩;have hfl:first<t:=by rw[hf];have:=y0Q hm;rwa [z1z]at this
  have hfa:z20 one e t=z20 one e first:=by
   have h':(seen one e t)[first]?=some (z20 one e t):=by rw[hf,y0e (y0Q hm),List.getElem_idxOf]
   unfold seen at h';rw[y0x,y2j hfl]at h';exact(y0d h').symm
  have hlat:=z7C one hne hfl hfa;rw[<-hf]at hv;have hmk:t*e.2.length<=one.length*e.2.length:=y16 _ ht;have hmf:first*e.2.length<=t*e.2.length:=y16 _ (y0Z hfl);have lt1:((z1b one e t).take first).flatten.length=first*e.2.length:=by
   have:(z1b one e t).take first=z1b one e first:=by unfold z1b;rw[<-y2x,y3d,y11 (y0Z hfl)]
   rw[this,z1H]
  have lt2:((z1b one e t).take first).flatten.length+((z1b one e t).drop first).flatten.length=t*e.2.length:=by rw[<-y04,<-y1i,y1K,z1H]
  have hrne:((z1b one e t).drop first).flatten≠[]:=λz=>by rw[z,lt1,y1o,y2Q]at lt2;have:=Nat.eq_of_mul_eq_mul_right hL lt2;lia
  refine⟨_,_,ed,rfl,opt.of hv ⟨_,.inl el,λp1 hp1=>?_⟩⟩;rw[zde,<-y2x];have e6:=Ex.up (o:=.lst (((z1b one e t).take first).map uI')) (.refl S5) hp1;refine .mk p1 _ (.inl z04) (by lia) λS7 e7=>⟨?_,_,.inl (e7 _ _ (e6 _ _ el)),λp2 hp2=>?_⟩
  .rw[y00,y00,z0M,lt1];exact z5i (by lia)
  rw[z9b,<-List.map_drop];have e8:=Ex.up (o:=.lst (((z1b one e t).drop first).map uI')) (.refl S7) hp2;refine .mk p2 _ (.inl z04) (by lia) λS9 e9=>?_;rw[show U.tup ((z1h one 0 e.1).map U.int++(((z1b one e t).take first).flatten).map U.int)=uI' (z1h one 0 e.1++((z1b one e t).take first).flatten)by unfold uI';rw[y0n]];refine .mk _ _ (by rw[y04,z0M,lt1];lia) (by lia) (λ_ e' p' la le1 le2=>q e' p' (λi=>(la i).trans (hlat i)) ?_ (by lia) S9 (e5.trans (e6.trans (e7.trans (e8.trans e9))))) λz=>absurd z hrne;rw[y04,z0M,lt1]at le1;lia
 .rw[if_neg (λz=>hm ((z0C inj).mp z))]at hv;rw[hv];refine⟨_,.inl el,_,_,ed,rfl,?_,?_⟩
  .rw[z3K,y00,z1z];exact y0L (show t<=4000 by lia) (by decide)
  have e6:Ex S (up S5 ld (.dic false (z1T (prU 0 ((seen one e t).map U.int)) (.int (z20 one e t)) (.int ((((z1b one e t).map uI').length:Nat):Int))))):=Ex.up e5 hd0;have d6:up S5 ld (.dic false (z1T (prU 0 ((seen one e t).map U.int)) (.int (z20 one e t)) (.int ((((z1b one e t).map uI').length:Nat):Int)))) ld=some (.dic false (prU 0 ((seen one e (t+1)).map U.int))):=by rw[z04,y00,z7k,show((t:Nat):Int)=(((seen one e t).map U.int).length:Int)by rw[y00,z1z],z6R (λz=>hm ((z0C inj).mp z)),z2I,y0n];rfl
  have el6:=(z0c nld (o:=.dic false (z1T (prU 0 ((seen one e t).map U.int)) (.int (z20 one e t)) (.int ((((z1b one e t).map uI').length:Nat):Int))))).trans el;generalize up S5 ld (.dic false (z1T (prU 0 ((seen one e t).map U.int)) (.int (z20 one e t)) (.int ((((z1b one e t).map uI').length:Nat):Int))))=S6 at e6 d6 el6⊢;refine .mk one n e.2 (z20 one e t) G (by lia) l2 a0 a1 λS7 e7=>⟨rfl,⟨_,.inl (e7 _ _ el6)⟩,_,e7 _ _ el6,?_,ag (one.length+1-(t+1)) _ _ (by lia) (.mk (t+1) _ (Ex.up (e6.trans e7) hl0) ?_ ((z0c nld.symm).trans (e7 _ _ d6)) ?_)⟩
  .rw[y00,z7k];exact y0L (show t<=4000 by lia) (by decide)
  .rw[z04,z2q,y0n];rfl
  .rw[z2I];exact List.nodup_append.mpr ⟨nd,by simp,λx hx y hy z=>hm (by rw[<-(show y=z20 one e t by simpa using hy),<-z];exact hx)⟩
end W
namespace W
open PySem L2 PySem.SeqAt Gu
variable[WW]{Z:Zx}
inductive zbq:Wsp
 |mk {S Q E} (a:Addr) (ns:List Int) (i:Int):isL S a (ns.map U.int)->0<=i->i<=1000000->(∀x:Int,Q (.int x) S)->zbq [.ref a,.int i] S Q E
def z4V{us:List U}{i:Int}(h0:0<=i)(h1:i<(us.length:Int)):∃u,atI us i=some u/\u∈us:=by
 obtain⟨n,rfl⟩:=Int.eq_ofNat_of_zero_le h0;have hn:n<us.length:=by lia
 exact⟨us[n],by have:=z4m (f:=id) (xs:=us) (i:=n) (y0e hn);simpa using this,y13 hn⟩
def z1e{ns:List Int}{i:Int}(h0:0<=i)(h1:i<(ns.length:Int)):∃x∈ns,atI (ns.map U.int) i=some (.int x):=by obtain⟨u,e,hu⟩:=z4V (us:=ns.map U.int) h0 (by rw[y00];exact h1);obtain⟨x,hx,rfl⟩:=y0f.mp hu;exact⟨x,hx,e⟩
def z5E(T:Z.Tx)(D:Z.fd "_law_cell" zdB ["_law_script","_law_at"]):Z.f "_law_cell" 1 zbq:=by
 refine wF ["_law_script","_law_at"] D (λf cdv A outer s H E hr nd=>z02 (z0L (z0k (z16 z4P) (z00 1) (sBu T z0E y08 (z01 (z00 0) z03))) (z05 (z0j (z0m z19 (z00 0) (z00 1)))) z0l) (z02 (z0L (z0k (z2o (z2p hr)).1 (sBu T z0E y08 (z01 (z00 0) z03)) z06) (z05 (z0j (z08 z15 (z08 z4a z06 (z00 1)) z06))) z0l) (z05 (z0j (z08 z15 (z08 z10 (z0m z19 (z00 0) (z08 z10 (z00 1) (sBu T z0E y08 (z01 (z00 0) z03)))) z06) (z08 z4a z06 (z00 1))))))) (λus S Q E h=>by cases h<;>rfl) ?_;rintro _ S Q E ⟨a,ns,i,hl,h0,hi,q⟩;refine⟨_,hl,?_⟩;show cond (decide (i<(((ns.map U.int).length:Nat):Int))) _ _;rw[y00];refine z0x (λc=>?_) (λc=>?_)
 .obtain⟨x,_,e⟩:=z1e h0 (y0i c);exact⟨_,hl,opt.of e (q x)⟩
 .refine⟨_,hl,rfl,?_⟩;show cond (false != eqU (.int (((ns.map U.int).length:Nat):Int)) (.int 0)) _ _;rw[y00,eqI];refine z0x (λc2=>⟨.inl (by lia),q _⟩) (λc2=>?_);have c2:=y0C c2;have hp:(0:Int)<(ns.length:Int):=by lia
  refine⟨_,hl,by rw[y00];exact hp,_,hl,?_⟩;rw[y00];obtain⟨x,_,e⟩:=z1e (ns:=ns) (i:=i%(ns.length:Int)) (y0V _ (by lia)) (y0R _ hp);exact opt.of e ⟨by decide,.inl (by lia),q _⟩
inductive zhn:Wsp
 |mk {S Q E} (a:Addr) (ns:List Int) (i:Int):isL S a (ns.map U.int)->0<=i->i<=1000000->(∀n:Nat,2<=n->n<=5->Q (.int n) S)->zhn [.ref a,.int i] S Q E
def z3r(T:Z.Tx)(Jh:Z.f "_law_cell" 1 zbq)(D:Z.fd "_law_letters" z4Z ["_law_script","_law_at"]):Z.f "_law_letters" 2 zhn:=by
 refine wF ["_law_script","_law_at"] D (λf cdv A outer s H E hr nd=>z05 (z0j (z08 z15 z06 (z08 z10 (z0b Jh (hr.mono (by decide)) z0h (z01 (z00 0) (z01 (z00 1) z03))) z06)))) (λus S Q E h=>by cases h<;>rfl) ?_;rintro _ S Q E ⟨a,ns,i,hl,h0,hi,q⟩;refine .mk a ns i hl h0 hi λx=>⟨by decide,?_⟩;have:=q (2+x%4).toNat (by lia) (by lia)
 rwa [show(((2+x%4).toNat:Nat):Int)=2+x%4 by lia]at this
inductive zcy:Wsp
 |mk {S Q E} (x:Int) (m:Nat):m<=1000->(∀(l:Addr)(ns:List Int) S',Ex S S'->S l=none->S' l=some (.lst (ns.map U.int))->ns.length=m->(∀i∈ns,0<=i/\i<=1008)->Q (.ref l) S')->zcy [.int x,.int m] S Q E
inductive zjh(S:Sto)(x:Int)(m:Nat)(l:Addr):Nat->En->Sto->Prop
 |mk {S1} (k:Nat) (r:Int) (ns:List Int):k+ns.length=m->Ex S S1->S1 l=some (.lst (ns.map U.int))->(∀i∈ns,0<=i/\i<=1008)->zjh S x m l k [some (.int x),some (.int m),some (.ref l),some (.int r),none] S1
inductive zjo(S:Sto)(x:Int)(m:Nat)(l:Addr)(u:Option U):Nat->En->Sto->Prop
 |mk {S1} (k:Nat) (r:Int) (ns:List Int):k+ns.length=m->Ex S S1->S1 l=some (.lst (ns.map U.int))->(∀i∈ns,0<=i/\i<=1008)->0<=r->r<2147483647->zjo S x m l u k [some (.int x),some (.int m),some (.ref l),u,some (.int r)] S1
def z6s{P:Int->Prop}{ns:List Int}{x:Int}(h:∀i∈ns,P i)(hx:P x):∀i∈ns++[x],P i:=λi hi=>by
 rcases y0S.mp hi with z|z
 .exact h i z
 .rw[y0w]at z;subst z;exact hx
def zhh{a:Bool}{A Y:Prop}(hY:Y)(hA:a=true->Y->A):cond a A Y:=by cases a;exact hY;exact hA rfl hY
def z44(T:Z.Tx)(D:Z.fd "_law_numbers" z4J ["_law_cell_here","_law_many"]):Z.f "_law_numbers" 1 zcy:=by
 refine wF ["_law_cell_here","_law_many","_law_row","_law_rest","_law_seed"] D (λf cdv A outer s H E hr nd=>z02 (z0d 2 nd (z1g z03)) (z02 (z0d 3 nd (z08 z2k (z00 0) (z08 zhH z06 z06))) (z02 (z14 y0s (SW.st (z35 (z0k (z16 z8n) (z00 3) z06) (z26 (z0k (z16 z4P) (sBu T z0E y08 (z01 (z00 2) z03)) (z00 1))))) (z02 (z0g (zax (z00 2) (z01 (z08 z10 (z00 3) z06) z03))) (z05 (z0d 3 nd (z08 z52 (z00 3) z06))))) (z02 (z0d 4 nd (z08 z10 (z00 0) z06)) (z02 (z14 y0s (z0k (z16 z4P) (sBu T z0E y08 (z01 (z00 2) z03)) (z00 1)) (z02 (z0d 4 nd (z08 z10 (z08 z15 (z08 z15 (z08 z4a (z00 4) z06) z06) (sBu T z0E y08 (z01 (z00 2) z03))) z06)) (z05 (z0g (zax (z00 2) (z01 (z08 z10 (z08 z52 (z08 z10 (z08 z4a (z00 4) z06) z06) z06) z06) z03)))))) (z05 (z0j (z00 2)))))))) (λus S Q E h=>by cases h<;>rfl) ?_;rintro _ S Q E ⟨x,m,hm,q⟩;refine⟨show 0<=sizeLine by decide,λl hl=>⟨⟨by decide,by decide,by decide⟩,?_⟩⟩;refine z3J (zjh S x m l) m (.mk m _ [] (by simp) (Ex.up (.refl S) hl) z04 (by simp)) ?_;rintro k ρ S1 ⟨_,r,ns,hk,e1,hS,hb⟩ again ag;show cond (decide (r>0)) _ _;refine zhh ⟨by decide,?_⟩ (λc nx=>⟨_,.inl hS,?_⟩)
 .refine z3J (zjo S x m l _) k (.mk k _ ns hk e1 hS hb (y0V _ (by decide)) (by have:=y0R x (show(0:Int)<2147483629 by decide);lia)) ?_;rintro k ρ S2 ⟨_,r,ns,hk,e2,hS,hb,h0,h1⟩ again ag;refine⟨_,.inl hS,?_⟩;show cond (decide ((((ns.map U.int).length:Nat):Int)<(m:Int))) _ _;rw[y00];refine z0x (λc=>?_) (λc=>q l ns S2 e2 hl hS (by have:=y0C c;lia) hb);have c:=y0i c;refine⟨.inl (by lia),_,.inl hS,by decide,⟨_,.inl hS⟩,?_⟩;have r0:=y0V (r*48271+9973+(((ns.map U.int).length:Nat):Int)) (show(2147483647:Int)≠0 by decide);have r1:=y0R (r*48271+9973+(((ns.map U.int).length:Nat):Int)) (show(0:Int)<2147483647 by decide);generalize(r*48271+9973+(((ns.map U.int).length:Nat):Int))%2147483647=r' at r0 r1;refine⟨.inl (by lia),by decide,⟨by decide,by decide⟩,by decide,_,hS,by rw[y00];exact z1f (by lia),ag (k-1) _ _ (by lia) (.mk (k-1) r' (ns++[_]) (by simp;lia) (Ex.up e2 hl) (by rw[z04,y0n];rfl) (z6s hb ⟨y0V _ (by decide),by have:=y0R (r'*39373%2147483629/11) (show(0:Int)<1009 by decide);lia⟩) r0 r1)⟩
 .show cond (decide ((((ns.map U.int).length:Nat):Int)<(m:Int))) _ _;rw[y00];refine z0x (λc2=>?_) (λ_=>nx);have c2:=y0i c2;exact⟨⟨_,.inl hS⟩,by decide,_,hS,by rw[y00];exact z1f (by lia),⟨by decide,by decide⟩,ag (k-1) _ _ (by lia) (.mk (k-1) _ (ns++[_]) (by simp;lia) (Ex.up e1 hl) (by rw[z04,y0n];rfl) (z6s hb ⟨y0V _ (by decide),by have:=y0R r (show(0:Int)<1009 by decide);lia⟩))⟩
end W
namespace W
open PySem L2 PySem.SeqAt Gu
variable[WW]{Z:Zx}
inductive zd7:Wsp
 |mk {S Q E} (pick:Int) (n:Nat):n<=1000->(∀(p:List Int) S',IsP n p->Ex S S'->Q (uI' p) S')->zd7 [.int pick,.int n] S Q E
inductive iRe(S:Sto)(n:Nat)(l m:Addr):List U->En->Sto->Prop
 |mk {S1} (L:List U) (pk:Int) (left made:List Int) (x y:Option U):left.length=L.length->(made++left).Perm (z33 n)->Ex S S1->S1 l=some (.lst (left.map U.int))->S1 m=some (.lst (made.map U.int))->iRe S n l m L [some (.int pk),some (.int n),some (.ref l),some (.ref m),x,y] S1
def z2e(lo:Int)(n:Nat):(rg lo n).length=n:=by unfold rg;simp
def z8s{l:List Int}{i:Nat}(h:i<l.length):(l[i]::l.eraseIdx i).Perm l:=by
 induction l generalizing i with
 |nil=>simp at h
 |cons a l ih =>
  cases i with
  |zero=>exact .refl _
  |succ i=>exact(List.Perm.swap _ _ _).trans ((ih (by simpa using h)).cons a)
def z2F(T:Z.Tx)(D:Z.fd "_law_rearranged" zer ["_law_pick","_law_letters_here"]):Z.f "_law_rearranged" 1 zd7:=by
 refine wF ["_law_pick","_law_letters_here","_law_left","_law_made","_law_k","_law_many"] D (λf cdv A outer s H E hr nd=>z02 (z0d 2 nd (zcl (T.b _ (by decide)) (T.b _ (by decide)) rfl (z00 1))) (z02 (z0d 3 nd (z1g z03)) (z02 (z28 y0s rfl (z4p rfl (T.b _ (by decide)) (z01 (z00 1) z03)) (z07 4 nd) (z02 (z0d 5 nd (sBu T z0E y08 (z01 (z00 2) z03))) (z02 (z0g (zax (z00 3) (z01 (ziO (z00 2) (z01 (z08 z10 (z00 0) (z00 5)) z03)) z03))) (z05 (z0d 0 nd (z08 z52 (z00 0) (z00 5))))))) (z05 (z0j (sTy T z11 y0o (z01 (z00 3) z03))))))) (λus S Q E h=>by cases h<;>rfl) ?_;rintro _ S Q E ⟨pick,n,hn,q⟩;refine⟨by lia,by lia,λl hl=>⟨show 0<=sizeLine by decide,λm hm=>⟨by lia,by lia,?_⟩⟩⟩;have en:((n:Nat):Int).toNat=n:=by lia
 rw[en,z4E]at hm⊢;have nlm:l≠m:=by rintro rfl;rw[z04]at hm;cases hm
 have e1:=Ex.up (o:=.lst ((z33 n).map U.int)) (.refl S) hl;have hm0:=e1.no hm;have e2:=Ex.up (o:=.lst []) e1 hm0;refine z27 (iRe S n l m) (.mk _ pick (z33 n) [] _ _ (by rw[y00]) (.refl _) e2 ((z0c nlm).trans z04) z04) ?_ ?_
 .rintro ρ S1 ⟨_,pk,left,made,x,y,h1,h2,h3,h4,h5⟩;rw[y0F.mp h1,y0j]at h2;exact⟨trivial,_,.inl h5,q made S1 h2 h3⟩
 .rintro u L ρ S1 ⟨_,pk,left,made,x,y,h1,h2,h3,h4,h5⟩ ih;rw[y0b]at h1;have hp:(0:Int)<(left.length:Int):=by lia
  have r0:=y0V pk (show(left.length:Int)≠0 by lia);have r1:=y0R pk hp;have hlm:=h2.length_eq;rw[y04,z2E]at hlm;refine⟨trivial,_,.inl h4,⟨_,.inl h5⟩,⟨_,.inl h4⟩,?_⟩;rw[y00];obtain⟨k,hk⟩:∃k:Nat,pk%(left.length:Int)=(k:Int):=⟨_,(Int.toNat_of_nonneg r0).symm⟩;have hkl:k<left.length:=by lia
  have ee:(left.map U.int).eraseIdx k=(left.eraseIdx k).map U.int:=z5A U.int left k;refine⟨hp,_,h4,?_⟩;rw[hk];refine⟨by lia,by lia,opt.of (u:=.int left[k]) (by rw[y0J,y0x,y0e hkl];rfl) ⟨_,(z0c nlm.symm).trans h5,by rw[y00];exact z1f (by lia),⟨hp,by lia⟩,ih _ _ (.mk L _ (left.eraseIdx k) (made++[left[k]]) _ _ ?_ ?_ (Ex.up (Ex.up h3 hl) hm0) ((z0c nlm).trans ?_) ?_)⟩⟩
  .rw[List.length_eraseIdx_of_lt hkl];lia
  .rw[y19];exact(List.Perm.append_left made (z8s hkl)).trans h2
  .rw[z04,y0J,ee]
  .rw[z04,y0n];rfl
end W
namespace W
open PySem L2 PySem.SeqAt Gu
variable[WW]{Z:Zx}
def z55{ck:Sto->Prop}{g:WX U}{te:WE}{k:En->List U->Sto->Prop}(L:List U)(P:Int->Prop){ρ:En}{S:Sto}(J:En->Prop)(h0:J ρ)(hz:L.length<=100000)(hck:∀S',Ex S S'->ck S')(hs:∀x∈L,∀ρ S',J ρ->Ex S S'->∀Qf:En->U->Sto->Prop,(∀ρ' S'' i,J ρ'->Ex S' S''->P i->Qf ρ' (.int i) S'')->g x ρ S' λρ1 S1=>te ρ1 S1 (λu S3=>Qf ρ1 u S3) noQ)(hd:∀ρ S' (gs:List Int),J ρ->Ex S S'->gs.length=L.length->(∀i∈gs,P i)->k ρ (gs.map U.int) S'):cmL ck g [] (em te) L ρ S [] k:=by
 have go:∀(R dn:List U)(gs:List Int)(ρ:En)(S':Sto),L=dn++R->gs.length=dn.length->(∀i∈gs,P i)->J ρ->Ex S S'->cmL ck g [] (em te) R ρ S' (gs.map U.int) k:=by
  intro R;induction R with
  |nil=>intro dn gs ρ S' e hl hp j x;rw[y0j]at e;subst e;exact⟨hck S' x,hd ρ S' gs j x hl hp⟩
  |cons y R ih =>
   intro dn gs ρ S' e hl hp j x;refine⟨hck S' x,hs y (by rw[e];simp) ρ S' j x (λρ1 u S3=>(gs.map U.int).length<sizeLine/\cmL ck g [] (em te) R ρ1 S3 (gs.map U.int++[u]) k) λρ' S'' i j' x' pi=>⟨?_,?_⟩⟩
   .rw[y00,hl];have:dn.length<=L.length:=by rw[e,y04];lia
    exact z1f (by lia)
   .have:=ih (dn++[y]) (gs++[i]) ρ' S'' (by rw[e];simp) (by simp[hl]) (z6s hp pi) j' (x.trans x');rw[y0n]at this;exact this
 exact go L [] [] ρ S rfl rfl (by simp) h0 (.refl S)
def join{A R:Prop}(h:R->A)(hR:R):A:=h hR
def zhr{α β γ δ:Type}{A:Prop}{K:α->β->γ->δ->Prop}(F:α->β->γ->δ->Prop)(h:(∀p g gs S,F p g gs S->K p g gs S)->A)(hR:∀p g gs S,F p g gs S->K p g gs S):A:=h hR
def zbc{α β γ δ:Type}{F K K':α->β->γ->δ->Prop}(h:(∀p g gs S,F p g gs S->K' p g gs S)->∀p g gs S,F p g gs S->K p g gs S)(hR:∀p g gs S,F p g gs S->K' p g gs S):∀p g gs S,F p g gs S->K p g gs S:=h hR
inductive zeo:Wsp
 |mk {S Q E} (n:Nat) (c:Int):2<=n->n<=5->(∀(l:Addr)(rows:List Row) S',Ex S S'->S l=none->S' l=some (.lst (rows.map uR))->z1i n rows->rows.length<=8->Q (.ref l) S')->zeo [.int n,.int c] S Q E
inductive zf9(S:Sto)(n m:Nat)(c k:Int)(ns:List Int)(l0 l5:Addr):List U->En->Sto->Prop
 |mk {S1} (L:List U) (rows:List Row) (x6 x7 x8 x9:Option U):rows.length+L.length=m->(∀u∈L,∃i:Nat,u=.int i/\i<m)->(∀r∈rows,IsP n r.1/\r.2.length=n/\∀g∈r.2,0<=g/\g<(m:Int))->Ex S S1->S1 l0=some (.lst (ns.map U.int))->S1 l5=some (.lst (rows.map uR)) ->
  zf9 S n m c k ns l0 l5 L [some (.int n),some (.int c),some (.ref l0),some (.int m),some (.int k),some (.ref l5),x6,x7,x8,x9] S1
structure GL(S1:Sto)(n m:Nat)(p:List Int)(g:Addr)(gs:List Int)(S2:Sto):Prop where
 pm:IsP n p
 ex:Ex S1 S2
 at_:S2 g=some (.lst (gs.map U.int))
 len:gs.length=n
 rg:∀i∈gs,0<=i/\i<(m:Int)
def z63{n:Nat}{u:U}(h:u∈rg 0 n):∃i:Nat,u=.int i/\i<n:=by unfold W.rg at h;obtain⟨i,hi,rfl⟩:=y0f.mp h;exact⟨i,by simp,y29.mp hi⟩
def zdd(n:Nat)(i:Int):rep (n:Int) [U.int i]=(List.replicate n i).map U.int:=by
 unfold rep;rw[show((n:Nat):Int).toNat=n by lia];induction n with
 |zero=>rfl
 |succ n ih=>rw[y0O,y14,ih,y0O];rfl
def zj8:z0K ["_law_letters_here","_law_cell_here","_law_nums","_law_many","_law_kind","_law_rows_here","_law_at","_law_pick","_law_first","_law_goings"] (z0a z8q) ["_law_k","_law_goings","_law_letters_here","_law_many","_law_pick"] [none,some 9,some 0,some 3,some 7] (csc [(".0",.local),("_law_k",.local),("_law_goings",.free),("_law_letters_here",.free),("_law_many",.free),("_law_pick",.free)]):={}
def zfX:z0K ["_law_letters_here","_law_cell_here","_law_nums","_law_many","_law_kind","_law_rows_here","_law_at","_law_pick","_law_first","_law_goings"] (z0a z8q) ["_law_to","_law_at","_law_many"] [none,some 6,some 3] (csc [(".0",.local),("_law_to",.local),("min",.globalImplicit),("_law_at",.free),("_law_many",.free)]):={}
def zgv:z0K ["_law_letters_here","_law_cell_here","_law_nums","_law_many","_law_kind","_law_rows_here","_law_at","_law_pick","_law_first","_law_goings"] (z0a z8q) ["_law_k","_law_many","_law_pick"] [none,some 3,some 7] (csc [(".0",.local),("_law_k",.local),("_law_many",.free),("_law_pick",.free)]):={}
def z61(T:Z.Tx)(Jb:Z.f "_law_numbers" 1 zcy)(Jo:Z.f "_law_rearranged" 1 zd7)(D:Z.fd "_law_rows" z8q ["_law_letters_here","_law_cell_here"]):Z.f "_law_rows" 2 zeo:=by
 refine wF ["_law_letters_here","_law_cell_here","_law_nums","_law_many","_law_kind","_law_rows_here","_law_at","_law_pick","_law_first","_law_goings"] D (λf cdv A outer s H E hr nd=>z02 (z0d 2 nd (z0b Jb (hr.mono (by decide)) z0h (z01 (z00 1) (z01 z06 z03)))) (z02 (z0d 3 nd (z08 z15 z06 (z08 z10 (z0m z19 (z00 2) z06) z06))) (z02 (z0d 4 nd (z08 z10 (z0m z19 (z00 2) z06) z06)) (z02 (z0d 5 nd (z1g z03)) (z02 (z28 y0s rfl (z4p rfl (T.b _ (by decide)) (z01 (z00 3) z03)) (z07 6 nd) (z02 (z0d 7 nd (z0u (z00 2) (z1n (z08 z15 z06 (z08 z4a z06 (z00 6)))) (z1n (z08 z15 z06 (z08 z4a z06 (z00 6)))))) (z02 (z0d 8 nd (z0b Jo (hr.mono (by decide)) z0h (z01 (z0m z19 (z00 7) z06) (z01 (z00 0) z03)))) (z02 (z0d 9 nd (z0D ⟨zgv,rfl,λ_ _ _ _ _=>⟨(z07 0 zgv.nd),.nil,(z1j rfl (z08 z10 (z0m z19 (z00 2) (z08 z15 z06 (z00 0))) (z00 1)))⟩,λg' e=>by cases e⟩ (z4p rfl (T.b _ (by decide)) (z01 (z00 0) z03)))) (z02 (z0L (z0k (z2o (z2p hr)).1 (z00 4) z06) (z05 (z0d 9 nd (z0D ⟨zfX,rfl,λ_ _ _ _ _=>⟨(z07 0 zfX.nd),.nil,(z1j rfl (sBu T (zie rfl) PyProof.Rows.boot_min (z01 (z08 z2k (z00 2) z06) (z01 (z08 z15 (z08 z15 (z00 1) z06) (z00 0)) z03))))⟩,λg' e=>by cases e⟩ (z0G (z00 9) z0I)))) z0l) (z02 (z0L (z0k (z2o (z2p hr)).1 (z00 4) z06) (z05 (z0d 9 nd (z0D ⟨zj8,rfl,λ_ _ _ _ _=>⟨(z07 0 zj8.nd),.nil,(z1j rfl (z8V (z0k (z2o (z2p hr)).1 (z00 0) (z08 z10 (z08 z52 (z0m z19 (z00 4) z06) z06) (z00 2))) (z0m z19 (z00 1) (z00 0)) (z08 z2k (z00 3) z06)))⟩,λg' e=>by cases e⟩ (z4p rfl (T.b _ (by decide)) (z01 (z00 0) z03))))) z0l) (z02 (z0L (SW.st (z8f (SW.st (z35 (z3c (z16 z2Q) (z16 z2Q) z06 (z00 4) z06) (z26 (z0k (z2o (z2p hr)).1 (z00 6) (z08 z2k (z00 3) z06))))) (z4k (SW.st (z35 (z0k (z2o (z2p hr)).1 (z00 4) z06) (z26 (z0k (z2o (z2p hr)).1 (z08 z10 (z0m z19 (z00 7) z06) z06) z06))))))) (z05 (z0d 8 nd (zgq (T.b _ (by decide)) (T.b _ (by decide)) rfl (z00 0)))) z0l) (z02 (z0L (SW.st (z35 (z3c (z16 z2Q) (z16 z2Q) z06 (z00 4) z06) (z26 (z0k (z2o (z2p hr)).1 (z00 6) (z08 z2k (z00 3) z06))))) (z05 (z0d 9 nd (z08 z4a (z1g (z01 (z00 6) z03)) (z00 0)))) z0l) (z05 (z0g (zax (z00 5) (z01 (z0t (z01 (z00 8) (z01 (sTy T z11 y0o (z01 (z00 9) z03)) z03))) z03)))))))))))) (z05 (z0j (z00 5)))))))) (λus S Q E h=>by cases h<;>rfl) ?_;rintro _ S Q E ⟨n,c,h2,h5,q⟩;refine .mk c 64 (by decide) λl0 ns S0 e0 hl0 hS0 hns hb=>?_;obtain⟨x0,hx0,a0⟩:=z1e (ns:=ns) (i:=0) (by decide) (by lia);obtain⟨x1,hx1,a1⟩:=z1e (ns:=ns) (i:=1) (by decide) (by lia);refine⟨_,.inl hS0,opt.of a0 ⟨by decide,_,.inl hS0,opt.of a1 ⟨by decide,show 0<=sizeLine by decide,λl5 hl5=>?_⟩⟩⟩;obtain⟨m,hm,m1,m8⟩:∃m:Nat,1+x0%8=(m:Int)/\1<=m/\m<=8:=⟨(1+x0%8).toNat,by lia,by lia,by lia⟩;have k0:=y0V x1 (show(6:Int)≠0 by decide);generalize x1%6=k at k0;have hl5':=e0.no hl5;have n05:l0≠l5:=by rintro rfl;rw[hS0]at hl5;cases hl5
 have e1:=Ex.up (o:=.lst []) e0 hl5';refine⟨by lia,by lia,?_⟩;rw[hm,show((m:Nat):Int).toNat=m by lia];refine z27 (zf9 S n m c k ns l0 l5) (.mk _ [] _ _ _ _ (by rw[z2e];simp) (λu hu=>z63 hu) (by simp) e1 ((z0c n05).trans hS0) z04) ?_ ?_
 .rintro ρ S1 ⟨_,rows,x6,x7,x8,x9,h1,_,hr,e1,_,hS5⟩;have h1:rows.length=m:=by simpa using h1
  refine⟨trivial,q l5 rows S1 e1 hl5' hS5 ⟨by lia,by lia,λr z=>(hr r z).1,λr z=>(hr r z).2.1,λr z g hg=>?_⟩ (by lia)⟩;have:=(hr r z).2.2 g hg;lia
 .rintro u L ρ S1 ⟨_,rows,x6,x7,x8,x9,h1,hL,hr,e1,hS0,hS5⟩ ih;obtain⟨i,rfl,him⟩:=hL u (by simp);rw[y0b]at h1;refine⟨trivial,.inl (by lia),.inl (by lia),_,.inl hS0,λl7 hl7=>?_⟩;rw[show(2:Int)+6*(i:Int)=((2+6*i:Nat):Int)by lia,show(8:Int)+6*(i:Int)=((8+6*i:Nat):Int)by lia,z39]at *;have pl:=z7D (ns:=ns) (lo:=2+6*i) (hi:=8+6*i) (by lia);have pb:∀x∈z68 ns (some ((2+6*i:Nat):Int)) (some ((8+6*i:Nat):Int)),0<=x/\x<=1008:=λx hx=>hb x (z7z hx);generalize z68 ns (some ((2+6*i:Nat):Int)) (some ((8+6*i:Nat):Int))=ps at pl pb;have e7:=Ex.up (o:=.lst (ps.map U.int)) (.refl S1) hl7;have hS7:up S1 l7 (.lst (ps.map U.int)) l7=some (.lst (ps.map U.int)):=z04;generalize up S1 l7 (.lst (ps.map U.int))=S2 at e7 hS7;obtain⟨y0,hy0,b0⟩:=z1e (ns:=ps) (i:=0) (by decide) (by lia);apply zhr (GL S2 n m)
  .intro rest;refine⟨_,.inl hS7,opt.of b0 (.mk y0 n (by lia) λp S3 hp e3=>⟨by lia,by lia,?_⟩)⟩;have e13:=e7.trans e3;rw[show((n:Nat):Int).toNat=n by lia];have mem5:∀k:Nat,k<n->∃x∈ps,atI (ps.map U.int) (1+(k:Int))=some (.int x):=λk hk=>z1e (by lia) (by lia);refine z55 (rg 0 n) (λz=>0<=z/\z<(m:Int)) (λρ=>∃x,ρ=[x,some (.int m),some (.ref l7)]) ⟨_,rfl⟩ (by rw[z2e];lia) (λ_ _=>trivial) ?_ ?_
   .rintro u hu ρ S4 ⟨x,rfl⟩ e4 Qf qf;obtain⟨k',rfl,hk'⟩:=z63 hu;obtain⟨y,_,b⟩:=mem5 k' hk';exact⟨_,.inl (e4 _ _ (e3 _ _ hS7)),opt.of b ⟨by lia,qf [some (.int k'),some (.int m),some (.ref l7)] S4 _ ⟨_,rfl⟩ (.refl _) ⟨y0V _ (by lia),y0R _ (by lia)⟩⟩⟩
   rintro ρ S4 gs ⟨x,rfl⟩ e4 gl gb l9 hl9;have e14:=e13.trans e4;rw[z2e]at gl;have e24:=e3.trans e4;have A:GL S2 n m p l9 gs (up S4 l9 (.lst (gs.map U.int))):=⟨hp,Ex.up e24 (e24.no hl9),z04,gl,gb⟩;generalize up S4 l9 (.lst (gs.map U.int))=S5 at A⊢;exact rest p l9 gs S5 A
  apply zbc
  .intro rest p g gs S5 A1;have gl:=A1.len;have gb:=A1.rg;refine⟨rfl,?_⟩;show cond (false != eqU (.int k) (.int 1)) _ _;refine z0x (λc=>?_) (λc=>rest p g gs S5 A1);refine⟨_,.inl A1.at_,z55 (gs.map U.int) (λz=>0<=z/\z<(m:Int)) (λρ=>∃x,ρ=[x,some (.int i),some (.int m)]) ⟨_,rfl⟩ (by rw[y00,gl];lia) (λS' e=>.inl (e _ _ A1.at_)) ?_ ?_⟩
   .rintro u hu ρ S6 ⟨x,rfl⟩ e6 Qf qf;obtain⟨to,ht,rfl⟩:=y0f.mp hu;have:=gb to ht;refine qf [some (.int to),some (.int i),some (.int m)] S6 _ ⟨_,rfl⟩ (.refl _) ?_;split<;>lia
   .rintro ρ S6 gs' ⟨x,rfl⟩ e6 gl' gb' l hl;have e26:=A1.ex.trans e6;rw[y00,gl]at gl';exact rest p l gs' _ ⟨A1.pm,Ex.up e26 (e26.no hl),z04,gl',gb'⟩
  apply zbc
  .intro rest p g gs S5 A1;have gl:=A1.len;have gb:=A1.rg;refine⟨rfl,?_⟩;show cond (false != eqU (.int k) (.int 2)) _ _;refine z0x (λc=>⟨by lia,by lia,?_⟩) (λc=>rest p g gs S5 A1);rw[show((n:Nat):Int).toNat=n by lia];refine z55 (rg 0 n) (λz=>0<=z/\z<(m:Int)) (λρ=>∃x,ρ=[x,some (.ref g),some (.int n),some (.int m),some (.ref l7)]) ⟨_,rfl⟩ (by rw[z2e];lia) (λ_ _=>trivial) ?_ ?_
   .rintro u hu ρ S6 ⟨x,rfl⟩ e6 Qf qf;obtain⟨k',rfl,hk'⟩:=z63 hu;obtain⟨y,hy,b⟩:=z1e (ns:=gs) (i:=(k':Int)) (by lia) (by lia);refine⟨_,.inl (e6 _ _ (A1.ex _ _ hS7)),opt.of b0 ⟨⟨by decide,by decide⟩,by lia,rfl,?_⟩⟩;show cond (false != eqU (.int k') (.int _)) _ _;refine z0x (λ_=>⟨_,.inl (e6 _ _ A1.at_),opt.of b (qf [some (.int k'),some (.ref g),some (.int n),some (.int m),some (.ref l7)] S6 _ ⟨_,rfl⟩ (.refl _) (gb y hy))⟩) (λ_=>qf [some (.int k'),some (.ref g),some (.int n),some (.int m),some (.ref l7)] S6 _ ⟨_,rfl⟩ (.refl _) ⟨by lia,by lia⟩)
   .rintro ρ S6 gs' ⟨x,rfl⟩ e6 gl' gb' l hl;have e26:=A1.ex.trans e6;rw[z2e]at gl';exact rest p l gs' _ ⟨A1.pm,Ex.up e26 (e26.no hl),z04,gl',gb'⟩
  apply zbc
  .intro rest p g gs S5 A1;have f:=rest p g gs S5 A1;apply join
   .intro t;apply join
    .intro b;show cond (decide ((1:Int)<=k)) _ _;refine z0x (λc1=>?_) (λc1=>b);show cond (decide (k<=(3:Int))) _ _;refine z0x (λc2=>⟨rfl,?_⟩) (λc2=>b);show cond (false != eqU (.int i) (.int _)) _ _;exact z0x (λ_=>t) (λ_=>b)
    .refine⟨rfl,?_⟩;show cond (false != eqU (.int k) (.int 4)) _ _;refine z0x (λ_=>⟨_,.inl (A1.ex _ _ hS7),opt.of b0 ⟨by decide,rfl,?_⟩⟩) (λ_=>f);show cond (false != eqU (.int _) (.int 1)) _ _;exact z0x (λ_=>t) (λ_=>f)
   .refine⟨by lia,by lia,?_⟩;have w:=rest (z33 n) g gs S5 { A1 with pm:=.refl _ };rw[show((n:Nat):Int).toNat=n by lia];unfold uI' at w;rw[<-z4E]at w;exact w
  apply zbc
  .intro rest p g gs S5 A1;have f:=rest p g gs S5 A1;show cond (decide ((1:Int)<=k)) _ _;refine z0x (λc1=>?_) (λc1=>f);show cond (decide (k<=(3:Int))) _ _;refine z0x (λc2=>⟨rfl,?_⟩) (λc2=>f);show cond (false != eqU (.int i) (.int _)) _ _;refine z0x (λ_=>⟨show 1<=sizeLine by decide,λl hl=>⟨_,z04,by lia,by lia,by show 1*((n:Nat):Int).toNat<=_;exact y0Z (z1f (by lia)),λl' hl'=>?_⟩⟩) (λ_=>f);rw[zdd];have ea:=Ex.up (o:=.lst [.int i]) A1.ex (A1.ex.no hl);exact rest p l' _ _ ⟨A1.pm,Ex.up ea (ea.no hl'),z04,by simp,λz hz=>by rw[List.eq_of_mem_replicate hz];lia⟩
  intro p g gs S5 A1;have e15:=e7.trans A1.ex;refine⟨⟨_,.inl (e15 _ _ hS5)⟩,_,.inl A1.at_,show 2<=sizeLine by decide,_,e15 _ _ hS5,by rw[y00];exact z1f (by lia),ih _ _ (.mk L (rows++[(p,gs)]) _ _ _ _ (by simp;lia) (λu hu=>hL u (by simp[hu])) (λr hr'=>?_) (Ex.up (e1.trans e15) hl5') ((z0c n05).trans (e15 _ _ hS0)) (by rw[z04,y0n];rfl))⟩;rcases y0S.mp hr' with h|h
  .exact hr r h
  .rw[y0w]at h;subst h;exact⟨A1.pm,A1.len,A1.rg⟩
end W
namespace W
open PySem L2 PySem.SeqAt Gu
variable[WW]{Z:Zx}
structure zey{α β γ δ ε:Type}(F K:α->β->γ->δ->ε->Prop):Prop where
 go:∀p g r gs S,F p g r gs S->K p g r gs S
def ziA{α β γ δ ε:Type}{A:Prop}{K:α->β->γ->δ->ε->Prop}(F:α->β->γ->δ->ε->Prop)(h:zey F K->A)(hR:zey F K):A:=h hR
def zeK{α β γ δ ε:Type}{F K K':α->β->γ->δ->ε->Prop}(F':α->β->γ->δ->ε->Prop)(h:zey F' K'->zey F K)(hR:zey F' K'):zey F K:=h hR
def z79(k:Nat)(rs:List Int):((List.replicate k rs).flatten).length=k*rs.length:=by
 induction k with
 |zero=>simp
 |succ k ih=>rw[y0O,y14,y04,ih,y3e];lia
def zcy.of{S:Sto}{Q:Kq U}{E:Xq}{x k:Int}(m:Nat)(hk:k=(m:Int))(h:m<=1000)(q:∀(l:Addr)(ns:List Int) S',Ex S S'->S l=none->S' l=some (.lst (ns.map U.int))->ns.length=m->(∀i∈ns,0<=i/\i<=1008)->Q (.ref l) S'):zcy [.int x,.int k] S Q E:=by subst hk;exact .mk x m h q
structure CM(S0:Sto)(n z z':Nat)(la:Addr)(as:List Int)(lr:Addr)(rs:List Int)(S:Sto):Prop where
 ex:Ex S0 S
 aa:S la=some (.lst (as.map U.int))
 ar:S lr=some (.lst (rs.map U.int))
 wa:LW n as
 wr:LW n rs
 ne:rs≠[]
 za:as.length<=z
 zr:rs.length<=z'
inductive z6T:Wsp
 |mk {S Q E} (n:Nat) (c:Int) (m:Nat):1<=n->n<=1000->1<=m->m<=20->(∀(e:Row) S',z3S n e->e.1.length<=300->e.2.length<=150->Ex S S'->Q (uR e) S')->z6T [.int n,.int c,.int m] S Q E
def zfd{S:Sto}{a b:Addr}{o:Ob}(h:S a=some o)(h':S b=none):a≠b:=by rintro rfl;rw[h]at h';cases h'
def z9V(ns:List Int)(lo hi:Option Int):(z68 ns lo hi).length<=ns.length:=by unfold z68;rw[y0z,y12];lia
def zj9:z0K ["_law_letters_here","_law_cell_here","_law_most","_law_nums","_law_ahead","_law_ring"] (z0a z3Q) ["_law_pick","_law_letters_here"] [none,some 0] (csc [(".0",.local),("_law_pick",.local),("_law_letters_here",.free)]):={}
def zgd:z0K ["_law_letters_here","_law_cell_here","_law_most","_law_nums","_law_ahead","_law_ring"] (z0a z3Q) ["_law_pick","_law_letters_here"] [none,some 0] (csc [(".0",.local),("_law_pick",.local),("_law_letters_here",.free)]):={}
def z4g(T:Z.Tx)(Jb:Z.f "_law_numbers" 1 zcy)(D:Z.fd "_law_coming" z3Q ["_law_letters_here","_law_cell_here","_law_most"]):Z.f "_law_coming" 2 z6T:=by
 refine wF ["_law_letters_here","_law_cell_here","_law_most","_law_nums","_law_ahead","_law_ring"] D (λf cdv A outer s H E hr nd=>z02 (z0d 3 nd (z0b Jb (hr.mono (by decide)) z0h (z01 (z00 1) (z01 (z08 z15 (z08 z4a z06 (z00 2)) z06) z03)))) (z02 (z6j 4 nd ⟨zgd,rfl,λ_ _ _ _ _=>⟨(z07 0 zgd.nd),.nil,(z1j rfl (z08 z10 (z00 0) (z00 1)))⟩,λg' e=>by cases e⟩ (z0G (z0u (z00 3) (z1n z06) (z1n (z08 z15 z06 (z08 z10 (z0m z19 (z00 3) z06) (z08 z15 (z00 2) z06))))) z0I)) (z02 (z6j 5 nd ⟨zj9,rfl,λ_ _ _ _ _=>⟨(z07 0 zj9.nd),.nil,(z1j rfl (z08 z10 (z00 0) (z00 1)))⟩,λg' e=>by cases e⟩ (z0G (z0u (z00 3) (z1n (z08 z15 (z00 2) z06)) (z1n (z08 z15 (z08 z15 (z00 2) z06) (z08 z10 (z0m z19 (z00 3) z06) (z00 2))))) z0I)) (z02 (z0L (z0k (z2o (z2p hr)).1 (z08 z10 (z08 z52 (z0m z19 (z00 3) z06) z06) z06) z06) (z05 (z0d 5 nd (z08 z4a (z00 5) (z08 z15 z06 (z08 z10 (z08 z52 (z0m z19 (z00 3) z06) z06) z06))))) z0l) (z02 (z0L (z0k (z2o (z2p hr)).1 (z08 z10 (z08 z52 (z0m z19 (z00 3) z06) z06) z06) z06) (z05 (z0d 4 nd (z08 z15 (z00 4) (z0u (z00 5) (z1n (z08 z2k (z1Q z06) (z08 z10 (z08 z52 (z0m z19 (z00 3) z06) z06) (sBu T z0E y08 (z01 (z00 5) z03))))) z1X)))) z0l) (z05 (z0j (z0t (z01 (sTy T z11 y0o (z01 (z00 4) z03)) (z01 (sTy T z11 y0o (z01 (z00 5) z03)) z03)))))))))) (λus S Q E h=>by cases h<;>rfl) ?_;rintro _ S Q E ⟨n,c,m,n1,n9,m1,m9,q⟩;refine⟨.inl (by lia),zcy.of (2*m+3) (by lia) (by lia) λl0 ns S0 e0 hl0 hS0 hns hb=>?_⟩;obtain⟨x0,hx0,a0⟩:=z1e (ns:=ns) (i:=0) (by decide) (by lia);obtain⟨x1,hx1,a1⟩:=z1e (ns:=ns) (i:=1) (by decide) (by lia);have b1:=hb x1 hx1;have b0:=hb x0 hx0;have md:∀x:Int,0<=x%(n:Int)/\x%(n:Int)<(n:Int):=λx=>⟨y0V _ (by lia),y0R _ (by lia)⟩;have key:∀(ls:Addr)(us:List Int)(S1:Sto)(K:En->List U->Sto->Prop),S1 ls=some (.lst (us.map U.int))->us.length<=1000->(∀(ρ:En)(gs:List Int) S',Ex S1 S'->gs.length=us.length->LW n gs->K ρ (gs.map U.int) S')->∃us',isL S1 ls us'/\cmL (λS=>isL S ls us') (gN 0) [] (em (w2 zi2 (z6C 0) (z6C 1))) us' [none,some (.int n)] S1 [] K:=λls us S1 K h hz hK=>by
  refine⟨_,.inl h,z55 (us.map U.int) (λz=>0<=z/\z<(n:Int)) (λρ=>∃x,ρ=[x,some (.int n)]) ⟨_,rfl⟩ (by rw[y00];lia) (λS' e=>.inl (e _ _ h)) ?_ ?_⟩
  .rintro u hu ρ S' ⟨x,rfl⟩ e Qf qf;obtain⟨z,_,rfl⟩:=y0f.mp hu;exact⟨by lia,qf [some (.int z),some (.int n)] S' _ ⟨_,rfl⟩ (.refl _) (md z)⟩
  .rintro ρ S' gs ⟨x,rfl⟩ e gl gb;exact hK _ gs S' e (by rw[gl,y00]) gb
 apply ziA (CM S0 n 100 50)
 .intro rest;refine⟨_,.inl hS0,opt.of a0 ⟨by lia,_,.inl hS0,λl1 hl1=>?_⟩⟩;rw[z39];have z1:=z9V ns (some 2) (some (2+x0%((m:Int)+1)));generalize z68 ns (some 2) (some (2+x0%((m:Int)+1)))=us at z1;have e1:=Ex.up (o:=.lst (us.map U.int)) (.refl S0) hl1;refine key l1 us _ _ z04 (by lia) λρ as S2 e2 gl1 gw1 la hla=>?_;have e12:=e1.trans e2;have e3:=Ex.up (o:=.lst (as.map U.int)) e12 (e12.no hla);have aa:up S2 la (.lst (as.map U.int)) la=some (.lst (as.map U.int)):=z04;generalize up S2 la (.lst (as.map U.int))=S3 at e3 aa;refine⟨_,.inl (e3 _ _ hS0),opt.of a1 ⟨by lia,_,.inl (e3 _ _ hS0),λl4 hl4=>?_⟩⟩;obtain⟨y,hy,y9⟩:∃y:Nat,x1%(m:Int)=(y:Int)/\y<m:=⟨(x1%(m:Int)).toNat,by have:=y0V x1 (show(m:Int)≠0 by lia);lia,by have:=y0V x1 (show(m:Int)≠0 by lia);have:=y0R x1 (show(0:Int)<m by lia);lia⟩;rw[hy,z39,show(m:Int)+2=((m+2:Nat):Int)by lia,show(m:Int)+3+(y:Int)=((m+3+y:Nat):Int)by lia]at *;have z4:=z7D (ns:=ns) (lo:=m+2) (hi:=m+3+y) (by lia);generalize z68 ns (some ((m+2:Nat):Int)) (some ((m+3+y:Nat):Int))=vs at z4;have e4:=Ex.up (o:=.lst (vs.map U.int)) (.refl S3) hl4;refine key l4 vs _ _ z04 (by lia) λρ rs S5 e5 gl2 gw2 lr hlr=>?_;have e35:=e4.trans e5;have e6:=Ex.up (o:=.lst (rs.map U.int)) e35 (e35.no hlr);have ar:up S5 lr (.lst (rs.map U.int)) lr=some (.lst (rs.map U.int)):=z04;generalize up S5 lr (.lst (rs.map U.int))=S6 at e6 ar⊢;exact rest.go la as lr rs S6 ⟨e3.trans e6,e6 _ _ aa,ar,gw1,gw2,λz=>by rw[z,z4]at gl2;simp at gl2;lia,by lia,by lia⟩
 apply zeK (CM S0 n 100 150)
 .intro rest;refine⟨λla as lr rs S1 A=>?_⟩;refine⟨_,.inl (A.ex _ _ hS0),opt.of a0 ⟨⟨by decide,by decide⟩,by decide,rfl,?_⟩⟩;show cond (false != eqU (.int _) (.int 1)) _ _;refine z0x (λ_=>?_) (λ_=>rest.go la as lr rs S1 { A with zr:=by have:=A.zr;lia });refine⟨_,.inl (A.ex _ _ hS0),opt.of a1 ⟨⟨by decide,by decide⟩,by decide,_,A.ar,by lia,by lia,?_,λl hl=>?_⟩⟩
  .have:=A.zr;have:(1+x1/31%3).toNat<=3:=by lia
   rw[y00];exact y0k (Nat.mul_le_mul (show rs.length<=50 from A.zr) this) (by decide)
  .have hk:(1+x1/31%3).toNat<=3/\1<=(1+x1/31%3).toNat:=by lia
   rw[zgQ];have A':CM S0 n 100 150 la as l ((List.replicate (1+x1/31%3).toNat rs).flatten) (up S1 l (.lst ((List.replicate (1+x1/31%3).toNat rs).flatten.map U.int))):=by
    refine⟨Ex.up A.ex (A.ex.no hl),(z0c (zfd A.aa hl)).trans A.aa,z04,A.wa,λz hz=>?_,λz=>?_,A.za,?_⟩
    .obtain⟨w,hw,hz⟩:=List.mem_flatten.mp hz;rw[List.eq_of_mem_replicate hw]at hz;exact A.wr z hz
    .have:=z79 (1+x1/31%3).toNat rs;have h2:=y0r.mpr A.ne;rw[z,y1o]at this;have h3:1*rs.length<=(1+x1/31%3).toNat*rs.length:=y16 _ hk.2;lia
    .rw[z79];have h3:(1+x1/31%3).toNat*rs.length<=3*rs.length:=y16 _ hk.1;have:=A.zr;lia
   generalize up S1 l (.lst ((List.replicate (1+x1/31%3).toNat rs).flatten.map U.int))=S2 at A'⊢;exact rest.go la as l _ S2 A'
 apply zeK (CM S0 n 300 150)
 .intro rest;refine⟨λla as lr rs S1 A=>?_⟩;refine⟨_,.inl (A.ex _ _ hS0),opt.of a0 ⟨⟨by decide,by decide⟩,by decide,rfl,?_⟩⟩;show cond (false != eqU (.int _) (.int 1)) _ _;refine z0x (λ_=>?_) (λ_=>rest.go la as lr rs S1 { A with za:=by have:=A.za;lia });have hp:(0:Int)<(rs.length:Int):=by have:=y0r.mpr A.ne;lia
  refine⟨_,.inl (A.ex _ _ hS0),opt.of a1 ⟨⟨by decide,by decide⟩,_,.inl A.ar,by rw[y00];exact hp,_,.inl A.ar,λl hl=>?_⟩⟩;rw[z39];have zc:=z9V rs (some (-1-x1/93%(((rs.map U.int).length:Nat):Int))) none;have mc:∀z∈z68 rs (some (-1-x1/93%(((rs.map U.int).length:Nat):Int))) none,z∈rs:=λz hz=>z7z hz;generalize z68 rs (some (-1-x1/93%(((rs.map U.int).length:Nat):Int))) none=ts at zc mc;have hzr:=A.zr;have hza:=A.za;have e1:=Ex.up (o:=.lst (ts.map U.int)) (.refl S1) hl;refine⟨_,_,e1 _ _ A.aa,z04,by rw[y00,y00];exact y0Z (z1f (by lia)),λl' hl'=>?_⟩;rw[<-y0n];have e2:=e1.trans (Ex.up (o:=.lst ((as++ts).map U.int)) (.refl _) hl');have A':CM S0 n 300 150 l' (as++ts) lr rs (up (up S1 l (.lst (ts.map U.int))) l' (.lst ((as++ts).map U.int))):=⟨A.ex.trans e2,z04,e2 _ _ A.ar,λz hz=>(y0S.mp hz).elim (A.wa z) λh=>A.wr z (mc z h),A.wr,A.ne,by rw[y04];lia,A.zr⟩;generalize up (up S1 l (.lst (ts.map U.int))) l' (.lst ((as++ts).map U.int))=S2 at A'⊢;exact rest.go l' _ lr rs S2 A'
 refine⟨λla as lr rs S1 A=>?_⟩;exact⟨_,.inl A.aa,_,.inl A.ar,show 2<=sizeLine by decide,q (as,rs) S1 ⟨A.ne,A.wa,A.wr⟩ (by have:=A.za;show as.length<=_;lia) (by have:=A.zr;show rs.length<=_;lia) (e0.trans A.ex)⟩
end W
namespace W
open PySem L2 PySem.SeqAt PySem.Spec Gu
variable[WW]{Z:Zx}
def at0{α:Type}{a:α}{r:List α}:atI (a::r) 0=some a:=by unfold atI ixN;simp
def z2Y.at_{S:Sto}{ks:List Str}{us:List U}{xs:List Str}(h:z2Y S ks us xs):us.length=ks.length/\xs.length=ks.length/\prs (ks.map U.str) us=List.zipWith (λk u=>U.tup [.str k,u]) ks us:=by
 induction h with
 |nil=>exact⟨rfl,rfl,rfl⟩
 |cons a b ih =>
  obtain⟨h1,h2,h3⟩:=ih;refine⟨by simp[h1],by simp[h2],?_⟩;unfold prs at h3⊢;rw[y0m,List.zipWith_cons_cons,List.zipWith_cons_cons,h3]
inductive iLn(S:Sto)(d:U)(name:Str)(lp:Addr)(all:List Str):List U->En->Sto->Prop
 |mk {S1} (ks:List Str) (us:List U) (dn xs:List Str) (x y z:Option U):z2Y S ks us xs->all=dn++xs->Ex S S1->S1 lp=some (.lst ((name::dn).map .str))->dn.length+xs.length<=100->iLn S d name lp all (prs (ks.map U.str) us) [some d,some (.str name),some (.ref lp),x,y,z] S1
def z3O(T:Z.Tx)(hT:Tab Z 6 (zgf Z))(D:Z.fd "line_written" z1W ["deed"]):Z.f "line_written" 7 (zaL Z):=by
 refine wF ["deed","name","parts","kind","part","writer"] D (λf cdv A outer s H E hr nd=>z02 (z0d 1 nd (z0m z19 (z00 0) z06)) (z02 (z0d 2 nd (z1g (z01 (z00 1) z03))) (z02 (z28 y0s rfl (ziH T (T.b _ (by decide)) (z01 (zgx T (zj4 T) (z00 1)) (z01 (z0u (z00 0) (z1n z06) z1X) z03))) (z0F rfl (z09 (z07 3 nd) (z09 (z07 4 nd) z0r))) (z02 (z0d 5 nd (zgx T (zj4 T) (z00 3))) (z05 (z0g (zax (z00 2) (z01 (zc9 5 hT (hr.mono (by decide)) (zc2 λ_ _ _ z=>z) (z01 (z00 4) z03)) z03)))))) (z05 (z0j (zc5 z0p (z01 (z00 2) z03))))))) (λus S Q E h=>by cases h<;>rfl) ?_;rintro _ S Q E ⟨name,ks,ds,xs,M,hm,hp,hz,q⟩;obtain⟨l1,l2,l3⟩:=hp.at_;have hk5:ks.length<=5:=by
  have:∀p∈z2d,p.2.length<=5:=by decide +kernel
  exact this _ hm
 refine opt.of at0 ⟨show 1<=sizeLine by decide,λlp hlp=>?_⟩;have e0:=Ex.up (o:=.lst [.str name]) (.refl S) hlp;have ed:cut (.str name::ds) (some 1) none=ds:=by unfold cut;simp[HT.sIx]
 obtain⟨t,ht1,ht2⟩:=M.dq _ hm;refine⟨_,_,t,rfl,rfl,M.dd,ht1,ks,ht2,by lia,by rw[ed];exact l1.symm,?_⟩;rw[ed];refine z27 (iLn S _ name lp xs) (.mk ks ds [] xs _ _ _ hp rfl e0 z04 (by simp;lia)) ?_ ?_
 .rintro ρ S1 h;generalize e:([]:List U)=L at h;obtain⟨ks,us,dn,xs',x,y,z,hp',hx,e1,hl,_⟩:=h;cases hp' with
  |cons=>cases e
  |nil =>
   rw[y0j]at hx;subst dn;exact⟨trivial,trivial,name::xs,.inl hl,by show _+_*1<=_;rw[Nat.mul_one];exact hz,q S1 e1⟩
 .rintro g L ρ S1 h ih;generalize e:g::L=L' at h;obtain⟨ks,us,dn,xs',x,y,z,hp',hx,e1,hl,h5⟩:=h;cases hp' with
  |nil=>cases e
  |@cons k u t ks us0 xs'' a b =>
   cases e;have fin:∀(z:U) S2,Ex S1 S2->∃us,S2 lp=some (.lst us)/\us.length<sizeLine/\frL (λ_=>True) _ _ (prs (ks.map U.str) us0) _ (up S2 lp (.lst (us++[.str t]))) _ _:=λz S2 e2=>⟨_,e2 _ _ hl,by rw[y00,y0b];simp at h5;exact y0L (show dn.length+1<=101 by lia) (by decide),ih _ _ (.mk ks us0 (dn++[t]) xs'' (some (.str k)) (some u) (some z) b (by rw[hx];simp) (Ex.up (e1.trans e2) hlp) (by rw[z04];simp) (by simp at h5⊢;lia))⟩;have a:=a.ex e1;have wq:∀x f,(x,f)∈wrT->PySem.W.nsIn Z.K (Z.da "WRITERS") x=some (some (.ref (Z.fa f))):=λx f h=>M.wq _ h;cases a with
   |pl c d=>rcases c with rfl|rfl<;>exact⟨trivial,rfl,_,_,_,rfl,rfl,M.dw,wq _ "plainly_written" (by simp[wrT]),⟨_,.inl hl⟩,_,_,rfl,.pl,.mk _ d (fin _ S1 (.refl _))⟩
   |wd c d=>rcases c with rfl|rfl<;>exact⟨trivial,rfl,_,_,_,rfl,rfl,M.dw,wq _ "word_written" (by simp[wrT]),⟨_,.inl hl⟩,_,_,rfl,.wd,.mk _ d (fin _)⟩
   |rs c d=>exact⟨trivial,rfl,_,_,_,rfl,rfl,M.dw,wq _ "rows_written" (by simp[wrT]),⟨_,.inl hl⟩,_,_,rfl,.rs,.mk _ _ c d (fin _)⟩
end W
namespace W
open PySem L2 PySem.SeqAt Gu
variable[WW]{Z:Zx}
inductive Hs(Z:Zx)(S:Sto)(p d x y:Addr)(n:Int)(th:List (U × U))(dn tb:List U):Prop
 |mk:S p=some (.ins Z.C [("many_letters",.int n),("things",.ref d),("done",.ref x),("taken_back",.ref y)])->S d=some (.dic true th)->S x=some (.lst dn)->S y=some (.lst tb)->x≠y->Md Z S->Hs Z S p d x y n th dn tb
def But(d x y:Addr)(S S':Sto):Prop:=∀a o,S a=some o->a≠d->a≠x->a≠y->S' a=some o
section
variable{S S':Sto}{p d x y:Addr}{n:Int}{th:List (U × U)}{dn tb:List U}
def Hs.nDX(h:Hs Z S p d x y n th dn tb):p≠d/\p≠x/\p≠y/\d≠x/\d≠y:=by obtain⟨h1,h2,h3,h4,h5,_⟩:=h;refine⟨?_,?_,?_,?_,?_⟩<;>rintro rfl<;>simp_all
theorem Hs.ex(h:Hs Z S p d x y n th dn tb)(e:Ex S S'):Hs Z S' p d x y n th dn tb:=by obtain⟨h1,h2,h3,h4,h5,h6⟩:=h;exact⟨e _ _ h1,e _ _ h2,e _ _ h3,e _ _ h4,h5,h6.ex e⟩
def Hs.md(h:Hs Z S p d x y n th dn tb):Md Z S:=by obtain⟨_,_,_,_,_,h⟩:=h;exact h
def Hs.nM(h:Hs Z S p d x y n th dn tb)(b:But d x y S S'):Md Z S':=by exact h.md.any
end
def Ex.but{d x y:Addr}{S S':Sto}(e:Ex S S'):But d x y S S':=λa o h _ _ _=>e a o h
def But.trans{d x y:Addr}{S S1 S2:Sto}(a:But d x y S S1)(b:But d x y S1 S2):But d x y S S2:=λc o h h1 h2 h3=>b c o (a c o h h1 h2 h3) h1 h2 h3
def at1{α:Type}{a b:α}{r:List α}:atI (a::b::r) 1=some b:=by unfold atI ixN;simp;rw[if_pos (by lia)];simp
def sz2:2<=sizeLine:=by decide
def sz4:4<=sizeLine:=by decide
inductive zhV(Z:Zx):Wsp
 |mk {S Q E} {p d x y n th dn tb} (k v:U):Hs Z S p d x y n th dn tb->tk k=true->cond (isN v) ((z0o th k).isSome=true) (th.length<sizeLine)->Q .non (up S d (.dic true (cond (isN v) (z6d th k) (z1T th k v))))->zhV Z [.ref p,k,v] S Q E
def z5t(T:Z.Tx)(D:Z.md "put" "House.put" zig ["self","key","thing"]):Z.m "put" 1 (zhV Z):=by
 refine wM ["self","key","thing"] D (λf cdv A outer s H E hr nd=>z05 (z0L (z0k zhA (z00 2) z7P) (z05 (zfx (hu9 hr) rfl (sFl T (z00 0)) (z00 1))) (z05 (z5L (hu9 hr) rfl (sFl T (z00 0)) (z00 1) (z00 2))))) (λus S Q E h=>by cases h<;>rfl) ?_;rintro _ S Q E ⟨k,v,⟨h1,h2,h3,h4,h5,_⟩,hk,hv,q⟩;cases e:isN v<;>rw[e]at hv q<;>show cond (false != isN v) _ _<;>rw[e]
 .exact⟨_,h1,opt.of rfl ⟨_,_,h2,hk,hv,q⟩⟩
 .exact⟨_,h1,opt.of rfl ⟨_,_,h2,hk,hv,q⟩⟩
def ks(k n:Str):U:=.tup [.str k,.str n]
inductive z21(Z:Zx)(kind:Str)(c:Nat):Wsp
 |mk {S Q E} {p d x y n th dn tb} (nm:Str):Hs Z S p d x y n th dn tb->(∀v,z0o th (ks kind nm)=some v->Q v S)->(z0o th (ks kind nm)=none->E c S)->z21 Z kind c [.ref p,.str nm] S Q E
def z4d(T:Z.Tx)(D:Z.md "guise" "House.guise" z9a ["self","name"]):Z.m "guise" 1 (z21 Z "guise" 9):=by
 refine wM ["self","name"] D (λf cdv A outer s H E hr nd=>z02 (z0L (z0k (z6Y (hu9 hr) rfl).2 (z0t (z01 (z7X T rfl rfl) (z01 (z00 1) z03))) (sFl T (z00 0))) (z05 (z0N T.x rfl z0p)) z0l) (z05 (z0j (z0m (z5B (hu9 hr) rfl) (sFl T (z00 0)) (z0t (z01 (z7X T rfl rfl) (z01 (z00 1) z03))))))) (λus S Q E h=>by cases h<;>rfl) ?_;rintro _ S Q E ⟨nm,⟨h1,h2,h3,h4,h5,_⟩,q1,q2⟩;refine⟨sz2,_,h1,opt.of rfl ⟨_,_,h2,rfl,?_⟩⟩;show cond ((z0o _ (ks "guise" nm)).isSome != true) _ _;cases e:z0o _ (ks "guise" nm)
 .exact q2 e
 .exact⟨_,h1,opt.of rfl ⟨sz2,_,_,h2,rfl,opt.of e (q1 _ e)⟩⟩
def z37(T:Z.Tx)(D:Z.md "held_by" "House.held_by" z6D ["self","peg"]):Z.m "held_by" 1 (z21 Z "peg" 10):=by
 refine wM ["self","peg"] D (λf cdv A outer s H E hr nd=>z02 (z0L (z0k (z6Y (hu9 hr) rfl).2 (z0t (z01 (z7X T rfl rfl) (z01 (z00 1) z03))) (sFl T (z00 0))) (z05 (z0N T.x rfl z0p)) z0l) (z05 (z0j (z0m (z5B (hu9 hr) rfl) (sFl T (z00 0)) (z0t (z01 (z7X T rfl rfl) (z01 (z00 1) z03))))))) (λus S Q E h=>by cases h<;>rfl) ?_;rintro _ S Q E ⟨nm,⟨h1,h2,h3,h4,h5,_⟩,q1,q2⟩;refine⟨sz2,_,h1,opt.of rfl ⟨_,_,h2,rfl,?_⟩⟩;show cond ((z0o _ (ks "peg" nm)).isSome != true) _ _;cases e:z0o _ (ks "peg" nm)
 .exact q2 e
 .exact⟨_,h1,opt.of rfl ⟨sz2,_,_,h2,rfl,opt.of e (q1 _ e)⟩⟩
inductive z5D(S:Sto):List U->Str->Prop
 |mk {name ks ds xs}:(name,ks)∈z2d->z2Y S ks ds xs->((name::xs).map (·.length)).sum+(name::xs).length<=16777216->z5D S (.str name::ds) (z2S name xs)
def z5D.line{S:Sto}{ds:List U}{l:Str}{Q:Kq U}{E:Xq}(h:z5D S ds l)(M:Md Z S)(q:∀S',Ex S S'->Q (.str l) S'):zaL Z [.tup ds] S Q E:=by obtain⟨h1,h2,h3⟩:=h;exact .mk _ _ _ _ M h1 h2 h3 q
def z1R(th:List (U × U))(k v:U):List (U × U):=cond (isN v) (z6d th k) (z1T th k v)
def chg(l:Str)(th:List (U × U))(k v:U):U:=.tup [.str l,k,(z0o th k).getD .non,v]
inductive z6x(Z:Zx):Wsp
 |mk {S Q E} {p d x y n th dn tb} (kind nm:Str) (dd v:U) (r:List U) (l:Str):Hs Z S p d x y n th dn tb->z5D S (dd::.str nm::r) l->dn.length<sizeLine->cond (isN v) ((z0o th (ks kind nm)).isSome=true) (th.length<sizeLine) ->
  (∀S',Hs Z S' p d x y n (z1R th (ks kind nm) v) (dn++[chg l th (ks kind nm) v]) []->But d x y S S'->Q .non S')->z6x Z [.ref p,.str kind,v,.tup (dd::.str nm::r)] S Q E
def z4x(T:Z.Tx)(Ju:Z.f "line_written" 7 (zaL Z))(m_put:Z.m "put" 1 (zhV Z))(D:Z.md "keep" "House.keep" zdu ["self","kind","thing","deed"]):Z.m "keep" 8 (z6x Z):=by refine wM ["self","kind","thing","deed","key"] D (λf cdv A outer s H E hr nd=>z02 (z0d 4 nd (z0t (z01 (z00 1) (z01 (z0m z19 (z00 3) z06) z03)))) (z02 (z0g (zax (sFl T (z00 0)) (z01 (z0t (z01 (z0b Ju (hr.mono (by decide)) z0h (z01 (z00 3) z03)) (z01 (z00 4) (z01 (zdD (hu9 hr) rfl (sFl T (z00 0)) (z00 4) ⟨rfl,rfl,rfl,rfl⟩) (z01 (z00 2) z03))))) z03))) (z02 (z0g (zkt (sFl T (z00 0)))) (z05 (z0g (z0n m_put (hr.mono (by decide)) z0h (z00 0) (z01 (z00 4) (z01 (z00 2) z03)))))))) (λus S Q E h=>by cases h<;>rfl) ?_;rintro _ S Q E @⟨_,_,_,p,d,x,y,n,th,dn,tb,kind,nm,dd,v,r,l,hs,hl,hz,hv,q⟩;obtain⟨n1,n2,n3,n4,n5⟩:=hs.nDX;have M:=hs.md;have hs0:=hs;obtain⟨h1,h2,h3,h4,h5,_⟩:=hs;refine opt.of at1 ⟨sz2,_,h1,opt.of rfl ⟨⟨_,.inl h3⟩,hl.line M λS1 e1=>?_⟩⟩;have g1:=e1 _ _ h1;have g2:=e1 _ _ h2;have g4:=e1 _ _ h4;refine⟨_,g1,opt.of rfl ⟨_,_,g2,_,_,g2,rfl,sz4,_,e1 _ _ h3,hz,_,(z0c n2).trans g1,opt.of rfl ⟨⟨_,.inl ((z0c h5.symm).trans g4)⟩,_,(z0c h5.symm).trans g4,_,(z0c n3).trans ((z0c n2).trans g1),rfl,?_⟩⟩⟩;have b1:But d x y S (up (up S1 x (.lst (dn++[chg l th (ks kind nm) v]))) y (.lst [])):=λa o e a1 a2 a3=>(z0c a3).trans ((z0c a2).trans (e1 _ _ e));refine .mk _ v ⟨(z0c n3).trans ((z0c n2).trans g1),(z0c n5).trans ((z0c n4).trans g2),(z0c h5).trans z04,z04,h5,hs0.nM b1⟩ rfl hv (q _ ⟨(z0c n1).trans ((z0c n3).trans ((z0c n2).trans g1)),z04,(z0c n4.symm).trans ((z0c h5).trans z04),(z0c n5.symm).trans z04,h5,hs0.nM (b1.trans λa o e a1 a2 a3=>(z0c a1).trans e)⟩ (b1.trans λa o e a1 a2 a3=>(z0c a1).trans e))
inductive zbj(Z:Zx):Wsp
 |mk {S Q E} {p d x y n th dn tb} (kind nm:Str):Hs Z S p d x y n th dn tb->nm.length<=1000000->(z1S nm=true->z0o th (ks kind nm)=none->∀S',Ex S S'->Q .non S')->(z1S nm=false->∀S',Ex S S'->E 5 S')->(z1S nm=true->(z0o th (ks kind nm)).isSome=true->∀S',Ex S S'->E 8 S')->zbj Z [.ref p,.str kind,.str nm] S Q E
def z2G(T:Z.Tx)(JS:Z.f "is_name" 1 zej)(D:Z.md "check_new" "House.check_new" z3Y ["self","kind","name"]):Z.m "check_new" 2 (zbj Z):=by
 refine wM ["self","kind","name"] D (λf cdv A outer s H E hr nd=>z02 (z0L (z31 (z1o (z0b JS (hr.mono (by decide)) z0h (z01 (z00 2) z03)))) (z05 (z0N T.x rfl z0p)) z0l) (z05 (z0L (z0k (z6Y (hu9 hr) rfl).1 (z0t (z01 (z00 1) (z01 (z00 2) z03))) (sFl T (z00 0))) (z05 (z0N T.x rfl z0p)) z0l))) (λus S Q E h=>by cases h<;>rfl) ?_;rintro _ S Q E ⟨kind,nm,hs,hz,q,x1,x2⟩;refine .mk nm hz λS1 e1=>?_;show cond (Bool.not (z1S nm)) _ _;cases hb:z1S nm
 .exact x1 hb S1 e1
 .obtain⟨h1,h2,_⟩:=hs.ex e1;refine⟨sz2,_,h1,opt.of rfl ⟨_,_,h2,rfl,?_⟩⟩;show cond ((z0o _ (ks kind nm)).isSome != false) _ _;cases e:z0o _ (ks kind nm)
  .exact q hb e S1 e1
  .exact x2 hb (by rw[e];rfl) S1 e1
def KN(th:List (U × U)):Prop:=∀p∈th,∃k nm,p.1=ks k nm
def zeB(kind:Str):U->List Str
 |.tup [.str k,.str n]=>cond (decide (k=kind)) [n] []
 |_=>[]
def z0V(kind:Str)(th:List (U × U)):List Str:=(th.map (·.1)).flatMap (zeB kind)
inductive z6w(Z:Zx):Wsp
 |mk {S Q E} {p d x y n th dn tb} (kind:Str):Hs Z S p d x y n th dn tb->KN th->(z0V kind th).length<64->(∀l ns S',ns.Perm (z0V kind th)->PyProof.Rows.sortedS ns=true->Ex S S'->S l=none->S' l=some (.lst (ns.map .str))->Q (.ref l) S')->z6w Z [.ref p,.str kind] S Q E
def eqX{x y:Str}:(false != eqU (.str x) (.str y))=decide (x=y):=by
 by_cases h:x=y
 .subst h;simp[eqU]
 .rw[z12 (λz=>h (by injection z)),y0u h];rfl
def zit:z0K ["self","kind"] (z0a z4z) ["held","name","kind"] [none,none,some 1] (csc [(".0",.local),("held",.local),("name",.local),("kind",.free)]):={}
def z3R(T:Z.Tx)(D:Z.md "called" "House.called" z4z ["self","kind"]):Z.m "called" 1 (z6w Z):=by
 refine wM ["self","kind"] D (λf cdv A outer s H E hr nd=>z05 (z0j (sBu T zdK PyProof.Rows.boot_sorted (z01 (zea (z0D ⟨zit,rfl,λ_ _ _ _ _=>⟨(z0F rfl (z09 (z07 0 zit.nd) (z09 (z07 1 zit.nd) z0r))),(.cons (z0k (z2o (z2p hr)).1 (z00 0) (z00 2)) .nil),(z1j rfl (z00 1))⟩,λg' e=>by cases e⟩ (zgI (sFl T (z00 0))))) z03)))) (λus S Q E h=>by cases h<;>rfl) ?_;rintro _ S Q E @⟨_,_,_,p,d,x,y,n,th,dn,tb,kind,hs,hk,hz,q⟩;obtain⟨h1,h2,_⟩:=hs;refine⟨d,_,h1,opt.of rfl ⟨_,_,h2,rfl,λod xs=>?_⟩⟩;refine z6u (th.map (·.1)) id (λu=>(zeB kind u).map .str) (List.map_id _).symm (λρ=>∃x y,ρ=[x,y,some (.str kind)]) ⟨_,_,rfl⟩ (λS' e=>e _ _ z04) ?_ ?_
 .rintro u hu ρ S' acc ⟨x,y,rfl⟩ e hb K qK;obtain⟨⟨u,v⟩,hp,rfl⟩:=y0f.mp hu;obtain⟨k,nm,rfl⟩:=hk _ hp;have w:=qK [some (.str k),some (.str nm),some (.str kind)] S' ⟨_,_,rfl⟩ (.refl _);refine⟨rfl,rfl,?_⟩;show cond (false != eqU (.str k) (.str kind)) _ _;rw[eqX];rw[show([]:List U)++(th.map (·.1)).flatMap (λu=>(zeB kind u).map U.str)=(z0V kind th).map U.str by unfold z0V;rw[y24,List.map_flatMap]]at hb;simp only[y00]at hb;have en:zeB kind (ks k nm)=cond (decide (k=kind)) [nm] []:=rfl;refine z0x (λc=>?_) (λc=>?_)
  .rw[en,c]at w;exact⟨z1f (by lia),w⟩
  .rw[en,c]at w;have w:K _ (acc++[]) S':=w;rw[y0j]at w;exact w
 .rintro ρ S' ⟨x,y,rfl⟩ e l hl;have ed:=e _ _ z04;have nl:l≠d:=by rintro rfl;rw[ed]at hl;cases hl
  refine⟨od,xs,th,(z0c nl.symm).trans ed,z0V kind th,.inl ((z0c nl).trans (z04.trans ?_)),hz,λns hp hs l2 hl2=>?_⟩
  .unfold z0V;rw[y24,List.map_flatMap]
  have e1:Ex S (up (up S' l (.lst ([]++(th.map (·.1)).flatMap λu=>(zeB kind u).map U.str))) d (.dic true th)):=λa o h=>by
   by_cases z:a=d
   .rw[z]at h⊢;rw[z04,<-h2,h]
   .have h':=e a o ((z0c z).trans h);have:a≠l:=by rintro rfl;rw[hl]at h';cases h'
    exact(z0c z).trans ((z0c this).trans h')
  exact q l2 ns _ hp hs (Ex.up e1 (e1.no hl2)) (e1.no hl2) z04
inductive zis(Z:Zx)(kind:Str):Wsp
 |mk {S Q E} {p d x y n th dn tb}:Hs Z S p d x y n th dn tb->KN th->(z0V kind th).length<64->(∀l ns S',ns.Perm (z0V kind th)->PyProof.Rows.sortedS ns=true->Ex S S'->S l=none->S' l=some (.lst (ns.map .str))->Q (.ref l) S')->zis Z kind [.ref p] S Q E
def z4f(T:Z.Tx)(JU:Z.m "called" 1 (z6w Z))(D:Z.md "names" "House.names" z9T ["self"]):Z.m "names" 2 (zis Z "guise"):=by refine wM ["self"] D (λf cdv A outer s H E hr nd=>z05 (z0j (z0n JU (hr.mono (by decide)) z0h (z00 0) (z01 (z7X T rfl rfl) z03)))) (λus S Q E h=>by cases h<;>rfl) ?_;rintro _ S Q E @⟨_,_,_,p,d,x,y,n,th,dn,tb,hs,hk,hz,q⟩;have hs0:=hs;obtain⟨h1,h2,_⟩:=hs;exact⟨_,h1,rfl,.mk "guise" hs0 hk hz q⟩
def pgU(ws ls:List U):U:=.tup [.tup ws,.tup ls]
def z3N{us:List U}{u:U}:atI (us++[u]) (-1)=some u:=by rw[show(-1:Int)=-1-((0:Nat):Int)by lia,z97 (by simp)];simp
inductive sWd(Z:Zx):Wsp
 |mk {S Q E} {p d x y n th dn tb} (nm:Str):Hs Z S p d x y n th dn tb->(z0o th (ks "peg" nm)=none->E 10 S)->(∀v,z0o th (ks "peg" nm)=some v->∃ws w ls,v=pgU (ws++[w]) ls/\Q w S)->sWd Z [.ref p,.str nm] S Q E
def z4K(T:Z.Tx)(Ja:Z.m "held_by" 1 (z21 Z "peg" 10))(D:Z.md "word" "House.word" zcH ["self","peg"]):Z.m "word" 2 (sWd Z):=by refine wM ["self","peg","words","layers"] D (λf cdv A outer s H E hr nd=>z02 (z17 (z0n Ja (hr.mono (by decide)) z0h (z00 0) (z01 (z00 1) z03)) (z0F rfl (z09 (z07 2 nd) (z09 (z07 3 nd) z0r)))) (z05 (z0j (z0m z19 (z00 2) (z1Q z06))))) (λus S Q E h=>by cases h<;>rfl) ?_;rintro _ S Q E @⟨_,_,_,p,d,x,y,n,th,dn,tb,nm,hs,q1,q2⟩;have hs0:=hs;obtain⟨h1,h2,_⟩:=hs;refine⟨_,h1,rfl,.mk nm hs0 (λv hv=>?_) q1⟩;obtain⟨ws,w,ls,rfl,q⟩:=q2 v hv;exact⟨rfl,opt.of z3N q⟩
inductive sFw(Z:Zx):Wsp
 |mk {S Q E} {p d x y n th dn tb} (nm:Str):Hs Z S p d x y n th dn tb->(z0o th (ks "peg" nm)=none->E 10 S)->(∀v,z0o th (ks "peg" nm)=some v->∃ws w ls,v=pgU (w::ws) ls/\Q w S)->sFw Z [.ref p,.str nm] S Q E
def z2m(T:Z.Tx)(Ja:Z.m "held_by" 1 (z21 Z "peg" 10))(D:Z.md "first_word" "House.first_word" z2M ["self","peg"]):Z.m "first_word" 2 (sFw Z):=by refine wM ["self","peg","words","layers"] D (λf cdv A outer s H E hr nd=>z02 (z17 (z0n Ja (hr.mono (by decide)) z0h (z00 0) (z01 (z00 1) z03)) (z0F rfl (z09 (z07 2 nd) (z09 (z07 3 nd) z0r)))) (z05 (z0j (z0m z19 (z00 2) z06)))) (λus S Q E h=>by cases h<;>rfl) ?_;rintro _ S Q E @⟨_,_,_,p,d,x,y,n,th,dn,tb,nm,hs,q1,q2⟩;have hs0:=hs;obtain⟨h1,h2,_⟩:=hs;refine⟨_,h1,rfl,.mk nm hs0 (λv hv=>?_) q1⟩;obtain⟨ws,w,ls,rfl,q⟩:=q2 v hv;exact⟨rfl,opt.of at0 q⟩
inductive sLy(Z:Zx):Wsp
 |mk {S Q E} {p d x y n th dn tb} (nm:Str):Hs Z S p d x y n th dn tb->(z0o th (ks "peg" nm)=none->E 10 S)->(∀v,z0o th (ks "peg" nm)=some v->∃ws ls,v=pgU ws ls/\∀l,S l=none->Q (.ref l) (up S l (.lst ls)))->sLy Z [.ref p,.str nm] S Q E
def z43(T:Z.Tx)(Ja:Z.m "held_by" 1 (z21 Z "peg" 10))(D:Z.md "layers" "House.layers" z6Q ["self","peg"]):Z.m "layers" 2 (sLy Z):=by refine wM ["self","peg","words","layers"] D (λf cdv A outer s H E hr nd=>z02 (z17 (z0n Ja (hr.mono (by decide)) z0h (z00 0) (z01 (z00 1) z03)) (z0F rfl (z09 (z07 2 nd) (z09 (z07 3 nd) z0r)))) (z05 (z0j (sTy T z7T y17 (z01 (z00 3) z03))))) (λus S Q E h=>by cases h<;>rfl) ?_;rintro _ S Q E @⟨_,_,_,p,d,x,y,n,th,dn,tb,nm,hs,q1,q2⟩;have hs0:=hs;obtain⟨h1,h2,_⟩:=hs;refine⟨_,h1,rfl,.mk nm hs0 (λv hv=>?_) q1⟩;obtain⟨ws,ls,rfl,q⟩:=q2 v hv;exact⟨rfl,q⟩
abbrev z62(Z:Zx)(S:Sto)(p d x y:Addr)(n:Int)(th:List (U × U))(dn:List U)(k v:U)(l:Str)(Q:Kq U):Prop:=∀S',Hs Z S' p d x y n (z1R th k v) (dn++[chg l th k v]) []->But d x y S S'->Q .non S'
def zeQ{S:Sto}{dd nm:Str}(h:(dd,[str "name"])∈z2d)(hn:nm.length<=61):z5D S [.str dd,.str nm] (z2S dd [nm]):=by
 refine .mk h (.cons (.pl (.inl rfl) hn) .nil) ?_;have:∀p∈z2d,p.1.length<=20:=by decide +kernel
 have:dd.length<=20:=this _ h;simp;lia
inductive sGo(Z:Zx)(kind dd:Str)(c:Nat):Wsp
 |mk {S Q E} {p d x y n th dn tb} (nm:Str):Hs Z S p d x y n th dn tb->nm.length<=61->dn.length<=1000000->(z0o th (ks kind nm)=none->E c S)->((z0o th (ks kind nm)).isSome=true->z62 Z S p d x y n th dn (ks kind nm) .non (z2S dd [nm]) Q)->sGo Z kind dd c [.ref p,.str nm] S Q E
def z4w(T:Z.Tx)(Jn:Z.m "guise" 1 (z21 Z "guise" 9))(Jg:Z.m "keep" 8 (z6x Z))(D:Z.md "drop" "House.drop" zcS ["self","name"]):Z.m "drop" 9 (sGo Z "guise" "drop" 9):=by
 refine wM ["self","name"] D (λf cdv A outer s H E hr nd=>z02 (z0g (z0n Jn (hr.mono (by decide)) z0h (z00 0) (z01 (z00 1) z03))) (z05 (z0g (z0n Jg (hr.mono (by decide)) z0h (z00 0) (z01 (z7X T rfl rfl) (z01 z7P (z01 (z0t (z01 z0p (z01 (z00 1) z03))) z03))))))) (λus S Q E h=>by cases h<;>rfl) ?_;rintro _ S Q E @⟨_,_,_,p,d,x,y,n,th,dn,tb,nm,hs,hn,hz,q1,q2⟩;have hs0:=hs;obtain⟨h1,h2,_⟩:=hs;refine⟨_,h1,rfl,.mk nm hs0 (λv hv=>⟨_,h1,rfl,sz2,?_⟩) q1⟩;have hv':(z0o th (ks "guise" nm)).isSome=true:=by rw[hv];rfl
 exact .mk "guise" nm _ .non [] _ hs0 (zeQ (by simp[z2d]) hn) (z1f hz) hv' (q2 hv')
def zhz{S:Sto}{nm:Str}{b r:List Int}(hn:nm.length<=61)(hb:OkW b)(hr:OkW r):z5D S [.str "hang",.str nm,uI' b,uI' r] (z2S "hang" [nm,z1s b,z1s r]):=by
 refine .mk (ks:=[str "name",str "word",str "ring"]) (by simp[z2d]) (.cons (.pl (.inl rfl) hn) (.cons (.wd (.inl rfl) hb) (.cons (.wd (.inr rfl) hr) .nil))) ?_;have h1:=z2y hb.2;have h2:=z2y hr.2;have h3:=hb.1;have h4:=hr.1;have h0:(Str.ofString "hang").length<=20:=by decide +kernel
 simp;lia
def zeJ{n:Int}{w:List Int}(h:lw n w=true)(hn:n<=1000)(hz:w.length<=100000):OkW w:=⟨hz,λi hi=>by have:=y0D.mp h i hi;simp at this;lia⟩
def z4H{nm:Str}(h:z1S nm=true):nm.length<=61:=by unfold z1S at h;rw[y0h,y2J]at h;lia
inductive zdO(Z:Zx):Wsp
 |mk {S Q E} {p d x y n th dn tb} (nm:Str) (b r:List Int):Hs Z S p d x y n th dn tb->nm.length<=1000000->n<=1000->b.length<=70000->r.length<=70000->dn.length<=1000000->th.length<=1000000 ->
  (z1S nm=false->∀S',Ex S S'->E 5 S')->(z1S nm=true->(z0o th (ks "peg" nm)).isSome=true->∀S',Ex S S'->E 8 S') ->
  (z1S nm=true->z0o th (ks "peg" nm)=none->(!r.isEmpty&&lw n b&&lw n r)=false->∀S',Ex S S'->E 3 S') ->
  (z1S nm=true->z0o th (ks "peg" nm)=none->(!r.isEmpty&&lw n b&&lw n r)=true->∀e:Row,z0Z e->(∀i,lat e i=lat (b,r) i)->e.1.length<=b.length->e.2.length<=r.length->z62 Z S p d x y n th dn (ks "peg" nm) (pgU [uR e] []) (z2S "hang" [nm,z1s b,z1s r]) Q)->zdO Z [.ref p,.str nm,uI' b,uI' r] S Q E
def z5f(T:Z.Tx)(Jl:Z.m "check_new" 2 (zbj Z))(Je:Z.f "check_endless" 2 zc1)(Jg:Z.m "keep" 8 (z6x Z))(Jc:Z.f "plain_word" 2 sPW)(D:Z.md "hang" "House.hang" zd0 ["self","peg","beginning","ring"]):Z.m "hang" 9 (zdO Z):=by refine wM ["self","peg","beginning","ring"] D (λf cdv A outer s H E hr nd=>z02 (z0g (z0n Jl (hr.mono (by decide)) z0h (z00 0) (z01 (z7X T rfl rfl) (z01 (z00 1) z03)))) (z02 (z0g (z0b Je (hr.mono (by decide)) z0h (z01 (sFl T (z00 0)) (z01 (z0t (z01 (z00 2) (z01 (z00 3) z03))) z03)))) (z05 (z0g (z0n Jg (hr.mono (by decide)) z0h (z00 0) (z01 (z7X T rfl rfl) (z01 (z0t (z01 (z0t (z01 (z0b Jc (hr.mono (by decide)) z0h (z01 (z00 2) (z01 (z00 3) z03))) z03)) (z01 (z0t z03) z03))) (z01 (z0t (z01 z0p (z01 (z00 1) (z01 (z00 2) (z01 (z00 3) z03))))) z03)))))))) (λus S Q E h=>by cases h<;>rfl) ?_;rintro _ S Q E @⟨_,_,_,p,d,x,y,n,th,dn,tb,nm,b,r,hs,hz,hn,hb,hr,hdn,hth,x1,x2,x3,q⟩;have hs0:=hs;obtain⟨h1,h2,_⟩:=hs;refine⟨_,h1,rfl,.mk "peg" nm hs0 hz (λg1 g2 S1 e1=>?_) x1 x2⟩;have k1:=hs0.ex e1;refine⟨_,e1 _ _ h1,opt.of rfl ⟨sz2,.mk n b r (by lia) (by lia) λS2 e2=>z0x (λc=>?_) (λc=>x3 g1 g2 c S2 (e1.trans e2))⟩⟩;have k2:=k1.ex e2;have e12:=e1.trans e2;have c':=c;rw[y0h,y0h]at c;refine⟨_,e12 _ _ h1,rfl,.mk b r hb hr (λ_ e pe le l1 l2=>⟨show 1<=sizeLine by decide,show 0<=sizeLine by decide,sz2,sz4,?_⟩) λz=>by rw[z]at c;simp at c⟩;exact .mk "peg" nm _ _ _ _ k2 (zhz (z4H g1) (zeJ c.1.2 hn (by lia)) (zeJ c.2 hn (by lia))) (z1f hdn) (z1f hth) λS3 k3 b3=>q g1 g2 c' e pe le l1 l2 S3 k3 (e12.but.trans b3)
def zht{S:Sto}{dd nm n2:Str}(h:(dd,[str "name",str "name"])∈z2d)(hn:nm.length<=61)(hm:n2.length<=61):z5D S [.str dd,.str nm,.str n2] (z2S dd [nm,n2]):=by
 refine .mk h (.cons (.pl (.inl rfl) hn) (.cons (.pl (.inl rfl) hm) .nil)) ?_;have:∀p∈z2d,p.1.length<=20:=by decide +kernel
 have:dd.length<=20:=this _ h;simp;lia
def zhy(n:Nat)(u:U):Prop:=∃rows,u=uG rows/\z1i n rows/\rows.length<=60
def zh8(n:Nat)(e:Row):Prop:=z3S n e/\e.1.length+e.2.length<=1000
inductive zdP(Z:Zx):Wsp
 |mk {S Q E} {p d x y th dn tb} (n:Nat) (pg nm:Str):Hs Z S p d x y n th dn tb->pg.length<=61->nm.length<=61->n<=60->dn.length<=1000000->th.length<=1000000->(∀v,z0o th (ks "peg" pg)=some v->∃ws e ls,v=pgU (ws++[uR e]) ls/\ws.length<=100000/\ls.length<=100000/\zh8 n e)->(∀u,z0o th (ks "guise" nm)=some u->zhy n u) ->
  (z0o th (ks "peg" pg)=none->E 10 S)->((z0o th (ks "peg" pg)).isSome=true->z0o th (ks "guise" nm)=none->E 9 S) ->
  (∀ws e ls rows e',z0o th (ks "peg" pg)=some (pgU (ws++[uR e]) ls)->z0o th (ks "guise" nm)=some (uG rows)->z0Z e'->(∀i,lat e' i=oS rows e i)->cond (decide (e'.1.length+e'.2.length>1000)) (∀S',Ex S S'->E 12 S') (z62 Z S p d x y n th dn (ks "peg" pg) (pgU (ws++[uR e]++[uR e']) (ls++[.str nm])) (z2S "wear" [pg,nm]) Q))->zdP Z [.ref p,.str pg,.str nm] S Q E
def z51(T:Z.Tx)(Ja:Z.m "held_by" 1 (z21 Z "peg" 10))(Jy:Z.f "worn_endless" 3 zcR)(Jn:Z.m "guise" 1 (z21 Z "guise" 9))(Jg:Z.m "keep" 8 (z6x Z))(D:Z.md "wear" "House.wear" zdZ ["self","peg","name"]):Z.m "wear" 9 (zdP Z):=by
 refine wM ["self","peg","name","words","layers","made"] D (λf cdv A outer s H E hr nd=>z02 (z17 (z0n Ja (hr.mono (by decide)) z0h (z00 0) (z01 (z00 1) z03)) (z0F rfl (z09 (z07 3 nd) (z09 (z07 4 nd) z0r)))) (z02 (z0d 5 nd (z0b Jy (hr.mono (by decide)) z0h (z01 (z0n Jn (hr.mono (by decide)) z0h (z00 0) (z01 (z00 2) z03)) (z01 (z0m z19 (z00 3) (z1Q z06)) z03)))) (z02 (z0L (z0k (z16 z8n) (z08 z15 (sBu T z0E y08 (z01 (z0m z19 (z00 5) z06) z03)) (sBu T z0E y08 (z01 (z0m z19 (z00 5) z06) z03))) (zeF T rfl rfl)) (z05 (z0N T.x rfl z0p)) z0l) (z05 (z0g (z0n Jg (hr.mono (by decide)) z0h (z00 0) (z01 (z7X T rfl rfl) (z01 (z0t (z01 (z08 z15 (z00 3) (z0t (z01 (z00 5) z03))) (z01 (z08 z15 (z00 4) (z0t (z01 (z00 2) z03))) z03))) (z01 (z0t (z01 z0p (z01 (z00 1) (z01 (z00 2) z03)))) z03))))))))) (λus S Q E h=>by cases h<;>rfl) ?_;rintro _ S Q E @⟨_,_,_,p,d,x,y,th,dn,tb,n,pg,nm,hs,hp,hn,hn6,hdn,hth,hP,hG,x1,x2,q⟩;have hs0:=hs;obtain⟨h1,h2,_⟩:=hs;refine⟨_,h1,rfl,.mk pg hs0 (λv hv=>?_) x1⟩;obtain⟨ws,e,ls,rfl,w1,w2,⟨ge,w3⟩⟩:=hP v hv;refine⟨rfl,_,h1,rfl,.mk nm hs0 (λu hu=>?_) (x2 (by rw[hv];rfl))⟩;obtain⟨rows,rfl,G,hr6⟩:=hG u hu;have hm:rows.length*e.2.length<=60*e.2.length:=y16 _ hr6;refine opt.of z3N (.mk rows e n G hn6 (by lia) (by lia) (by lia) (λ_ e' pe le l1 l2 S1 e1=>?_) λz=>absurd ge z);have q:=q ws e ls rows e' hv hu pe le;have k1:=hs0.ex e1;show cond (decide ((((e'.1.map U.int).length:Nat):Int)+(((e'.2.map U.int).length:Nat):Int)>1000)) _ _;rw[y00,y00,show decide ((e'.1.length:Int)+(e'.2.length:Int)>1000)=decide (e'.1.length+e'.2.length>1000)from decide_eq_decide.mpr (by lia)];cases c:decide (e'.1.length+e'.2.length>1000)<;>rw[c]at q
 .refine⟨_,e1 _ _ h1,rfl,show 1<=sizeLine by decide,?_,show 1<=sizeLine by decide,?_,sz2,show 3<=sizeLine by decide,?_⟩
  .exact y0Z (z1f (by simp;lia))
  .exact y0Z (z1f (by simp;lia))
  exact .mk "peg" pg _ _ _ _ k1 (zht (by simp[z2d]) hp hn) (z1f hdn) (z1f hth) λS3 k3 b3=>q S3 k3 (e1.but.trans b3)
 .exact q S1 e1
def z7K{us:List U}{u:U}:cut (us++[u]) none (some (-1))=us:=by
 unfold cut;rw[HT.sIx_none];have:HT.sIx (us++[u]).length (us++[u]).length (some (-1))=us.length:=by simp[HT.sIx];lia
 rw[this];simp
inductive zbe(Z:Zx):Wsp
 |mk {S Q E} {p d x y n th dn tb} (pg:Str):Hs Z S p d x y n th dn tb->pg.length<=61->dn.length<=1000000->th.length<=1000000->(z0o th (ks "peg" pg)=none->E 10 S) ->
  (∀v,z0o th (ks "peg" pg)=some v->∃ws w ls,v=pgU (ws++[w]) ls/\(ls=[]->E 13 S)/\(∀ls' l,ls=ls'++[l]->z62 Z S p d x y n th dn (ks "peg" pg) (pgU ws ls') (z2S "doff" [pg]) Q))->zbe Z [.ref p,.str pg] S Q E
def z5k(T:Z.Tx)(Ja:Z.m "held_by" 1 (z21 Z "peg" 10))(Jg:Z.m "keep" 8 (z6x Z))(D:Z.md "doff" "House.doff" ze7 ["self","peg"]):Z.m "doff" 9 (zbe Z):=by
 refine wM ["self","peg","words","layers"] D (λf cdv A outer s H E hr nd=>z02 (z17 (z0n Ja (hr.mono (by decide)) z0h (z00 0) (z01 (z00 1) z03)) (z0F rfl (z09 (z07 2 nd) (z09 (z07 3 nd) z0r)))) (z02 (z0L (z0k (z2o (z2p hr)).1 (sBu T z0E y08 (z01 (z00 3) z03)) z06) (z05 (z0N T.x rfl z0p)) z0l) (z05 (z0g (z0n Jg (hr.mono (by decide)) z0h (z00 0) (z01 (z7X T rfl rfl) (z01 (z0t (z01 (z0u (z00 2) z1X (z1n (z1Q z06))) (z01 (z0u (z00 3) z1X (z1n (z1Q z06))) z03))) (z01 (z0t (z01 z0p (z01 (z00 1) z03))) z03)))))))) (λus S Q E h=>by cases h<;>rfl) ?_;rintro _ S Q E @⟨_,_,_,p,d,x,y,n,th,dn,tb,pg,hs,hp,hdn,hth,x1,q⟩;have hs0:=hs;obtain⟨h1,h2,_⟩:=hs;refine⟨_,h1,rfl,.mk pg hs0 (λv hv=>?_) x1⟩;obtain⟨ws,w,ls,rfl,x2,q⟩:=q v hv;refine⟨rfl,rfl,?_⟩;show cond (false != eqU (.int ((ls.length:Nat):Int)) (.int 0)) _ _;rw[eqI];refine z0x (λc=>x2 ?_) (λc=>?_)
 .have:=y0i c;exact y0F.mp (by lia)
 .have c:=y0C c;have hne:ls≠[]:=by rintro rfl;simp at c
  obtain⟨ls',l,rfl⟩:∃ls' l,ls=ls'++[l]:=⟨_,_,(List.dropLast_concat_getLast hne).symm⟩;refine⟨_,h1,rfl,sz2,sz2,?_⟩;rw[z7K,z7K];exact .mk "peg" pg _ _ _ _ hs0 (zeQ (by simp[z2d]) hp) (z1f hdn) (z1f hth) (q ls' l rfl)
end W
namespace W
open PySem L2 PySem.SeqAt Gu
variable[WW]{Z:Zx}
def gR(r:Row):z8a:=(r.1,r.2.map U.int)
def zcI(rows:List Row):(rows.map gR).map uRG=rows.map uR:=by rw[y0W];rfl
def z9Z(rows:List Row):(rows.map gR).map bare=rows:=by
 rw[y0W];conv=>rhs;rw[<-List.map_id rows]
 refine List.map_congr_left λr _=>?_;show(r.1,(r.2.map U.int).map goN)=r;rw[y0W];show(r.1,r.2.map λi=>i)=r;rw[List.map_id']
def z82(rows:List Row):z3z (rows.map gR)=[]:=by unfold z3z;rw[List.flatMap_eq_nil_iff];intro r hr;obtain⟨r,_,rfl⟩:=y0f.mp hr;rw[List.filter_eq_nil_iff];intro g hg;obtain⟨i,_,rfl⟩:=y0f.mp hg;simp[zbH]
def zgy{rows:List Row}:∀r∈rows.map gR,∀g∈r.2,zgD g=true:=λr hr g hg=>by obtain⟨r,_,rfl⟩:=y0f.mp hr;obtain⟨i,_,rfl⟩:=y0f.mp hg;rfl
def zgO{n:Nat}{p:List Int}(h:IsP n p):∀i∈p,0<=i/\i<(n:Int):=λi hi=>by have:=(h.mem_iff).mp hi;unfold z33 at this;obtain⟨k,hk,rfl⟩:=y0f.mp this;have:=y29.mp hk;lia
def zii{n:Nat}{rows:List Row}(G:z1i n rows)(hn:n<=20)(h6:rows.length<=60):zh2 (rows.map gR):=by refine⟨by rw[y00];lia,λr hr=>?_⟩;obtain⟨r,hr',rfl⟩:=y0f.mp hr;clear hr;have hr:=hr';have h1:=G.perm r hr;have h2:=h1.len;have h3:=G.len r hr;refine⟨by show r.1.length<=20;lia,λi hi=>by have:=zgO h1 i hi;lia,by show(r.2.map U.int).length<=20;rw[y00];lia,λg hg=>?_⟩;obtain⟨i,hi,rfl⟩:=y0f.mp hg;have:=G.go r hr i hi;show i.natAbs<10^60;lia
def zif{S:Sto}{nm:Str}{a:Addr}{rs:List z8a}(hn:nm.length<=61)(h:isL S a (rs.map uRG))(ho:zh2 rs):z5D S [.str "sew",.str nm,.ref a] (z2S "sew" [nm,zae rs]):=by
 have p:z47 S (str "rows") (.ref a) (zae rs):=.rs (.lst h) ho;refine .mk (ks:=[str "name",str "rows"]) (by simp[z2d]) (.cons (.pl (.inl rfl) hn) (.cons p .nil)) ?_;have h1:=p.len;have h0:(Str.ofString "sew").length<=20:=by decide +kernel
 simp;lia
inductive zcW(Z:Zx):Wsp
 |mk {S Q E} {p d x y th dn tb} (n:Nat) (nm:Str) (a:Addr) (rows:List Row):Hs Z S p d x y n th dn tb->nm.length<=1000000->n<=20->isL S a (rows.map uR)->rows.length<=5000->(∀r∈rows,r.1.length<=60/\r.2.length<=60)->dn.length<=1000000->th.length<=1000000 ->
  (z1S nm=false->∀S',Ex S S'->E 5 S')->(z1S nm=true->(z0o th (ks "guise" nm)).isSome=true->∀S',Ex S S'->E 8 S') ->
  (z1S nm=true->z0o th (ks "guise" nm)=none->¬z8D n rows 60->∀S',Ex S S'->E 2 S') ->
  (z1S nm=true->z0o th (ks "guise" nm)=none->z8D n rows 60->∀g,z1i n g->g.length<=60->z62 Z S p d x y n th dn (ks "guise" nm) (uG g) (z2S "sew" [nm,zae (rows.map gR)]) Q)->zcW Z [.ref p,.str nm,.ref a] S Q E
def zjO:z0K ["self","name","rows","guises"] (z0a zh5) ["called","self"] [none,some 0] (csc [(".0",.local),("called",.local),("self",.free)]):={}
def z5I(T:Z.Tx)(Jl:Z.m "check_new" 2 (zbj Z))(Jx:Z.f "check_sewing" 3 zdz)(Jt:Z.f "names_gone_to" 1 zhx)(Jg:Z.m "keep" 8 (z6x Z))(JZ:Z.f "sewn" 7 z90)(D:Z.md "sew" "House.sew" zh5 ["self","name","rows"]):Z.m "sew" 9 (zcW Z):=by
 refine wM ["self","name","rows","guises"] D (λf cdv A outer s H E hr nd=>z02 (z0g (z0n Jl (hr.mono (by decide)) z0h (z00 0) (z01 (z7X T rfl rfl) (z01 (z00 1) z03)))) (z02 (z0g (z0b Jx (hr.mono (by decide)) z0h (z01 (sFl T (z00 0)) (z01 (z00 2) z03)))) (z02 (z9l 3 nd rfl zjO (z0G (z0b Jt (hr.mono (by decide)) z0h (z01 (z00 2) z03)) z0I)) (z05 (z0g (z0n Jg (hr.mono (by decide)) z0h (z00 0) (z01 (z7X T rfl rfl) (z01 (z0b JZ (hr.mono (by decide)) z0h (z01 (z00 2) (z01 (z00 3) z03))) (z01 (z0t (z01 z0p (z01 (z00 1) (z01 (z00 2) z03)))) z03))))))))) (λus S Q E h=>by cases h<;>rfl) ?_;rintro _ S Q E @⟨_,_,_,p,d,x,y,th,dn,tb,n,nm,a,rows,hs,hz,hn,hl,hrl,hrs,hdn,hth,x1,x2,x3,q⟩;have hs0:=hs;obtain⟨h1,h2,_⟩:=hs;refine⟨_,h1,rfl,.mk "guise" nm hs0 hz (λg1 g2 S1 e1=>?_) x1 x2⟩;have k1:=hs0.ex e1;rw[<-zcI]at hl;refine⟨_,e1 _ _ h1,opt.of rfl (.mk n a (rows.map gR) (e1.l hl) (by lia) (by rw[y00];lia) (λr hr=>?_) (λm S2 e2=>?_) λm S2 e2=>x3 g1 g2 (by rw[z9Z]at m;exact m) S2 (e1.trans e2))⟩
 .refine⟨?_,?_,zgy r hr⟩<;>obtain⟨r,hr',rfl⟩:=y0f.mp hr<;>obtain⟨z1,z2⟩:=hrs r hr'
  .exact z1
  .show(r.2.map U.int).length<=60;rw[y00];exact z2
 rw[z9Z]at m;have e12:=e1.trans e2;refine .mk a (rows.map gR) (e12.l hl) (by rw[z82];simp) zgy λl S3 e3 hl3 hS3=>?_;rw[z82]at hS3;have e13:=e12.trans e3;refine⟨_,.inl hS3,rfl,λdd hdd=>⟨.inl (Ex.up (.refl _) hdd _ _ hS3),?_⟩⟩;have e4:=Ex.up (o:=.dic false []) e13 (e13.no hdd);have G:=m.1;have h6:=m.2;rw[zcI]at hl;refine⟨_,e4 _ _ h1,rfl,.mk a dd rows n (e4.l hl) G (by lia) h6 λg S5 Gg hg e5=>⟨show 3<=sizeLine by decide,?_⟩⟩;have e5':=e4.trans e5;rw[<-zcI]at hl;exact .mk "guise" nm _ _ _ _ (hs0.ex e5') (zif (z4H g1) (e5'.l hl) (zii G hn h6)) (z1f hdn) (z1f hth) λS6 k6 b6=>q g1 g2 m g Gg hg S6 k6 (e5'.but.trans b6)
def z2i{S:Sto}{a b:Addr}{o:Ob}(h:S a=some o)(h':S b=none):a≠b:=by rintro rfl;rw[h]at h';cases h'
inductive zhf(Z:Zx):Wsp
 |mk {S Q E} (p:Addr) (n:Int):S p=some (.ins Z.C [])->Md Z S->(2<=n/\n<=5->∀d x y S',S d=none/\S x=none/\S y=none->Hs Z S' p d x y n [] [] []->(∀a o,S a=some o->a≠p->S' a=some o)->Q .non S')->(¬(2<=n/\n<=5)->E 1 S)->zhf Z [.ref p,.int n] S Q E
def z2N(T:Z.Tx)(D:Z.md "__init__" "House.__init__" zdg ["self","letters"]):Z.m "__init__" 1 (zhf Z):=by
 refine wM ["self","letters"] D (λf cdv A outer s H E hr nd=>z02 (z0L (z31 (z3c (z16 z2Q) (z16 z2Q) (zeF T rfl rfl) (z00 1) (zeF T rfl rfl))) (z05 (z0N T.x rfl z0p)) z0l) (z02 (z7h T.cl (T.n _ (by decide)) (z00 0) (z00 1)) (z02 (z7h T.cl (T.n _ (by decide)) (z00 0) (z4L true)) (z02 (z7h T.cl (T.n _ (by decide)) (z00 0) (z1g z03)) (z05 (z7h T.cl (T.n _ (by decide)) (z00 0) (z1g z03))))))) (λus S Q E h=>by cases h<;>rfl) ?_;rintro _ S Q E ⟨p,n,hp,M,q,bad⟩;show cond (decide ((2:Int)<=n)) _ _;refine z0x (λc1=>?_) (λc1=>bad λz=>by have:=y0C c1;lia);show cond (!decide (n<=(5:Int))) _ _;refine z0x (λc2=>bad λz=>by simp at c2;lia) (λc2=>?_);have c1:=y0i c1;have c2:n<=5:=by simpa using c2
 have z3:∀k,k<=10->k<1000:=λk h=>by lia
 refine⟨_,hp,z3 _ (by decide),λd hd=>?_⟩;have n1:p≠d:=z2i z04 hd;refine⟨_,(z0c n1).trans z04,z3 _ (by show 1<=10;decide),show 0<=sizeLine by decide,λx hx=>?_⟩;have n2:p≠x:=z2i z04 hx;have n3:d≠x:=z2i ((z0c n1.symm).trans z04) hx;refine⟨_,(z0c n2).trans z04,z3 _ (by show 2<=10;decide),show 0<=sizeLine by decide,λy hy=>?_⟩;have n4:p≠y:=z2i z04 hy;have n5:x≠y:=z2i ((z0c n2.symm).trans z04) hy;have n6:d≠y:=z2i ((z0c n1.symm).trans ((z0c n3).trans ((z0c n1.symm).trans z04))) hy;have hd0:S d=none:=(z0c n1.symm).symm.trans hd;have hx0:S x=none:=by simpa[up,n2.symm,n3.symm]using hx
 have hy0:S y=none:=by simpa[up,n4.symm,n5.symm,n6.symm]using hy
 have kp:∀a o,S a=some o->a≠p->(up (up (up (up (up (up (up S p (.ins Z.C [("many_letters",.int n)])) d (.dic true [])) p (.ins Z.C [("many_letters",.int n),("things",.ref d)])) x (.lst [])) p (.ins Z.C [("many_letters",.int n),("things",.ref d),("done",.ref x)])) y (.lst [])) p (.ins Z.C [("many_letters",.int n),("things",.ref d),("done",.ref x),("taken_back",.ref y)])) a=some o:=λa o h hap=>by rw[z0c hap,z0c (z2i h hy0),z0c hap,z0c (z2i h hx0),z0c hap,z0c (z2i h hd0),z0c hap];exact h
 have hm:∀a k,S a=some (.dic false k)->a≠p:=λa k h=>by rintro rfl;rw[hp]at h;cases h
 refine⟨_,(z0c n4).trans z04,z3 _ (by show 3<=10;decide),q ⟨c1,c2⟩ d x y _ ⟨hd0,hx0,hy0⟩ ⟨z04,?_,?_,?_,n5,M.any⟩ kp⟩
 .exact(z0c n1.symm).trans ((z0c n6).trans ((z0c n1.symm).trans ((z0c n3).trans ((z0c n1.symm).trans z04))))
 .exact(z0c n2.symm).trans ((z0c n5).trans ((z0c n2.symm).trans z04))
 .exact(z0c n4.symm).trans z04
end W
namespace W
open PySem L2 PySem.SeqAt Gu
variable[WW]{Z:Zx}
inductive zew:Wsp
 |mk {S Q E} (rows:List Row) (n:Nat) (w:List Int) (s:Int):z1i n rows->w.length<=100000->LW n w->0<=s->s<(rows.length:Int)->(∀S',Ex S S'->Q (.tup [uI' (z1h rows s w),.int (goW rows s w)]) S')->zew [uG rows,.int s,uI' w] S Q E
inductive iLd(rows:List Row)(n:Nat)(p:Addr)(S:Sto)(Q:Kq U):List U->En->Sto->Prop
 |mk {S1} (w:List Int) (s:Int) (ms:List Int) (y x5:Option U):LW n w->0<=s->s<(rows.length:Int)->ms.length+w.length<=100000->Ex S S1->S1 p=some (.lst (ms.map .int)) ->
  (∀S',Ex S S'->Q (.tup [uI' (ms++z1h rows s w),.int (goW rows s w)]) S')->iLd rows n p S Q (w.map .int) [some (uG rows),some (.int s),y,some (.ref p),x5] S1
def z5O(T:Z.Tx)(D:Z.fd "_law_read" za8 ["_law_rows_here","_law_at","_law_word"]):Z.f "_law_read" 1 zew:=by
 refine wF ["_law_rows_here","_law_at","_law_word","_law_made","_law_letter"] D (λf cdv A outer s H E hr nd=>z02 (z0d 3 nd (z1g z03)) (z02 (z28 y0s rfl (z0G (z00 2) z0I) (z07 4 nd) (z02 (z0g (zax (z00 3) (z01 (z0m z19 (z0m z19 (z0m z19 (z00 0) (z00 1)) z06) (z00 4)) z03))) (z05 (z0d 1 nd (z0m z19 (z0m z19 (z0m z19 (z00 0) (z00 1)) z06) (z00 4)))))) (z05 (z0j (z0t (z01 (sTy T z11 y0o (z01 (z00 3) z03)) (z01 (z00 1) z03))))))) (λus S Q E h=>by cases h<;>rfl) ?_;rintro _ S Q E ⟨rows,n,w,s,G,hl,hw,h0,h1,q⟩;refine⟨by decide,λp hp=>?_⟩;refine z27 (iLd rows n p S Q) (.mk w s [] _ _ hw h0 h1 (by simpa using hl) (Ex.up (.refl _) hp) z04 q) ?_ ?_
 .rintro ρ S1 h;generalize e:([]:List U)=L at h;obtain⟨w,s,ms,y,x5,hw,h0,h1,hl,ex,hS,q⟩:=h;cases w<;>cases e;refine⟨trivial,_,.inl hS,show 2<=sizeLine by decide,?_⟩;have:=q S1 ex
  rwa [z1h,goW,y0j]at this
 .rintro x L ρ S1 h ih;generalize e:x::L=L' at h;obtain⟨w,s,ms,y,x5,hw,h0,h1,hl,ex,hS,q⟩:=h;cases w<;>cases e;rename_i l w;obtain⟨l0,l1⟩:=hw l (by simp);have R:=z1B h0 h1;have hg:=G.len _ R;have hp1:=(G.perm _ R).len;refine⟨trivial,⟨_,.inl hS⟩,opt.of (z7R h0 h1) (opt.of (zfH l0 (by lia)) ⟨_,hS,?_,opt.of (z7R h0 h1) (opt.of (zfH l0 (by lia)) (ih _ _ (.mk w _ (ms++[(row rows s).1.getD l.toNat 0]) _ _ (λx hx=>hw x (by simp[hx])) ?_ ?_ ?_ (Ex.up ex hp) ?_ λS' e=>?_)))⟩)⟩
  .rw[y00];rw[y0b]at hl;exact z1f (by lia)
  .exact(G.go _ R _ (zb8 (by lia))).1
  .exact(G.go _ R _ (zb8 (by lia))).2
  .simp only[y04,y0b,y1o]at hl⊢;lia
  .rw[z04,y0n];rfl
  .have:=q S' e
   rwa [z1h,goW,List.append_cons]at this
structure zez{α:Type}(F K:α->Prop):Prop where
 go:∀c,F c->K c
def zaX{α:Type}{A:Prop}{K:α->Prop}(F:α->Prop)(h:zez F K->A)(hR:zez F K):A:=h hR
inductive z9M:Wsp
 |mk {S Q E} (a a':Addr) (b r:List Int):isL S a (b.map U.int)->isL S a' (r.map U.int)->b.length<=70000->r.length<=70000->r≠[]->(∀e:Row,z0Z e->(∀i,lat e i=lat (b,r) i)->e.1.length<=b.length->e.2.length<=r.length->∀S',Ex S S'->Q (uR e) S')->z9M [.ref a,.ref a'] S Q E
inductive iP1(S:Sto)(a a':Addr)(r:List Int):Nat->En->Sto->Prop
 |mk {S1} (m z:Nat):Ex S S1->0<z->z<=r.length->(∀d,0<d->d<z->¬Per r d)->m+z=r.length->iP1 S a a' r m [some (.ref a),some (.ref a'),some (.int z),none,none] S1
inductive iP2(S:Sto)(a l6:Addr)(b r:List Int)(z:Nat):Nat->En->Sto->Prop
 |mk (m c:Nat):c<=b.length->(∀j,j<c->b.getD (b.length-1-j) 0=(r.take z).getD (z-1-j%z) 0)->m+c=b.length->iP2 S a l6 b r z m [some (.ref a),some (.ref l6),some (.int z),some (.int c),none] S
def zja:z0K ["_law_ahead","_law_ring","_law_size","_law_many","_law_head"] (z0a z7n) ["_law_k","_law_many","_law_ring","_law_size"] [none,some 3,some 1,some 2] (csc [(".0",.local),("_law_k",.local),("_law_many",.free),("_law_ring",.free),("_law_size",.free)]):={}
def z4T(T:Z.Tx)(D:Z.fd "_law_plain" z7n ["_law_ahead","_law_ring"]):Z.f "_law_plain" 1 z9M:=by
 refine wF ["_law_ahead","_law_ring","_law_size","_law_many","_law_head"] D (λf cdv A outer s H E hr nd=>z02 (z0d 2 nd z06) (z02 (z14 y0s (SW.st (z8f (z0k (z2o (z2p hr)).2 (z08 z10 (sBu T z0E y08 (z01 (z00 1) z03)) (z00 2)) z06) (z4k (z0k (z2o (z2p hr)).2 (z0u (z00 1) (z1n (z00 2)) z1X) (z0u (z00 1) z1X (z1n (z08 z2k (sBu T z0E y08 (z01 (z00 1) z03)) (z00 2)))))))) (z05 (z7O 2 nd z06 z80))) (z02 (z0d 1 nd (sTy T z7T y17 (z01 (z0u (z00 1) z1X (z1n (z00 2))) z03))) (z02 (z0d 3 nd z06) (z02 (z14 y0s (SW.st (z35 (z0k (z16 z4P) (z00 3) (sBu T z0E y08 (z01 (z00 0) z03))) (z26 (z0k (z2o (z2p hr)).1 (z0m z19 (z00 0) (z08 z2k (z1Q z06) (z00 3))) (z0m z19 (z00 1) (z08 z2k (z1Q z06) (z08 z10 (z00 3) (z00 2)))))))) (z05 (z7O 3 nd z06 z80))) (z02 (z0d 4 nd (z0u (sTy T z7T y17 (z01 (z00 0) z03)) z1X (z1n (z08 z2k (sBu T z0E y08 (z01 (z00 0) z03)) (z00 3))))) (z05 (z0j (z0t (z01 (sTy T z11 y0o (z01 (z00 4) z03)) (z01 (sTy T z11 y0o (z01 (z0D ⟨zja,rfl,λ_ _ _ _ _=>⟨(z07 0 zja.nd),.nil,(z1j rfl (z0m z19 (z00 2) (z08 z10 (z08 z2k (z00 0) (z00 1)) (z00 3))))⟩,λg' e=>by cases e⟩ (z4p rfl (T.b _ (by decide)) (z01 (z00 2) z03))) z03)) z03))))))))))) (λus S Q E h=>by cases h<;>rfl) ?_;rintro _ S Q E ⟨a,a',b,r,ea,ea',hb,hrl,hne,q⟩;have hp:0<r.length:=y0r.mpr hne;refine z3J (iP1 S a a' r) (r.length-1) (.mk _ 1 (.refl S) (by lia) (by lia) (λd h0 h1=>by lia) (by lia)) ?_;rintro m ρ S1 ⟨_,z,e1,hz0,hzl,hno,hm⟩ again ag;have em:((((r.map U.int).length:Nat):Int)%(z:Int))=((r.length%z:Nat):Int):=by rw[y00];exact(y1I _ _).symm
 have more:¬Per r z->∀S2,Ex S S2->again [some (.ref a),some (.ref a'),some (.int ((z:Int)+1)),none,none] S2:=λhn S2 e2=>by
  have hlt:z<r.length:=by
   rcases Nat.lt_or_ge z r.length with c|c
   .exact c
   .have:z=r.length:=by lia
    subst this;exact absurd zah hn
  refine ag (m-1) _ _ (by lia) (.mk (m-1) (z+1) e2 (by lia) (by lia) (λd h0 h1=>?_) (by lia));by_cases c:d<z
  .exact hno d h0 c
  .have:d=z:=by lia
   rw[this];exact hn
 have el:(((((r.map U.int).length:Nat):Int)-(z:Int)))=((r.length-z:Nat):Int):=by rw[y00];lia
 refine⟨_,e1.l ea',by lia,rfl,?_⟩;rw[em];show cond (true != eqU (.int _) (.int 0)) _ _;rw[neI];refine z0x (λc1=>more (λh=>?_) S1 e1) (λc1=>?_)
 .have:=Nat.mod_eq_zero_of_dvd h.1;rw[this]at c1;simp at c1
 have c1:((r.length%z:Nat):Int)=0:=y0i (by simpa only[Bool.not_eq_false']using c1);have hdv:z ∣ r.length:=Nat.dvd_of_mod_eq_zero (by lia);refine⟨_,e1.l ea',λp3 hp3=>?_⟩;rw[z39,z3C];have e2:=Ex.up (o:=.lst ((r.drop z).map U.int)) (.refl S1) hp3;have e12:=e1.trans e2;refine⟨_,e12.l ea',_,e12.l ea',λp4 hp4=>?_⟩;rw[el,z39,z3L];have e3:=Ex.up (o:=.lst ((r.take (r.length-z)).map U.int)) (.refl _) hp4;have e13:=e12.trans e3;refine⟨_,_,.inl (e3 _ _ z04),.inl z04,?_,?_⟩
 .rw[flI,flI,okI,(z1N _).2];rfl
 show cond (true != eqL ((r.drop z).map U.int) ((r.take (r.length-z)).map U.int)) _ _;have eq2:(true != eqL ((r.drop z).map U.int) ((r.take (r.length-z)).map U.int))=!decide (r.drop z=r.take (r.length-z)):=by
  by_cases h:r.drop z=r.take (r.length-z)
  .rw[h,zi3.mpr rfl];simp
  .rw[y0u h];cases h2:eqL ((r.drop z).map U.int) ((r.take (r.length-z)).map U.int)with
   |false=>rfl
   |true=>exact absurd (zi3.mp h2) h
 rw[eq2];refine z0x (λc2=>more (λhp=>?_) _ e13) (λc2=>?_)
 .have:=(z5X hzl hdv).mpr hp;rw[y18 this]at c2;cases c2
 have c2:r.drop z=r.take (r.length-z):=by simpa using c2
 have L:z4y r z:=⟨hz0,(z5X hzl hdv).mp c2,hno⟩;have ltz:(r.take z).length=z:=by rw[y0z];lia
 refine⟨_,e13.l ea',λp5 hp5=>?_⟩;rw[z39,z3L];have e5:=Ex.up (o:=.lst ((r.take z).map U.int)) (.refl _) hp5;refine⟨_,.inl z04,λl6 hl6=>?_⟩;have e15:=e13.trans e5;have e6:=Ex.up (o:=.lst ((r.take z).map U.int)) e15 (e15.no hl6);have f6:up (up (up (up S1 p3 (.lst ((r.drop z).map U.int))) p4 (.lst ((r.take (r.length-z)).map U.int))) p5 (.lst ((r.take z).map U.int))) l6 (.lst ((r.take z).map U.int)) l6=some (.lst ((r.take z).map U.int)):=z04;generalize up (up (up (up S1 p3 (.lst ((r.drop z).map U.int))) p4 (.lst ((r.take (r.length-z)).map U.int))) p5 (.lst ((r.take z).map U.int))) l6 (.lst ((r.take z).map U.int))=S6 at e6 f6;clear e5 e15 e13 e12 e3 e2 hp3 hp4 hp5 hl6 more;apply zaX (z3u b (r.take z) z)
 .intro fin;refine z3J (iP2 S6 a l6 b r z) b.length (.mk _ 0 (y1M _) (λj hj=>absurd hj (Nat.not_lt_zero _)) (by lia)) ?_;rintro m ρ _ ⟨c,hc,heq,hm⟩ again ag;have hmr:c%z<z:=y1H _ hz0;have em2:((c:Int)%(z:Int))=((c%z:Nat):Int):=(y1I _ _).symm;refine⟨_,e6.l ea,?_⟩;show cond (decide ((c:Int)<(((b.map U.int).length:Nat):Int))) _ _;rw[y00];refine z0x (λc1=>?_) (λc1=>fin.go c ⟨hc,heq,.inl (by have:=y0C c1;lia)⟩);have hcb:c<b.length:=by have:=y0i c1;lia
  refine⟨_,e6.l ea,opt.of (z7m hcb) ⟨by lia,_,.inl f6,?_⟩⟩;rw[em2];refine opt.of (z7m (by rw[ltz];exact hmr)) ⟨rfl,?_⟩;show cond (false != eqU (.int _) (.int _)) _ _;rw[eqI,ltz];refine z0x (λw=>ag (m-1) _ _ (by lia) (.mk (m-1) (c+1) (by lia) (λj hj=>?_) (by lia))) (λw=>fin.go c ⟨hc,heq,.inr (y0C w)⟩);by_cases y:j<c
  .exact heq j y
  .have:j=c:=by lia
   rw[this];exact y0i w
 refine⟨λc R=>?_⟩;have R':=z3E hz0 R;have hcb:=R.le;have elb:((((b.map U.int).length:Nat):Int)-(c:Int))=((b.length-c:Nat):Int):=by rw[y00];lia
 obtain⟨pl1,pl2⟩:=z1K (e:=(b,r)) (s:=z) (c:=c);have q:=q (z24 (b,r) z c) (z2z (e:=(b,r)) hne L R') (z2l (e:=(b,r)) hne L R') (by rw[pl1];exact Nat.sub_le _ _) (by rw[pl2];exact hzl);refine⟨_,e6.l ea,λl7 hl7=>?_⟩;have e7:=Ex.up (o:=.lst (b.map U.int)) (.refl S6) hl7;have e67:=e6.trans e7;refine⟨_,e67.l ea,_,.inl z04,λl8 hl8=>?_⟩;rw[elb,z39,z3L];have e8:=Ex.up (o:=.lst ((b.take (b.length-c)).map U.int)) (.refl _) hl8;have e68:=e67.trans e8;refine⟨_,.inl z04,by lia,by lia,?_⟩;rw[show((z:Nat):Int).toNat=z by lia,z4E];refine z1D (z33 z) U.int (λk=>.int (r.getD ((k-(c:Int))%(z:Int)).toNat 0)) (λρ=>∃x,ρ=[x,some (.int c),some (.ref l6),some (.int z)]) ⟨_,rfl⟩ (by rw[z2E];lia) (λ_ _=>trivial) ?_ ?_
 .rintro k hk ρ S9 ⟨x,rfl⟩ e9 Qf qf;have n0:0<=(k-(c:Int))%(z:Int):=y0V _ (by lia);have n1:(k-(c:Int))%(z:Int)<(z:Int):=y0R _ (by lia);have at6:=zfH (xs:=r.take z) n0 (by rw[ltz];lia);rw[z1E (by lia)]at at6;exact⟨by lia,_,.inl (e9 _ _ (e8 _ _ (e7 _ _ f6))),opt.of at6 (qf [some (.int k),some (.int c),some (.ref l6),some (.int z)] S9 ⟨_,rfl⟩ (.refl _))⟩
 .rintro ρ S9 ⟨x,rfl⟩ e9 l hl;have e69:=e68.trans e9;refine⟨_,.inl z04,show 2<=sizeLine by decide,?_⟩;have q:=q _ (Ex.up (o:=.lst ((z33 z).map λk=>U.int (r.getD ((k-(c:Int))%(z:Int)).toNat 0))) e69 (e69.no hl));unfold uR uI' z24 at q;rw[y0W]at q;exact q
end W
namespace W
open PySem L2 PySem.SeqAt Gu
variable[WW]{Z:Zx}
def prV(f:Nat->U):Nat->List U->List (U × U)
 |_,[]=>[]
 |n,x::r=>(x,f n)::prV f (n+1) r
theorem z6G(f:Nat->U)(k:U):∀(u:List U)(n:Nat),z0o (prV f n u) k=if k∈u then some (f (n+u.idxOf k))else none
 |[],n=>by simp[prV,z0o]
 |x::r,n=>by
  unfold prV z0o;by_cases e:x=k
  .subst e;rw[z0S];simp
  .rw[z12 e];show z0o (prV f (n+1) r) k=_;rw[z6G f k r (n+1)];have e1:(x::r).idxOf k=r.idxOf k+1:=by rw[y3g,y2z e];rfl
   by_cases hm:k∈r
   .rw[if_pos hm,if_pos (by simp[hm]),e1,show n+1+r.idxOf k=n+(r.idxOf k+1)by lia]
   .rw[if_neg hm,if_neg (by simp[hm,y10 e])]
theorem z9I(f:Nat->U):∀(u:List U)(n:Nat),(prV f n u).length=u.length
 |[],_=>rfl
 |x::r,n=>by rw[prV,y0b,y0b,z9I f r]
theorem z9R(f:Nat->U)(k:U):∀(u:List U)(n:Nat),prV f n (u++[k])=prV f n u++[(k,f (n+u.length))]
 |[],n=>by simp[prV]
 |x::r,n=>by rw[y1J,prV,z9R f k r,prV,y1J,y0b,show n+1+r.length=n+(r.length+1)by lia]
def zdT{f:Nat->U}{k:U}{u:List U}(h:k∉u):z1T (prV f 0 u) k (f u.length)=prV f 0 (u++[k]):=by unfold z1T;rw[z6G,if_neg h,z9R,y2S];rfl
inductive zas:Wsp
 |mk {S Q E} (one:List Row) (e:Row) (n:Nat):z1i n one->n<=60->e.1.length<=4900->e.2.length<=4900->e.1.length+one.length*e.2.length<=70000->z3S n e->(∀e':Row,z0Z e'->(∀i,lat e' i=oS one e i)->e'.1.length<=70000->e'.2.length<=70000->∀S',Ex S S'->Q (uR e') S')->zas [uG one,uR e] S Q E
def vF(e:Row)(j:Nat):U:=.int ((e.1.length+j*e.2.length:Nat):Int)
inductive iDr(S:Sto)(one:List Row)(e:Row)(ll ld:Addr):Nat->En->Sto->Prop
 |mk {S1} (t:Nat) (x2:Option U):Ex S S1->S1 ll=some (.lst ((z1h one 0 e.1++(z1b one e t).flatten).map U.int))->S1 ld=some (.dic false (prV (vF e) 0 ((seen one e t).map U.int)))->(seen one e t).Nodup->iDr S one e ll ld (one.length+1-t) [some (uG one),some (uR e),x2,some (.int (z20 one e t)),some (.ref ll),some (.ref ld)] S1
def z3G(T:Z.Tx)(JC:Z.f "_law_read" 1 zew)(JG:Z.f "_law_plain" 1 z9M)(D:Z.fd "_law_dressed" z4S ["_law_rows_here","_law_endless"]):Z.f "_law_dressed" 2 zas:=by
 refine wF ["_law_rows_here","_law_endless","_law_made","_law_at","_law_ahead","_law_starts"] D (λf cdv A outer s H E hr nd=>z02 (z17 (z0b JC (hr.mono (by decide)) z0h (z01 (z00 0) (z01 z06 (z01 (z0m z19 (z00 1) z06) z03)))) (z0F rfl (z09 (z07 2 nd) (z09 (z07 3 nd) z0r)))) (z02 (z0d 4 nd (sTy T z7T y17 (z01 (z00 2) z03))) (z02 (z0d 5 nd (z4L false)) (z02 (z14 y0s (z0k (z6Y (hu9 hr) rfl).2 (z00 3) (z00 5)) (z02 (z5L (hu9 hr) rfl (z00 5) (z00 3) (sBu T z0E y08 (z01 (z00 4) z03))) (z02 (z17 (z0b JC (hr.mono (by decide)) z0h (z01 (z00 0) (z01 (z00 3) (z01 (z0m z19 (z00 1) z06) z03)))) (z0F rfl (z09 (z07 2 nd) (z09 (z07 3 nd) z0r)))) (z05 (z0g (zjK (z00 4) (z01 (z00 2) z03))))))) (z05 (z0j (z0b JG (hr.mono (by decide)) z0h (z01 (z0u (z00 4) z1X (z1n (z0m (z5B (hu9 hr) rfl) (z00 5) (z00 3)))) (z01 (z0u (z00 4) (z1n (z0m (z5B (hu9 hr) rfl) (z00 5) (z00 3))) z1X) z03))))))))) (λus S Q E h=>by cases h<;>rfl) ?_;rintro _ S Q E ⟨one,e,n,G,hn,he1,he2,hz,hg,q⟩;obtain⟨hne,l1,l2⟩:=id hg;have hL:0<e.2.length:=y0r.mpr hne;have h1:=G.some;refine .mk one n e.1 0 G (by lia) l1 (y3h 0) (by lia) λS2 e12=>⟨rfl,λll hll ld hld=>?_⟩;have e3:=Ex.up (o:=.lst ((z1h one 0 e.1).map U.int)) e12 (e12.no hll);have e4:=Ex.up (o:=.dic false []) e3 (e3.no hld);have nld:ll≠ld:=by rintro rfl;rw[z04]at hld;cases hld
 have hl0:=e12.no hll;have hd0:=e3.no hld;refine z3J (iDr S one e ll ld) (one.length+1) (.mk 0 _ e4 ((z0c nld).trans (z04.trans (by simp[z1b]))) z04 y2b) ?_;rintro m ρ S5 ⟨t,x2,e5,el,ed,nd⟩ again ag;have ht:t<=one.length:=by have:=z3T nd (λx hx=>by obtain⟨j,_,rfl⟩:=y0f.mp hx;exact z3v G l1 l2 j);rw[z1z]at this;exact this
 obtain⟨a0,a1⟩:=z3v G l1 l2 t;have h4000:=G.few;have inj:∀x y,U.int x=U.int y->x=y:=λx y h=>by injection h
 have hlen:(z1h one 0 e.1++(z1b one e t).flatten).length=e.1.length+t*e.2.length:=by rw[y04,z0M,z1H]
 have hmk:t*e.2.length<=one.length*e.2.length:=y16 _ ht;refine⟨_,_,ed,rfl,?_⟩;show cond ((z0o (prV (vF e) 0 ((seen one e t).map U.int)) (.int (z20 one e t))).isSome != true) _ _;have hv:=z6G (vF e) (.int (z20 one e t)) ((seen one e t).map U.int) 0;rw[z5o inj,y2S]at hv;by_cases hm:z20 one e t∈seen one e t
 .rw[if_pos ((z0C inj).mpr hm)]at hv;rw[hv];obtain⟨first,hf⟩:∃first,first=(seen one e t).idxOf (z20 one e t):=⟨_,rfl⟩;have hfl:first<t:=by rw[hf];have:=y0Q hm;rwa [z1z]at this
  have hfa:z20 one e t=z20 one e first:=by
   have h':(seen one e t)[first]?=some (z20 one e t):=by rw[hf,y0e (y0Q hm),List.getElem_idxOf]
   unfold seen at h';rw[y0x,y2j hfl]at h';exact(y0d h').symm
  have hlat:=z7C one hne hfl hfa;rw[<-hf]at hv;have hmf:first*e.2.length<=t*e.2.length:=y16 _ (y0Z hfl);have htk:(z1b one e t).take first=z1b one e first:=by unfold z1b;rw[<-y2x,y3d,y11 (y0Z hfl)]
  have hall:z1h one 0 e.1++(z1b one e t).flatten=(z1h one 0 e.1++((z1b one e t).take first).flatten)++((z1b one e t).drop first).flatten:=by rw[y19,<-y1i,y1K]
  have lA:(z1h one 0 e.1++((z1b one e t).take first).flatten).length=e.1.length+first*e.2.length:=by rw[htk,y04,z0M,z1H]
  have lB:(z1h one 0 e.1++((z1b one e t).take first).flatten).length+((z1b one e t).drop first).flatten.length=e.1.length+t*e.2.length:=by rw[<-hlen,<-y04,<-hall]
  have hrne:((z1b one e t).drop first).flatten≠[]:=λz=>by rw[z,lA,y1o]at lB;have:=Nat.eq_of_mul_eq_mul_right hL (show first*e.2.length=t*e.2.length by lia);lia
  rw[hall]at el;generalize z1h one 0 e.1++((z1b one e t).take first).flatten=A' at *;generalize((z1b one e t).drop first).flatten=B' at *;refine⟨_,_,ed,rfl,opt.of hv ⟨_,.inl el,λp1 hp1=>?_⟩⟩;rw[show cut ((A'++B').map U.int) none (some ((e.1.length+first*e.2.length:Nat):Int))=A'.map U.int by rw[z39,z3L,<-lA,List.take_left]];have e6:=Ex.up (o:=.lst (A'.map U.int)) (.refl S5) hp1;refine⟨_,_,e6 _ _ ed,rfl,opt.of hv ⟨_,.inl (e6 _ _ el),λp2 hp2=>?_⟩⟩;rw[show cut ((A'++B').map U.int) (some ((e.1.length+first*e.2.length:Nat):Int)) none=B'.map U.int by rw[z39,z3C,<-lA,List.drop_left]];have e7:=Ex.up (o:=.lst (B'.map U.int)) (.refl _) hp2;exact .mk p1 p2 A' B' (.inl (e7 _ _ z04)) (.inl z04) (by lia) (by lia) hrne λe' p' la le1 le2 S8 e8=>q e' p' (λi=>(la i).trans (hlat i)) (by lia) (by lia) S8 (e5.trans (e6.trans (e7.trans e8)))
 .rw[if_neg (λz=>hm ((z0C inj).mp z))]at hv;rw[hv];refine⟨_,.inl el,_,_,ed,rfl,?_,?_⟩
  .rw[z9I,y00,z1z];exact z1f (by lia)
  have ev:(U.int ((((z1h one 0 e.1++(z1b one e t).flatten).map U.int).length:Nat):Int))=vF e ((seen one e t).map U.int).length:=by rw[y00,hlen,y00,z1z];rfl
  rw[ev,zdT (λz=>hm ((z0C inj).mp z)),show(seen one e t).map U.int++[U.int (z20 one e t)]=(seen one e (t+1)).map U.int by rw[z2I,y0n];rfl];have e6:=Ex.up (o:=.dic false (prV (vF e) 0 ((seen one e (t+1)).map U.int))) e5 hd0;have d6:up S5 ld (.dic false (prV (vF e) 0 ((seen one e (t+1)).map U.int))) ld=some (.dic false (prV (vF e) 0 ((seen one e (t+1)).map U.int))):=z04;have el6:=(z0c nld (o:=.dic false (prV (vF e) 0 ((seen one e (t+1)).map U.int)))).trans el;generalize up S5 ld (.dic false (prV (vF e) 0 ((seen one e (t+1)).map U.int)))=S6 at e6 d6 el6⊢;refine .mk one n e.2 (z20 one e t) G (by lia) l2 a0 a1 λS7 e7=>⟨rfl,⟨_,.inl (e7 _ _ el6)⟩,_,e7 _ _ el6,?_,ag (one.length+1-(t+1)) _ _ (by lia) (.mk (t+1) _ (Ex.up (e6.trans e7) hl0) ?_ ((z0c nld.symm).trans (e7 _ _ d6)) ?_)⟩
  .rw[y00,y00,hlen,z0M];exact y0Z (z1f (by lia))
  .rw[z04,z2q,y1i,<-y19,<-y0n];simp
  .rw[z2I];exact List.nodup_append.mpr ⟨nd,by simp,λx hx y hy z=>hm (by rw[<-(show y=z20 one e t by simpa using hy),<-z];exact hx)⟩
end W
namespace W
open PySem L2 PySem.SeqAt Gu
variable[WW]{Z:Zx}
inductive z73:Wsp
 |mk {S Q E} (i:Int):Q (.bl true) S->z73 [.int i] S Q E
def z58(T:Z.Tx)(D:Z.fd "_law_whole" z9F ["_law_found"]):Z.f "_law_whole" 1 z73:=by refine wF ["_law_found"] D (λf cdv A outer s H E hr nd=>z05 (z0j (z41 (z1x (by decide) (z00 0) (T.b _ (by decide)) (T.b _ (by decide)) PyProof.Rows.boot_int) (z3A (z9L (z1x (by decide) (z00 0) (T.b _ (by decide)) (T.b _ (by decide)) y2F)))))) (λus S Q E h=>by cases h<;>rfl) ?_;rintro _ S Q E ⟨i,q⟩;exact q
inductive Dat:Nat->U->Prop
 |non {k}:Dat k .non
 |bl {k b}:Dat k (.bl b)
 |int {k i}:Dat k (.int i)
 |str {k x}:Dat k (.str x)
 |tup {k us}:us.length<=100000->(∀u∈us,Dat k u)->Dat (k+1) (.tup us)
inductive z8L:Nat->Wsp
 |dat {S Q E k} (u:U):Dat k u->(∀S',Ex S S'->Q (.bl true) S')->z8L k [u,u] S Q E
 |lst {S Q E k} (a b:Addr) (us:List U):isL S a us->isL S b us->us.length<=100000->(∀u∈us,Dat k u)->(∀S',Ex S S'->Q (.bl true) S')->z8L (k+1) [.ref a,.ref b] S Q E
def zjc:Nat->Wsp
 |0=>λ_ _ _ _=>False
 |k+1=>z8L k
def z7d{L:List U}{h:U->U}(hh:∀u∈L,h u=.bl true):L.map h=(List.replicate L.length true).map U.bl:=by
 induction L with
 |nil=>rfl
 |cons u L ih=>rw[y0m,hh u (by simp),ih λv hv=>hh v (by simp[hv])];rfl
def z0R(u:U):eqU u u=true:=z99.mpr rfl
def ziY:z0K ["_law_found","_law_due"] (z0a z9x) ["_law_k","_law_due","_law_found"] [none,some 1,some 0] (csc [(".0",.local),("_law_k",.local),("_law_like",.globalImplicit),("_law_due",.free),("_law_found",.free)]):={}
def zdl{k:Nat}(T:Z.Tx)(Jj:Z.f "_law_whole" 1 z73)(Jd:Z.f "_law_like" (k+1) (zjc k))(D:Z.fd "_law_like" z9x ["_law_found","_law_due"]):Z.f "_law_like" (k+2) (z8L k):=by
 refine wF ["_law_found","_law_due"] D (λf cdv A outer s H E hr nd=>z02 (z0L (z0k zhA (z00 1) z7P) (z05 (z0j (z3X zhA (z00 0) z7P))) z0l) (z02 (z0L (z1o (z1x (by decide) (z00 1) (T.b _ (by decide)) (T.b _ (by decide)) y2F)) (z05 (z0j (z41 (z1x (by decide) (z00 0) (T.b _ (by decide)) (T.b _ (by decide)) y2F) (z3A (z3X (z2o (z2p hr)).1 (z00 0) (z00 1)))))) z0l) (z02 (z0L (z1o (z1x (by decide) (z00 1) (T.b _ (by decide)) (T.b _ (by decide)) PyProof.Rows.boot_int)) (z05 (z0j (z41 (z0b Jj (hr.mono (by lia)) z0h (z01 (z00 0) z03)) (z3A (z3X (z2o (z2p hr)).1 (z00 0) (z00 1)))))) z0l) (z02 (z0L (z1o (z1x (by decide) (z00 1) (T.b _ (by decide)) (T.b _ (by decide)) y1a)) (z05 (z0j (z41 (z1x (by decide) (z00 0) (T.b _ (by decide)) (T.b _ (by decide)) y1a) (z3A (z3X (z2o (z2p hr)).1 (z00 0) (z00 1)))))) z0l) (z02 (z0L (SW.st (z8f (z0k (z2o (z2p hr)).2 (z1x (by decide) (z00 1) (T.b _ (by decide)) (T.b _ (by decide)) y17) (z1x (by decide) (z00 0) (T.b _ (by decide)) (T.b _ (by decide)) y17)) (z4k (z0k (z2o (z2p hr)).2 (z1x (by decide) (z00 1) (T.b _ (by decide)) (T.b _ (by decide)) y0o) (z1x (by decide) (z00 0) (T.b _ (by decide)) (T.b _ (by decide)) y0o))))) (z05 (z0j zau)) z0l) (z05 (z0j (z41 (z3X (z2o (z2p hr)).1 (sBu T z0E y08 (z01 (z00 0) z03)) (sBu T z0E y08 (z01 (z00 1) z03))) (z3A (sBu T (zfs rfl) PyProof.Rows.boot_all (z01 (z0D ⟨ziY,rfl,λ_ _ _ _ _=>⟨(z07 0 ziY.nd),.nil,(z1j rfl (z0b Jd (hr.mono (by lia)) z8j (z01 (z0m z19 (z00 2) (z00 0)) (z01 (z0m z19 (z00 1) (z00 0)) z03))))⟩,λg' e=>by cases e⟩ (z4p rfl (T.b _ (by decide)) (z01 (sBu T z0E y08 (z01 (z00 1) z03)) z03))) z03))))))))))) (λus S Q E h=>by cases h<;>rfl) ?_;rintro _ S Q E h;cases h with
 |dat u hd q =>
  cases hd with
  |non=>exact q S (.refl S)
  |bl=>exact⟨rfl,by rw[show(false != eqU (U.bl _) (U.bl _))=true by rw[z0R];rfl];exact q S (.refl S)⟩
  |int=>exact .mk _ ⟨rfl,by rw[show(false != eqU (U.int _) (U.int _))=true by rw[z0R];rfl];exact q S (.refl S)⟩
  |str=>exact⟨rfl,by rw[show(false != eqU (U.str _) (U.str _))=true by rw[z0R];rfl];exact q S (.refl S)⟩
  |@tup k us hz hu =>
   refine⟨rfl,rfl,rfl,?_⟩;have ek:(false != eqU (.int ((us.length:Nat):Int)) (.int ((us.length:Nat):Int)))=true:=by rw[z0R];rfl
   show cond (false != eqU (.int ((us.length:Nat):Int)) (.int ((us.length:Nat):Int))) _ _;rw[ek];refine⟨by lia,by lia,?_⟩;rw[show((us.length:Nat):Int).toNat=us.length by lia];refine z6m (rg 0 us.length) (λ_=>.bl true) (λρ=>∃x,ρ=[x,some (.tup us),some (.tup us)]) ⟨_,rfl⟩ ?_ (λ_ _=>trivial) ?_ ?_
   .rw[z2e];exact hz
   .rintro x hx ρ S' ⟨y,rfl⟩ e Qf qf;obtain⟨i,rfl,hi⟩:=z63 hx;obtain⟨v,hv,hm⟩:=z4V (us:=us) (i:=(i:Int)) (by lia) (by lia);exact opt.of hv (opt.of hv (.dat v (hu v hm) λS'' e'=>qf [some (.int i),some (.tup us),some (.tup us)] S'' ⟨_,rfl⟩ e'))
   .rintro ρ S' ⟨y,rfl⟩ e l hl;refine⟨List.replicate us.length true,.inl (z04.trans (by rw[z7d λ_ _=>rfl,z2e])),?_⟩;rw[show(List.replicate us.length true).all id=true by simp];exact q _ (Ex.up e (e.no hl))
 |@lst _ _ _ k a b us ha hb hz hu q =>
  refine⟨_,hb,_,hb,_,hb,_,hb,_,ha,rfl,_,hb,_,ha,rfl,_,ha,_,hb,rfl,?_⟩;have ek:(false != eqU (.int ((us.length:Nat):Int)) (.int ((us.length:Nat):Int)))=true:=by rw[z0R];rfl
  show cond (false != eqU (.int ((us.length:Nat):Int)) (.int ((us.length:Nat):Int))) _ _;rw[ek];refine⟨_,hb,by lia,by lia,?_⟩;rw[show((us.length:Nat):Int).toNat=us.length by lia];refine z6m (rg 0 us.length) (λ_=>.bl true) (λρ=>∃x,ρ=[x,some (.ref b),some (.ref a)]) ⟨_,rfl⟩ (by rw[z2e];exact hz) (λ_ _=>trivial) ?_ ?_
  .rintro x hx ρ S' ⟨y,rfl⟩ e Qf qf;obtain⟨i,rfl,hi⟩:=z63 hx;obtain⟨v,hv,hm⟩:=z4V (us:=us) (i:=(i:Int)) (by lia) (by lia);exact⟨_,e.l ha,opt.of hv ⟨_,e.l hb,opt.of hv (.dat v (hu v hm) λS'' e'=>qf [some (.int i),some (.ref b),some (.ref a)] S'' ⟨_,rfl⟩ e')⟩⟩
  .rintro ρ S' ⟨y,rfl⟩ e l hl;refine⟨List.replicate us.length true,.inl (z04.trans (by rw[z7d λ_ _=>rfl,z2e])),?_⟩;rw[show(List.replicate us.length true).all id=true by simp];exact q _ (Ex.up e (e.no hl))
def zgA{x:Str}{st:Stmt}{ps:List Str}(D:Z.fd x st ps)(k:Nat):Z.f x k λ_ _ _ _=>False:=by obtain⟨f,fd,F,B,M⟩:=D.ex;exact⟨f,fd,ps,⟨λvs H Q E h=>by obtain⟨_,_,_,_,_,_,_,z,_⟩:=h;exact z.elim,λA outer s H args us vs Q E _ _ _ _ h=>by obtain⟨_,_,_,_,_,_,_,z,_⟩:=h;exact z.elim⟩,B,F.kp,M⟩
theorem z75(T:Z.Tx)(Jj:Z.f "_law_whole" 1 z73)(D:Z.fd "_law_like" z9x ["_law_found","_law_due"]):∀k,Z.f "_law_like" (k+1) (zjc k)
 |0=>zgA D 1
 |k+1=>zdl T Jj (z75 T Jj D k) D
inductive zcM(Z:Zx):Wsp
 |mk {S Q E} {p d x y n th dn tb} (ws:List U) (w:U):Hs Z S p d x y n th dn tb->z0o th (ks "peg" "peg")=some (pgU (ws++[w]) [])->dn.length<=1000000->th.length<=1000000->Q (.bl true) S->zcM Z [.ref p] S Q E
def z5Z(T:Z.Tx)(JL:Z.m "doff" 9 (zbe Z))(D:Z.fd "_law_bare" zaj ["_law_house"]):Z.f "_law_bare" 10 (zcM Z):=by refine wF ["_law_house","_law_told"] D (λf cdv A outer s H E hr nd=>z02 (z0d 1 nd zau) (z02 (zfz T.x rfl rfl (λpn E1 xk hx=>(z05 (z0g (z0n JL (hr.mono (by decide)) hx (z00 0) (z01 z0p z03))))) (.cons rfl (λ_=>(z05 (z0d 1 nd zau))) .nil rfl (by decide))) (z05 (z0j (z00 1))))) (λus S Q E h=>by cases h<;>rfl) ?_;rintro _ S Q E @⟨_,_,_,p,d,x,y,n,th,dn,tb,ws,w,hs,hv,hdn,hth,q⟩;have hs0:=hs;obtain⟨h1,h2,_⟩:=hs;refine⟨_,h1,rfl,.mk "peg" hs0 (by decide +kernel) hdn hth (λz=>by rw[hv]at z;cases z) λv hv'=>?_⟩;rw[hv]at hv';cases hv';exact⟨ws,w,[],rfl,λ_=>⟨⟨"NothingWorn",rfl⟩,q⟩,λls' l z=>by simp at z⟩
end W
namespace W
open PySem L2 PySem.SeqAt Gu
variable[WW]{Z:Zx}
def z6F{th:List (U × U)}{k:U}:(z0o th k).isSome=true↔k∈th.map (·.1):=by
 induction th with
 |nil=>simp[z0o]
 |cons p th ih =>
  unfold z0o;by_cases e:p.1=k
  .rw[e,z0R];simp[e]
  .rw[z12 e];show(z0o th k).isSome=true↔_;rw[ih,y0m,y0l];exact⟨.inr,λh=>h.elim (λz=>absurd z.symm e) id⟩
def zcU(th:List (U × U))(k v k':U):z0o (th++[(k,v)]) k'=(z0o th k').or (if k'=k then some v else none):=by
 induction th with
 |nil =>
  show cond (eqU k k') (some v) none=_;by_cases e:k=k'
  .subst e;rw[z0R];simp[z0o]
  .rw[z12 e];simp[z0o,y10 e]
 |cons p th ih =>
  rw[y1J];unfold z0o;cases eqU p.1 k' with
  |true=>rfl
  |false=>exact ih
def zcX(th:List (U × U))(k v k':U):z0o (th.map λp=>cond (eqU p.1 k) (p.1,v) p) k'=if k'=k then(z0o th k).map λ_=>v else z0o th k':=by
 induction th with
 |nil=>simp[z0o]
 |cons p th ih =>
  rw[y0m];unfold z0o;by_cases e:p.1=k
  .rw[e,z0R];by_cases e':k=k'
   .subst e';rw[if_pos rfl];show cond (eqU k k) _ _=_;rw[z0R];rfl
   .rw[if_neg (y10 e')];show cond (eqU k k') _ _=cond (eqU k k') _ _;rw[z12 e'];show z0o _ k'=z0o th k';rw[ih,if_neg (y10 e')]
  .rw[z12 e];show cond (eqU p.1 k') _ _=if k'=k then(cond false _ (z0o th k)).map _ else _;by_cases e':p.1=k'
   .rw[e',z0R,if_neg (by rw[<-e'];exact e)];rfl
   .rw[z12 e'];exact ih
def z1J(th:List (U × U))(k v k':U):z0o (z1T th k v) k'=if k'=k then some v else z0o th k':=by
 unfold z1T;cases h:z0o th k with
 |none =>
  show z0o (th++[(k,v)]) k'=_;rw[zcU];by_cases e:k'=k
  .subst e;rw[h,if_pos rfl];rfl
  .rw[if_neg e,if_neg e];cases z0o th k'<;>rfl
 |some u =>
  show z0o (th.map _) k'=_;rw[zcX,h];rfl
def z6A(th:List (U × U))(k k':U):z0o (z6d th k) k'=if k'=k then none else z0o th k':=by
 unfold z6d;induction th with
 |nil=>simp[z0o]
 |cons p th ih =>
  rw[y2W];by_cases e:p.1=k
  .rw[e,z0R];show z0o (th.filter _) k'=_;rw[ih];by_cases e':k'=k
   .rw[if_pos e',if_pos e']
   .rw[if_neg e',if_neg e'];show _=cond (eqU p.1 k') _ _;rw[e,z12 (y10 e')];rfl
  .rw[z12 e];show cond (eqU p.1 k') _ (z0o (th.filter _) k')=_;rw[ih];by_cases e':k'=k
   .subst e';rw[if_pos rfl,if_pos rfl,z12 e];rfl
   .rw[if_neg e',if_neg e'];rfl
def z7f(th:List (U × U))(k v:U):(z1T th k v).map (·.1)=cond (z0o th k).isSome (th.map (·.1)) (th.map (·.1)++[k]):=by
 unfold z1T;cases(z0o th k).isSome with
 |false=>show(th++[(k,v)]).map _=_;rw[y0n];rfl
 |true =>
  show(th.map _).map _=_;rw[y0W];refine List.map_congr_left λp _=>?_;show(cond (eqU p.1 k) (p.1,v) p).1=p.1;cases eqU p.1 k<;>rfl
def z77{th:List (U × U)}{k v:U}(h:(th.map (·.1)).Nodup):((z1T th k v).map (·.1)).Nodup:=by
 rw[z7f];cases e:(z0o th k).isSome with
 |true=>exact h
 |false =>
  refine List.nodup_append.mpr ⟨h,by simp,λa ha b hb=>?_⟩;rw[y0w]at hb;rintro rfl;rw[<-hb,z6F.mpr (hb▸ha)]at e;cases e
def zfg{th:List (U × U)}{k:U}(h:(th.map (·.1)).Nodup):((z6d th k).map (·.1)).Nodup:=h.sublist (List.filter_sublist.map _)
def z7A{th:List (U × U)}{kd nm:Str}{v:U}(h:KN th):KN (z1T th (ks kd nm) v):=λq hq=>by
 have:q.1∈(z1T th (ks kd nm) v).map (·.1):=List.mem_map_of_mem hq;rw[z7f]at this;have old:∀u∈th.map (·.1),∃k nm,u=ks k nm:=λu hu=>by obtain⟨w,hw,rfl⟩:=y0f.mp hu;exact h w hw
 cases e:(z0o th (ks kd nm)).isSome<;>rw[e]at this
 .rcases y0S.mp this with z|z
  .exact old _ z
  .exact⟨kd,nm,y0w.mp z⟩
 .exact old _ this
def zgV{th:List (U × U)}{k:U}(h:KN th):KN (z6d th k):=λq hq=>h q (y38.mp hq).1
def z3o{a b c d:Str}(h:ks a b=ks c d):a=c/\b=d:=by simpa[ks]using h
def z2x{th:List (U × U)}(h:KN th){kd nm:Str}:nm∈z0V kd th↔(z0o th (ks kd nm)).isSome=true:=by
 rw[z6F];unfold z0V;rw[List.mem_flatMap];refine⟨λhz8=>?_,λhu=>⟨_,hu,by show nm∈cond (decide (kd=kd)) [nm] [];simp⟩⟩;obtain⟨u,hu,hn⟩:=hz8;obtain⟨w,hw,rfl⟩:=y0f.mp hu;obtain⟨k,n,e⟩:=h w hw;rw[e]at hu hn;have hn:nm∈cond (decide (k=kd)) [n] []:=hn;by_cases c:k=kd
 .rw[y18 c]at hn;have:nm=n:=by simpa using hn
  rw[this,<-c];exact hu
 .rw[y0u c]at hn;simp at hn
theorem z3f(kd:Str):∀th:List (U × U),KN th->(z0V kd th).length<=th.length
 |[],_=>y0a _
 |p::th,h=>by
  have ih:=z3f kd th λq hq=>h q (by simp[hq]);unfold z0V at ih⊢;rw[y0m,List.flatMap_cons,y04,y0b];obtain⟨k,n,e⟩:=h p (by simp);rw[e];have:(zeB kd (ks k n)).length<=1:=by show(cond (decide (k=kd)) [n] []).length<=1;cases decide (k=kd)<;>simp
  lia
theorem z7S{kd:Str}:∀{th:List (U × U)},KN th->(th.map (·.1)).Nodup->(z0V kd th).Nodup
 |[],_,_=>y2b
 |p::th,h,nd=>by
  have h':KN th:=λq hq=>h q (by simp[hq]);rw[y0m,y0U]at nd;have ih:=z7S (kd:=kd) h' nd.2;obtain⟨k,n,e⟩:=h p (by simp);have en:z0V kd (p::th)=cond (decide (k=kd)) [n] []++z0V kd th:=by unfold z0V;rw[y0m,List.flatMap_cons,e];rfl
  rw[en];by_cases c:k=kd
  .rw[y18 c];refine y0U.mpr ⟨λz=>nd.1 ?_,ih⟩;have:=z6F.mp ((z2x h').mp z);rw[e,c];exact this
  .rw[y0u c];exact ih
def zdX(th:List (U × U))(k:U):(z6d th k).length<=th.length:=y2N _ _
end W
namespace W
open PySem L2 PySem.SeqAt Gu
variable[WW]{Z:Zx}
def Zx.k(Z:Zx)(x:Str)(k:Nat)(sp:Wsp):Prop:=Fk Z.P WW.w Z.K Z.mg Z.base Z.xa x Z.C k sp
structure St(Z:Zx)(n:Nat)(sa p d x y lw ln:Addr)(ns:List Int)(B:Nat)(S:Sto)(th:List (U × U))(dn tb:List U)(ws:List Row)(ls:List Str):Prop where
 hs:Hs Z S p d x y n th dn tb
 sc:isL S sa (ns.map U.int)
 kn:KN th
 nd:(th.map (·.1)).Nodup
 zt:th.length<=B
 zd:dn.length<=B
 gu:∀nm u,z0o th (ks "guise" nm)=some u->zhy n u/\nm.length<=61
 pg:z0o th (ks "peg" "peg")=some (pgU (ws.map uR) (ls.map .str))
 wl:S lw=some (.lst (ws.map uR))
 nl:S ln=some (.lst (ls.map .str))
 ok:∀e∈ws,zh8 n e
 len:ws.length=ls.length+1
 ll:ls.length<=B
 ne:(lw≠d/\lw≠x/\lw≠y)/\(ln≠d/\ln≠x/\ln≠y)/\lw≠ln
 ns:(sa≠d/\sa≠x/\sa≠y)/\sa≠lw/\sa≠ln
section
variable{n:Nat}{sa p d x y lw ln:Addr}{ns:List Int}{B:Nat}{S S':Sto}{th:List (U × U)}{dn tb:List U}{ws ws':List Row}{ls ls':List Str}
theorem St.ex(h:St Z n sa p d x y lw ln ns B S th dn tb ws ls)(e:Ex S S'):St Z n sa p d x y lw ln ns B S' th dn tb ws ls :=
 { h with hs:=h.hs.ex e,sc:=e.l h.sc,wl:=e _ _ h.wl,nl:=e _ _ h.nl }
def St.le{B':Nat}(h:St Z n sa p d x y lw ln ns B S th dn tb ws ls)(hb:B<=B'):St Z n sa p d x y lw ln ns B' S th dn tb ws ls :=
 { h with zt:=y0k h.zt hb,zd:=y0k h.zd hb,ll:=y0k h.ll hb }
def But.l{a:Addr}{us:List U}(b:But d x y S S')(h:isL S a us)(n:a≠d/\a≠x/\a≠y):isL S' a us:=h.elim (λz=>.inl (b _ _ z n.1 n.2.1 n.2.2)) λz=>.inr (b _ _ z n.1 n.2.1 n.2.2)
def ziU{a c:Addr}{us:List U}{o:Ob}(h:isL S a us)(n:a≠c):isL (up S c o) a us:=h.elim (λz=>.inl ((z0c n).trans z)) λz=>.inr ((z0c n).trans z)
def z57{th:List (U × U)}{k v:U}:(z1R th k v).length<=th.length+1:=by
 unfold z1R;cases isN v
 .exact z5g _ _ _
 .exact Nat.le_succ_of_le (zdX _ _)
def St.g{nm:Str}{v c:U}(h:St Z n sa p d x y lw ln ns B S th dn tb ws ls)(hs':Hs Z S' p d x y n (z1R th (ks "guise" nm) v) (dn++[c]) [])(b:But d x y S S')(hv:isN v=false->zhy n v)(hn:nm.length<=61):St Z n sa p d x y lw ln ns (B+1) S' (z1R th (ks "guise" nm) v) (dn++[c]) [] ws ls:=by
 obtain⟨⟨w1,w2,w3⟩,⟨l1,l2,l3⟩,_⟩:=h.ne;have npg:ks "peg" "peg"≠ks "guise" nm:=λz=>absurd (z3o z).1 (by decide +kernel);refine⟨hs',b.l h.sc h.ns.1,?_,?_,y0k z57 (y2e h.zt),by rw[y04];exact y2e h.zd,λm u hu=>?_,?_,b _ _ h.wl w1 w2 w3,b _ _ h.nl l1 l2 l3,h.ok,h.len,Nat.le_succ_of_le h.ll,h.ne,h.ns⟩<;>unfold z1R at*<;> cases hN:isN v
 .exact z7A h.kn
 .exact zgV h.kn
 .exact z77 h.nd
 .exact zfg h.nd
 .rw[hN]at hu;have hu:z0o (z1T th (ks "guise" nm) v) (ks "guise" m)=some u:=hu;rw[z1J]at hu;by_cases e:ks "guise" m=ks "guise" nm
  .rw[if_pos e]at hu;cases hu;exact⟨hv hN,by rw[(z3o e).2];exact hn⟩
  .rw[if_neg e]at hu;exact h.gu m u hu
 .rw[hN]at hu;have hu:z0o (z6d th (ks "guise" nm)) (ks "guise" m)=some u:=hu;rw[z6A]at hu;by_cases e:ks "guise" m=ks "guise" nm
  .rw[if_pos e]at hu;cases hu
  .rw[if_neg e]at hu;exact h.gu m u hu
 .show z0o (z1T th _ v) _=_;rw[z1J,if_neg npg];exact h.pg
 .show z0o (z6d th _) _=_;rw[z6A,if_neg npg];exact h.pg
def Hs.upl{l:Addr}{us us':List U}(h:Hs Z S p d x y n th dn tb)(hl:S l=some (.lst us))(hx:l≠x)(hy:l≠y):Hs Z (up S l (.lst us')) p d x y n th dn tb:=by
 obtain⟨h1,h2,h3,h4,h5,h6⟩:=h;have w:∀a k,S a=some (.dic false k)->a≠l:=λa k e=>by rintro rfl;rw[hl]at e;cases e
 exact⟨(z0c (by rintro rfl;rw[hl]at h1;cases h1)).trans h1,(z0c (by rintro rfl;rw[hl]at h2;cases h2)).trans h2,(z0c hx.symm).trans h3,(z0c hy.symm).trans h4,h5,h6.any⟩
def St.pgs{c:U}(h:St Z n sa p d x y lw ln ns B S th dn tb ws ls)(hs':Hs Z S' p d x y n (z1R th (ks "peg" "peg") (pgU (ws'.map uR) (ls'.map .str))) (dn++[c]) [])(b:But d x y S S')(ho:∀e∈ws',zh8 n e)(hle:ws'.length=ls'.length+1)(hll:ls'.length<=B+1) : St Z n sa p d x y lw ln ns (B+1) (up (up S' lw (.lst (ws'.map uR))) ln (.lst (ls'.map .str))) (z1R th (ks "peg" "peg") (pgU (ws'.map uR) (ls'.map .str))) (dn++[c]) [] ws' ls':=by
 obtain⟨⟨w1,w2,w3⟩,⟨l1,l2,l3⟩,wl⟩:=h.ne;have z1:=b _ _ h.wl w1 w2 w3;have z2:=b _ _ h.nl l1 l2 l3;have z3:=b.l h.sc h.ns.1;have en:z1R th (ks "peg" "peg") (pgU (ws'.map uR) (ls'.map .str))=z1T th (ks "peg" "peg") (pgU (ws'.map uR) (ls'.map .str)):=rfl;refine⟨(hs'.upl z1 w2 w3).upl ((z0c wl.symm).trans z2) l2 l3,ziU (ziU z3 h.ns.2.1) h.ns.2.2,?_,?_,y0k z57 (y2e h.zt),by rw[y04];exact y2e h.zd,λm u hu=>?_,?_,(z0c wl).trans z04,z04,ho,hle,hll,h.ne,h.ns⟩
 .rw[en];exact z7A h.kn
 .rw[en];exact z77 h.nd
 .rw[en,z1J,if_neg (λz=>absurd (z3o z).1 (by decide +kernel))]at hu;exact h.gu m u hu
 .rw[en,z1J,if_pos rfl]
end
def zfE{r:Int}(h0:0<=r)(h3:r<3):∃c,atI (Str.ofString "xyz").cps.toList r=some c/\z1S (Str.ofString "guise"++⟨#[c]⟩)=true:=by
 have:r=0\/r=1\/r=2:=by lia
 rcases this with rfl|rfl|rfl
 .exact⟨120,by decide +kernel,by decide +kernel⟩
 .exact⟨121,by decide +kernel,by decide +kernel⟩
 .exact⟨122,by decide +kernel,by decide +kernel⟩
end W
namespace W
open PySem L2 PySem.SeqAt Gu
variable[WW]{Z:Zx}
inductive zgz(Z:Zx):Wsp
 |mk {S Q E} (a:Addr) (ns:List Int):isL S a (ns.map U.int)->Md Z S->(∀S',Q (.bl true) S')->zgz Z [.ref a] S Q E
inductive ziS(Z:Zx)(n:Nat)(sa p d x y lw ln:Addr)(ns:List Int)(x3 x4:Option U):List U->En->Sto->Prop
 |mk {S1} (L:List U) (B:Nat) (th:List (U × U)) (dn tb:List U) (ws:List Row) (ls:List Str) (x7 x8 x9 x10 x11:Option U):St Z n sa p d x y lw ln ns B S1 th dn tb ws ls->B+4*L.length<=60->(∀u∈L,∃i:Nat,u=.int i/\i<=20) ->
  ziS Z n sa p d x y lw ln ns x3 x4 L [some (.ref sa),some (.int n),some (.ref p),x3,x4,some (.ref lw),some (.ref ln),x7,x8,x9,x10,x11] S1
inductive zjl(Z:Zx)(n:Nat)(sa p d x y lw ln l:Addr)(ns:List Int)(x3 x4 x7 x8 x9 x11:Option U)(al:List Str):List U->En->Sto->Prop
 |mk {S1} (L:List Str) (B:Nat) (th:List (U × U)) (dn tb:List U) (ws:List Row) (ls:List Str) (x10:Option U):St Z n sa p d x y lw ln ns B S1 th dn tb ws ls->B+L.length<=150->S1 l=some (.lst (al.map .str))->l≠d/\l≠x/\l≠y->L.Nodup->(∀m∈L,(z0o th (ks "guise" m)).isSome=true) ->
  zjl Z n sa p d x y lw ln l ns x3 x4 x7 x8 x9 x11 al (L.map .str) [some (.ref sa),some (.int n),some (.ref p),x3,x4,some (.ref lw),some (.ref ln),x7,x8,x9,x10,x11] S1
inductive zjr(Z:Zx)(n:Nat)(sa p d x y lw ln:Addr)(ns:List Int)(x3 x4 x7 x8 x9 x10 x11:Option U):Nat->En->Sto->Prop
 |mk {S1} (B:Nat) (th:List (U × U)) (dn tb:List U) (ws:List Row) (ls:List Str):St Z n sa p d x y lw ln ns B S1 th dn tb ws ls->B+ls.length<=300->zjr Z n sa p d x y lw ln ns x3 x4 x7 x8 x9 x10 x11 ls.length [some (.ref sa),some (.int n),some (.ref p),x3,x4,some (.ref lw),some (.ref ln),x7,x8,x9,x10,x11] S1
def za7{e:Row}{n k:Nat}(h:zh8 n e):Dat (k+2) (uR e):=by
 have:=h.2;refine .tup (by simp) λu hu=>?_;have:u=uI' e.1\/u=uI' e.2:=by simpa[uR]using hu
 rcases this with rfl|rfl<;>refine .tup (by simp;lia) λv hv=>?_<;>obtain⟨i,_,rfl⟩:=y0f.mp hv<;>exact .int
def z0w{α:Type}(f:α->U)(xs:List α)(x:α):(xs++[x]).map f=xs.map f++[f x]:=by rw[y0n];rfl
def z2j{α:Type}{xs:List α}(h:xs≠[]):∃ys y,xs=ys++[y]:=⟨_,_,(List.dropLast_concat_getLast h).symm⟩
def zhD{α:Type}{F K K':α->Prop}(F':α->Prop)(h:zez F' K'->zez F K)(hR:zez F' K'):zez F K:=h hR
def zcw{a b:Row}(h:uR a=uR b):a=b:=by
 have:uI' a.1=uI' b.1/\uI' a.2=uI' b.2:=by simpa[uR]using h
 exact Prod.ext (z2w this.1) (z2w this.2)
def zg5{a b:List Row}(h:uG a=uG b):a=b:=by
 have h:a.map uR=b.map uR:=by simpa[uG]using h
 exact(List.map_inj_right λ_ _=>zcw).mp h
def zeX{ws ws' ls ls':List U}{u u':U}(h:pgU (ws++[u]) ls=pgU (ws'++[u']) ls'):ws=ws'/\u=u'/\ls=ls':=by unfold pgU at h;injection h with h;injection h with h1 h;injection h with h2 _;injection h1 with h1;injection h2 with h2;exact⟨y2T h1 rfl,by simpa using List.append_inj_right' h1 rfl,h2⟩
def Hs.fr{S:Sto}{p d x y l:Addr}{n:Int}{th dn tb}(h:Hs Z S p d x y n th dn tb)(hl:S l=none):l≠d/\l≠x/\l≠y:=by obtain⟨_,g2,g3,g4,_⟩:=h;refine⟨?_,?_,?_⟩<;>rintro rfl<;>simp_all
def z7G{ls:List Str}:∀u∈ls.map U.str,Dat 2 u:=λu hu=>by obtain⟨x,_,rfl⟩:=y0f.mp hu;exact .str
def wFe{x:Str}{st:Stmt}{ps:List Str}{f:Addr}{fd:FuncData}(N:List Str){k:Nat}{sp:Wsp}{t:WS}(F:Fun Z.K x x st f fd)(hb:Z.body N x st k t)(len:∀us S Q E,sp us S Q E->us.length=ps.length)(hp:∀us S Q E,sp us S Q E->t (stt N.length us) S { nx:=λ_ S'=>Q .non S',rt:=Q } λ_=>E)(Sc:z1M N ps (z0a st):=by exact⟨rfl,rfl,rfl,by decide +kernel,rfl,by decide +kernel,by decide +kernel⟩):z2h Z.P WW.w Z.K Z.mg Z.base (CXx Z.P WW.w) (k+1) f fd ps (lsp Z.xa sp):=wfn F Sc len ⟨t,λcdv A outer s H E hr=>hb f cdv A outer s H E hr Sc.nd,hp⟩
def zfD(T:Z.Tx)(Jv:Z.f "_law_letters" 2 zhn)(Jh:Z.f "_law_cell" 1 zbq)(JE:Z.f "_law_coming" 2 z6T)(Jb:Z.f "_law_numbers" 1 zcy)(JM:Z.f "_law_rows" 2 zeo)(Jw:Z.f "_law_dressed" 2 zas)(Jd:Z.f "_law_like" 5 (z8L 3))(JN:Z.f "_law_bare" 10 (zcM Z))(Jc:Z.f "plain_word" 2 sPW)(JY:Z.k "House" 1 (zhf Z))(JV:Z.m "hang" 9 (zdO Z))(JO:Z.m "names" 2 (zis Z "guise"))(JW:Z.m "drop" 9 (sGo Z "guise" "drop" 9))(m_sew:Z.m "sew" 9 (zcW Z))(Jn:Z.m "guise" 1 (z21 Z "guise" 9))(Va:Z.m "wear" 9 (zdP Z))(JL:Z.m "doff" 9 (zbe Z))(JX:Z.m "word" 2 (sWd Z))(JP:Z.m "layers" 2 (sLy Z))(JI:Z.m "first_word" 2 (sFw Z)){f:Addr}{fd:FuncData}(D:Fun Z.K "law" "law" zb1 f fd):z2h Z.P WW.w Z.K Z.mg Z.base (CXx Z.P WW.w) 11 f fd ["_law_script"] (lsp Z.xa (zgz Z)):=by
 refine wFe ["_law_script","_law_letters_here","_law_house","_law_word","_law_ring","_law_words","_law_worn_names","_law_at","_law_cell_here","_law_nums","_law_name","_law_due"] D (λf cdv A outer s H E hr nd=>z02 (z0d 1 nd (z0b Jv (hr.mono (by decide)) z0h (z01 (z00 0) (z01 z06 z03)))) (z02 (z0d 2 nd (zdt JY (hr.mono (by decide)) (zc2 λ_ _ _ z=>z) (z01 (z00 1) z03))) (z02 (z0g (z0n JV (hr.mono (by decide)) z0h (z00 2) (z01 z0p (z01 (z0t (z01 z06 z03)) (z01 (z0t (z01 z06 (z01 z06 z03))) z03))))) (z02 (z17 (z0b JE (hr.mono (by decide)) z0h (z01 (z00 1) (z01 (z0b Jh (hr.mono (by decide)) z0h (z01 (z00 0) (z01 z06 z03))) (z01 z06 z03)))) (z0F rfl (z09 (z07 3 nd) (z09 (z07 4 nd) z0r)))) (z02 (z0g (z0n JV (hr.mono (by decide)) z0h (z00 2) (z01 z0p (z01 (z00 3) (z01 (z00 4) z03))))) (z02 (z0d 5 nd (z1g (z01 (z0b Jc (hr.mono (by decide)) z0h (z01 (z00 3) (z01 (z00 4) z03))) z03))) (z02 (z0d 6 nd (z1g z03)) (z02 (z28 y0s rfl (zfU rfl (T.b _ (by decide)) (z01 z06 (z01 z06 z03))) (z07 7 nd) (z02 (z0d 8 nd (z0b Jh (hr.mono (by decide)) z0h (z01 (z00 0) (z01 (z00 7) z03)))) (z02 (z0d 9 nd (z0b Jb (hr.mono (by decide)) z0h (z01 (z00 8) (z01 z06 z03)))) (z02 (z0d 10 nd (z08 z15 z0p (z0m z19 z0p (z08 z10 (z0m z19 (z00 9) z06) z06)))) (z02 (z0L (SW.st (z35 (z0k zhZ (z00 10) (z4t JO (hr.mono (by decide)) z0h (z00 2))) (z26 (z0k (z2o (z2p hr)).1 (z08 z10 (z0m z19 (z00 9) z06) z06) z06)))) (z05 (z0g (z0n JW (hr.mono (by decide)) z0h (z00 2) (z01 (z00 10) z03)))) z0l) (z02 (z0L (z0k zbJ (z00 10) (z4t JO (hr.mono (by decide)) z0h (z00 2))) (z05 (z0g (z0n m_sew (hr.mono (by decide)) z0h (z00 2) (z01 (z00 10) (z01 (z0b JM (hr.mono (by decide)) z0h (z01 (z00 1) (z01 (z00 8) z03))) z03))))) z0l) (z02 (z0d 11 nd (z0b Jw (hr.mono (by decide)) z0h (z01 (z0n Jn (hr.mono (by decide)) z0h (z00 2) (z01 (z00 10) z03)) (z01 (z0m z19 (z00 5) (z1Q z06)) z03)))) (z02 (z0L (z0k (z16 z2Q) (z08 z15 (sBu T z0E y08 (z01 (z0m z19 (z00 11) z06) z03)) (sBu T z0E y08 (z01 (z0m z19 (z00 11) z06) z03))) z06) (z02 (z0g (z0n Va (hr.mono (by decide)) z0h (z00 2) (z01 z0p (z01 (z00 10) z03)))) (z02 (z0g (zax (z00 5) (z01 (z00 11) z03))) (z05 (z0g (zax (z00 6) (z01 (z00 10) z03)))))) z0l) (z02 (z0L (SW.st (z35 (z0k (z2o (z2p hr)).1 (z08 z10 (z0m z19 (z00 9) z06) z06) z06) (z26 (z0k (z16 z8n) (sBu T z0E y08 (z01 (z00 6) z03)) z06)))) (z02 (z0g (z0n JL (hr.mono (by decide)) z0h (z00 2) (z01 z0p z03))) (z02 (z0g (zhb (z00 5))) (z05 (z0g (zhb (z00 6)))))) z0l) (z05 (z0L (SW.st (z8f (z31 (z1o (z0b Jd (hr.mono (by decide)) z0h (z01 (z0n JX (hr.mono (by decide)) z0h (z00 2) (z01 z0p z03)) (z01 (z0m z19 (z00 5) (z1Q z06)) z03))))) (z4k (z31 (z1o (z0b Jd (hr.mono (by decide)) z0h (z01 (z0n JP (hr.mono (by decide)) z0h (z00 2) (z01 z0p z03)) (z01 (z00 6) z03)))))))) (z05 (z0j zau)) z0l))))))))))) (z02 (z28 y0s rfl (z0G (z4t JO (hr.mono (by decide)) z0h (z00 2)) z0I) (z07 10 nd) (z05 (z0g (z0n JW (hr.mono (by decide)) z0h (z00 2) (z01 (z00 10) z03))))) (z02 (z14 y0s (z0k (z16 z8n) (sBu T z0E y08 (z01 (z00 6) z03)) z06) (z02 (z0g (z0n JL (hr.mono (by decide)) z0h (z00 2) (z01 z0p z03))) (z02 (z0g (zhb (z00 5))) (z02 (z0g (zhb (z00 6))) (z05 (z0L (SW.st (z8f (z31 (z1o (z0b Jd (hr.mono (by decide)) z0h (z01 (z0n JX (hr.mono (by decide)) z0h (z00 2) (z01 z0p z03)) (z01 (z0m z19 (z00 5) (z1Q z06)) z03))))) (z4k (z31 (z1o (z0b Jd (hr.mono (by decide)) z0h (z01 (z0n JP (hr.mono (by decide)) z0h (z00 2) (z01 z0p z03)) (z01 (z00 6) z03)))))))) (z05 (z0j zau)) z0l)))))) (z05 (z0j (z41 (z0b JN (hr.mono (by decide)) z0h (z01 (z00 2) z03)) (z3A (z0b Jd (hr.mono (by decide)) z0h (z01 (z0n JI (hr.mono (by decide)) z0h (z00 2) (z01 z0p z03)) (z01 (z0m z19 (z00 5) z06) z03))))))))))))))))) (λus S Q E h=>by cases h<;>rfl) ?_;rintro _ S Q E ⟨sa,ns,hsc,M,q⟩;refine .mk sa ns 0 hsc (by decide) (by decide) λn n2 n5=>?_;intro p hp;have M1:Md Z (up S p (.ins Z.C [])):=M.ex (Ex.up (.refl S) hp);refine .mk p n z04 M1 (λ_ d x y S1 hfr hs1 kp1=>⟨rfl,?_⟩) λz=>by lia
 have np:∀a o,S a=some o->S1 a=some o:=λa o h=>by
  have ha:a≠p:=by rintro rfl;rw[hp]at h;cases h
  exact kp1 a o ((z0c ha).trans h) ha
 have hsa:∃o,S sa=some o:=hsc.elim (λz=>⟨_,z⟩) λz=>⟨_,z⟩;obtain⟨osa,hsa⟩:=hsa;have nsa:sa≠d/\sa≠x/\sa≠y:=by have w:∀a,up S p (.ins Z.C []) a=none->sa≠a:=λa h=>z2i ((z0c (z2i hsa hp)).trans hsa) h;exact⟨w _ hfr.1,w _ hfr.2.1,w _ hfr.2.2⟩
 have hsc1:isL S1 sa (ns.map U.int):=Ex.l np hsc;have hs0:=hs1;obtain⟨h1,_⟩:=hs0;refine⟨_,h1,rfl,show 1<=sizeLine by decide,show 2<=sizeLine by decide,?_⟩;refine .mk "other" [0] [1,0] hs1 (by decide +kernel) (by lia) (by decide) (by decide) (by decide) (by decide) (λz=>absurd z (by decide +kernel)) (λ_ z=>by cases z) (λ_ _ z=>?_) (λ_ _ _ e0 pe0 le0 _ _ S2 hs2 b2=>?_)
 .have:(!([1,0]:List Int).isEmpty&&lw (n:Int) [0]&&lw (n:Int) [1,0])=true:=by simp[lw];lia
  rw[this]at z;cases z
 have hsc2:=b2.l hsc1 nsa;have w1:∀nm,z0o (z1R [] (ks "peg" "other") (pgU [uR e0] [])) (ks "guise" nm)=none:=λnm=>by show z0o (z1T [] _ _) _=_;rw[z1J,if_neg (λz=>absurd (z3o z).1 (by decide +kernel))];rfl
 have w2:z0o (z1R [] (ks "peg" "other") (pgU [uR e0] [])) (ks "peg" "peg")=none:=by show z0o (z1T [] _ _) _=_;rw[z1J,if_neg (λz=>absurd (z3o z).2 (by decide +kernel))];rfl
 have w3:(z1R [] (ks "peg" "other") (pgU [uR e0] [])).length<=1:=z57;have w4:KN (z1R [] (ks "peg" "other") (pgU [uR e0] [])):=z7A (th:=[]) λq hq=>by simp at hq
 have w5:((z1R [] (ks "peg" "other") (pgU [uR e0] [])).map (·.1)).Nodup:=z77 (th:=[]) y2b;generalize z1R [] (ks "peg" "other") (pgU [uR e0] [])=th1 at hs2 w1 w2 w3 w4 w5;generalize hd1:([]:List U)++[chg (z2S "hang" ["other",z1s [0],z1s [1,0]]) [] (ks "peg" "other") (pgU [uR e0] [])]=dn1 at hs2;have hdl:dn1.length=1:=by rw[<-hd1];rfl
 refine .mk sa ns 2 hsc2 (by decide) (by decide) λc=>.mk n c 6 (by lia) (by lia) (by decide) (by decide) λe S3 ge l1 l2 e3=>⟨rfl,?_⟩;have hs3:=hs2.ex e3;have hs3':=hs3;obtain⟨h1,_⟩:=hs3';obtain⟨hne,lw1,lw2⟩:=id ge;refine⟨_,h1,rfl,.mk "peg" e.1 e.2 hs3 (by decide +kernel) (by lia) (by lia) (by lia) (by lia) (by lia) (λz=>absurd z (by decide +kernel)) (λ_ z=>by rw[w2]at z;cases z) (λ_ _ z=>by rw[z3n.mpr ge]at z;cases z) (λ_ _ _ e1 pe1 le1 z1 z2 S4 hs4 b4=>?_)⟩;refine .mk e.1 e.2 (by lia) (by lia) (λ_ e1' pe1' le1' _ _=>⟨show 1<=sizeLine by decide,λlw hlw=>⟨show 0<=sizeLine by decide,λln hln=>?_⟩⟩) λz=>absurd z hne;have ee:e1'=e1:=pe1'.one pe1 λi=>(le1' i).trans (le1 i).symm;subst ee;have hsc4:=b4.l (e3.l hsc2) nsa;have hs4':∃o,S4 sa=some o:=hsc4.elim (λz=>⟨_,z⟩) λz=>⟨_,z⟩;obtain⟨os4,hs4'⟩:=hs4';have e5:=Ex.up (o:=.lst [uR e1']) (.refl S4) hlw;have e6:=Ex.up (o:=.lst []) e5 (e5.no hln);have nwn:lw≠ln:=by rintro rfl;rw[z04]at hln;cases hln
 have fresh:∀(l:Addr),S4 l=none->l≠d/\l≠x/\l≠y:=λl hl=>by obtain⟨_,g2,g3,g4,_⟩:=hs4;refine⟨?_,?_,?_⟩<;>rintro rfl<;>simp_all
 have A0:St Z n sa p d x y lw ln ns 4 (up (up S4 lw (.lst [uR e1'])) ln (.lst [])) (z1R th1 (ks "peg" "peg") (pgU [uR e1'] [])) (dn1++[chg (z2S "hang" ["peg",z1s e.1,z1s e.2]) th1 (ks "peg" "peg") (pgU [uR e1'] [])]) [] [e1'] []:=by
  refine⟨hs4.ex e6,e6.l hsc4,z7A w4,z77 w5,y0k z57 (by lia),by rw[y04,hdl];show 1+1<=4;decide,λnm u hu=>?_,?_,(z0c nwn).trans z04,z04,λe he=>?_,rfl,by decide,⟨fresh lw hlw,fresh ln (e5.no hln),nwn⟩,nsa,z2i hs4' hlw,z2i hs4' (e5.no hln)⟩
  .have hu:z0o (z1T th1 (ks "peg" "peg") (pgU [uR e1'] [])) (ks "guise" nm)=some u:=hu;rw[z1J,if_neg (λz=>absurd (z3o z).1 (by decide +kernel)),w1]at hu;cases hu
  .show z0o (z1T th1 (ks "peg" "peg") (pgU [uR e1'] [])) _=_;rw[z1J,if_pos rfl];rfl
  .rw[y0w]at he;subst he;exact⟨z6P ge pe1' le1',by lia⟩
 generalize up (up S4 lw (.lst [uR e1'])) ln (.lst [])=S6 at A0;generalize z1R th1 (ks "peg" "peg") (pgU [uR e1'] [])=th2 at A0;clear hs1 hs2 hs3 hs4 b2 b4 e5 e6 fresh hln hlw hs4' hsc4 w1 w2 w3 w4 w5 M M1 kp1 np hsa hsc hsc1 hsc2 h1;refine⟨⟨by decide,by decide,by decide,by decide⟩,z27 (ziS Z n sa p d x y lw ln ns _ _) (.mk _ 4 _ _ _ [e1'] [] _ _ _ _ _ A0 (by rw[z2e];decide) (λu hu=>?_)) ?_ ?_⟩
 .unfold rg at hu;obtain⟨i,hi,rfl⟩:=y0f.mp hu;have:=y29.mp hi;exact⟨3+i,by simp,by have:i<10:=this;lia⟩
 .rintro ρ S1 ⟨_,B,th,dn,tb,ws,ls,x7,x8,x9,x10,x11,A,hB,_⟩;rw[y1o]at hB;have hs:=A.hs;obtain⟨h1,_⟩:=hs;have hnl:=z3f "guise" th A.kn;have hzt:=A.zt;refine⟨trivial,_,h1,rfl,.mk A.hs A.kn (by lia) λl nms S2 hpm _ e2 hl hS=>⟨_,.inl hS,?_⟩⟩;have hlen:=hpm.length_eq;refine z27 (zjl Z n sa p d x y lw ln l ns _ _ _ _ _ _ nms) (.mk nms B _ _ _ ws ls _ (A.ex e2) (by lia) hS (A.hs.fr hl) (hpm.nodup_iff.mpr (z7S A.kn A.nd)) λm hm=>(z2x A.kn).mp (hpm.mem_iff.mp hm)) ?_ ?_
  .rintro ρ S3 h;generalize e:([]:List U)=L at h;obtain⟨L,B,th,dn,tb,ws,ls,x10,A,hB,hSl,_⟩:=h;cases L<;>cases e;refine⟨.inl hSl,?_⟩;rw[y1o]at hB;have hll:=A.ll;refine z3J (zjr Z n sa p d x y lw ln ns _ _ _ _ _ _ _) ls.length (.mk B _ _ _ ws ls A (by lia)) ?_;rintro m ρ S4 ⟨B,th,dn,tb,ws,ls,A,hB⟩ again ag;refine⟨_,.inl A.nl,?_⟩;show cond (decide ((((ls.map U.str).length:Nat):Int)>0)) _ _;refine z0x (λc2=>?_) (λc2=>?_)
   .have c2:=y0i c2;obtain⟨ls0,l',rfl⟩:=z2j (show ls≠[]by rintro rfl;simp at c2);obtain⟨ws1,w,rfl⟩:=z2j (show ws≠[]by intro z;have:=A.len;rw[z]at this;simp at this);have hs:=A.hs;obtain⟨h1,_⟩:=hs;have hwl:=A.len;have hll:=A.ll;simp only[y04,y1n]at hwl hll hB;refine⟨_,h1,rfl,.mk "peg" A.hs (by decide +kernel) (by have:=A.zd;lia) (by have:=A.zt;lia) (λz=>by rw[A.pg]at z;cases z) λv hv=>?_⟩;rw[A.pg,z0w,z0w]at hv;cases hv;refine⟨_,_,_,rfl,λz=>by simp at z,λls' l'' hl=>?_⟩;have hl:=y2T hl rfl;subst hl;intro S6 hs6 b6;obtain⟨⟨w1,w2,w3⟩,⟨k1,k2,k3⟩,nwn⟩:=A.ne;have wl6:=b6 _ _ A.wl w1 w2 w3;have nl6:=b6 _ _ A.nl k1 k2 k3;rw[z0w]at wl6 nl6;have AP:=A.pgs (ws':=ws1) (ls':=ls0) hs6 b6 (λr hr=>A.ok r (by simp[hr])) (by lia) (by lia);refine⟨⟨_,.inl wl6⟩,_,_,wl6,⟨_,.inl ((z0c nwn.symm).trans nl6)⟩,_,_,(z0c nwn.symm).trans nl6,?_⟩;generalize up (up S6 lw (.lst (ws1.map uR))) ln (.lst (ls0.map U.str))=S7 at AP⊢;obtain⟨ws0,w',rfl⟩:=z2j (show ws1≠[]by intro z;rw[z]at hwl;simp at hwl);have hs:=AP.hs;obtain⟨h1,_⟩:=hs;refine⟨_,h1,rfl,.mk "peg" AP.hs (λz=>by rw[AP.pg]at z;cases z) λv hv=>?_⟩;rw[AP.pg,z0w]at hv;cases hv;refine⟨_,_,_,rfl,_,.inl AP.wl,?_⟩;rw[z0w];refine opt.of z3N (.dat (uR w') (za7 (AP.ok w' (by simp))) λS8 e8=>?_);have A8:=AP.ex e8;have hs:=A8.hs;obtain⟨h1,_⟩:=hs;refine⟨_,h1,rfl,.mk "peg" A8.hs (λz=>by rw[A8.pg]at z;cases z) λv hv=>?_⟩;rw[A8.pg]at hv;cases hv;refine⟨_,_,rfl,λl hl=>?_⟩;have e9:=Ex.up (o:=.lst (ls0.map U.str)) (.refl S8) hl;refine .lst l ln _ (.inl z04) (.inl (e9 _ _ A8.nl)) (by rw[y00];lia) z7G λS9 e10=>ag ls0.length _ _ (by simp) (.mk (B+1) _ _ _ _ ls0 (A8.ex (e9.trans e10)) (by lia))
   .have c2:=y0C c2;have hl0:ls=[]:=y0F.mp (by rw[y00]at c2;lia);subst hl0;obtain⟨w,rfl⟩:∃w,ws=[w]:=List.length_eq_one_iff.mp A.len;refine .mk [] (uR w) A.hs A.pg (by have:=A.zd;lia) (by have:=A.zt;lia) ?_;have hs:=A.hs;obtain⟨h1,_⟩:=hs;refine⟨_,h1,rfl,.mk "peg" A.hs (λz=>by rw[A.pg]at z;cases z) λv hv=>?_⟩;rw[A.pg]at hv;cases hv;exact⟨[],uR w,[],rfl,_,.inl A.wl,opt.of at0 (.dat (uR w) (za7 (A.ok w (by simp))) λS8 _=>q S8)⟩
  .rintro u L' ρ S3 h ih;generalize e:u::L'=L at h;obtain⟨L,B,th,dn,tb,ws,ls,x10,A,hB,hSl,hl',hnd,hin⟩:=h;cases L<;>cases e;rename_i m L;rw[y0b]at hB;have hs:=A.hs;obtain⟨h1,_⟩:=hs;obtain⟨v,hv⟩:=y1r.mp (hin m (by simp));have hm61:=(A.gu m v hv).2;refine⟨.inl hSl,_,h1,rfl,.mk m A.hs hm61 (by have:=A.zd;lia) (λz=>by rw[hv]at z;cases z) λ_ S4 hs4 b4=>ih _ _ (.mk L (B+1) _ _ _ ws ls _ (A.g hs4 b4 (λz=>by cases z) hm61) (by lia) (b4 _ _ hSl hl'.1 hl'.2.1 hl'.2.2) hl' (y0U.mp hnd).2 λm' hm'=>?_)⟩;show(z0o (z6d th _) _).isSome=true;rw[z6A,if_neg (λz=>(y0U.mp hnd).1 (by rw[<-(z3o z).2];exact hm'))];exact hin m' (by simp[hm'])
 .rintro u L ρ S1 ⟨_,B,th,dn,tb,ws,ls,x7,x8,x9,x10,x11,A,hB,hL⟩ ih;obtain⟨i,rfl,hi⟩:=hL u (by simp);rw[y0b]at hB;refine⟨trivial,.mk sa ns i A.sc (by lia) (by lia) λc=>.mk c 4 (by decide) λl9 nu S2 e2 hl9 hS9 hn4 hb=>?_⟩;obtain⟨n9,n9',n9''⟩:=A.hs.fr hl9;have m9:lw≠l9/\ln≠l9:=⟨z2i A.wl hl9,z2i A.nl hl9⟩;obtain⟨z0,_,a0⟩:=z1e (ns:=nu) (i:=0) (by decide) (by lia);obtain⟨z1,_,a1⟩:=z1e (ns:=nu) (i:=1) (by decide) (by lia);obtain⟨z2,_,a2⟩:=z1e (ns:=nu) (i:=2) (by decide) (by lia);obtain⟨ch,hch,hnm⟩:=zfE (r:=z0%3) (y0V _ (by decide)) (y0R _ (by decide));refine⟨_,.inl hS9,opt.of a0 ⟨by decide,show(Str.ofString "xyz").length<=sizeLine by decide +kernel,opt.of hch ⟨show(Str.ofString "guise").length+1<=sizeLine by decide +kernel,?_⟩⟩⟩;generalize Str.ofString "guise"++(⟨#[ch]⟩:Str)=nm at hnm;have hn61:=z4H hnm;have A:=A.ex e2;clear e2 hl9 hch;apply zaX (λS'=>(∃th dn tb,St Z n sa p d x y lw ln ns (B+1) S' th dn tb ws ls)/\S' l9=some (.lst (nu.map U.int)))
  .intro rest;have hs:=A.hs;obtain⟨h1,_⟩:=hs;refine⟨_,h1,rfl,.mk A.hs A.kn (by have:=z3f "guise" th A.kn;have:=A.zt;lia) λl nms S3 hpm _ e3 hl hS=>⟨nms,.inl hS,?_⟩⟩;have A3:=A.ex e3;have hS9':=e3 _ _ hS9;have F3:(∃th dn tb,St Z n sa p d x y lw ln ns (B+1) S3 th dn tb ws ls)/\S3 l9=some (.lst (nu.map U.int)):=⟨⟨th,dn,tb,A3.le (by lia)⟩,hS9'⟩;show cond (decide (nm∈nms) != false) _ _;have hin:nm∈nms↔(z0o th (ks "guise" nm)).isSome=true:=hpm.mem_iff.trans (z2x A.kn);by_cases c1:nm∈nms
   .rw[y18 c1];refine⟨_,.inl hS9',opt.of a1 ⟨by decide,rfl,?_⟩⟩;show cond (false != eqU (.int _) (.int 1)) _ _;refine z0x (λ_=>?_) (λ_=>rest.go S3 F3);have hs:=A3.hs;obtain⟨h1,_⟩:=hs;refine⟨_,h1,rfl,.mk nm A3.hs hn61 (by have:=A3.zd;lia) (λz=>absurd (hin.mp c1) (by rw[z];simp)) λ_ S4 hs4 b4=>?_⟩;exact rest.go S4 ⟨⟨_,_,_,A3.g hs4 b4 (λz=>by cases z) hn61⟩,b4 _ _ hS9' n9 n9' n9''⟩
   .rw[y0u c1];exact rest.go S3 F3
  refine⟨λS3 hz8=>?_⟩;obtain⟨⟨th,dn,tb,A⟩,hS9⟩:=hz8;apply zaX (λS'=>(∃th dn tb,St Z n sa p d x y lw ln ns (B+2) S' th dn tb ws ls/\(z0o th (ks "guise" nm)).isSome=true)/\S' l9=some (.lst (nu.map U.int)))
  .intro rest;have hs:=A.hs;obtain⟨h1,_⟩:=hs;refine⟨_,h1,rfl,.mk A.hs A.kn (by have:=z3f "guise" th A.kn;have:=A.zt;lia) λl nms S4 hpm _ e4 hl hS=>⟨nms,.inl hS,?_⟩⟩;have A4:=A.ex e4;have hS9':=e4 _ _ hS9;show cond (decide (nm∈nms) != true) _ _;have hin:nm∈nms↔(z0o th (ks "guise" nm)).isSome=true:=hpm.mem_iff.trans (z2x A.kn);by_cases c1:nm∈nms
   .rw[y18 c1];exact rest.go S4 ⟨⟨th,dn,tb,A4.le (by lia),hin.mp c1⟩,hS9'⟩
   .rw[y0u c1];have hno:z0o th (ks "guise" nm)=none:=by
     cases h:z0o th (ks "guise" nm)with
     |none=>rfl
     |some u=>exact absurd (hin.mpr (by rw[h];rfl)) c1
    have hs:=A4.hs;obtain⟨h1,_⟩:=hs;refine⟨_,h1,rfl,.mk n c n2 n5 λlr rows S5 e5 hlr hSr G r8=>?_⟩;have A5:=A4.ex e5;refine .mk n nm lr rows A5.hs (by lia) (by lia) (.inl hSr) (by lia) (λr hr=>⟨by have:=(G.perm r hr).len;lia,by have:=G.len r hr;lia⟩) (by have:=A5.zd;lia) (by have:=A5.zt;lia) (λz=>by rw[hnm]at z;cases z) (λ_ z=>by rw[hno]at z;cases z) (λ_ _ z=>absurd ⟨G,by lia⟩ z) λ_ _ _ gg Gg hgg S6 hs6 b6=>?_;refine rest.go S6 ⟨⟨_,_,_,A5.g hs6 b6 (λ_=>⟨_,rfl,Gg,hgg⟩) hn61,?_⟩,b6 _ _ (e5 _ _ hS9') n9 n9' n9''⟩;show(z0o (z1T th _ _) _).isSome=true;rw[z1J,if_pos rfl];rfl
  refine⟨λS4 hz8=>?_⟩;obtain⟨⟨th,dn,tb,A,hg⟩,hS9⟩:=hz8;obtain⟨u,hu⟩:=y1r.mp hg;obtain⟨⟨rows,rfl,G,r60⟩,_⟩:=A.gu nm u hu;obtain⟨ws0,e,rfl⟩:=z2j (show ws≠[]by intro z;have:=A.len;rw[z]at this;simp at this);obtain⟨ge,ze⟩:=A.ok e (by simp);have hm:rows.length*e.2.length<=60*e.2.length:=y16 _ r60;have hs:=A.hs;obtain⟨h1,_⟩:=hs;refine⟨_,h1,rfl,.mk nm A.hs (λv hv=>?_) λz=>by rw[hu]at z;cases z⟩;rw[hu]at hv;cases hv;refine⟨_,.inl A.wl,?_⟩;rw[z0w];refine opt.of z3N (.mk rows e n G (by lia) (by lia) (by lia) (by lia) ge λe' pe' le' _ _ S5 e5=>?_);have A5:=A.ex e5;have hS9:=e5 _ _ hS9;have ge':=z8E G ge pe' le';apply zaX (λS'=>(∃th dn tb ws' ls',St Z n sa p d x y lw ln ns (B+3) S' th dn tb ws' ls')/\S' l9=some (.lst (nu.map U.int)))
  .intro rest;have F5:(∃th dn tb ws' ls',St Z n sa p d x y lw ln ns (B+3) S5 th dn tb ws' ls')/\S5 l9=some (.lst (nu.map U.int)):=⟨⟨th,dn,tb,_,_,A5.le (by lia)⟩,hS9⟩;show cond (decide ((((e'.1.map U.int).length:Nat):Int)+(((e'.2.map U.int).length:Nat):Int)<=1000)) _ _;rw[y00,y00];refine z0x (λc2=>?_) (λ_=>rest.go S5 F5);have c2:e'.1.length+e'.2.length<=1000:=by have:=y0i c2;lia
   have hs:=A5.hs;obtain⟨h1,_⟩:=hs;have hwl:=A5.len;have hll:=A5.ll;simp only[y04,y1n]at hwl;refine⟨_,h1,rfl,.mk n "peg" nm A5.hs (by decide +kernel) hn61 (by lia) (by have:=A5.zd;lia) (by have:=A5.zt;lia) (λv hv=>?_) (λu hu'=>(A5.gu nm u hu').1) (λz=>by rw[A5.pg]at z;cases z) (λ_ z=>by rw[hu]at z;cases z) λws2 e2 ls2 rows2 e3 hv2 hu2 pe3 le3=>?_⟩
   .rw[A5.pg,z0w]at hv;cases hv;exact⟨_,e,_,rfl,by rw[y00];lia,by rw[y00];lia,ge,ze⟩
   rw[A5.pg,z0w]at hv2;obtain⟨q1,q2,q3⟩:=zeX (y0d hv2);have q2:=zcw q2;have q4:=zg5 (y0d (hu.symm.trans hu2));subst q1 q2 q3 q4;have q5:e3=e':=pe3.one pe' λi=>(le3 i).trans (le' i).symm;subst q5;rw[y0u (show ¬e3.1.length+e3.2.length>1000 by lia)];intro S6 hs6 b6;obtain⟨⟨w1,w2,w3⟩,⟨k1,k2,k3⟩,nwn⟩:=A5.ne;have wl6:=b6 _ _ A5.wl w1 w2 w3;have nl6:=b6 _ _ A5.nl k1 k2 k3;have AP:=A5.pgs (ws':=ws0++[e]++[e3]) (ls':=ls++[nm]) (by rw[z0w,z0w,z0w];exact hs6) b6 (λr hr=>by
    rcases y0S.mp hr with h|h
    .exact A5.ok r h
    .rw[y0w]at h;subst h;exact⟨ge',c2⟩) (by simp;lia) (by simp;lia)
   refine⟨⟨_,.inl wl6⟩,_,wl6,by rw[y00];exact z1f (by simp;lia),⟨_,.inl ((z0c nwn.symm).trans nl6)⟩,_,(z0c nwn.symm).trans nl6,by rw[y00];exact z1f (by lia),?_⟩;have h9:∀us us':List U,up (up S6 lw (.lst us)) ln (.lst us') l9=some (.lst (nu.map U.int)):=λus us'=>(z0c m9.2.symm).trans ((z0c m9.1.symm).trans (b6 _ _ hS9 n9 n9' n9''));have h9:=h9 ((ws0++[e]++[e3]).map uR) ((ls++[nm]).map .str);rw[z0w uR,z0w U.str]at AP h9;generalize up (up S6 lw (.lst ((ws0++[e]).map uR++[uR e3]))) ln (.lst (ls.map U.str++[U.str nm]))=S7 at AP h9⊢;exact rest.go S7 ⟨⟨_,_,_,_,_,AP⟩,h9⟩
  apply zhD (λS'=>∃th dn tb ws' ls',St Z n sa p d x y lw ln ns (B+4) S' th dn tb ws' ls')
  .intro rest;refine⟨λS5 hz8=>?_⟩;obtain⟨⟨th,dn,tb,ws,ls,A⟩,hS9⟩:=hz8;have F5:∃th dn tb ws' ls',St Z n sa p d x y lw ln ns (B+4) S5 th dn tb ws' ls':=⟨th,dn,tb,_,_,A.le (by lia)⟩;refine⟨_,.inl hS9,opt.of a2 ⟨by decide,rfl,?_⟩⟩;show cond (false != eqU (.int _) (.int 1)) _ _;refine z0x (λ_=>⟨_,.inl A.nl,?_⟩) (λ_=>rest.go S5 F5);show cond (decide ((((ls.map U.str).length:Nat):Int)>0)) _ _;refine z0x (λc2=>?_) (λ_=>rest.go S5 F5);have c2:=y0i c2;obtain⟨ls0,l,rfl⟩:=z2j (show ls≠[]by rintro rfl;simp at c2);obtain⟨ws0,w,rfl⟩:=z2j (show ws≠[]by intro z;have:=A.len;rw[z]at this;simp at this);have hs:=A.hs;obtain⟨h1,_⟩:=hs;have hwl:=A.len;have hll:=A.ll;simp only[y04,y1n]at hwl hll;refine⟨_,h1,rfl,.mk "peg" A.hs (by decide +kernel) (by have:=A.zd;lia) (by have:=A.zt;lia) (λz=>by rw[A.pg]at z;cases z) λv hv=>?_⟩;rw[A.pg,z0w,z0w]at hv;cases hv;refine⟨_,_,_,rfl,λz=>by simp at z,λls' l' hl=>?_⟩;have hl:=y2T hl rfl;subst hl;intro S6 hs6 b6;obtain⟨⟨w1,w2,w3⟩,⟨k1,k2,k3⟩,nwn⟩:=A.ne;have wl6:=b6 _ _ A.wl w1 w2 w3;have nl6:=b6 _ _ A.nl k1 k2 k3;rw[z0w]at wl6 nl6;have AP:=A.pgs (ws':=ws0) (ls':=ls0) hs6 b6 (λr hr=>A.ok r (by simp[hr])) (by lia) (by lia);refine⟨⟨_,.inl wl6⟩,_,_,wl6,⟨_,.inl ((z0c nwn.symm).trans nl6)⟩,_,_,(z0c nwn.symm).trans nl6,?_⟩;generalize up (up S6 lw (.lst (ws0.map uR))) ln (.lst (ls0.map U.str))=S7 at AP⊢;exact rest.go S7 ⟨_,_,_,_,_,AP⟩
  refine⟨λS6 hz8=>?_⟩;obtain⟨th,dn,tb,ws,ls,A⟩:=hz8;obtain⟨ws0,w,rfl⟩:=z2j (show ws≠[]by intro z;have:=A.len;rw[z]at this;simp at this);have hs:=A.hs;obtain⟨h1,_⟩:=hs;have hll:=A.ll;refine⟨_,h1,rfl,.mk "peg" A.hs (λz=>by rw[A.pg]at z;cases z) λv hv=>?_⟩;rw[A.pg,z0w]at hv;cases hv;refine⟨_,_,_,rfl,_,.inl A.wl,?_⟩;rw[z0w];refine opt.of z3N (.dat (uR w) (za7 (A.ok w (by simp))) λS7 e7=>?_);have A7:=A.ex e7;have hs:=A7.hs;obtain⟨h1,_⟩:=hs;refine⟨_,h1,rfl,.mk "peg" A7.hs (λz=>by rw[A7.pg]at z;cases z) λv hv=>?_⟩;rw[A7.pg]at hv;cases hv;refine⟨_,_,rfl,λl hl=>?_⟩;have e8:=Ex.up (o:=.lst (ls.map U.str)) (.refl S7) hl;refine .lst l ln _ (.inl z04) (.inl (e8 _ _ A7.nl)) (by rw[y00];lia) z7G λS9 e9=>ih _ _ (.mk L (B+4) _ _ _ _ _ _ _ _ _ _ (A7.ex (e8.trans e9)) (by lia) λu hu=>hL u (by simp[hu]))
end W
namespace W
open PySem L2 Gu
def ziu{α:Type}{us:List α}(h:us.length=4):∃a b c d,us=[a,b,c,d]:=by
 cases us with
 |nil=>cases h
 |cons a r =>
  obtain⟨b,c,d,rfl⟩:=zjk (show r.length=3 by simpa using h);exact⟨a,b,c,d,rfl⟩
structure FA(K:yyF)(f:Addr)(x:Str)(st:Stmt):Prop where
 a:PySem.W.nsIn K mainGlobals x=some (some (.ref f))
 l:∃oc od kV dc pm an cd ct sl,K.lookup f=some ⟨oc,od,.func (PySem.W.fnOf x x (z13 st) (z0v st) (z0a st) .none kV dc pm an cd ct),sl⟩/\PySem.W.codeIn K cd x=true
 k:PySem.W.keepIn K (.ref f)=true
def FA.of{K:yyF}{f:Addr}{x:Str}{st:Stmt}{oc kV dc pm cd ct:Value}{od an:Option Addr}{sl:Array (Option Value)}(a:PySem.W.nsIn K mainGlobals x=some (some (.ref f)))(l:K.lookup f=some ⟨oc,od,.func (PySem.W.fnOf x x (z13 st) (z0v st) (z0a st) .none kV dc pm an cd ct),sl⟩)(c:PySem.W.codeIn K cd x=true)(k:PySem.W.keepIn K (.ref f)=true):FA K f x st:=⟨a,⟨_,_,_,_,_,_,_,_,_,l,c⟩,k⟩
def FA.go{K:yyF}{f:Addr}{x:Str}{st:Stmt}{h:Heap}{mg:yyS}(A:FA K f x st)(X:K.In h)(G:h.Ns mainGlobals mg):∃fd,Fun K x x st f fd/\mg x=some (.ref f)/\PySem.W.keepIn K (.ref f)=true:=by obtain⟨a,⟨_,_,_,_,_,_,_,_,_,l,c⟩,k⟩:=A;exact⟨_,z69 l c k,y1m X G a,k⟩
structure MA(K:yyF)(C f:Addr)(x q:Str)(st:Stmt):Prop where
 a:PySem.W.findIn K (.ref C) x=some (some (.ref f))
 i:PySem.W.isFn K (.ref f)=true
 l:∃oc od kV dc pm an cd ct sl,K.lookup f=some ⟨oc,od,.func (PySem.W.fnOf x q (z13 st) (z0v st) (z0a st) .none kV dc pm an cd ct),sl⟩/\PySem.W.codeIn K cd q=true
 k:PySem.W.keepIn K (.ref f)=true
def MA.of{K:yyF}{C f:Addr}{x q:Str}{st:Stmt}{oc kV dc pm cd ct:Value}{od an:Option Addr}{sl:Array (Option Value)}(a:PySem.W.findIn K (.ref C) x=some (some (.ref f)))(i:PySem.W.isFn K (.ref f)=true)(l:K.lookup f=some ⟨oc,od,.func (PySem.W.fnOf x q (z13 st) (z0v st) (z0a st) .none kV dc pm an cd ct),sl⟩)(c:PySem.W.codeIn K cd q=true)(k:PySem.W.keepIn K (.ref f)=true):MA K C f x q st:=⟨a,i,⟨_,_,_,_,_,_,_,_,_,l,c⟩,k⟩
def MA.go{K:yyF}{C f:Addr}{x q:Str}{st:Stmt}(A:MA K C f x q st):∃fd,Fun K x q st f fd/\zhg K C x f:=by obtain⟨a,i,⟨_,_,_,_,_,_,_,_,_,l,c⟩,k⟩:=A;exact⟨_,z69 l c k,⟨a,i,k⟩⟩
abbrev fnY(x q:Str)(st:Stmt)(kV dc pm:Value)(an:Option Addr)(cd ct:Value):=PySem.W.fnOf x q (z13 st) (z0v st) (z0a st) .none kV dc pm an cd ct
section
variable{K:yyF}{x q:Str}{st:Stmt}{f:Addr}{fd:FuncData}
def ziX{a:Str}(F:Fun K x q st f fd)(h:∀(kV dc pm:Value)(an:Option Addr)(cd ct u:Value),bindArgs (fnY x q st kV dc pm an cd ct) ⟨[u],[]⟩=pure [(a,u)]):z1q K fd [a] []:=F.binds λ_ _ _ _ _ _ us hl=>by obtain⟨_,rfl⟩:=zhR hl;exact h _ _ _ _ _ _ _
def zhC{a b:Str}(F:Fun K x q st f fd)(h:∀(kV dc pm:Value)(an:Option Addr)(cd ct u v:Value),bindArgs (fnY x q st kV dc pm an cd ct) ⟨[u,v],[]⟩=pure [(a,u),(b,v)]):z1q K fd [a,b] []:=F.binds λ_ _ _ _ _ _ us hl=>by obtain⟨_,_,rfl⟩:=zj1 hl;exact h _ _ _ _ _ _ _ _
def zjf{a b c:Str}(F:Fun K x q st f fd)(h:∀(kV dc pm:Value)(an:Option Addr)(cd ct u v w:Value),bindArgs (fnY x q st kV dc pm an cd ct) ⟨[u,v,w],[]⟩=pure [(a,u),(b,v),(c,w)]):z1q K fd [a,b,c] []:=F.binds λ_ _ _ _ _ _ us hl=>by obtain⟨_,_,_,rfl⟩:=zjk hl;exact h _ _ _ _ _ _ _ _ _
def zks{a b c d:Str}(F:Fun K x q st f fd)(h:∀(kV dc pm:Value)(an:Option Addr)(cd ct u v w y:Value),bindArgs (fnY x q st kV dc pm an cd ct) ⟨[u,v,w,y],[]⟩=pure [(a,u),(b,v),(c,w),(d,y)]):z1q K fd [a,b,c,d] []:=F.binds λ_ _ _ _ _ _ us hl=>by obtain⟨_,_,_,_,rfl⟩:=ziu hl;exact h _ _ _ _ _ _ _ _ _ _
end
section
variable{Z:Zx}{h:Heap}{x:Str}{st:Stmt}{f:Addr}{a b c d:Str}
def FA.d1(A:FA Z.K f x st)(X:Z.K.In h)(G:h.Ns mainGlobals Z.mg)(hb:∀(kV dc pm:Value)(an:Option Addr)(cd ct u:Value),bindArgs (fnY x x st kV dc pm an cd ct) ⟨[u],[]⟩=pure [(a,u)]:=by intros;rfl):Z.fd x st [a]:=(let⟨_,F,m,_⟩:=A.go X G;⟨_,_,F,ziX F hb,m⟩)
def FA.d2(A:FA Z.K f x st)(X:Z.K.In h)(G:h.Ns mainGlobals Z.mg)(hb:∀(kV dc pm:Value)(an:Option Addr)(cd ct u v:Value),bindArgs (fnY x x st kV dc pm an cd ct) ⟨[u,v],[]⟩=pure [(a,u),(b,v)]:=by intros;rfl):Z.fd x st [a,b]:=(let⟨_,F,m,_⟩:=A.go X G;⟨_,_,F,zhC F hb,m⟩)
def FA.d3(A:FA Z.K f x st)(X:Z.K.In h)(G:h.Ns mainGlobals Z.mg)(hb:∀(kV dc pm:Value)(an:Option Addr)(cd ct u v w:Value),bindArgs (fnY x x st kV dc pm an cd ct) ⟨[u,v,w],[]⟩=pure [(a,u),(b,v),(c,w)]:=by intros;rfl):Z.fd x st [a,b,c]:=(let⟨_,F,m,_⟩:=A.go X G;⟨_,_,F,zjf F hb,m⟩)
variable{q:Str}
def MA.d1(A:MA Z.K Z.C f x q st)(T:Z.Tx)(hb:∀(kV dc pm:Value)(an:Option Addr)(cd ct u:Value),bindArgs (fnY x q st kV dc pm an cd ct) ⟨[u],[]⟩=pure [(a,u)]:=by intros;rfl):Z.md x q st [a]:=(let⟨_,F,m⟩:=A.go;⟨_,_,F,ziX F hb,m,T.cl⟩)
def MA.d2(A:MA Z.K Z.C f x q st)(T:Z.Tx)(hb:∀(kV dc pm:Value)(an:Option Addr)(cd ct u v:Value),bindArgs (fnY x q st kV dc pm an cd ct) ⟨[u,v],[]⟩=pure [(a,u),(b,v)]:=by intros;rfl):Z.md x q st [a,b]:=(let⟨_,F,m⟩:=A.go;⟨_,_,F,zhC F hb,m,T.cl⟩)
def MA.d3(A:MA Z.K Z.C f x q st)(T:Z.Tx)(hb:∀(kV dc pm:Value)(an:Option Addr)(cd ct u v w:Value),bindArgs (fnY x q st kV dc pm an cd ct) ⟨[u,v,w],[]⟩=pure [(a,u),(b,v),(c,w)]:=by intros;rfl):Z.md x q st [a,b,c]:=(let⟨_,F,m⟩:=A.go;⟨_,_,F,zjf F hb,m,T.cl⟩)
def MA.d4(A:MA Z.K Z.C f x q st)(T:Z.Tx)(hb:∀(kV dc pm:Value)(an:Option Addr)(cd ct u v w y:Value),bindArgs (fnY x q st kV dc pm an cd ct) ⟨[u,v,w,y],[]⟩=pure [(a,u),(b,v),(c,w),(d,y)]:=by intros;rfl):Z.md x q st [a,b,c,d]:=(let⟨_,F,m⟩:=A.go;⟨_,_,F,zks F hb,m,T.cl⟩)
end
abbrev zbl(P:Addr):List Tb:=[⟨P,z9G (z0v z2B),("sewn.<locals>."++"<lambda>":Str)⟩]
abbrev wd1(w:World)(P:Addr):WW:=⟨w,zbl P,λ_=>zj6 z2B ("sewn.<locals>."++"<lambda>":Str) ["place","guises","rows"] ["place"],λj ρ S Q=>j=0/\z8I z8m (z3b (z6C 2) (z3b (z6C 1) (z3b (z6C 0) zay))) ρ (nc S) (λu S1=>Q u (mgC S S1)) noQ⟩
def zdG{w:World}{P:Addr}:@zbI (wd1 w P) 0 ⟨P,z9G (z0v z2B),("sewn.<locals>."++"<lambda>":Str)⟩:=by refine @zbI.mk (wd1 w P) _ _ rfl (λρ S Q=>⟨λh=>h.2,λh=>⟨rfl,h⟩⟩) y0t (zdk (Ts:=zbl P) (y0U.mpr ⟨y2Y,y2b⟩) y0t) rfl rfl
section
variable(K:yyF)
def zb7(x:Str):Option Addr:=match PySem.W.nsIn K mainGlobals x with
 |some (some (.ref a))=>some a
 |_=>none
def xaK(c:Nat):Addr:=match xL.find? (λp=>p.2==c)with
 |some p=>(zb7 K p.1).getD 0
 |none=>0
def daK(x:Str):Addr:=(zb7 K x).getD 0
def xIn:Bool:=xL.all λp=>decide (zb7 K p.1=some (xaK K p.2))&&PySem.W.excIn K (xaK K p.2) [.type "ValueError",.type "Exception",.type "BaseException",.type "object"] "ValueError.__new__"&&xL.all λq=>decide (z93 K (xaK K p.2) (xaK K q.2)=zg9 p.2 q.2)
def bIn:Bool:=bL.all λx=>match PySem.W.nsIn K mainGlobals x with
 |some none=>true
 |_=>false
def sIn:Bool:=sL.all λp=>match PySem.W.nsIn K mainGlobals p.1 with
 |some (some (.str c _))=>decide (c=p.2)
 |_=>false
def iIn:Bool:=iL.all λp=>match PySem.W.nsIn K mainGlobals p.1 with
 |some (some (.int c _))=>decide (c=p.2)
 |_=>false
def dIn:Bool:=dL.all λx=>(zb7 K x).isSome
def nIn(C:Addr):Bool:=fL.all λf=>match PySem.W.findIn K (.ref C) f with
 |some none=>true
 |_=>false
def zic:Bool:=K.all λp=>match p.2.data with
 |.seq _ _=>!(p.2.cls == .type "list")
 |_=>true
end
def zgs{K:yyF}{x:Str}{a:Addr}(h:zb7 K x=some a):PySem.W.nsIn K mainGlobals x=some (some (.ref a)):=by
 unfold zb7 at h;split at h
 .rename_i e;cases h;exact e
 .cases h
def z72{α:Type}{L:List (Str × α)}{x:Str}{c:α}(h:L.lookup x=some c):(x,c)∈L:=by
 induction L with
 |nil=>cases h
 |cons p r ih =>
  obtain⟨b,y⟩:=p;simp only[List.lookup]at h;split at h
  .rename_i q;cases h;rw[y2k.mp q];exact y0t
  .exact y0g _ (ih h)
def zhp{K:yyF}{a:Addr}{o:Obj}{its:Array Value}{n:Nat}(h:zic K=true)(hk:K.lookup a=some o)(h1:o.cls=.type "list")(h2:o.data=.seq its n):False:=by
 induction K with
 |nil=>cases hk
 |cons p r ih =>
  obtain⟨b,y⟩:=p;have h:_/\_:=y34.mp h;simp only[List.lookup]at hk;split at hk
  .cases hk;have z:=h.1;simp only[h2,h1]at z;exact absurd z (by decide)
  .exact ih h.2 hk
def zhJ[WW]{Z:Zx}{h:Heap}(X:Z.K.In h)(G:h.Ns mainGlobals Z.mg)(ex:Z.xa=xaK Z.K)(ed:Z.da=daK Z.K)(hx:xIn Z.K=true)(hb:bIn Z.K=true)(hs:sIn Z.K=true)(hi:iIn Z.K=true)(hd:dIn Z.K=true)(hn:nIn Z.K Z.C=true)(c:Cls Z.K Z.C):Z.Tx:=by
 have hX:∀x c,xL.lookup x=some c->(zb7 Z.K x=some (Z.xa c)/\PySem.W.excIn Z.K (Z.xa c) [.type "ValueError",.type "Exception",.type "BaseException",.type "object"] "ValueError.__new__"=true)/\∀q∈xL,z93 Z.K (Z.xa c) (Z.xa q.2)=zg9 c q.2:=λx c e=>by have z:=y0D.mp hx _ (z72 e);rw[y0h,y0h]at z;rw[ex];exact⟨⟨y0i z.1.1,z.1.2⟩,λq hq=>y0i (y0D.mp z.2 q hq)⟩
 refine⟨λx h=>?_,⟨λx c e=>y1m X G (zgs (hX x c e).1.1),λx c e=>⟨_,_,_,_,(hX x c e).1.2,PySem.F.excBase_ValueError⟩,λx c y d e e'=>(hX x c e).2 _ (z72 e')⟩,λx c e=>?_,λx c e=>?_,λx h=>?_,c,λf h=>?_⟩
 .have z:=y0D.mp hb x h;split at z
  .rename_i e;exact PySem.W.mg_none_of X G e
  .cases z
 .have z:=y0D.mp hs _ (z72 e);split at z
  .rename_i e;cases y0i z;exact⟨_,y1m X G e⟩
  .cases z
 .have z:=y0D.mp hi _ (z72 e);split at z
  .rename_i e;cases y0i z;exact⟨_,y1m X G e⟩
  .cases z
 .have z:=y0D.mp hd x h;obtain⟨a,e⟩:=y1r.mp z;rw[ed,show daK Z.K x=a by unfold daK;rw[e];rfl];exact y1m X G (zgs e)
 .have z:=y0D.mp hn f h;split at z
  .assumption
  .cases z
def zfV{w:World}{P:Addr}{K:yyF}{Z:Zx}(hl:zic K=true)(M:∀S,Md Z S)(xa:Nat->Addr):∀vs H Q E,z7Y (zbl P) K vs H Q E->@lsp (wd1 w P) xa (zgz Z) vs H Q E:=by
 letI:WW:=wd1 w P
 rintro _ H Q E ⟨a,ns,rfl,hS,hn,hT,q⟩;rcases hS with hS|⟨o,its,n,k1,k2,_,k3,_⟩
 .have hu:∀ns:List Int,UrL H (ns.map U.int) (ns.map V.int):=λns=>by
   induction ns with
   |nil=>exact .nil
   |cons i r ih=>exact .cons (by simp only[Ur]) ih
  have key:∀o:Ob,ObR H a o->isL (up (λ_=>none) a o) a (ns.map U.int)->lsp xa (zgz Z) [.ref a] H Q E:=λo ho hi=>by
   refine⟨[],[.ref a],up (λ_=>none) a o,λu _=>u=.bl true,λ_ _=>False,⟨λb p hb=>?_,λ_ h=>absurd h (by simp),hT⟩,.cons (by simp only[Ur]) .nil,.mk a ns hi (M _) λ_=>rfl,λu S v H' _ _ hv e=>?_,λ_ _ _ _ _ _ h=>h.elim⟩
   .by_cases e:b=a
    .subst e;rw[z04]at hb;cases hb;exact ho
    .rw[z0c e]at hb;cases hb
   .subst e;simp only[Ur]at hv;subst hv;exact q H'
  rcases hS with e|⟨o,e⟩
  .exact key (.lst (ns.map .int)) ⟨_,e,hu ns⟩ (.inl z04)
  .exact key (.scr (ns.map .int)) ⟨o,_,e,hu ns⟩ (.inr z04)
 .exact(zhp hl k1 k2 k3).elim
def ze3{Z:Zx}{x:Str}{f:Addr}(h:Z.mg x=some (.ref f)):Z.fa x=f:=by unfold Zx.fa;rw[h]
def all_mk{l:PySem.W.OpenLaw}{w:World}{K:yyF}{h:Heap}{mg:yyS}{fa C f1 f2 f3 f4 f5 f6 f7 f8 f9 f10 f11 f12 f13 f14 f15 f16 f17 f18 f19 f20 f21 f22 f23 f24 f25 f26 f27 f28 f29 f30 f31 f32 f33 f34 f35 f36 f37 f38 f39 f40 f41 f42 f43 f44 f45 f46 f47 f48 f49 f50 f51 f52 f53 f54 f55 f56 f57:Addr}(X:K.In h)(G:h.Ns mainGlobals mg)(hfa:mg "law"=some (.ref fa)){od16 an16 od57 an57:Option Addr}{sl16 sl57:Array (Option Value)}{oc16 kV16 dc16 pm16 ct16 oc57 kV57 dc57 pm57 ct57 cd57:Value}{cc16 P16:Addr}(aC:PySem.W.nsIn K mainGlobals "House"=some (some (.ref C)))(pg:PySem.W.plainGet K C Str.empty=true)(hd:PySem.W.hasDictIn K C=true)(po:PySem.W.plainOver K C=true)(sa:PySem.W.findIn K (.ref C) "__setattr__"=some (some (.builtin "object.__setattr__")))(mk:PySem.W.makesIn K C=true)(kc:PySem.W.keepIn K (.ref C)=true)(h1:FA K f1 "is_name" z4G)(h2:FA K f2 "plainly_written" z4U)(h3:FA K f3 "word_written" z54)(h4:FA K f4 "row_written" z74)(h5:FA K f5 "rows_written" z4Y)(h6:FA K f6 "line_written" z1W)(h7:FA K f7 "rearranges" zam)(h8:FA K f8 "check_machine" z7Q)(h9:FA K f9 "numbered" z2u)(h10:FA K f10 "kinds_gone_to" zbN)(h11:FA K f11 "kinds_of_rows" z5s)(h12:FA K f12 "rows_come_to" zaH)(h13:FA K f13 "least_form" z9c)(h14:FA K f14 "place_gone_to" z23)(h15:FA K f15 "row_at" z70)(a16:PySem.W.nsIn K mainGlobals "sewn"=some (some (.ref f16)))(l16:K.lookup f16=some ⟨oc16,od16,.func (PySem.W.fnOf "sewn" "sewn" (z13 z2B) (z0v z2B) (z0a z2B) .none kV16 dc16 pm16 an16 (.ref cc16) ct16),sl16⟩)(c16:PySem.W.codeIn K (.ref cc16) "sewn"=true)(k16:PySem.W.keepIn K (.ref f16)=true)(h17:FA K f17 "names_gone_to" z1y)(h18:FA K f18 "check_sewing" z1u)(h19:FA K f19 "least_ring" z6J)(h20:FA K f20 "count_ringed" z6M)(h21:FA K f21 "check_ring" zds)(h22:FA K f22 "plain_word" z6V)(h23:FA K f23 "check_word" z4I)(h24:FA K f24 "check_endless" z5h)(h25:FA K f25 "breadth" z4W)(h26:FA K f26 "read_from" zag)(h27:FA K f27 "strung" z53)(h28:FA K f28 "worn_endless" z8P)(h29:MA K C f29 "__init__" "House.__init__" zdg)(h30:MA K C f30 "check_new" "House.check_new" z3Y)(h31:MA K C f31 "put" "House.put" zig)(h32:MA K C f32 "keep" "House.keep" zdu)(h33:MA K C f33 "guise" "House.guise" z9a)(h34:MA K C f34 "held_by" "House.held_by" z6D)(h35:MA K C f35 "word" "House.word" zcH)(h36:MA K C f36 "first_word" "House.first_word" z2M)(h37:MA K C f37 "layers" "House.layers" z6Q)(h38:MA K C f38 "called" "House.called" z4z)(h39:MA K C f39 "names" "House.names" z9T)(h40:MA K C f40 "drop" "House.drop" zcS)(h41:MA K C f41 "hang" "House.hang" zd0)(h42:MA K C f42 "wear" "House.wear" zdZ)(h43:MA K C f43 "doff" "House.doff" ze7)(h44:MA K C f44 "sew" "House.sew" zh5)(h45:FA K f45 "_law_cell" zdB)(h46:FA K f46 "_law_letters" z4Z)(h47:FA K f47 "_law_numbers" z4J)(h48:FA K f48 "_law_rearranged" zer)(h49:FA K f49 "_law_rows" z8q)(h50:FA K f50 "_law_coming" z3Q)(h51:FA K f51 "_law_whole" z9F)(h52:FA K f52 "_law_like" z9x)(h53:FA K f53 "_law_read" za8)(h54:FA K f54 "_law_plain" z7n)(h55:FA K f55 "_law_dressed" z4S)(h56:FA K f56 "_law_bare" zaj)(a57:PySem.W.nsIn K mainGlobals "law"=some (some (.ref f57)))(l57:K.lookup f57=some ⟨oc57,od57,.func (PySem.W.fnOf "law" "law" (z13 zb1) (z0v zb1) (z0a zb1) .none kV57 dc57 pm57 an57 cd57 ct57),sl57⟩)(c57:PySem.W.codeIn K cd57 "law"=true)(k57:PySem.W.keepIn K (.ref f57)=true)(t16:PySem.W.codeHdIn K cc16 P16=true)(u16:K.lookup P16=none){a_DEEDS:Addr}(gDEEDS:PySem.W.nsIn K mainGlobals "DEEDS"=some (some (.ref a_DEEDS)))(wDEEDS:z2O K a_DEEDS=true)(qDEEDS:za2 K a_DEEDS=true){a_WRITERS:Addr}(gWRITERS:PySem.W.nsIn K mainGlobals "WRITERS"=some (some (.ref a_WRITERS)))(wWRITERS:z2O K a_WRITERS=true)(qWRITERS_name:PySem.W.nsIn K a_WRITERS (str "name")=some (some (.ref f2)))(qWRITERS_number:PySem.W.nsIn K a_WRITERS (str "number")=some (some (.ref f2)))(qWRITERS_word:PySem.W.nsIn K a_WRITERS (str "word")=some (some (.ref f3)))(qWRITERS_ring:PySem.W.nsIn K a_WRITERS (str "ring")=some (some (.ref f3)))(qWRITERS_rows:PySem.W.nsIn K a_WRITERS (str "rows")=some (some (.ref f5)))(xx:xIn K=true)(bb:bIn K=true)(ss:sIn K=true)(ii:iIn K=true)(dd:dIn K=true)(nn:nIn K C=true)(nl:zic K=true): ∃fd:FuncData,(∀(s:Shared) (v:Value),BindsTo s fd ⟨[v],[]⟩ [("_law_script",v)])/\(∀T∈(zbl P16),K.lookup T.at_=none/\∃c,PySem.W.codeHdIn K c T.at_=true)/\∀base:Heap,K.In base->base.Ns mainGlobals mg->z45 base mg->z2h l.prog w K mg base (CXx l.prog w) 11 fa fd ["_law_script"] (z7Y (zbl P16) K):=by
 have e:=hfa.symm.trans (y1m X G a57);cases e;refine⟨PySem.W.fnOf "law" "law" (z13 zb1) (z0v zb1) (z0a zb1) .none kV57 dc57 pm57 an57 cd57 ct57,λs v=>.of_eq rfl,λT h=>?_,λbase hK _ hBM=>?_⟩
 .cases y0w.mp h;exact⟨u16,cc16,t16⟩
 letI:WW:=wd1 w P16
 let Z:Zx:=⟨l.prog,K,mg,base,xaK K,C,daK K⟩;have T:Z.Tx:=zhJ (Z:=Z) X G rfl rfl xx bb ss ii dd nn ⟨pg,hd,po,sa⟩;have D16:Z.fdL "sewn" z2B ["rows","guises"] cc16:=⟨_,_,z69 (st:=z2B) l16 c16 k16,rfl,zhC (z69 (st:=z2B) l16 c16 k16) (λ_ _ _ _ _ _ _ _=>rfl),y1m X G a16⟩;have eW:daK K "WRITERS"=a_WRITERS:=by unfold daK zb7;rw[gWRITERS];rfl
 have eD:daK K "DEEDS"=a_DEEDS:=by unfold daK zb7;rw[gDEEDS];rfl
 have u2:=ze3 (Z:=Z) (y1m X G h2.a);have u3:=ze3 (Z:=Z) (y1m X G h3.a);have u5:=ze3 (Z:=Z) (y1m X G h5.a);have M:∀S,Md Z S:=λS=>⟨by show z2O K (daK K _)=true;rw[eD];exact wDEEDS,by show ∀p∈z2d,∃t,PySem.W.nsIn K (daK K _) p.1=_/\_;rw[eD];exact z8A qDEEDS,by show z2O K (daK K _)=true;rw[eW];exact wWRITERS,by show ∀p∈wrT,PySem.W.nsIn K (daK K _) p.1=_;rw[eW];simp only[wrT,List.forall_mem_cons,u2,u3,u5];exact⟨qWRITERS_name,qWRITERS_number,qWRITERS_word,qWRITERS_ring,qWRITERS_rows,λ_ h=>absurd h (by simp)⟩⟩;have Jh:=z5E T (h45.d2 X G);have Jv:=z3r T Jh (h46.d2 X G);have Jb:=z44 T (h47.d2 X G);have JE:=z4g T Jb (h50.d3 X G);have Jo:=z2F T (h48.d2 X G);have JM:=z61 T Jb Jo (h49.d2 X G);have JC:=z5O T (h53.d3 X G);have JG:=z4T T (h54.d2 X G);have Jw:=z3G T JC JG (h55.d2 X G);have Jj:=z58 T (h51.d1 X G);have Jd:Z.f "_law_like" 5 (z8L 3):=z75 T Jj (h52.d2 X G) 4;have Ja:=z37 T (h34.d2 T);have Ji:=z2J T (h2.d1 X G);have Jm:=z3I T (h3.d1 X G);have JD:=z4b T Jm Ji (h4.d1 X G);have f_rows_written:=z3i T JD (h5.d1 X G);have hT:Tab Z 6 (zgf Z):=λf sp h=>by
  cases h
  .exact Zx.f_at Ji (by decide)
  .exact Zx.f_at Jm (by decide)
  .exact Zx.f_at f_rows_written (by decide)
 have Ju:=z3O T hT (h6.d1 X G);have m_put:=z5t T (h31.d3 T);have Jg:=z4x T Ju m_put (h32.d4 T);have JL:=z5k T Ja Jg (h43.d2 T);have JN:=z5Z T JL (h56.d1 X G);have Jk:=zda T (h21.d1 X G);have JH:=zaT T (h19.d1 X G);have Jz:=z8R T (h20.d2 X G);have Jc:=z94 T Jk JH Jz (h22.d2 X G);have m___init__:=z2N T (h29.d2 T);have JY:Z.k "House" 1 (zhf Z):=(let⟨_,_,_,F,B,M,_⟩:=m___init__.ok;⟨_,_,_,F,B,⟨mk,M.at_,M.fn,kc⟩,y1m X G aC⟩);have JS:=z8z T (h1.d1 X G);have Jl:=z2G T JS (h30.d3 T);have Js:=zdn T (h23.d2 X G);have Je:=zep T Jk Js (h24.d2 X G);have JV:=z5f T Jl Je Jg Jc (h41.d4 T);have JU:=z3R T (h38.d2 T);have JO:=z4f T JU (h39.d1 T);have Jn:=z4d T (h33.d2 T);have JW:=z4w T Jn Jg (h40.d2 T);have JK:=z4C T (h7.d2 X G);have Jq:=z38 T JK (h8.d3 X G);have Jx:=z3h T Jq (h18.d2 X G);have Jt:=z36 T (h17.d1 X G);have Jr:=zaO T (h14.d2 X G);have JQ:=zbV T Jr (h15.d3 X G);have Ls:ziN Z.P Z.K Z.mg Z.base 4:=λj H f cp h=>by
  by_cases e:j=0
  .subst e;exact⟨(z7c (Z:=Z) zdG JQ H f cp h).1,λH' s A outer s us vs Q hr=>(z7c (Z:=Z) zdG JQ H f cp h).2 H' ‹_› A outer s us vs Q (hr.mono (by decide))⟩
  .have hn:∀ρ S Q,¬WW.rd j ρ S Q:=λρ S Q z=>e (show j=0/\_ from z).1;exact zfc hn H f cp h
 have JA:=zdq T Ls (h12.d2 X G);have JF:=zdL T (h9.d1 X G);have Jf:=zdY T (h10.d2 X G);have Jp:=zc3 T JF Jf (h11.d1 X G);have JJ:=zaF T JA Jp Jf (h13.d2 X G);have JZ:=zdr T zdG (PySem.W.codeHd_of_K hK t16) hBM JJ D16;have m_sew:=z5I T Jl Jx Jt Jg JZ (h44.d3 T);have JT:=z8J T (h25.d1 X G);have JB:=zbo T (h26.d3 X G);have JR:=zap T (h27.d1 X G);have Jy:=z42 T Je JT JB Jc JR (h28.d2 X G);have Va:=z51 T Ja Jy Jn Jg (h42.d3 T);have JX:=z4K T Ja (h35.d2 T);have JP:=z43 T Ja (h37.d2 T);have JI:=z2m T Ja (h36.d2 T);exact z2h.sub (zfD T Jv Jh JE Jb JM Jw Jd JN Jc JY JV JO JW m_sew Jn Va JL JX JP JI (z69 (st:=zb1) l57 c57 k57):z2h Z.P w K mg base (CXx Z.P w) 11 _ _ _ (lsp Z.xa (zgz Z))) (zfV nl M _)
def walk{l:PySem.W.OpenLaw}{q:Program}{loose:List Str}{XP:(yyS)->Heap->Prop}{YP:World->Heap->Prop}{d:DefRec}{K:Params->yyF}{P16:Addr}(hn:l.most=some 63)(hdf:d.params.defaults=[])(hY:∀(w:World) (h:Heap),YP w h->(K w.params).In h/\∀P∈([P16]:List Addr),h.get? P=some (PySem.W.tabObj #[]))(F:∀(w:World) (mg:yyS) (fa:Addr) (h:Heap),(K w.params).In h->h.Ns mainGlobals mg->mg d.name=some (.ref fa) -> ∃fd:FuncData,(∀(s:Shared) (u:Value),BindsTo s fd ⟨[u],[]⟩ [("_law_script",u)])/\(∀T∈(zbl P16),(K w.params).lookup T.at_=none/\∃c,PySem.W.codeHdIn (K w.params) c T.at_=true)/\∀base:Heap,(K w.params).In base->base.Ns mainGlobals mg->z45 base mg->z2h l.prog w (K w.params) mg base (CXx l.prog w) 11 fa fd ["_law_script"] (z7Y (zbl P16) (K w.params))) : PySem.W.WalkO q loose XP YP l.row.toRowW d [] (λf vs=>PySem.call f vs) :=
 L2.walk_of2 (Ts:=(zbl P16)) (n:=63) (k:=11) (x:="_law_script") (CX:=λw=>(CXx l.prog w)) (sp:=λw=>z7Y (zbl P16) (K w.params)) hn (by decide) hdf ⟨rfl,by decide,by decide⟩ hY F (λ_ _ a ns hl hT hS=>⟨a,ns,rfl,hS,hl,hT,λ_=>rfl⟩) λ_ _ _ _ _ z=>(by obtain⟨_,_,_,_,_,_,_,_,_,h⟩:=z;exact h)
end W
open PySem.W PyProof.Rows
set_option maxRecDepth 100000 in
set_option maxHeartbeats 0 in
theorem PySem.Challenge.cw_guisery_k46_whole_worn_and_doffed_holds : PySem.Challenge.rw_guisery_k46_whole_worn_and_doffed.Holds := by
 w_on;o_law;refine holds_open (q:=Gu.viewOf Gu.pY) (loose:=Gu.looseY) (Xt:=λs=>xlAt (Gu.viewOf Gu.pY) [] s&&recOk (RowW.records Gu.rY.toRowW) s) (XP:=XL (Gu.viewOf Gu.pY) []) (Yf:=Hook.obs Gu.HK) (Ya:=Hook.val Gu.HK) (YP:=Hook.says (PySem.W.kmHook Gu.KH Gu.KA (λ_=>by kernel_rfl) [454])) (N:=12342) Gu.left (Hook.of Gu.HK) (Hook.keeps Gu.HK) (λs e=>xl_of s (y34.mp e).1) XL.keeps (by rfl) (by rfl) (by rfl) (λs e=>recFacts_of (y34.mp e).2) (by rfl) (by first|assumption|decide +kernel) (by decide +kernel) ⟨rfl,rfl,rfl,rfl,rfl,by decide +kernel⟩ ?hw ?hc;(case hw=>w_witness2)
 k_fill
 refine _root_.W.walk (l:=PySem.Challenge.rw_guisery_k46_whole_worn_and_doffed) rfl rfl (λw h Y=>⟨PySem.W.km_in_of Y,PySem.W.km_tabs_of Y⟩) ?F;case F =>
  intro w mg fa h KX G hmg;apply _root_.W.all_mk (K:=Gu.KH w.params) KX G hmg;all_goals try first|k_is|(refine' _root_.W.FA.of ?_ ?_ ?_ ?_<;>try k_is)|(refine' _root_.W.MA.of ?_ ?_ ?_ ?_ ?_<;>try k_is)|kernel_rfl
